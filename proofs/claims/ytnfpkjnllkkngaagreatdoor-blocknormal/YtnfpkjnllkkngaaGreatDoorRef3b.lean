import Derived.Test.YtnfpkjnllkkngaaGreatDoorBlkC1
import Derived.Shelf.Spec.TrailingZeros
import Derived.Test.YtnfpkjnllkkngaaGreatDoorLatM
import Derived.WalkKit
import Derived.ProofKit
import Derived.OpenShut
import Derived.ShutString
import Derived.ChangeOld
import Derived.Below
import Derived.ChangeSame
import Derived.Test.YtnfpkjnllkkngaaGreatDoorMathRice
import Derived.Test.YtnfpkjnllkkngaaGreatDoorBlkB

section
namespace Go.Proofs.YtnfpkjnllkkngaaGreatDoor
open Go.RowKit Go.Proofs Go.Proofs.PipeM Go.Proofs.PipeA Go.Proofs.BlkM Go.Proofs.BlkB
set_option maxRecDepth 100000

/-- The table of math/bits, as it is laid. -/
def TabZ (w : World) : Prop := 0 < w.heap.size ∧ ∀ k, k < 64 → w.cell? ⟨0, k, none⟩ = some (.int .u8 ((Lib.deBruijn64tab.getD k 0 : Nat) : Int))
theorem TabZ.below {w w' : World} (h : TabZ w) (hb : Below w.heap.size w w') : TabZ w' :=
  ⟨Nat.lt_of_lt_of_le h.1 hb.size, fun k hk => (hb.cell (p := ⟨0, k, none⟩) h.1).trans (h.2 k hk)⟩
set_option maxHeartbeats 1600000 in
theorem cTZ_core (x k idx : Nat) (w : World) (hx0 : ((x : Int) == 0) = false)
    (key : IntKind.u64.wrap (bits BinOp.and IntKind.u64 (x : Int) (IntKind.u64.wrap (-(x : Int))) * 285870213051353865) / 288230376151711744 = (idx : Int))
    (hi : idx < 64) (hk : k < 64) (hcell : w.cell? ⟨0, idx, none⟩ = some (.int .u8 (k : Int))) :
    Calls Tryz.prog 43 #[.int .u64 x] w fun e w' => e = .returned (.int .i64 (k : Int)) ∧ w = w' := by
  have hx1 : (x == 0) = false := beq_eq_false_iff_ne.2 (fun h => by subst h; simp at hx0)
  go_enter Tryz.func43, Tryz.ntmps43
  go_wp2_with (simp only [key])
  go_ret
  exact ⟨rfl, rfl⟩
theorem cTZ_zero (w : World) : Calls Tryz.prog 43 #[.int .u64 0] w fun e w' => e = .returned (.int .i64 64) ∧ w = w' := by
  go_enter Tryz.func43, Tryz.ntmps43
  go_wp2
  go_ret
  exact ⟨rfl, rfl⟩
theorem cTZ (x : Nat) (w : World) (hx : x < 18446744073709551616) (ht : TabZ w) :
    Calls Tryz.prog 43 #[.int .u64 x] w fun e w' => e = .returned (.int .i64 (Lib.ctz 64 x : Nat)) ∧ w = w' := by
  by_cases hx0 : x = 0
  · subst hx0
    exact cTZ_zero w
  · obtain ⟨hlow, hk⟩ := Lib.lowest_bit 64 x hx0 hx
    obtain ⟨hi, htab⟩ := Lib.deBruijn64_at _ hk
    have hcell := ht.2 _ hi
    rw [htab] at hcell
    exact cTZ_core x _ _ w (by simp; omega) (tz64_key x _ hx hx0 hlow) hi hk hcell

set_option maxHeartbeats 1600000 in
theorem cZeros (ao : Option Addr) (cap : Nat) (l : List Int) (w : World) (hl : l.length ≤ 1000000) (hi : IntsAt w ao l) (ht : TabZ w) :
    Calls Tryz.prog 15 #[.slice ao l.length cap] w fun e w' => e = .returned (.int .i64 (zerosL l : Nat)) ∧ w = w' := by
  have HI := Lib.hid hi
  have HTZ := Lib.hid (cTZ (word (orAll l)) w (word_lt _) ht)
  have HZ : Hid (zerosL l = Lib.ctz 64 (word (orAll l))) := rfl
  rw [← HZ.out] at HTZ
  have hwd : IntKind.u64.wrap (orAll l) = (word (orAll l) : Int) := by rw [IntKind.wrap_u64]; unfold word; omega
  have HWD := Lib.hid hwd
  clear hi ht hwd HZ
  generalize zerosL l = z at *
  generalize word (orAll l) = wd at *
  go_enter Tryz.func15, Tryz.ntmps15
  go_wp2
  go_loopg [3, 5, 8] l.length (fun gk va q i wr => ∃ c : Nat, c ≤ l.length ∧ gk + c = l.length ∧ i = .int .i64 c ∧ va = .int .i64 (orAll (l.take c)) ∧ w = wr)
  case atStart => exact ⟨0, Nat.zero_le _, by omega, rfl, rfl, rfl⟩
  case round =>
    obtain ⟨c, hc, hgk, rfl, rfl, rfl⟩ := hrel
    have HGK := Lib.hid hgk
    clear hgk
    by_cases hlt : c < l.length
    · obtain ⟨b, off, rfl, hg, hcell⟩ := HI.out c hlt
      have hst : orAll (l.take (c + 1)) = orI (orAll (l.take c)) l[c] := by rw [List.take_succ_eq_append_getElem hlt, orAll_snoc]
      obtain ⟨A2, hA2⟩ : ∃ A2, A2 = orAll (l.take (c + 1)) := ⟨_, rfl⟩
      rw [← hA2] at hst
      have HA2 := Lib.hid hA2
      generalize orAll (l.take c) = A at *
      generalize l[c] = x at *
      have hor : bits BinOp.or IntKind.i64 A x = A2 := hst.symm
      clear hst hA2 hg
      go_wp2
      go_roundg (gk - 1)
      case rel => exact ⟨c + 1, by omega, by have := HGK.out; omega, by go_num, by rw [HA2.out], rfl⟩
      case measure => have := HGK.out; omega
    · obtain rfl : c = l.length := by omega
      have hw2 := HWD.out
      rw [List.take_length]
      generalize orAll l = A at *
      go_wp2_with fail
      refine HTZ.out.mono ?_
      rintro e w1 ⟨rfl, rfl⟩
      go_wp2
      go_ret
      exact ⟨rfl, rfl⟩

end Go.Proofs.YtnfpkjnllkkngaaGreatDoor
end

section
namespace Go.Proofs.YtnfpkjnllkkngaaGreatDoor
open Go.ChangeShapes Go.WideShapes Go.ChangeAt Go.RowKit Go.Proofs.PipeM
set_option maxRecDepth 100000

/-- A slice of integers that came in: nil, or a row of cells, its elements and its spare room. -/
def IsRow (k : IntKind) (w : World) (a : Option Addr) (len cap : Nat) (zs : List Int) : Prop :=
  (a = none ∧ len = 0 ∧ cap = 0 ∧ zs = []) ∨
  ∃ x, a = some x ∧ len ≤ cap ∧ cap ≤ maxLen ∧ zs.length = cap ∧ (∀ i, i < zs.length → w.cell? (x.add i) = some (.int k (zs.getD i 0))) ∧ ∀ n ∈ zs, (Lit.int k n).wf = true

theorem ints_of_row {w : World} {a : Option Addr} {len cap : Nat} {zs : List Int} (h : IsRow .i64 w a len cap zs) :
    ∃ ys : List Int, len = ys.length ∧ (∀ n ∈ ys, -9223372036854775808 ≤ n ∧ n ≤ 9223372036854775807) ∧ IntsAt w a ys := by
  rcases h with ⟨rfl, rfl, rfl, rfl⟩ | ⟨x, rfl, hl, hm, hz, hc, hw⟩
  · exact ⟨[], rfl, by simp, fun j hj => by simp at hj⟩
  · have hb : ∀ n ∈ zs, -9223372036854775808 ≤ n ∧ n ≤ 9223372036854775807 := fun n hn => by simpa [Lit.wf, IntKind.min, IntKind.max, IntKind.signed, IntKind.bits] using hw n hn
    refine ⟨zs.take len, by simp; omega, fun n hn => hb n (List.mem_of_mem_take hn), ?_⟩
    intro j hj
    simp at hj
    obtain ⟨b, off, rfl, hc2⟩ := ints_at hc (by omega)
    have hj2 : j < zs.length := by omega
    have hcj := hc2 j hj2
    refine ⟨b, off, rfl, World.block_lt_of_cell? _ _ hcj, ?_⟩
    rw [hcj]
    have e1 : zs.getD j 0 = zs[j] := by simp [List.getD, hj2]
    rw [e1]
    simp

end Go.Proofs.YtnfpkjnllkkngaaGreatDoor
end

section
namespace Go.Proofs.YtnfpkjnllkkngaaGreatDoor
open Go.ChangeShapes Go.WideShapes Go.ChangeAt Go.RowKit Go.Proofs.PipeM
set_option maxRecDepth 100000

theorem cells_i : Tryz.prog.cellsOf 3 = 1 := by kernel_rfl
theorem cells_s : Tryz.prog.cellsOf 22 = 1 := by kernel_rfl
theorem row_cap {k : IntKind} {w : World} {a : Option Addr} {len cap : Nat} {zs : List Int} (h : IsRow k w a len cap zs) : len ≤ cap := by
  rcases h with ⟨_, rfl, rfl, _⟩ | ⟨_, _, h, _⟩
  · exact Nat.le_refl _
  · exact h
end Go.Proofs.YtnfpkjnllkkngaaGreatDoor
end

section
namespace Go.Proofs.YtnfpkjnllkkngaaGreatDoor
open Go.RowKit Go.Proofs Go.Proofs.PipeM Go.Proofs.PipeA

/-- The text of bytes. -/
def bstr (zs : List Nat) : ByteArray := strOfNums (zs.map fun z : Nat => (z : Int))

theorem conv_row {w : World} {base : Nat} {v : Value} {zs : List Nat} (h : w.ownsRow base 5 1 v zs.length (cellsOf zs)) :
    (convert 40 9 v).run Tryz.prog w = .ok (.string (bstr zs)) w := by
  obtain ⟨ao, cap, rfl, _, _, h3⟩ := own_shape h
  by_cases h0 : 0 < zs.length
  · obtain ⟨g, rfl, _, hc⟩ := h3 h0
    refine run_convert_bytes_arg w 40 5 und_bytes und_u8 g 0 zs.length cap (zs.map fun z : Nat => (z : Int)) (by simp) ?_ 9 und_string
    intro i hi
    rw [Nat.zero_add, hc i _ (cellsOf_get zs i hi)]
    simp [List.getD, hi]
  · obtain rfl : zs = [] := List.eq_nil_of_length_eq_zero (by omega)
    rcases h.2 with ⟨h', _⟩ | ⟨g, cap', cur, h', _⟩
    · simp only [Value.slice.injEq, List.length_nil, true_and] at h'
      obtain ⟨rfl, rfl⟩ := h'
      exact run_convert_bytes_nil w 40 5 und_bytes und_u8 0 0 9 und_string
    · simp only [Value.slice.injEq] at h'
      obtain ⟨rfl, _, _⟩ := h'
      exact run_convert_bytes_arg w 40 5 und_bytes und_u8 g 0 0 cap [] rfl (by intro i hi; omega) 9 und_string

theorem wr_fresh (w : World) : WrIs (w.alloc (.cells #[.slice none 0 0, .int .i64 0] 42)) w.heap.size (.slice none 0 0) [] [] := by
  refine ⟨⟨by simp, by simp, by simp, by simp, by simp, World.ownsRow_nil _ _ _ _⟩, packs_nil⟩

/-- What a fresh writer has written lies in new memory. -/
theorem wrote_below {w w' : World} {l : List Bool} (h : Wrote (w.alloc (.cells #[.slice none 0 0, .int .i64 0] 42)) w.heap.size (.slice none 0 0) l w') : Below w.heap.size w w' := by
  obtain ⟨_, _, _, hk, _⟩ := h
  exact ((Below.refl _ _).alloc (Nat.le_refl _) _).trans (hk.below (by simp) (by intro x hx; simp [Value.ownBlock] at hx; omega))

end Go.Proofs.YtnfpkjnllkkngaaGreatDoor
end

section
namespace Go.Proofs.YtnfpkjnllkkngaaGreatDoor
open Go.RowKit Go.Proofs Go.Proofs.PipeM Go.Proofs.PipeA

theorem WrIs.keeps {w w' : World} {bs : List Nat} {b : Nat} {v : Value} {l : List Bool} {zs : List Nat} (h : WrIs w b v l zs) (hk : Keeps bs w w') (hb : b ∉ bs) (hv : ∀ g, v.ownBlock = some g → g ∉ bs) : WrIs w' b v l zs := by
  refine ⟨⟨Nat.lt_of_lt_of_le h.lt hk.size, (hk.cell (p := ⟨b, 0, none⟩) h.lt hb).trans h.c0, (hk.cell (p := ⟨b, 1, none⟩) h.lt hb).trans h.c1, (hk.frozen (p := ⟨b, 0, none⟩) h.lt hb).trans h.f0, (hk.frozen (p := ⟨b, 1, none⟩) h.lt hb).trans h.f1, ?_⟩, h.packs⟩
  refine ⟨h.own.1, ?_⟩
  rcases h.own.2 with h2 | ⟨g, cap, cur, hv', hg, hh, r⟩
  · exact Or.inl h2
  · have hlt : g < w.heap.size := by
      rcases Nat.lt_or_ge g w.heap.size with h5 | h5
      · exact h5
      · rw [Array.getElem?_eq_none h5] at hh; cases hh
    exact Or.inr ⟨g, cap, cur, hv', hg, by rw [hk.block g hlt (hv g (by rw [hv']; rfl))]; exact hh, r⟩

/-- What was written behind new blocks. -/
theorem Wrote.later {w w1 w2 : World} {b : Nat} {v : Value} {l : List Bool} (hk : Keeps [] w w1) (h2 : Wrote w1 b v l w2) : Wrote w b v l w2 :=
  Wrote.next ⟨hk.os, hk.tape, hk.output, hk.size, fun k hlt _ => hk.block k hlt (by simp)⟩ (Or.inl rfl) h2

theorem keeps_drew (w : World) : Keeps [] w w.drew := ⟨rfl, rfl, rfl, Nat.le_refl _, fun _ _ _ => rfl⟩

theorem ownsRow_below {w w' : World} {base : Nat} {e : TypeId} {v : Value} {n : Nat} {xs : List Value} (h : w.ownsRow base e 1 v n xs) (hb : Below w.heap.size w w') : w'.ownsRow base e 1 v n xs := by
  refine ⟨h.1, ?_⟩
  rcases h.2 with h2 | ⟨g, cap, cur, hv', hg, hh, r⟩
  · exact Or.inl h2
  · have hlt : g < w.heap.size := by
      rcases Nat.lt_or_ge g w.heap.size with h5 | h5
      · exact h5
      · rw [Array.getElem?_eq_none h5] at hh; cases hh
    exact Or.inr ⟨g, cap, cur, hv', hg, by rw [hb.block g hlt]; exact hh, r⟩

theorem keeps_drew_b (w : World) (bs : List Nat) : Keeps bs w w.drew := ⟨rfl, rfl, rfl, Nat.le_refl _, fun _ _ _ => rfl⟩

theorem own_slice {w : World} {base n size : Nat} {e : TypeId} {xs : List Value} {v : Value} (h : w.ownsRow base e size v n xs) : ∃ ao cap, v = .slice ao n cap := by
  rcases h.2 with ⟨rfl, rfl⟩ | ⟨g, cap, cur, rfl, _⟩
  · exact ⟨none, 0, rfl⟩
  · exact ⟨_, cap, rfl⟩

theorem own_block_lt {w : World} {base n size : Nat} {e : TypeId} {xs : List Value} {v : Value} (h : w.ownsRow base e size v n xs) : ∀ g, v.ownBlock = some g → base ≤ g ∧ g < w.heap.size := by
  intro g hg
  rcases h.2 with ⟨rfl, rfl⟩ | ⟨g', cap, cur, rfl, hb, hh, _⟩
  · cases hg
  · simp [Value.ownBlock] at hg
    subst hg
    refine ⟨hb, ?_⟩
    rcases Nat.lt_or_ge g' w.heap.size with h5 | h5
    · exact h5
    · rw [Array.getElem?_eq_none h5] at hh; cases hh

theorem ownsRow_keeps {w w' : World} {base n size : Nat} {e : TypeId} {xs : List Value} {v : Value} {bs : List Nat} (h : w.ownsRow base e size v n xs) (hk : Keeps bs w w') (hn : ∀ g, v.ownBlock = some g → g ∉ bs) : w'.ownsRow base e size v n xs := by
  refine ⟨h.1, ?_⟩
  have hlt := own_block_lt h
  rcases h.2 with h2 | ⟨g, cap, cur, hv', hg, hh, r⟩
  · exact Or.inl h2
  · exact Or.inr ⟨g, cap, cur, hv', hg, by rw [hk.block g (hlt g (by rw [hv']; rfl)).2 (hn g (by rw [hv']; rfl))]; exact hh, r⟩

theorem quiet_left {P : Program} {f : FuncId} {args : Array Value} {w : World} {n : Nat} {v : Value}
    (h : Calls P f args (w.drewN n) fun e w' => e = .returned v ∧ w.drewN n = w') : Calls P f args (w.drewN n) fun e w'' => e = .returned v ∧ ∃ m, w'' = w.drewN m :=
  h.mono fun _ _ ⟨he, hm⟩ => ⟨he, n, hm.symm⟩
end Go.Proofs.YtnfpkjnllkkngaaGreatDoor
end

section
namespace Go.Proofs.YtnfpkjnllkkngaaGreatDoor
open Go.RowKit Go.Proofs Go.Proofs.PipeM Go.Proofs.PipeA

theorem below_drewN {w W : World} (h : Below w.heap.size w W) (m : Nat) : Below w.heap.size w (W.drewN m) := h.trans ((keeps_drewN W m []).below h.size (by simp))

set_option maxHeartbeats 800000 in
theorem refList (ao : Option Addr) (cap : Nat) (l : List Int) (w : World) (hl : l.length ≤ 1000000000) (hi : IntsAt w ao l) :
    Calls Tryz.prog 30 #[.slice ao l.length cap] w fun e w' => e = .returned (.bool (listOk l)) ∧ w = w' := by
  have HI := Lib.hid hi
  clear hi
  go_enter Tryz.func30, Tryz.ntmps30
  go_wp2
  go_loopg [3, 6] l.length (fun gk q i wr => ∃ c : Nat, c ≤ l.length ∧ gk + c = l.length ∧ i = .int .i64 c ∧ Hid (∀ n ∈ l.take c, nOk n = true) ∧ w = wr)
  case atStart => exact ⟨0, Nat.zero_le _, by omega, rfl, fun n hn => by simp at hn, rfl⟩
  case round =>
    obtain ⟨c, hc, hgk, rfl, HT, rfl⟩ := hrel
    have HGK := Lib.hid hgk
    clear hgk
    by_cases hlt : c < l.length
    · obtain ⟨g, off, rfl, hg, hcell⟩ := HI.out c hlt
      have HNX : Hid (nOk l[c] = true → ∀ n ∈ l.take (c + 1), nOk n = true) := by
        intro h n hn
        rw [List.take_succ_eq_append_getElem hlt] at hn
        rcases List.mem_append.1 hn with h1 | h1
        · exact HT.out n h1
        · rw [List.mem_singleton.1 h1]; exact h
      have HNO : Hid (nOk l[c] = false → listOk l = false) := by
        intro h
        have : l.all nOk = false := by
          rw [List.all_eq_false]
          exact ⟨l[c], List.getElem_mem hlt, by simp [h]⟩
        unfold listOk
        rw [this]; rfl
      obtain ⟨n, hn⟩ : ∃ n, n = l[c] := ⟨_, rfl⟩
      rw [← hn] at hcell HNX HNO
      clear hn
      by_cases h1 : n < -8589934592
      · have t1 : decide (n < -8589934592) = true := decide_eq_true h1
        have HNO2 := Lib.hid (HNO.out (decide_eq_false (by omega)))
        clear h1
        go_wp2
        go_ret
        exact ⟨by rw [HNO2.out]; rfl, rfl⟩
      · have t1 : decide (n < -8589934592) = false := decide_eq_false h1
        by_cases h2 : 8589934591 < n
        · have t2 : decide (8589934591 < n) = true := decide_eq_true h2
          have HNO2 := Lib.hid (HNO.out (decide_eq_false (by omega)))
          clear h1 h2
          go_wp2
          go_ret
          exact ⟨by rw [HNO2.out]; rfl, rfl⟩
        · have t2 : decide (8589934591 < n) = false := decide_eq_false h2
          have HN2 := Lib.hid (HNX.out (decide_eq_true ⟨by omega, by omega⟩))
          clear h1 h2
          go_wp2
          go_roundg (gk - 1)
          case rel => exact ⟨c + 1, by omega, by have := HGK.out; omega, by go_num, HN2, rfl⟩
          case measure => have := HGK.out; omega
    · obtain rfl : c = l.length := by omega
      have HA : Hid (listOk l = decide (1 ≤ l.length ∧ l.length ≤ 1024)) := by
        have : l.all nOk = true := List.all_eq_true.2 (fun n hn => HT.out n (by rw [List.take_length]; exact hn))
        unfold listOk
        rw [Hid, this, Bool.true_and]
      by_cases h1 : 1 ≤ l.length
      · have HA2 : Hid (listOk l = decide ((l.length : Int) ≤ 1024)) := by
          rw [Hid, HA.out]
          by_cases h2 : l.length ≤ 1024
          · rw [decide_eq_true (⟨h1, h2⟩ : 1 ≤ l.length ∧ l.length ≤ 1024), decide_eq_true (by omega)]
          · rw [decide_eq_false (by omega : ¬ (1 ≤ l.length ∧ l.length ≤ 1024)), decide_eq_false (by omega)]
        go_wp2
        go_ret
        exact ⟨by rw [HA2.out]; rfl, rfl⟩
      · have HA2 : Hid (listOk l = false) := by rw [Hid, HA.out]; exact decide_eq_false (by omega)
        go_wp2
        go_ret
        exact ⟨by rw [HA2.out]; rfl, rfl⟩

theorem box_below (w : World) (o : Obj) : Below w.heap.size w (w.alloc o) := (Below.refl _ _).alloc (Nat.le_refl _) _

end Go.Proofs.YtnfpkjnllkkngaaGreatDoor
end

section
namespace Go.Proofs.YtnfpkjnllkkngaaGreatDoor
open Go.RowKit Go.Proofs Go.Proofs.PipeM Go.Proofs.PipeA

end Go.Proofs.YtnfpkjnllkkngaaGreatDoor
end

section
namespace Go.Proofs.YtnfpkjnllkkngaaGreatDoor
open Go.RowKit Go.Proofs Go.Proofs.PipeM Go.Proofs.PipeA

end Go.Proofs.YtnfpkjnllkkngaaGreatDoor
end
