import Derived.Test.YtefbakhhlonafaaBlkC1
import Derived.Test.YtefbakhhlonafaaBlkF3
import Derived.Laws.CopyOwn
import Derived.Deep.RegionLaw

namespace Go.Proofs.Ytefbakhhlonafaa
open Go.RowKit Go.Proofs Go.Proofs.PipeA Go.Proofs.BlkM
set_option maxRecDepth 100000

theorem size_int_b : (Try.prog.info? 3).map (·.size) = some 1 := by kernel_rfl
def cutAb (a : Option Addr) (cap lo : Nat) : Option Addr := if cap = lo then a else a.map (fun x => x.add lo)
theorem cut_right_b (a : Option Addr) (len cap lo : Nat) (h1 : lo ≤ len) (W : World) :
    (Instr.slice 22 (.slice a len cap) (some (.int .i64 (lo : Int))) none none).run Try.prog W = .ok (.slice (cutAb a cap lo) (len - lo) (cap - lo)) W := by
  simp [Instr.slice, run_underlying Try.underlying22, Instr.sliceBounds, Instr.sliceBound, asIntOf, h1, cutAb]
set_option maxHeartbeats 3200000 in
theorem bMul64 (c : Nat) (hc : c ≤ 1024) (w : World) :
    Calls Try.prog 84 #[.int .u64 1, .int .u64 (c : Int)] w fun e w' => e = .returned (.tuple #[.int .u64 0, .int .u64 (c : Int)]) ∧ w = w' := by
  have h1 : bits BinOp.and IntKind.u64 1 4294967295 = 1 := by decide
  have h2 : bits BinOp.and IntKind.u64 (c : Int) 4294967295 = (c : Int) := by
    have := bits_and_u64_nat c 4294967295 (by omega) (by omega)
    rw [show c &&& 4294967295 = c from by rw [show 4294967295 = 2 ^ 32 - 1 from rfl, Nat.and_two_pow_sub_one_eq_mod]; exact Nat.mod_eq_of_lt (by omega)] at this
    exact this
  have h3 : bits BinOp.and IntKind.u64 0 4294967295 = 0 := by decide
  have h4 : (c : Int) / 4294967296 = 0 := by omega
  have hc16 : c ≤ 1024 := hc
  clear hc
  go_enter Try.func84, Try.ntmps84
  go_wp2
  refine bodyPost_ret (v := .tuple #[.int .u64 0, .int .u64 (c : Int)]) (by simp [results, Try.results84, go_sem]) rfl ?_
  exact ⟨rfl, rfl⟩

set_option maxHeartbeats 1600000 in
theorem bMul (c : Nat) (hc : c ≤ 1024) (w : World) :
    Calls Try.prog 67 #[.int .u64 1, .int .u64 (c : Int)] w fun e w' => e = .returned (.tuple #[.int .u64 0, .int .u64 (c : Int)]) ∧ w = w' := by
  have H := Lib.hid (bMul64 c hc w)
  have hc16 : c ≤ 1024 := hc
  clear hc
  go_enter Try.func67, Try.ntmps67
  go_wp2_with fail
  refine H.out.mono ?_
  rintro e w1 ⟨rfl, rfl⟩
  go_wp2
  refine bodyPost_ret (v := .tuple #[.int .u64 0, .int .u64 (c : Int)]) (by simp [results, Try.results67, go_sem]) rfl ?_
  exact ⟨rfl, rfl⟩

/-- A row whose first cells are one number. -/
structure FilledB (W : World) (H c n : Nat) (x : Int) : Prop where
  row : ∃ cur : List Value, W.heap[H]? = some (.cells cur.toArray 3 (0, 0)) ∧ c ≤ cur.length ∧ ∀ j, j < n → cur[j]? = some (.int .i64 x)

set_option maxHeartbeats 3200000 in
theorem cRepeatN (X cap c : Nat) (x : Int) (w : World) (hc1 : 1 ≤ c) (hc16 : c ≤ 1024) (hx : w.cell? ⟨X, 0, none⟩ = some (.int .i64 x)) (hX : X < w.heap.size) :
    Calls Try.prog 43 #[.slice (some ⟨X, 0, none⟩) 1 cap, .int .i64 (c : Int)] w fun e w' => ∃ H, e = .returned (.slice (some ⟨H, 0, none⟩) c c) ∧ IntsAt w' (some ⟨H, 0, none⟩) (List.replicate c x) ∧ w.heap.size ≤ H ∧ Writable w' (some ⟨H, 0, none⟩) c ∧ Below w.heap.size w w' := by
  have HM := Lib.hid (bMul c hc16 w)
  obtain ⟨cs, hcs, hmk⟩ := makeInts c (by omega)
  have hcl : c ≤ cs.size := by
    have := hcs (c - 1) (by omega)
    have := (Array.getElem?_eq_some_iff.1 this).1
    omega
  have HCL := Lib.hid hcl
  clear hcs hcl
  go_enter Try.func43, Try.ntmps43
  go_wp2_with fail
  refine HM.out.mono ?_
  rintro e w1 ⟨rfl, rfl⟩
  have hb1 := box_below w (.cells cs 3)
  have hn1 := World.alloc_heap_new w (.cells cs 3)
  have hsrc : ∀ j v, ([Value.int .i64 x])[j]? = some v → (w.alloc (.cells cs 3)).cell? ((⟨X, 0, none⟩ : Addr).add j) = some v := by
    intro j v hj
    match j, hj with
    | 0, hj => simp at hj; subst hj; rw [show (⟨X, 0, none⟩ : Addr).add 0 = ⟨X, 0, none⟩ from rfl, hb1.cell (p := ⟨X, 0, none⟩) hX]; exact hx
  have HB1 := Lib.hid hb1
  have HN1 : Hid ((w.alloc (.cells cs 3)).heap[w.heap.size]? = some (.cells cs.toList.toArray 3 (0, 0))) := by show _ = _; rw [hn1, Array.toArray_toList]
  have HSRC := Lib.hid hsrc
  obtain ⟨W1, hW1⟩ : ∃ W1, W1 = w.alloc (.cells cs 3) := ⟨_, rfl⟩
  have HW1 := Lib.hid hW1
  rw [← hW1] at HB1 HN1 HSRC
  clear hb1 hn1 hsrc hW1
  go_wp2_with (with_reducible refine wpList_copy_splice rfl (.tmp 31) (.tmp 32) 22 22 rfl 3 Try.underlying22 size_int_b _ _ _ _ _ _ rfl rfl w.heap.size 0 cs.toList 3 (HW1.out ▸ HN1.out) [.int .i64 x] ?k1 ?k2 ?k3 ?k4 w.heap.size w (HW1.out ▸ HB1.out) (Nat.le_refl _) ?_)
  case k1 => simp [hc1]
  case k2 =>
    intro j v hj
    match j, hj with
    | 0, hj => simp at hj; subst hj; exact hx
  case k3 => simp; have := HCL.out; omega
  case k4 => intro u hu; simp at hu; subst hu; rfl
  intro w2 HR hb2
  have HF1 : Hid (FilledB w2 w.heap.size c 1 x) := by
    refine ⟨_, HR.out, ?_, fun j hj => ?_⟩
    · rw [length_splice _ _ _ (by simp; have := HCL.out; omega)]
      simpa using HCL.out
    · obtain rfl : j = 0 := by omega
      simp [splice]
  have HB2 := Lib.hid hb2
  have HT1 : Hid (1 ≤ 1) := Nat.le_refl 1
  clear HR hb2 HSRC HN1 HB1 HW1 hmk
  go_wp2
  go_loopg [8] c (fun gk n wr => ∃ k : Nat, k ≤ c ∧ gk + k = c + 1 ∧ n = .int .i64 k ∧ Hid (1 ≤ k) ∧ Hid (FilledB wr w.heap.size c k x) ∧ Hid (Below w.heap.size w wr))
  case atStart => exact ⟨1, hc1, by omega, rfl, HT1, HF1, HB2⟩
  case round =>
    obtain ⟨k, hk, hgk, rfl, HTK, HFK, HBK⟩ := hrel
    have HGK := Lib.hid hgk
    clear hgk
    by_cases hlt : k < c
    · have hk0 := HTK.out
      obtain ⟨q, hq⟩ : ∃ q, q = c - k := ⟨_, rfl⟩
      obtain ⟨r, hr⟩ : ∃ r, r = Nat.min k q := ⟨_, rfl⟩
      have hr1 : 1 ≤ r ∧ r ≤ k ∧ k + r ≤ c := by
        rw [show Nat.min k q = min k q from rfl] at hr
        omega
      have HR1 := Lib.hid hr1
      have hrc := hr1.2.2
      have hcut1 := fun W => cut_right_b (some ⟨w.heap.size, 0, none⟩) c c k (by omega) W
      rw [← hq, show cutAb (some ⟨w.heap.size, 0, none⟩) c k = some ⟨w.heap.size, k, none⟩ by rw [cutAb, if_neg (by omega)]; simp [Addr.add_lit]] at hcut1
      have hcut2 : ∀ W, (Instr.slice 22 (.slice (some ⟨w.heap.size, 0, none⟩) c c) none (some (.int .i64 (k : Int))) none).run Try.prog W = .ok (.slice (some ⟨w.heap.size, 0, none⟩) k c) W := fun W => by
        simp [Instr.slice, run_underlying Try.underlying22, Instr.sliceBounds, Instr.sliceBound, asIntOf, hk, Addr.add]
      obtain ⟨cur, hrow, hcl, hcur⟩ := HFK.out.row
      have hcopy := run_copy_row (P := Try.prog) wr.drew 22 22 3 3 w.heap.size k q q ⟨w.heap.size, 0, none⟩ k c cur.toArray 3 (List.replicate r (.int .i64 x)) Try.underlying22 size_int_b hrow (by rw [List.length_replicate]; exact hr) (fun j v hj => by
        have hjr : j < r := by simpa using (List.getElem?_eq_some_iff.1 hj).1
        have hjk : j < k := by omega
        rw [List.getElem?_replicate, if_pos hjr] at hj
        cases hj
        rw [show (⟨w.heap.size, 0, none⟩ : Addr).add j = ⟨w.heap.size, j, none⟩ by simp [Addr.add_lit], cell_of_heap (W := wr.drew) hrow]
        simpa using hcur j hjk) (by simp; omega) (by intro u hu; rw [List.mem_replicate] at hu; rw [hu.2]; rfl)
      rw [List.length_replicate] at hcopy
      have HROW := Lib.hid hrow
      have HCL2 := Lib.hid hcl
      have HCUR := Lib.hid hcur
      obtain ⟨w4, hw4⟩ : ∃ w4, w4 = wr.drew.setRow w.heap.size (cur.toArray.toList.take k ++ List.replicate r (Value.int .i64 x) ++ cur.toArray.toList.drop (k + r)).toArray := ⟨_, rfl⟩
      rw [← hw4, show goInt (r : Int) = .int .i64 (r : Int) from rfl] at hcopy
      have HW4 := Lib.hid hw4
      have hkk : IntKind.i64.wrap ((k : Int) + (r : Int)) = ((k + r : Nat) : Int) := by rw [IntWalk.i64_in _ (by omega)]; omega
      clear hrow hcl hcur hw4 hq hr hr1
      go_wp2
      go_region_with (fail)
      have HF4 : Hid (FilledB w4 w.heap.size c (k + r) x) := by
        refine ⟨⟨cur.take k ++ List.replicate r (Value.int .i64 x) ++ cur.drop (k + r), ?_, ?_, fun j hj => ?_⟩⟩
        · rw [HW4.out, setRow_heap wr.drew w.heap.size cur.toArray _ 3 _ HROW.out]
        · have := HCL2.out
          simp; omega
        · have h1 := HCL2.out
          by_cases hjk : j < k
          · rw [List.append_assoc, List.getElem?_append_left (by simp; omega), List.getElem?_take, if_pos hjk]
            simpa using HCUR.out j hjk
          · rw [List.append_assoc, List.getElem?_append_right (by simp; omega), List.getElem?_append_left (by simp; omega), List.getElem?_replicate, if_pos (by simp; omega)]
      have HB4 : Hid (Below w.heap.size w w4) := by
        show Below _ _ _
        rw [HW4.out]
        exact below_setRow (HBK.out.trans ((keeps_drew_b wr []).below HBK.out.size (by simp))) (Nat.le_refl _) _
      clear HW4 HROW hcopy
      go_wp2
      go_roundg (c + 1 - (k + r))
      case rel => exact ⟨k + r, hrc, by omega, by go_num, by show _ ≤ _; omega, HF4, HB4⟩
      case measure => have := HGK.out; have := HR1.out; omega
    · obtain rfl : k = c := by omega
      have HFI : Hid (IntsAt wr (some ⟨w.heap.size, 0, none⟩) (List.replicate k x)) := by
        intro j hj
        rw [List.length_replicate] at hj
        obtain ⟨cur, hrow, hcl, hcur⟩ := HFK.out.row
        refine ⟨w.heap.size, 0, rfl, (Array.getElem?_eq_some_iff.1 hrow).1, ?_⟩
        rw [Nat.zero_add, cell_of_heap hrow, List.getElem_replicate]
        simpa using hcur j hj
      have HWR : Hid (Writable wr (some ⟨w.heap.size, 0, none⟩) k) := fun b' off' e j _ => by
        obtain ⟨cur, hrow, _⟩ := HFK.out.row
        cases e
        exact frozen_of_heap hrow _
      go_wp2
      go_ret
      exact ⟨_, rfl, HFI.out, Nat.le_refl _, HWR.out, HBK.out⟩
end Go.Proofs.Ytefbakhhlonafaa
