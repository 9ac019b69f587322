import Derived.Test.YtnfpkjnllkkngaaGreatDoorProg
import Derived.WalkKit
import Derived.WalkSpells
import Derived.WalkLawsBesides
import Derived.Lib.Hide
import Derived.Test.YtnfpkjnllkkngaaGreatDoorAppend
import Derived.BigQuiet
import Derived.Deep.QuietTactic
import Derived.Deep.AppendSrc
import Derived.Laws.OwnMore
import Derived.Laws.AppendOwn
import Derived.Laws.MakeOwn
import Derived.Deep.RegionWith
import Derived.Deep.LoopGhost
import Derived.Test.YtnfpkjnllkkngaaGreatDoorLagM

section
namespace Go.Proofs.YtnfpkjnllkkngaaGreatDoor.Gx
open Go.RowKit Go.Proofs Go.Proofs.PipeA
set_option maxRecDepth 100000

/-- Nothing that was there has turned but blocks of a list. -/
structure Keeps (bs : List Nat) (w w' : World) : Prop where
  os : w'.os = w.os
  tape : w'.tape = w.tape
  output : w'.output = w.output
  size : w.heap.size ≤ w'.heap.size
  block : ∀ k, k < w.heap.size → k ∉ bs → w'.heap[k]? = w.heap[k]?

theorem Keeps.refl (bs : List Nat) (w : World) : Keeps bs w w := ⟨rfl, rfl, rfl, Nat.le_refl _, fun _ _ _ => rfl⟩
theorem Keeps.trans {bs : List Nat} {a b c : World} (h : Keeps bs a b) (k : Keeps bs b c) : Keeps bs a c :=
  ⟨k.os.trans h.os, k.tape.trans h.tape, k.output.trans h.output, Nat.le_trans h.size k.size, fun i hi hn => (k.block i (Nat.lt_of_lt_of_le hi h.size) hn).trans (h.block i hi hn)⟩
/-- A block that is new may turn besides. -/
theorem Keeps.trans_new {bs cs : List Nat} {a b c : World} (h : Keeps bs a b) (k : Keeps cs b c) (hn : ∀ x ∈ cs, x ∈ bs ∨ a.heap.size ≤ x) : Keeps bs a c :=
  ⟨k.os.trans h.os, k.tape.trans h.tape, k.output.trans h.output, Nat.le_trans h.size k.size, fun i hi hni =>
    (k.block i (Nat.lt_of_lt_of_le hi h.size) (fun hc => by rcases hn i hc with h1 | h1; exact hni h1; omega)).trans (h.block i hi hni)⟩
theorem Keeps.below {bs : List Nat} {w w' : World} {B : Nat} (h : Keeps bs w w') (hB : B ≤ w.heap.size) (hn : ∀ x ∈ bs, B ≤ x) : Below B w w' :=
  ⟨h.os, h.tape, h.output, h.size, fun k hk => h.block k (by omega) (fun hc => by have := hn k hc; omega)⟩
theorem Keeps.cell {bs : List Nat} {w w' : World} (h : Keeps bs w w') {p : Addr} (hp : p.block < w.heap.size) (hn : p.block ∉ bs) : w'.cell? p = w.cell? p := World.cell?_of_block (w := w) (h.block p.block hp hn)
theorem Keeps.frozen {bs : List Nat} {w w' : World} (h : Keeps bs w w') {p : Addr} (hp : p.block < w.heap.size) (hn : p.block ∉ bs) : w'.frozen? p = w.frozen? p := World.frozen?_of_block (w := w) (h.block p.block hp hn)
theorem keeps_of_below {w w' : World} (h : Below w.heap.size w w') (bs : List Nat) : Keeps bs w w' := ⟨h.os, h.tape, h.output, h.size, fun k hk _ => h.block k hk⟩
theorem keeps_drewN (w : World) (n : Nat) (bs : List Nat) : Keeps bs w (w.drewN n) := ⟨rfl, rfl, rfl, Nat.le_refl _, fun _ _ _ => rfl⟩
theorem box_below (w : World) (o : Obj) : Below w.heap.size w (w.alloc o) := (Below.refl _ _).alloc (Nat.le_refl _) _
theorem cell_of_heap {W : World} {b : Nat} {cs : Array Value} {t : TypeId} (h : W.heap[b]? = some (.cells cs t)) (j : Nat) : W.cell? ⟨b, j, none⟩ = cs[j]? := by simp [World.cell?, h]
theorem frozen_of_heap {W : World} {b : Nat} {cs : Array Value} {t : TypeId} (h : W.heap[b]? = some (.cells cs t)) (j : Nat) : W.frozen? ⟨b, j, none⟩ = false := by simp [World.frozen?, h]

/-- Numbers that lie in memory. -/
def IntsAt (w : World) (ao : Option Addr) (l : List Int) : Prop :=
  ∀ j (h : j < l.length), ∃ b off, ao = some ⟨b, off, none⟩ ∧ b < w.heap.size ∧ w.cell? ⟨b, off + j, none⟩ = some (.int .i64 l[j])
theorem IntsAt.keeps {w w' : World} {bs : List Nat} {ao : Option Addr} {l : List Int} (h : IntsAt w ao l) (hk : Keeps bs w w') (hn : ∀ g off, ao = some ⟨g, off, none⟩ → g ∉ bs) : IntsAt w' ao l := by
  intro j hj
  obtain ⟨g, off, h1, h2, h3⟩ := h j hj
  exact ⟨g, off, h1, Nat.lt_of_lt_of_le h2 hk.size, by rw [hk.cell (p := ⟨g, off + j, none⟩) h2 (hn g off h1), h3]⟩
theorem IntsAt.below {w w' : World} {ao : Option Addr} {l : List Int} (h : IntsAt w ao l) (hb : Below w.heap.size w w') : IntsAt w' ao l := h.keeps (keeps_of_below hb []) (by simp)
theorem IntsAt.drewN {w : World} {ao : Option Addr} {l : List Int} (h : IntsAt w ao l) (n : Nat) : IntsAt (w.drewN n) ao l := h
theorem IntsAt.nil {w : World} {l : List Int} (h : IntsAt w none l) : l = [] := by
  cases l with
  | nil => rfl
  | cons x r => obtain ⟨_, _, e, _⟩ := h 0 (by simp); cases e

theorem own_lt {w : World} {base n cap g : Nat} {xs : List Value} {e : TypeId} (h : w.ownsRow base e 1 (.slice (some ⟨g, 0, none⟩) n cap) n xs) : base ≤ g ∧ g < w.heap.size ∧ n ≤ cap ∧ cap ≤ maxLen := by
  rcases h.2 with ⟨h', _⟩ | ⟨g', cap', cur, h', hb, hg, h1, h2, _⟩
  · simp at h'
  · simp only [Value.slice.injEq, Option.some.injEq, Addr.mk.injEq, and_true, true_and] at h'
    obtain ⟨rfl, rfl⟩ := h'
    refine ⟨hb, ?_, h1, h2⟩
    rcases Nat.lt_or_ge g w.heap.size with h3 | h3
    · exact h3
    · rw [Array.getElem?_eq_none h3] at hg; cases hg
theorem own_block_lt {w : World} {base n size : Nat} {e : TypeId} {xs : List Value} {v : Value} (h : w.ownsRow base e size v n xs) : ∀ g, v.ownBlock = some g → base ≤ g ∧ g < w.heap.size := by
  intro g hg
  rcases h.2 with ⟨rfl, rfl⟩ | ⟨g', cap, cur, rfl, hb, hh, _⟩
  · cases hg
  · simp [Value.ownBlock] at hg
    subst hg
    exact ⟨hb, (Array.getElem?_eq_some_iff.1 hh).1⟩
theorem own_slice {w : World} {base n size : Nat} {e : TypeId} {xs : List Value} {v : Value} (h : w.ownsRow base e size v n xs) : ∃ ao cap, v = .slice ao n cap ∧ ∀ a, ao = some a → ∃ g, a = ⟨g, 0, none⟩ := by
  rcases h.2 with ⟨rfl, rfl⟩ | ⟨g, cap, cur, rfl, _⟩
  · exact ⟨none, 0, rfl, fun a e => by cases e⟩
  · exact ⟨_, cap, rfl, fun a e => by cases e; exact ⟨g, rfl⟩⟩
theorem info_int : (Tryz.prog.info? 3).map (fun i => (i.zero, i.size, i.bytes)) = some (some (.int .i64 0), 1, 8) := by kernel_rfl
def intsOf (l : List Int) : List Value := l.map fun n => Value.int .i64 n
theorem ints_own {w : World} {base : Nat} {ao : Option Addr} {cap : Nat} {l : List Int} (h : w.ownsRow base 3 1 (.slice ao l.length cap) l.length (intsOf l)) : IntsAt w ao l := by
  rcases h.2 with ⟨h1, h2⟩ | ⟨g, cap', cur, h1, _, hh, _⟩
  · have : l = [] := List.eq_nil_of_length_eq_zero h2
    subst this
    intro j hj; simp at hj
  · simp only [Value.slice.injEq] at h1
    obtain ⟨rfl, _, rfl⟩ := h1
    intro j hj
    refine ⟨g, 0, rfl, (Array.getElem?_eq_some_iff.1 hh).1, ?_⟩
    rw [Nat.zero_add, h.cellAt j (by simpa [intsOf] using hj)]
    simp [intsOf]
theorem icells_at {w : World} {a : Addr} {l : List Int} (h : IntsAt w (some a) l) : ∀ j u, (intsOf l)[j]? = some u → w.cell? (a.add j) = some u := by
  intro j u hj
  have hlt : j < l.length := by
    rcases Nat.lt_or_ge j l.length with h1 | h1
    · exact h1
    · rw [List.getElem?_eq_none (by simpa [intsOf] using h1)] at hj; cases hj
  obtain ⟨b, off, he, _, hc⟩ := h j hlt
  simp only [Option.some.injEq] at he
  subst he
  simp [intsOf, hlt] at hj
  subst hj
  rw [Addr.add_lit]
  exact hc
theorem icells_one (l : List Int) : ∀ u ∈ intsOf l, u.oneCell' = true := by
  intro u hu
  simp only [intsOf, List.mem_map] at hu
  obtain ⟨z, _, rfl⟩ := hu
  rfl
/-- append, where it is known what it makes. -/
theorem wpList_append_run {P : Program} {w : World} {ops : Array Oper} {rest : List Oper} {o : Oper} {a : Act} {Q : Exit → Act → World → Prop} (hgd : o.guard = none) (s x : Operand) (t : TypeId)
    (ho : o.op = .call { callee := .builtin .append, args := #[s, x], argTypes := #[t, t] }) (v y v' : Value) (w' : World) (hs : a.eval s = v) (hx : a.eval x = y)
    (hr : (Builtin.append_ #[t, t] o.type #[v, y]).run P w = .ok v' w') (h : wpList P ops Q rest (a.put o.dst v') w') : wpList P ops Q (o :: rest) a w := by
  refine wpList_plain hgd fun _ hK => ?_
  unfold Oper.wp execOp
  simp only [ho, resolve, invoke, builtin, Sem.run_bind, Sem.run_pure, Result.andThen_ok, List.map_toArray, List.map_cons, List.map_nil, hs, hx, hr]
  exact hK _ _ h

end Go.Proofs.YtnfpkjnllkkngaaGreatDoor.Gx
end

section
namespace Go.Proofs.YtnfpkjnllkkngaaGreatDoor.Gx
open Go.RowKit Go.Proofs Go.Proofs.PipeA Go.Proofs.LagM
set_option maxRecDepth 100000

/-- A term. -/
def termV (a g : Int) : Value := .agg #[.int .i64 a, .int .i64 g]

theorem inB_cases (n : Int) : (decide (n < -1099511627776) = true ∧ inB n = false) ∨ (decide (n < -1099511627776) = false ∧ decide (1099511627776 < n) = true ∧ inB n = false) ∨ (decide (n < -1099511627776) = false ∧ decide (1099511627776 < n) = false ∧ inB n = true) := by
  unfold inB
  by_cases h1 : n < -1099511627776
  · exact .inl ⟨decide_eq_true h1, decide_eq_false (by omega)⟩
  · by_cases h2 : 1099511627776 < n
    · exact .inr (.inl ⟨decide_eq_false h1, decide_eq_true h2, decide_eq_false (by omega)⟩)
    · exact .inr (.inr ⟨decide_eq_false h1, decide_eq_false h2, decide_eq_true (by omega)⟩)

theorem cOutside (n : Int) (w : World) :
    Calls Tryz.prog 90 #[.int .i64 n] w fun e w' => e = .returned (.bool (!inB n)) ∧ w = w' := by
  rcases inB_cases n with ⟨t1, t2⟩ | ⟨t1, t2, t3⟩ | ⟨t1, t2, t3⟩
  · have HT := Lib.hid t2
    clear t2
    go_enter Tryz.func90, Tryz.ntmps90
    go_wp2
    go_ret
    exact ⟨by rw [HT.out]; rfl, rfl⟩
  · have HT := Lib.hid t3
    clear t3
    go_enter Tryz.func90, Tryz.ntmps90
    go_wp2
    go_ret
    exact ⟨by rw [HT.out]; rfl, rfl⟩
  · have HT := Lib.hid t3
    clear t3
    go_enter Tryz.func90, Tryz.ntmps90
    go_wp2
    go_ret
    exact ⟨by rw [HT.out]; rfl, rfl⟩

/-- What a search for a number tells. -/
def Found (l : List Int) (f : Int → Bool) (k : Int) : Prop := decide (0 ≤ k) = l.any f
theorem any_take {f : Int → Bool} {l : List Int} {j : Nat} (h : j < l.length) : (l.take (j + 1)).any f = ((l.take j).any f || f l[j]) := by
  rw [List.take_succ_eq_append_getElem h, List.any_append]; simp
theorem any_not {f : Int → Bool} (l : List Int) : l.any (fun n => !f n) = !l.all f := by rw [List.all_eq_not_any_not, Bool.not_not]

set_option maxHeartbeats 800000 in
theorem cIndexFunc (ao : Option Addr) (cap : Nat) (l : List Int) (w : World) (hl : l.length ≤ 9223372036854775807) (hi : IntsAt w ao l) :
    Calls Tryz.prog 66 #[.slice ao l.length cap, .func (.func 90) #[] #[]] w fun e w' => ∃ k : Int, e = .returned (.int .i64 k) ∧ Found l (fun n => !inB n) k ∧ w = w' := by
  have HI := Lib.hid hi
  have HL := fun n W => Lib.hid (cOutside n W)
  clear hi
  go_enter Tryz.func66, Tryz.ntmps66
  go_wp2
  go_loopg [5, 8] l.length (fun gk q i wr => ∃ c : Nat, c ≤ l.length ∧ gk + c = l.length ∧ i = .int .i64 c ∧ Hid ((l.take c).any (fun n => !inB n) = false) ∧ w = wr)
  case atStart => exact ⟨0, Nat.zero_le _, by omega, rfl, by simp [Hid], rfl⟩
  case round =>
    obtain ⟨c, hc, hgk, rfl, HT, rfl⟩ := hrel
    have HGK := Lib.hid hgk
    clear hgk
    by_cases hlt : c < l.length
    · obtain ⟨b, off, rfl, hg, hcell⟩ := HI.out c hlt
      have HNX := Lib.hid (any_take (f := fun n => !inB n) hlt)
      have HLC := fun W => Lib.hid (HL l[c] W).out
      have HMem : Hid (inB l[c] = false → l.any (fun n => !inB n) = true) := fun h => List.any_eq_true.2 ⟨l[c], List.getElem_mem hlt, by simp [h]⟩
      generalize l[c] = x at hcell HNX HLC HMem
      cases hx : inB x
      · have HM2 := Lib.hid (HMem.out hx)
        rw [hx] at HLC
        clear hx HMem HNX hg
        go_wp2_with fail
        refine (HLC _).out.mono ?_
        rintro e w1 ⟨rfl, rfl⟩
        go_wp2
        go_ret
        exact ⟨_, rfl, by unfold Found; rw [HM2.out]; exact decide_eq_true (by omega), rfl⟩
      · have HN2 : Hid ((l.take (c + 1)).any (fun n => !inB n) = false) := by show _ = _; rw [HNX.out, HT.out]; simp [hx]
        rw [hx] at HLC
        clear hx HMem HNX hg
        go_wp2_with fail
        refine (HLC _).out.mono ?_
        rintro e w1 ⟨rfl, rfl⟩
        go_wp2
        go_roundg (gk - 1)
        case rel => exact ⟨c + 1, by omega, by have := HGK.out; omega, by go_num, HN2, rfl⟩
        case measure => have := HGK.out; omega
    · obtain rfl : c = l.length := by omega
      have HA : Hid (l.any (fun n => !inB n) = false) := by have := HT.out; rw [List.take_length] at this; exact this
      go_wp2
      go_ret
      exact ⟨_, rfl, by unfold Found; rw [HA.out]; rfl, rfl⟩

set_option maxHeartbeats 400000 in
theorem cContains (ao : Option Addr) (cap : Nat) (l : List Int) (w : World) (hl : l.length ≤ 9223372036854775807) (hi : IntsAt w ao l) :
    Calls Tryz.prog 41 #[.slice ao l.length cap, .func (.func 90) #[] #[]] w fun e w' => e = .returned (.bool (!l.all inB)) ∧ w = w' := by
  have HC := Lib.hid (cIndexFunc ao cap l w hl hi)
  rw [← any_not]
  obtain ⟨d, hd⟩ : ∃ d, d = l.any (fun n => !inB n) := ⟨_, rfl⟩
  rw [← hd]
  have HD := Lib.hid hd
  clear hi hd
  go_enter Tryz.func41, Tryz.ntmps41
  go_wp2_with fail
  refine HC.out.mono ?_
  rintro e w1 ⟨k, rfl, hf, rfl⟩
  unfold Found at hf
  rw [← HD.out] at hf
  go_wp2
  go_ret
  exact ⟨rfl, rfl⟩
end Go.Proofs.YtnfpkjnllkkngaaGreatDoor.Gx
end

section
namespace Go.Proofs.YtnfpkjnllkkngaaGreatDoor.Gx
open Go.RowKit Go.Proofs Go.Proofs.PipeA Go.Proofs.LagM
set_option maxRecDepth 100000

theorem goodT_cases (a g : Int) : (a = 0 ∧ g = 0 ∧ goodT a g = true) ∨
    ((a ≠ 0 ∨ g ≠ 0) ∧ a < 1 ∧ goodT a g = false) ∨ ((a ≠ 0 ∨ g ≠ 0) ∧ 1 ≤ a ∧ 255 < a ∧ goodT a g = false) ∨
    ((a ≠ 0 ∨ g ≠ 0) ∧ 1 ≤ a ∧ a ≤ 255 ∧ g < 1 ∧ goodT a g = false) ∨ ((a ≠ 0 ∨ g ≠ 0) ∧ 1 ≤ a ∧ a ≤ 255 ∧ 1 ≤ g ∧ 15 < g ∧ goodT a g = false) ∨
    ((a ≠ 0 ∨ g ≠ 0) ∧ 1 ≤ a ∧ a ≤ 255 ∧ 1 ≤ g ∧ g ≤ 15 ∧ goodT a g = true) := by
  have hT : goodT a g = true ↔ (a = 0 ∧ g = 0) ∨ (1 ≤ a ∧ a ≤ 255 ∧ 1 ≤ g ∧ g ≤ 15) := by
    unfold goodT
    simp only [Bool.or_eq_true, Bool.and_eq_true, decide_eq_true_eq]
    omega
  cases h : goodT a g
  · have : ¬ ((a = 0 ∧ g = 0) ∨ (1 ≤ a ∧ a ≤ 255 ∧ 1 ≤ g ∧ g ≤ 15)) := fun hc => by rw [hT.2 hc] at h; cases h
    simp only [Bool.false_eq_true, and_false, and_true, false_or, or_false]
    omega
  · have := hT.1 h
    simp only [Bool.true_eq_false, and_false, and_true, false_or]
    omega

set_option maxHeartbeats 800000 in
theorem cGood (a g : Int) (w : World) : Calls Tryz.prog 17 #[termV a g] w fun e w' => e = .returned (.bool (goodT a g)) ∧ Below w.heap.size w w' := by
  unfold termV
  have HB := Lib.hid (box_below w (.cells #[.int .i64 a, .int .i64 g] 32))
  rcases goodT_cases a g with ⟨h1, h2, h3⟩ | ⟨h0, h1, h3⟩ | ⟨h0, h1, h2, h3⟩ | ⟨h0, h1, h2, h4, h3⟩ | ⟨h0, h1, h2, h4, h5, h3⟩ | ⟨h0, h1, h2, h4, h5, h3⟩
  · subst h1 h2
    rw [h3]
    clear h3
    go_enter Tryz.func17, Tryz.ntmps17
    go_wp2
    go_ret
    exact ⟨rfl, HB.out⟩
  all_goals
    rw [h3]
    clear h3
    by_cases e1 : a = 0
    · first
      | (exfalso; omega)
      | (subst e1
         have t1 : (g == (0 : Int)) = false := by rw [beq_eq_false_iff_ne]; omega
         clear h0
         go_enter Tryz.func17, Tryz.ntmps17
         go_wp2
         go_ret
         exact ⟨rfl, HB.out⟩)
    · have t1 : (a == (0 : Int)) = false := by rw [beq_eq_false_iff_ne]; exact e1
      clear h0 e1
      go_enter Tryz.func17, Tryz.ntmps17
      go_wp2
      go_ret
      first
      | exact ⟨rfl, HB.out⟩
      | exact ⟨by rw [decide_eq_false (by omega)]; rfl, HB.out⟩
      | exact ⟨by rw [decide_eq_true (by omega)]; rfl, HB.out⟩

/-- What is wrong with a term, or with numbers. -/
def CheckIs (a g : Int) (l : List Int) (w : World) (e : Ending) (w' : World) : Prop := e = .returned (.int .i64 (codeT a g l)) ∧ Below w.heap.size w w'

set_option maxHeartbeats 800000 in
theorem cCheck (a g : Int) (ao : Option Addr) (cap : Nat) (l : List Int) (w : World) (hl : l.length ≤ 9223372036854775807) (hi : IntsAt w ao l) :
    Calls Tryz.prog 72 #[termV a g, .slice ao l.length cap] w (CheckIs a g l w) := by
  have HC := fun W h => Lib.hid (cContains ao cap l W hl h)
  have HI := Lib.hid hi
  have HG := fun W => Lib.hid (cGood a g W)
  unfold termV at HG ⊢
  have hb := box_below w (.cells #[.int .i64 a, .int .i64 g] 32)
  have HB := Lib.hid hb
  clear hi hb
  cases hg : goodT a g with
  | false =>
    have HF : Hid (∀ W, Below w.heap.size w W → CheckIs a g l w (.returned (.int .i64 1)) W) := fun W hW => ⟨by rw [codeT_good hg], hW⟩
    rw [hg] at HG
    clear hg
    go_enter Tryz.func72, Tryz.ntmps72
    go_wp2_with fail
    refine (HG _).out.mono ?_
    rintro e w1 ⟨rfl, hb1⟩
    have HB1 := Lib.hid (HB.out.trans (hb1.mono HB.out.size))
    clear hb1
    go_wp2
    go_ret
    exact HF.out _ HB1.out
  | true =>
    rw [hg] at HG
    cases ha : l.all inB with
    | false =>
      have HF : Hid (∀ W, Below w.heap.size w W → CheckIs a g l w (.returned (.int .i64 9)) W) := fun W hW => ⟨by rw [codeT_all hg ha], hW⟩
      rw [ha] at HC
      clear hg ha
      go_enter Tryz.func72, Tryz.ntmps72
      go_wp2_with fail
      refine (HG _).out.mono ?_
      rintro e w1 ⟨rfl, hb1⟩
      have HB1 := Lib.hid (HB.out.trans (hb1.mono HB.out.size))
      have HC1 := Lib.hid (HC w1 (HI.out.below HB1.out)).out
      clear hb1 HC
      go_wp2_with fail
      refine HC1.out.mono ?_
      rintro e w2 ⟨rfl, rfl⟩
      go_wp2
      go_ret
      exact HF.out _ HB1.out
    | true =>
      have HF : Hid (∀ W, Below w.heap.size w W → CheckIs a g l w (.returned (.int .i64 0)) W) := fun W hW => ⟨by rw [codeT_of hg ha], hW⟩
      rw [ha] at HC
      clear hg ha
      go_enter Tryz.func72, Tryz.ntmps72
      go_wp2_with fail
      refine (HG _).out.mono ?_
      rintro e w1 ⟨rfl, hb1⟩
      have HB1 := Lib.hid (HB.out.trans (hb1.mono HB.out.size))
      have HC1 := Lib.hid (HC w1 (HI.out.below HB1.out)).out
      clear hb1 HC
      go_wp2_with fail
      refine HC1.out.mono ?_
      rintro e w2 ⟨rfl, rfl⟩
      go_wp2
      go_ret
      exact HF.out _ HB1.out

set_option maxHeartbeats 800000 in
theorem cTaken (a g n : Int) (w : World) (hg : 0 ≤ g ∧ g ≤ 15) (hn : -1099511627776 ≤ n ∧ n ≤ 1099511627776) :
    Calls Tryz.prog 73 #[termV a g, .int .i64 n] w fun e w' => e = .returned (.int .i64 (tk g n)) ∧ Below w.heap.size w w' := by
  have HB := Lib.hid (box_below w (.cells #[.int .i64 a, .int .i64 g] 32))
  have hpb : -16492674416640 ≤ n * g ∧ n * g ≤ 16492674416640 := LagM.prod_bound hg hn
  have HW : Hid (wrap64 (n * g) / 16 = tk g n) := by show _ = _; rw [show wrap64 (n * g) = n * g from IntWalk.wrap64_in _ (by omega)]; rfl
  unfold termV
  clear hg hn hpb
  go_enter Tryz.func73, Tryz.ntmps73
  go_wp2
  go_ret
  refine ⟨?_, HB.out⟩
  show Ending.returned (Value.int .i64 (wrap64 (n * g) / 16)) = _
  rw [HW.out]
end Go.Proofs.YtnfpkjnllkkngaaGreatDoor.Gx
end
