import Derived.Test.YtnfpkjnllkkngaaGreatDoorSlideC8
import Derived.Test.YtnfpkjnllkkngaaGreatDoorSlideC7
import Derived.Test.YtnfpkjnllkkngaaGreatDoorBlkZT
import Derived.Test.YtnfpkjnllkkngaaGreatDoorGxLagF3
import Derived.Test.YtnfpkjnllkkngaaGreatDoorSlideC6
import Derived.Test.YtnfpkjnllkkngaaGreatDoorSlideC4

section
namespace Go.Proofs.YtnfpkjnllkkngaaGreatDoor
open Go.RowKit Go.Proofs Go.Proofs.PipeM Go.Proofs.PipeA

theorem ksAt_length (l : List Int) (p : Nat) : (ksAt l p).length = 2 ^ p := bestKs_length _ _ _

theorem list_len {l : List Int} (h : listOk l = true) : 1 ≤ l.length ∧ l.length ≤ 1024 := by
  unfold listOk at h; simp only [Bool.and_eq_true, decide_eq_true_eq] at h; exact h.2

theorem bestP_le (l : List Int) : bestP l ≤ topP l.length := pickP_le l _

theorem powAt_ok {l : List Int} (h : listOk l = true) {p : Nat} (hp : p ≤ topP l.length) : slideOk l (p : Int) (ksAt l p) = true := by
  obtain ⟨h1, h2⟩ := topP_pow l.length p hp
  have hl := list_len h
  unfold slideOk
  rw [h, Bool.and_true]
  unfold partsOk
  rw [Bool.and_eq_true]
  refine ⟨decide_eq_true ⟨hl.1, hl.2, by omega, by omega, by rw [Int.toNat_natCast]; exact h1, by rw [Int.toNat_natCast, ksAt_length]⟩, List.all_eq_true.2 (fun k hk => ?_)⟩
  exact decide_eq_true (bestKs_ok _ _ _ k hk)
theorem powAt_len {l : List Int} (h : listOk l = true) {p : Nat} (hp : p ≤ topP l.length) : slideLen l (p : Int) (ksAt l p) = lenAt l p := by
  rw [slide_len (powAt_ok h hp), ksAt_length]; rfl

theorem totalN_ge (l : List Int) (k : Nat) : l.length ≤ totalN l k := by
  induction l with
  | nil => simp
  | cons n l ih =>
    have := costN_pos n k
    simp [totalN] at ih ⊢
    omega

theorem bodyLen_ge (size : Nat) (ks l : List Int) : ∀ n, n * size ≤ l.length → n * (5 + size) ≤ bodyLen size ks l n
  | 0, _ => by simp
  | n + 1, h => by
    have h0 : n * size ≤ l.length := by rw [Nat.add_mul, Nat.one_mul] at h; omega
    have ih := bodyLen_ge size ks l n h0
    show _ ≤ bodyLen size ks l n + partLen size ks l n
    have h1 := totalN_ge (partNo size l n) (ks.getD n 0).toNat
    rw [partNo_length h] at h1
    unfold partLen
    rw [Nat.add_mul, Nat.one_mul]
    omega

/-- A list that may be has at least so many bits. -/
theorem slide_ge {l ks : List Int} {P : Int} (h : slideOk l P ks = true) : 2 + 5 * ks.length + l.length ≤ slideLen l P ks := by
  obtain ⟨p, hP, h3, hk1, hk8, hk0, hl1, hl2, hs1, hs2, hsp, hks, hin⟩ := slide_parts h
  rw [slide_len h]
  have := bodyLen_ge (l.length / ks.length) ks l ks.length (by rw [Nat.mul_comm]; exact Nat.le_of_eq hsp.symm)
  rw [Nat.mul_add, Nat.mul_comm ks.length (l.length / ks.length), ← hsp] at this
  omega

theorem pow_top {n p : Nat} (hp : p ≤ 3) (h : n % 2 ^ p = 0) : p ≤ topP n := by
  have hc : p = 0 ∨ p = 1 ∨ p = 2 ∨ p = 3 := by omega
  unfold topP
  rcases hc with rfl | rfl | rfl | rfl
  · exact Nat.zero_le _
  · simp only [Nat.reducePow] at h; split <;> (try split) <;> (try split) <;> omega
  · simp only [Nat.reducePow] at h; split <;> (try split) <;> (try split) <;> omega
  · simp only [Nat.reducePow] at h; rw [if_pos h]; exact Nat.le_refl _

end Go.Proofs.YtnfpkjnllkkngaaGreatDoor
end

section
namespace Go.Proofs.YtnfpkjnllkkngaaGreatDoor
open Go.RowKit Go.Proofs Go.Proofs.PipeM Go.Proofs.PipeA
set_option maxRecDepth 100000

set_option maxHeartbeats 800000 in
theorem cSBest_no (lo : Option Addr) (lcap : Nat) (l : List Int) (w : World) (hl : l.length ≤ 1000000) (hi : IntsAt w lo l) (h : listOk l = false) :
    Calls Tryz.prog 19 #[.slice lo l.length lcap] w fun e w' => e = .returned (.tuple #[.agg #[.int .i64 0, .slice none 0 0], .int .i64 0]) ∧ Below w.heap.size w w' := by
  have HL := fun o => Lib.hid (cIsList lo lcap l (w.alloc o) (by omega) (hi.below (box_below w o)))
  rw [h] at HL
  generalize l.length = len at HL hl ⊢
  clear h hi
  go_enter Tryz.func19, Tryz.ntmps19
  go_wp2_with fail
  refine (HL _).out.mono ?_
  rintro e w1 ⟨rfl, hb1⟩
  have HB1 := Lib.hid ((box_below w _).trans (hb1.mono (box_below w _).size))
  have r0 : w1.cell? ⟨w.heap.size, 0, none⟩ = some (.int .i64 0) := (hb1.cell (p := ⟨w.heap.size, 0, none⟩) (by simp)).trans (by simp)
  have r1 : w1.cell? ⟨w.heap.size, 1, none⟩ = some (.slice none 0 0) := (hb1.cell (p := ⟨w.heap.size, 1, none⟩) (by simp)).trans (by simp)
  have r2 : w1.frozen? ⟨w.heap.size, 0, none⟩ = false := (hb1.frozen (p := ⟨w.heap.size, 0, none⟩) (by simp)).trans (by simp)
  have r3 : w1.frozen? ⟨w.heap.size, 1, none⟩ = false := (hb1.frozen (p := ⟨w.heap.size, 1, none⟩) (by simp)).trans (by simp)
  have kk : Keeps [w.heap.size] w1 ((w1.setCell ⟨w.heap.size, 0, none⟩ (.int .i64 0)).setCell ⟨w.heap.size, 1, none⟩ (.slice none 0 0)) := (keeps_setCell w1 w.heap.size 0 _).trans (keeps_setCell _ w.heap.size 1 _)
  have y0 : ((w1.setCell ⟨w.heap.size, 0, none⟩ (.int .i64 0)).setCell ⟨w.heap.size, 1, none⟩ (.slice none 0 0)).cell? ⟨w.heap.size, 0, none⟩ = some (.int .i64 0) := (World.cell?_setCell_other _ _ _ _ (by simp)).trans (World.cell?_setCell_same' _ _ _ (by rw [r0]; rfl))
  have y1 : ((w1.setCell ⟨w.heap.size, 0, none⟩ (.int .i64 0)).setCell ⟨w.heap.size, 1, none⟩ (.slice none 0 0)).cell? ⟨w.heap.size, 1, none⟩ = some (.slice none 0 0) := World.cell?_setCell_same' _ _ _ (by rw [World.cell?_setCell_other _ _ _ _ (by simp), r1]; rfl)
  have HKK := Lib.hid kk
  clear hb1 kk
  go_wp2_with fail
  refine bodyPost_ret (v := .tuple #[.agg #[.int .i64 0, .slice none 0 0], .int .i64 0]) ?res rfl ?_
  · simp [results, Tryz.results19, go_sem, y0, y1]
  · exact ⟨rfl, HB1.out.trans (HKK.out.below HB1.out.size (by simp))⟩

end Go.Proofs.YtnfpkjnllkkngaaGreatDoor
end

section
namespace Go.Proofs.YtnfpkjnllkkngaaGreatDoor
open Go.RowKit Go.Proofs Go.Proofs.PipeM Go.Proofs.PipeA
set_option maxRecDepth 100000

def intsOf (l : List Int) : List Value := l.map fun n => Value.int .i64 n
theorem intsOf_snoc (l : List Int) (n : Int) : intsOf (l ++ [n]) = intsOf l ++ [.int .i64 n] := by simp [intsOf]
theorem ints_own {w : World} {base g cap : Nat} {l : List Int} (h : w.ownsRow base 3 1 (.slice (some ⟨g, 0, none⟩) l.length cap) l.length (intsOf l)) : IntsAt w (some ⟨g, 0, none⟩) l := by
  intro j hj
  refine ⟨g, 0, rfl, ((own_block_lt h) g rfl).2, ?_⟩
  rw [Nat.zero_add, h.cellAt j (by simpa [intsOf] using hj)]
  simp [intsOf]
theorem ints_own_any {w : World} {base : Nat} {ao : Option Addr} {cap : Nat} {l : List Int} (h : w.ownsRow base 3 1 (.slice ao l.length cap) l.length (intsOf l)) : IntsAt w ao l := by
  rcases h.2 with ⟨h1, h2⟩ | ⟨g, cap', cur, h1, _⟩
  · have : l = [] := List.eq_nil_of_length_eq_zero h2
    subst this
    intro j hj; simp at hj
  · simp only [Value.slice.injEq] at h1
    obtain ⟨rfl, _, rfl⟩ := h1
    exact ints_own h
theorem own_cap {w : World} {base : Nat} {ao : Option Addr} {cap n : Nat} {l : List Value} (h : w.ownsRow base 3 1 (.slice ao n cap) n l) : n ≤ cap := by
  rcases h.2 with ⟨h1, h2⟩ | ⟨g, cap', cur, h1, _, _, h3, _⟩
  · omega
  · simp only [Value.slice.injEq] at h1
    obtain ⟨_, _, rfl⟩ := h1
    exact h3

end Go.Proofs.YtnfpkjnllkkngaaGreatDoor
end

section
namespace Go.Proofs.YtnfpkjnllkkngaaGreatDoor
open Go.RowKit Go.Proofs Go.Proofs.PipeM Go.Proofs.PipeA

/-- Numbers that come next under one parameter; a part; parts of one length. -/
def RS.many (k : Int) : Nat → RS → RS × List Int
  | 0, s => (s, [])
  | n + 1, s => ((RS.many k n (s.rice k).1).1, (s.rice k).2 :: (RS.many k n (s.rice k).1).2)
def RS.partS (size : Nat) (s : RS) : RS × List Int := RS.many (s.takeV 5) size (s.takeS 5)
end Go.Proofs.YtnfpkjnllkkngaaGreatDoor
end

section
namespace Go.Proofs.YtnfpkjnllkkngaaGreatDoor
open Go.RowKit Go.Proofs Go.Proofs.PipeM Go.Proofs.PipeA

theorem MR.take_spent {m : MR} (h : m.fail ≠ 0) (n : Int) : m.take n = (m, 0) := by
  unfold MR.take
  rw [MR.give_spent h, MR.give_spent h]
  split
  · rfl
  · split
    · rfl
    · first | rfl | rw [if_pos h]
theorem MR.rice_spent {m : MR} (h : m.fail ≠ 0) (k : Int) : m.rice k = (m, 0) := by
  unfold MR.rice
  rw [MR.give_spent h]
  have hr : m.run 24 = (m, 0) := by unfold MR.run; rw [if_pos h]
  rw [hr]
  split
  · rfl
  · rw [if_pos (show (0 : Nat) < 24 by decide), MR.take_spent h]
    unfold MR.riceA
    rw [if_pos h]

/-- The document's. -/
def MR.many (k : Int) : Nat → MR → MR × List Int
  | 0, m => (m, [])
  | n + 1, m => if m.fail ≠ 0 then (m, []) else ((MR.many k n (m.rice k).1).1, (m.rice k).2 :: (MR.many k n (m.rice k).1).2)
def MR.partM (size : Nat) (m : MR) : MR × List Int := MR.many ((m.take 5).2 : Nat) size (m.take 5).1
theorem Sim.spentMany {s : RS} {m : MR} (h : Sim s m) (hf : m.fail ≠ 0) (k : Int) : ∀ n, Sim (RS.many k n s).1 m := by
  intro n
  induction n generalizing s with
  | zero => exact h
  | succ n ih =>
    rw [RS.many]
    have h1 := (h.rice k).1
    rw [MR.rice_spent hf] at h1
    exact ih h1
theorem Sim.many {s : RS} {m : MR} (h : Sim s m) (k : Int) : ∀ n, Sim (RS.many k n s).1 (MR.many k n m).1 ∧ ((MR.many k n m).1.fail = 0 → (RS.many k n s).2 = (MR.many k n m).2) := by
  intro n
  induction n generalizing s m with
  | zero => exact ⟨h, fun _ => rfl⟩
  | succ n ih =>
    rw [MR.many]
    by_cases hf : m.fail = 0
    · rw [if_neg (by simpa using hf), RS.many]
      obtain ⟨h1, h2⟩ := h.rice k
      obtain ⟨h3, h4⟩ := ih h1
      exact ⟨h3, fun e => by rw [h4 e, h2]⟩
    · rw [if_pos hf]
      exact ⟨h.spentMany hf k (n + 1), fun e => absurd e hf⟩
theorem Sim.part {s : RS} {m : MR} (h : Sim s m) (size : Nat) : Sim (s.partS size).1 (m.partM size).1 ∧ ((m.partM size).1.fail = 0 → (s.partS size).2 = (m.partM size).2) := by
  obtain ⟨h1, h2⟩ := h.take 5
  unfold RS.partS MR.partM
  rw [← h2]
  exact h1.many _ size
end Go.Proofs.YtnfpkjnllkkngaaGreatDoor
end

section
namespace Go.Proofs.YtnfpkjnllkkngaaGreatDoor
open Go.RowKit Go.Shelf Go.Proofs Go.Proofs.PipeM Go.Proofs.PipeA
set_option maxRecDepth 100000

/-- Where the taking of parts stands: the reader, whether no part has failed, the parameters, the numbers. -/
structure TS where
  s : RS
  ok : Bool
  keys : Nat → Int
  list : Nat → Int

/-- The numbers behind j numbers of part x; the parameters behind that of part x. -/
def putL (size x j : Nat) (c : List Int) (f : Nat → Int) (i : Nat) : Int := if x * size ≤ i ∧ i < x * size + j then c.getD (i - x * size) 0 else f i
def putK (x : Nat) (k : Int) (f : Nat → Int) (i : Nat) : Int := if i = x then k else f i

/-- One part more. -/
def TS.step (size : Nat) (t : TS) (x : Nat) : TS :=
  ⟨(t.s.partS size).1, t.ok && decide ((t.s.partS size).1.err = 0), putK x ((t.s.takeV 5 : Nat) : Int) t.keys, putL size x size (t.s.partS size).2 t.list⟩
def TS.run (size : Nat) (t : TS) (l : List Nat) : TS := l.foldl (TS.step size) t

end Go.Proofs.YtnfpkjnllkkngaaGreatDoor
end

section
namespace Go.Proofs.YtnfpkjnllkkngaaGreatDoor
open Go.RowKit Go.Shelf Go.Proofs Go.Proofs.PipeM Go.Proofs.PipeA
set_option maxRecDepth 100000

theorem Keeps.mono {bs bs' : List Nat} {w w' : World} (h : Keeps bs w w') (hs : ∀ x ∈ bs, x ∈ bs') : Keeps bs' w w' :=
  ⟨h.os, h.tape, h.output, h.size, fun k hk hn => h.block k hk (fun hm => hn (hs k hm))⟩

end Go.Proofs.YtnfpkjnllkkngaaGreatDoor
end

section
namespace Go.Proofs.YtnfpkjnllkkngaaGreatDoor
open Go.RowKit Go.Proofs Go.Proofs.PipeM Go.Proofs.PipeA
set_option maxRecDepth 100000

/-- Three cells of a block. -/
structure Box3 (w : World) (b : Nat) (v0 v1 v2 : Value) : Prop where
  lt : b < w.heap.size
  c0 : w.cell? ⟨b, 0, none⟩ = some v0
  c1 : w.cell? ⟨b, 1, none⟩ = some v1
  c2 : w.cell? ⟨b, 2, none⟩ = some v2
  f0 : w.frozen? ⟨b, 0, none⟩ = false
  f1 : w.frozen? ⟨b, 1, none⟩ = false
  f2 : w.frozen? ⟨b, 2, none⟩ = false

theorem Box3.keeps {w w' : World} {b : Nat} {bs : List Nat} {v0 v1 v2 : Value} (h : Box3 w b v0 v1 v2) (hk : Keeps bs w w') (hb : b ∉ bs) : Box3 w' b v0 v1 v2 :=
  ⟨Nat.lt_of_lt_of_le h.lt hk.size, (hk.cell (p := ⟨b, 0, none⟩) h.lt hb).trans h.c0, (hk.cell (p := ⟨b, 1, none⟩) h.lt hb).trans h.c1, (hk.cell (p := ⟨b, 2, none⟩) h.lt hb).trans h.c2,
    (hk.frozen (p := ⟨b, 0, none⟩) h.lt hb).trans h.f0, (hk.frozen (p := ⟨b, 1, none⟩) h.lt hb).trans h.f1, (hk.frozen (p := ⟨b, 2, none⟩) h.lt hb).trans h.f2⟩

theorem Box3.new (w : World) (v0 v1 v2 : Value) (t : TypeId) : Box3 (w.alloc (.cells #[v0, v1, v2] t)) w.heap.size v0 v1 v2 :=
  ⟨by simp, by simp, by simp, by simp, by simp, by simp, by simp⟩

/-- The results' cells, as they are laid first. -/
structure Outs (W : World) (B4 B6 : Nat) : Prop where
  b4 : Box3 W B4 (.string ⟨#[]⟩) (.int .i64 0) (.int .i64 0)
  c0 : W.cell? ⟨B6, 0, none⟩ = some (.int .i64 0)
  c1 : W.cell? ⟨B6, 1, none⟩ = some (.slice none 0 0)
  f0 : W.frozen? ⟨B6, 0, none⟩ = false
  f1 : W.frozen? ⟨B6, 1, none⟩ = false
  lt : B6 < W.heap.size
  ne : B4 ≠ B6
theorem Outs.keeps {W W' : World} {B4 B6 : Nat} {bs : List Nat} (h : Outs W B4 B6) (hk : Keeps bs W W') (h4 : B4 ∉ bs) (h6 : B6 ∉ bs) : Outs W' B4 B6 :=
  ⟨h.b4.keeps hk h4, (hk.cell (p := ⟨B6, 0, none⟩) h.lt h6).trans h.c0, (hk.cell (p := ⟨B6, 1, none⟩) h.lt h6).trans h.c1, (hk.frozen (p := ⟨B6, 0, none⟩) h.lt h6).trans h.f0, (hk.frozen (p := ⟨B6, 1, none⟩) h.lt h6).trans h.f1, Nat.lt_of_lt_of_le h.lt hk.size, h.ne⟩
/-- A slice that wasn't there. -/
def FreshOf (w : World) (ao : Option Addr) : Prop := ∀ g off, ao = some ⟨g, off, none⟩ → w.heap.size ≤ g
end Go.Proofs.YtnfpkjnllkkngaaGreatDoor
end

section
namespace Go.Proofs.YtnfpkjnllkkngaaGreatDoor
open Go.RowKit Go.Proofs Go.Proofs.PipeM Go.Proofs.PipeA Go.Proofs.BlkM
open Go.Proofs.LatM (goodL)
open Go.Proofs.FilM (smp codeS)
open Go.Proofs.LagM (goodT codeT codeO onL)
set_option maxRecDepth 100000

/-- Samples that came out, in memory that is new, or what is wrong. -/
def SampIs (code : Int) (m : List Int) (w : World) (e : Ending) (w' : World) : Prop :=
  (code ≠ 0 ∧ e = .returned (.tuple #[.slice none 0 0, .int .i64 code]) ∧ Below w.heap.size w w') ∨
  (code = 0 ∧ ∃ ao cap, e = .returned (.tuple #[.slice ao m.length cap, .int .i64 0]) ∧ IntsAt w' ao m ∧ m.length ≤ cap ∧ Below w.heap.size w w' ∧ FreshOf w ao)
theorem SampIs.bad {c : Int} {m : List Int} {w w' : World} {k : Int} (h : c = k) (hk : k ≠ 0) (hb : Below w.heap.size w w') : SampIs c m w (.returned (.tuple #[.slice none 0 0, .int .i64 k])) w' := by
  subst h
  exact .inl ⟨hk, rfl, hb⟩

end Go.Proofs.YtnfpkjnllkkngaaGreatDoor
end

section
namespace Go.Proofs.YtnfpkjnllkkngaaGreatDoor
open Go.RowKit Go.Proofs Go.Proofs.PipeM Go.Proofs.PipeA Go.Proofs.BlkM
open Go.Proofs.LatM (goodL)
open Go.Proofs.FilM (smp codeS inM)
open Go.Proofs.LagM (goodT codeT codeO onL)
set_option maxRecDepth 100000

theorem nOk_in {l : List Int} (h : listOk l = true) : l.all LagM.inB = true := by
  unfold listOk at h
  rw [Bool.and_eq_true] at h
  rw [List.all_eq_true]
  intro x hx
  have := of_decide_eq_true (List.all_eq_true.1 h.1 x hx)
  exact decide_eq_true (by omega)
theorem two_facts {value shift lag gain part : Int} {index rice data : List Int} {n m : Nat} (hf : formB ⟨2, value, shift, index, lag, gain, part, rice, data⟩ n m = 0) :
    value = 0 ∧ data.length = n ∧ 0 ≤ shift ∧ shift < m ∧ goodL index = true ∧ goodT lag gain = true ∧ partsOk n part rice = true ∧ listOk data = true := by
  unfold formB at hf
  have h0 : wrongKind ⟨2, value, shift, index, lag, gain, part, rice, data⟩ = false := by simp [wrongKind]
  have h1 : wrongMore ⟨2, value, shift, index, lag, gain, part, rice, data⟩ = false := by simp [wrongMore]
  rw [h0, h1, if_neg (by simp), if_neg (by simp)] at hf
  cases hwd : wrongData ⟨2, value, shift, index, lag, gain, part, rice, data⟩ n with
  | true => rw [hwd, if_pos rfl] at hf; omega
  | false =>
    obtain ⟨a1, a2⟩ := two_zero hwd
    rw [hwd, if_neg (by simp)] at hf
    cases hwn : wrongNormal ⟨2, value, shift, index, lag, gain, part, rice, data⟩ n m with
    | true => rw [hwn, if_pos rfl] at hf; omega
    | false =>
      unfold wrongNormal at hwn
      simp only [decide_true, Bool.true_and, Bool.or_eq_false_iff, decide_eq_false_iff_not, Bool.not_eq_false'] at hwn
      obtain ⟨⟨⟨⟨⟨b1, b2⟩, b3⟩, b4⟩, b5⟩, b6⟩ := hwn
      exact ⟨a1, by omega, by omega, by omega, b3, b4, b5, b6⟩
theorem pow_small {s : Nat} (h : s ≤ 25) : 1 ≤ ((2 ^ s : Nat) : Int) ∧ ((2 ^ s : Nat) : Int) ≤ 33554432 := by
  have b2 : 2 ^ s ≤ 2 ^ 25 := Nat.pow_le_pow_right (by decide) h
  have b1 : 1 ≤ 2 ^ s := Nat.one_le_two_pow
  omega

end Go.Proofs.YtnfpkjnllkkngaaGreatDoor
end

section
namespace Go.Proofs.YtnfpkjnllkkngaaGreatDoor
open Go.RowKit Go.Proofs Go.Proofs.PipeM Go.Proofs.PipeA Go.Proofs.BlkM
set_option maxRecDepth 100000

end Go.Proofs.YtnfpkjnllkkngaaGreatDoor
end
