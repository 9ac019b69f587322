import Derived.Test.YtefbakhhlonafaaSlideT4
import Derived.Test.YtefbakhhlonafaaBlkF3
import Derived.Test.YtefbakhhlonafaaSlideC4

section
namespace Go.Proofs.Ytefbakhhlonafaa
open Go.RowKit Go.Proofs Go.Proofs.PipeM Go.Proofs.PipeA
set_option maxRecDepth 100000

/-- Three cells of a block. -/
structure Box3 (w : World) (b : Nat) (v0 v1 v2 : Value) : Prop where
  lt : b < w.heap.size
  c0 : w.cell? ⟨b, 0, none⟩ = some v0
  c1 : w.cell? ⟨b, 1, none⟩ = some v1
  c2 : w.cell? ⟨b, 2, none⟩ = some v2
  f0 : w.frozen? ⟨b, 0, none⟩ = false
  f1 : w.frozen? ⟨b, 1, none⟩ = false
  f2 : w.frozen? ⟨b, 2, none⟩ = false

theorem Box3.keeps {w w' : World} {b : Nat} {bs : List Nat} {v0 v1 v2 : Value} (h : Box3 w b v0 v1 v2) (hk : Keeps bs w w') (hb : b ∉ bs) : Box3 w' b v0 v1 v2 :=
  ⟨Nat.lt_of_lt_of_le h.lt hk.size, (hk.cell (p := ⟨b, 0, none⟩) h.lt hb).trans h.c0, (hk.cell (p := ⟨b, 1, none⟩) h.lt hb).trans h.c1, (hk.cell (p := ⟨b, 2, none⟩) h.lt hb).trans h.c2,
    (hk.frozen (p := ⟨b, 0, none⟩) h.lt hb).trans h.f0, (hk.frozen (p := ⟨b, 1, none⟩) h.lt hb).trans h.f1, (hk.frozen (p := ⟨b, 2, none⟩) h.lt hb).trans h.f2⟩

theorem Box3.new (w : World) (v0 v1 v2 : Value) (t : TypeId) : Box3 (w.alloc (.cells #[v0, v1, v2] t)) w.heap.size v0 v1 v2 :=
  ⟨by simp, by simp, by simp, by simp, by simp, by simp, by simp⟩

/-- The results' cells, as they are laid first. -/
structure Outs (W : World) (B4 B6 : Nat) : Prop where
  b4 : Box3 W B4 (.string ⟨#[]⟩) (.int .i64 0) (.int .i64 0)
  c0 : W.cell? ⟨B6, 0, none⟩ = some (.int .i64 0)
  c1 : W.cell? ⟨B6, 1, none⟩ = some (.slice none 0 0)
  f0 : W.frozen? ⟨B6, 0, none⟩ = false
  f1 : W.frozen? ⟨B6, 1, none⟩ = false
  lt : B6 < W.heap.size
  ne : B4 ≠ B6
theorem Outs.keeps {W W' : World} {B4 B6 : Nat} {bs : List Nat} (h : Outs W B4 B6) (hk : Keeps bs W W') (h4 : B4 ∉ bs) (h6 : B6 ∉ bs) : Outs W' B4 B6 :=
  ⟨h.b4.keeps hk h4, (hk.cell (p := ⟨B6, 0, none⟩) h.lt h6).trans h.c0, (hk.cell (p := ⟨B6, 1, none⟩) h.lt h6).trans h.c1, (hk.frozen (p := ⟨B6, 0, none⟩) h.lt h6).trans h.f0, (hk.frozen (p := ⟨B6, 1, none⟩) h.lt h6).trans h.f1, Nat.lt_of_lt_of_le h.lt hk.size, h.ne⟩
/-- A slice that wasn't there. -/
def FreshOf (w : World) (ao : Option Addr) : Prop := ∀ g off, ao = some ⟨g, off, none⟩ → w.heap.size ≤ g
end Go.Proofs.Ytefbakhhlonafaa
end

section
namespace Go.Proofs.Ytefbakhhlonafaa
open Go.RowKit Go.Proofs Go.Proofs.PipeM Go.Proofs.PipeA Go.Proofs.BlkM
open Go.Proofs.LatM (goodL)
open Go.Proofs.FilM (smp codeS)
open Go.Proofs.LagM (goodT codeT codeO onL)
set_option maxRecDepth 100000

/-- Samples that came out, in memory that is new, or what is wrong. -/
def SampIs (code : Int) (m : List Int) (w : World) (e : Ending) (w' : World) : Prop :=
  (code ≠ 0 ∧ e = .returned (.tuple #[.slice none 0 0, .int .i64 code]) ∧ Below w.heap.size w w') ∨
  (code = 0 ∧ ∃ ao cap, e = .returned (.tuple #[.slice ao m.length cap, .int .i64 0]) ∧ IntsAt w' ao m ∧ m.length ≤ cap ∧ Below w.heap.size w w' ∧ FreshOf w ao)
theorem SampIs.bad {c : Int} {m : List Int} {w w' : World} {k : Int} (h : c = k) (hk : k ≠ 0) (hb : Below w.heap.size w w') : SampIs c m w (.returned (.tuple #[.slice none 0 0, .int .i64 k])) w' := by
  subst h
  exact .inl ⟨hk, rfl, hb⟩

end Go.Proofs.Ytefbakhhlonafaa
end

section
namespace Go.Proofs.Ytefbakhhlonafaa
open Go.RowKit Go.Proofs Go.Proofs.PipeM Go.Proofs.PipeA Go.Proofs.BlkM
open Go.Proofs.LatM (goodL)
open Go.Proofs.FilM (smp codeS inM)
open Go.Proofs.LagM (goodT codeT codeO onL)
set_option maxRecDepth 100000

theorem nOk_in {l : List Int} (h : listOk l = true) : l.all LagM.inB = true := by
  unfold listOk at h
  rw [Bool.and_eq_true] at h
  rw [List.all_eq_true]
  intro x hx
  have := of_decide_eq_true (List.all_eq_true.1 h.1 x hx)
  exact decide_eq_true (by omega)
theorem two_facts {value shift lag gain part : Int} {index rice data : List Int} {n m : Nat} (hf : formB ⟨2, value, shift, index, lag, gain, part, rice, data⟩ n m = 0) :
    value = 0 ∧ data.length = n ∧ 0 ≤ shift ∧ shift < m ∧ goodL index = true ∧ goodT lag gain = true ∧ partsOk n part rice = true ∧ listOk data = true := by
  unfold formB at hf
  have h0 : wrongKind ⟨2, value, shift, index, lag, gain, part, rice, data⟩ = false := by simp [wrongKind]
  have h1 : wrongMore ⟨2, value, shift, index, lag, gain, part, rice, data⟩ = false := by simp [wrongMore]
  rw [h0, h1, if_neg (by simp), if_neg (by simp)] at hf
  cases hwd : wrongData ⟨2, value, shift, index, lag, gain, part, rice, data⟩ n with
  | true => rw [hwd, if_pos rfl] at hf; omega
  | false =>
    obtain ⟨a1, a2⟩ := two_zero hwd
    rw [hwd, if_neg (by simp)] at hf
    cases hwn : wrongNormal ⟨2, value, shift, index, lag, gain, part, rice, data⟩ n m with
    | true => rw [hwn, if_pos rfl] at hf; omega
    | false =>
      unfold wrongNormal at hwn
      simp only [decide_true, Bool.true_and, Bool.or_eq_false_iff, decide_eq_false_iff_not, Bool.not_eq_false'] at hwn
      obtain ⟨⟨⟨⟨⟨b1, b2⟩, b3⟩, b4⟩, b5⟩, b6⟩ := hwn
      exact ⟨a1, by omega, by omega, by omega, b3, b4, b5, b6⟩
theorem pow_small {s : Nat} (h : s ≤ 25) : 1 ≤ ((2 ^ s : Nat) : Int) ∧ ((2 ^ s : Nat) : Int) ≤ 33554432 := by
  have b2 : 2 ^ s ≤ 2 ^ 25 := Nat.pow_le_pow_right (by decide) h
  have b1 : 1 ≤ 2 ^ s := Nat.one_le_two_pow
  omega

end Go.Proofs.Ytefbakhhlonafaa
end

section
namespace Go.Proofs.Ytefbakhhlonafaa
open Go.RowKit Go.Proofs Go.Proofs.PipeM Go.Proofs.PipeA Go.Proofs.BlkM
set_option maxRecDepth 100000

theorem few_facts {K value : Int} {data : List Int} {n m : Nat} (hK : K = 0 ∨ K = 1 ∨ K = 3) (hf : formB ⟨K, value, 0, [], 0, 0, 0, [], data⟩ n m = 0) :
    (K = 3 → value = 0 ∧ data.length = n) ∧ (K = 1 → data = []) ∧ (K = 0 → value = 0 ∧ data = []) := by
  have h : wrongData ⟨K, value, 0, [], 0, 0, 0, [], data⟩ n = false := by
    cases hwd : wrongData ⟨K, value, 0, [], 0, 0, 0, [], data⟩ n with
    | false => rfl
    | true =>
      unfold formB at hf
      rw [hwd] at hf
      have : wrongKind ⟨K, value, 0, [], 0, 0, 0, [], data⟩ = false := by unfold wrongKind; simp; omega
      rw [this] at hf
      simp only [Bool.false_eq_true, if_false, if_true] at hf
      split at hf <;> omega
  unfold wrongData at h
  refine ⟨?_, ?_, ?_⟩
  · rintro rfl; simp at h; omega
  · rintro rfl; simp at h; exact h
  · rintro rfl; simp at h; exact h

end Go.Proofs.Ytefbakhhlonafaa
end
