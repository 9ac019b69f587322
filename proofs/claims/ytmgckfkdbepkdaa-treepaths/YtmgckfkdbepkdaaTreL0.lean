import Derived.Test.YtmgckfkdbepkdaaTreF4
namespace Go.Proofs.Ytmgckfkdbepkdaa
open Go.RowKit Go.Proofs Go.Proofs.PipeA Go.Proofs.TreM
set_option maxRecDepth 100000

/-- The text of leaves, or what is wrong: the program's. -/
def TextB (size : Int) (l : List Int) (w : World) (e : Ending) (w' : World) : Prop :=
  Below w.heap.size w w' ∧
  ((codeX size l ≠ 0 ∧ e = .returned (.tuple #[.string ⟨#[]⟩, .int .i64 (codeX size l)])) ∨
   (codeX size l = 0 ∧ ∃ t, textOf size.toNat l = some t ∧ e = .returned (.tuple #[.string (bs t), .int .i64 0]) ∧ t.length < 32))
theorem ints_block {W : World} {b : Nat} {l : List Int} {t : TypeId} (h : W.heap[b]? = some (.cells (intsOf l).toArray t)) : IntsAt W (some ⟨b, 0, none⟩) l := by
  intro j hj
  refine ⟨b, 0, rfl, (Array.getElem?_eq_some_iff.1 h).1, ?_⟩
  rw [cell_of_heap h, Nat.zero_add]
  simp [intsOf, hj]
theorem IntsAt.nil' (W : World) (ao : Option Addr) : IntsAt W ao [] := fun j hj => by simp at hj
theorem sum_bound {l : List Int} (h : ∀ x ∈ l, 0 ≤ x ∧ x ≤ 1024) : 0 ≤ l.sum ∧ l.sum ≤ 1024 * (l.length : Int) := by
  induction l with
  | nil => simp
  | cons a r ih =>
    have h1 := ih (fun x hx => h x (by simp [hx]))
    have h2 := h a (by simp)
    rw [List.sum_cons, List.length_cons]
    omega
/-- Equal lists. -/
theorem same_yes (ao bo : Option Addr) (cap cap2 : Nat) (l : List Int) (w : World) (hl : l.length ≤ 1000000000) (hi : IntsAt w ao l) (hj : IntsAt w bo l) :
    Calls Try.prog 13 #[.slice ao l.length cap, .slice bo l.length cap2] w fun e w' => e = .returned (.bool true) ∧ ∃ k, w' = w.drewN k := by
  have := refSame ao bo cap cap2 l l w hl hi hj
  rwa [decide_eq_true rfl] at this
theorem same_nil (w : World) : Calls Try.prog 13 #[.slice none 0 0, .slice none 0 0] w fun e w' => e = .returned (.bool true) ∧ ∃ k, w' = w.drewN k :=
  same_yes none none 0 0 [] w (by simp) (IntsAt.nil' _ _) (IntsAt.nil' _ _)
end Go.Proofs.Ytmgckfkdbepkdaa
