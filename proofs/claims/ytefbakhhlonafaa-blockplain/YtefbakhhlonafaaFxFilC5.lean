import Derived.Test.YtefbakhhlonafaaFxFilC3

section
namespace Go.Proofs.Ytefbakhhlonafaa.Fx
open Go.RowKit Go.Proofs Go.Proofs.PipeA Go.Proofs.LatM Go.Proofs.FilM
set_option maxRecDepth 100000

end Go.Proofs.Ytefbakhhlonafaa.Fx
end

section
namespace Go.Proofs.Ytefbakhhlonafaa.Fx
open Go.RowKit Go.Proofs Go.Proofs.PipeA Go.Proofs.LatM Go.Proofs.FilM
set_option maxRecDepth 100000

end Go.Proofs.Ytefbakhhlonafaa.Fx
end

section
namespace Go.Proofs.Ytefbakhhlonafaa.Fx
open Go.RowKit Go.Proofs Go.Proofs.PipeA Go.Proofs.LatM Go.Proofs.FilM
set_option maxRecDepth 100000

/-- make([]int, 0, n): a row of one's own, empty yet. -/
theorem makeRoom (n : Nat) (hn : n ≤ 100000) : ∃ cs : Array Value, (∀ W : World, (Instr.makeSlice 22 (.int .i64 0) (.int .i64 (n : Int))).run Try.prog W = .ok (.slice (some ⟨W.heap.size, 0, none⟩) 0 n) (W.alloc (.cells cs 3))) ∧
    ∀ (W : World) base, base ≤ W.heap.size → (W.alloc (.cells cs 3)).ownsRow base 3 1 (.slice (some ⟨W.heap.size, 0, none⟩) 0 n) 0 [] := by
  obtain ⟨i0, hi, hz0, hz1, hz2⟩ := info_parts info_int
  refine ⟨madeCells (Value.cells (.int .i64 0)) (n * i0.size), fun W => ?_, fun W base hb => ?_⟩
  · have := run_make (P := Try.prog) W 22 3 i0 (.int .i64 0) Try.underlying22 hi hz0 .i64 .i64 0 n (by omega) (by omega) (by rw [hz2]; omega) (by omega)
    simpa using this
  · refine ⟨rfl, .inr ⟨W.heap.size, n, _, rfl, hb, World.alloc_heap_new _ _, Nat.zero_le _, by unfold maxLen; omega, ?_, by simp⟩⟩
    simp [hz1, madeCells, Value.cells]

theorem inM_cases (most x : Int) : (decide (x < -most - 1) = true ∧ inM most x = false) ∨ (decide (x < -most - 1) = false ∧ decide (most < x) = true ∧ inM most x = false) ∨ (decide (x < -most - 1) = false ∧ decide (most < x) = false ∧ inM most x = true) := by
  unfold inM
  by_cases h1 : x < -most - 1
  · exact .inl ⟨decide_eq_true h1, decide_eq_false (by omega)⟩
  · by_cases h2 : most < x
    · exact .inr (.inl ⟨decide_eq_false h1, decide_eq_true h2, decide_eq_false (by omega)⟩)
    · exact .inr (.inr ⟨decide_eq_false h1, decide_eq_false h2, decide_eq_true (by omega)⟩)
theorem smp_next {l rs : List Int} {most : Int} {c : Nat} (hc : c < rs.length) (h : (smp l rs c).all (inM most) = true) (hx : inM most (rs[c] + fore l (smp l rs c)) = true) : (smp l rs (c + 1)).all (inM most) = true := by
  rw [smp, List.all_append, h, getD_at hc]; simp [hx]
theorem smp_bad {l rs : List Int} {most : Int} {c : Nat} (hc : c < rs.length) (hx : inM most (rs[c] + fore l (smp l rs c)) = false) : (smp l rs rs.length).all (inM most) = false := by
  cases ha : (smp l rs rs.length).all (inM most) with
  | false => rfl
  | true =>
    have h1 := smp_at l rs hc
    rw [getD_at hc] at h1
    have h2 := List.all_eq_true.1 ha _ (List.getElem_mem (show c < (smp l rs rs.length).length by rw [smp_length]; exact hc))
    rw [h1, hx] at h2
    cases h2
theorem most_cases (most : Int) : (decide (most < 0) = true ∧ ¬ (0 ≤ most ∧ most ≤ 67108864)) ∨ (decide (most < 0) = false ∧ decide (67108864 < most) = true ∧ ¬ (0 ≤ most ∧ most ≤ 67108864)) ∨ (decide (most < 0) = false ∧ decide (67108864 < most) = false ∧ (0 ≤ most ∧ most ≤ 67108864)) := by
  by_cases h1 : most < 0
  · exact .inl ⟨decide_eq_true h1, by omega⟩
  · by_cases h2 : 67108864 < most
    · exact .inr (.inl ⟨decide_eq_false h1, decide_eq_true h2, by omega⟩)
    · exact .inr (.inr ⟨decide_eq_false h1, decide_eq_false h2, by omega⟩)
theorem codeS_most {l rs : List Int} {most : Int} (h : ¬ (0 ≤ most ∧ most ≤ 67108864)) : codeS l rs most = 1 := by
  unfold codeS
  rw [if_neg (by simp only [Bool.and_eq_true, decide_eq_true_eq]; intro hh; exact h ⟨hh.1.2, hh.2⟩)]
theorem codeS_good {l rs : List Int} {most : Int} (h : goodL l = false) : codeS l rs most = 1 := by
  unfold codeS; rw [h]; rfl
theorem codeS_ok {l rs : List Int} {most : Int} (h : goodL l = true) (hm : 0 ≤ most ∧ most ≤ 67108864) : codeS l rs most = if rs.all isR then (if (smp l rs rs.length).all (inM most) then 0 else 9) else 9 := by
  unfold codeS; rw [h, if_pos (by simp [hm.1, hm.2])]

/-- What Samples leaves. -/
def SmpIs (l rs : List Int) (most : Int) (w : World) (e : Ending) (w' : World) : Prop :=
  (codeS l rs most ≠ 0 ∧ e = .returned (.tuple #[.slice none 0 0, .int .i64 (codeS l rs most)]) ∧ Below w.heap.size w w') ∨
  (codeS l rs most = 0 ∧ ∃ ao cap, e = .returned (.tuple #[.slice ao rs.length cap, .int .i64 0]) ∧ IntsAt w' ao (smp l rs rs.length) ∧ rs.length ≤ cap ∧ Below w.heap.size w w')
theorem SmpIs.no {l rs : List Int} {most cd : Int} {w w' : World} (h : codeS l rs most = cd) (h0 : cd ≠ 0) (hb : Below w.heap.size w w') : SmpIs l rs most w (.returned (.tuple #[.slice none 0 0, .int .i64 cd])) w' := by
  subst h; exact .inl ⟨h0, rfl, hb⟩
theorem own_cap {w : World} {base size n cap : Nat} {e : TypeId} {xs : List Value} {ao : Option Addr} (h : w.ownsRow base e size (.slice ao n cap) n xs) : n ≤ cap := by
  rcases h.2 with ⟨h1, h2⟩ | ⟨g, cap', cur, h1, _, _, h3, _⟩
  · omega
  · simp only [Value.slice.injEq] at h1
    obtain ⟨_, _, rfl⟩ := h1
    exact h3

end Go.Proofs.Ytefbakhhlonafaa.Fx
end
