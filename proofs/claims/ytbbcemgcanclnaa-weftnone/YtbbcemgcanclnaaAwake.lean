import Derived.Test.YtbbcemgcanclnaaWriter3
namespace Go.Proofs.Ytbbcemgcanclnaa
open Go.RowKit Go.Proofs Go.Proofs.PipeM Go.Proofs.PipeA

/-- The text of bytes. -/
def bstr (zs : List Nat) : ByteArray := strOfNums (zs.map fun z : Nat => (z : Int))

theorem conv_row {w : World} {base : Nat} {v : Value} {zs : List Nat} (h : w.ownsRow base 5 1 v zs.length (cellsOf zs)) :
    (convert 39 9 v).run Try.prog w = .ok (.string (bstr zs)) w := by
  obtain ⟨ao, cap, rfl, _, _, h3⟩ := own_shape h
  by_cases h0 : 0 < zs.length
  · obtain ⟨g, rfl, _, hc⟩ := h3 h0
    refine run_convert_bytes_arg w 39 5 und_bytes und_u8 g 0 zs.length cap (zs.map fun z : Nat => (z : Int)) (by simp) ?_ 9 und_string
    intro i hi
    rw [Nat.zero_add, hc i _ (cellsOf_get zs i hi)]
    simp [List.getD, hi]
  · obtain rfl : zs = [] := List.eq_nil_of_length_eq_zero (by omega)
    rcases h.2 with ⟨h', _⟩ | ⟨g, cap', cur, h', _⟩
    · simp only [Value.slice.injEq, List.length_nil, true_and] at h'
      obtain ⟨rfl, rfl⟩ := h'
      exact run_convert_bytes_nil w 39 5 und_bytes und_u8 0 0 9 und_string
    · simp only [Value.slice.injEq] at h'
      obtain ⟨rfl, _, _⟩ := h'
      exact run_convert_bytes_arg w 39 5 und_bytes und_u8 g 0 0 cap [] rfl (by intro i hi; omega) 9 und_string

end Go.Proofs.Ytbbcemgcanclnaa
