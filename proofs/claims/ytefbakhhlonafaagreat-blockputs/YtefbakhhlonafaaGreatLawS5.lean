import Derived.Test.YtefbakhhlonafaaGreatSlideT
import Derived.Test.YtefbakhhlonafaaGreatSlideT5
import Derived.Test.YtefbakhhlonafaaGreatSlideC4
import Derived.Deep.AppendSrc

namespace Go.Proofs.YtefbakhhlonafaaGreat
open Go.RowKit Go.Proofs Go.Proofs.PipeM Go.Proofs.PipeA
set_option maxRecDepth 100000

theorem range_flat_le (f : Nat → List Bool) (k : Nat) (h : ∀ j, (f j).length ≤ k) : ∀ m, ((List.range m).flatMap f).length ≤ m * k
  | 0 => by simp
  | m + 1 => by
    have := range_flat_le f k h m
    have h1 := h m
    rw [List.range_succ, List.flatMap_append, List.length_append, Nat.add_mul]
    simp only [List.flatMap_cons, List.flatMap_nil, List.append_nil]
    omega
theorem slide_short {l ks : List Int} {P : Int} (h : slideOk l P ks = true) (hl : l.length ≤ 64) : (slideBits l P ks).length ≤ 4000 := by
  obtain ⟨p, rfl, h3, hk1, hk8, hk0, hl1, hl2, hs1, hs2, hsp, hks, hin⟩ := slide_parts h
  have hsb : slideBits l p ks = low p 2 ++ bodyBits (l.length / ks.length) ks l := by unfold slideBits listBits; rw [if_pos h]; simp
  rw [hsb, body_flat, List.length_append, low_length]
  have h1 := range_flat_le (pbits (l.length / ks.length) ks l) (5 + 59 * (l.length / ks.length)) (pbits_len _ ks l) ks.length
  have h2 : ks.length * (5 + 59 * (l.length / ks.length)) = 5 * ks.length + 59 * (l.length / ks.length * ks.length) := by rw [Nat.mul_add, Nat.mul_comm ks.length 5, Nat.mul_left_comm, Nat.mul_comm ks.length]
  rw [← hsp] at h2
  omega

end Go.Proofs.YtefbakhhlonafaaGreat
