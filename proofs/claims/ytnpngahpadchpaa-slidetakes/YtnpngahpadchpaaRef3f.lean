import Derived.Test.YtnpngahpadchpaaRef3e
namespace Go.Proofs.Ytnpngahpadchpaa
open Go.RowKit Go.Proofs Go.Proofs.PipeM Go.Proofs.PipeA

/-- The least parameter of the fewest bits, of those up to one. -/
def BestTo (l : List Int) (i k : Nat) : Prop := k < i ∧ ∀ p, p < i → totalN l k ≤ totalN l p ∧ (totalN l p = totalN l k → k ≤ p)

def LeastIs (l : List Int) (w : World) (e : Ending) (w' : World) : Prop := ∃ k : Nat, e = .returned (.int .i64 k) ∧ IsBest l k ∧ w = w'

set_option maxHeartbeats 800000 in
theorem refLeast (ao : Option Addr) (cap : Nat) (l : List Int) (w : World) (hl : l.length ≤ 100000) (hi : IntsAt w ao l) (hr : ∀ n ∈ l, InR n) :
    Calls Try.prog 57 #[.slice ao l.length cap] w (LeastIs l w) := by
  have HT := fun k hk => Lib.hid (refTotal ao cap l k w (by omega) hi hr hk)
  have HT0 := HT 0 (by omega)
  have htl0 := totalN_le l 0 (by omega)
  obtain ⟨C0, hC0⟩ : ∃ C, C = totalN l 0 := ⟨_, rfl⟩
  rw [← hC0] at HT0 htl0
  have HC0 := Lib.hid hC0
  obtain ⟨len, hlen⟩ : ∃ len, len = l.length := ⟨_, rfl⟩
  rw [← hlen] at hl htl0 HT0 ⊢
  have HLEN := Lib.hid hlen
  clear hi hr hC0 hlen
  go_enter Try.func57, Try.ntmps57
  go_wp2_with fail
  refine HT0.out.mono ?_
  rintro e w1 ⟨rfl, rfl⟩
  go_wp2
  go_loopg [3, 4, 5, 6] 24 (fun gk k f i n wr => ∃ (c b t : Nat), 1 ≤ c ∧ c ≤ 25 ∧ gk + c = 25 ∧ i = .int .i64 c ∧ k = .int .i64 b ∧ f = .int .i64 t ∧ b ≤ 24 ∧ t ≤ 59 * len ∧ Hid (t = totalN l b ∧ BestTo l c b) ∧ w = wr)
  case atStart => exact ⟨1, 0, C0, by omega, by omega, by omega, rfl, rfl, rfl, by omega, htl0, ⟨HC0.out, by omega, fun p hp => by obtain rfl : p = 0 := (by omega); exact ⟨Nat.le_refl _, fun _ => Nat.le_refl _⟩⟩, rfl⟩
  case round =>
    obtain ⟨c, b, t, hc1, hc2, hgk, rfl, rfl, rfl, hb, ht, HB, rfl⟩ := hrel
    have HGK := Lib.hid hgk
    clear hgk
    by_cases hlt : c ≤ 24
    · have HTc := HT c hlt
      have htc := totalN_le l c hlt
      obtain ⟨T, hT⟩ : ∃ T, T = totalN l c := ⟨_, rfl⟩
      rw [← hT] at HTc htc
      rw [← HLEN.out] at HTc htc
      have HT2 := Lib.hid hT
      clear hT
      by_cases hTt : T < t
      · have HB2 : Hid (T = totalN l c ∧ BestTo l (c + 1) c) := by
          obtain ⟨e1, e2, e3⟩ := HB.out
          refine ⟨HT2.out, by omega, fun p hp => ?_⟩
          have := HT2.out
          by_cases hpc : p < c
          · have := e3 p hpc
            exact ⟨by omega, fun h => by omega⟩
          · obtain rfl : p = c := by omega
            exact ⟨Nat.le_refl _, fun _ => Nat.le_refl _⟩
        go_wp2_with fail
        refine HTc.out.mono ?_
        rintro e w1 ⟨rfl, rfl⟩
        go_wp2
        go_roundg (gk - 1)
        case rel => exact ⟨c + 1, c, T, by omega, by omega, by have := HGK.out; omega, by go_num, rfl, rfl, by omega, htc, HB2, rfl⟩
        case measure => have := HGK.out; omega
      · have HB2 : Hid (t = totalN l b ∧ BestTo l (c + 1) b) := by
          obtain ⟨e1, e2, e3⟩ := HB.out
          refine ⟨e1, by omega, fun p hp => ?_⟩
          have := HT2.out
          by_cases hpc : p < c
          · exact e3 p hpc
          · obtain rfl : p = c := by omega
            exact ⟨by omega, fun h => by omega⟩
        have hTt2 : t ≤ T := by omega
        clear hTt
        go_wp2_with fail
        refine HTc.out.mono ?_
        rintro e w1 ⟨rfl, rfl⟩
        go_wp2
        go_roundg (gk - 1)
        case rel => exact ⟨c + 1, b, t, by omega, by omega, by have := HGK.out; omega, by go_num, rfl, rfl, by omega, ht, HB2, rfl⟩
        case measure => have := HGK.out; omega
    · obtain rfl : c = 25 := by omega
      go_wp2
      go_ret
      refine ⟨b, rfl, ?_, rfl⟩
      obtain ⟨e1, e2, e3⟩ := HB.out
      exact ⟨by omega, fun p hp => e3 p (by omega)⟩
end Go.Proofs.Ytnpngahpadchpaa
