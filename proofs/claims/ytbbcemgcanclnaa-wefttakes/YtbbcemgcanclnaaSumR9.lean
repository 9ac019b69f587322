import Derived.Test.YtbbcemgcanclnaaInts9
namespace Go.Proofs.Ytbbcemgcanclnaa
open Go.RowKit Go.Proofs Go.Proofs.PipeA
set_option maxRecDepth 100000

/-- The sum of sizes. -/
def sumN (l : List Int) : Nat := (l.map Int.natAbs).sum
theorem sumN_take {l : List Int} {c : Nat} (h : c < l.length) : sumN (l.take (c + 1)) = sumN (l.take c) + l[c].natAbs := by
  unfold sumN
  rw [List.take_succ_eq_append_getElem h, List.map_append, List.sum_append]; simp
theorem sumN_bound {l : List Int} (h : ∀ x ∈ l, -1000000000000000 ≤ x ∧ x ≤ 1000000000000000) : sumN l ≤ 1000000000000000 * l.length := by
  induction l with
  | nil => simp [sumN]
  | cons a r ih =>
    have h1 := ih (fun x hx => h x (by simp [hx]))
    have h2 := h a (by simp)
    simp only [sumN, List.map_cons, List.sum_cons, List.length_cons] at h1 ⊢
    omega

set_option maxHeartbeats 1600000 in
theorem rSum (ao : Option Addr) (cap : Nat) (l : List Int) (w : World) (hl : l.length ≤ 1000) (hb : ∀ x ∈ l, -1000000000000000 ≤ x ∧ x ≤ 1000000000000000) (hi : IntsAt w ao l) :
    Calls Try.prog 22 #[.slice ao l.length cap] w fun e w' => e = .returned (.int .i64 (sumN l : Nat)) ∧ w = w' := by
  have HI := Lib.hid hi
  have HBD := Lib.hid hb
  clear hi hb
  go_enter Try.func22, Try.ntmps22
  go_wp2
  go_loopg [3, 4, 7] l.length (fun gk s q i wr => ∃ c : Nat, c ≤ l.length ∧ gk + c = l.length ∧ i = .int .i64 c ∧ s = .int .i64 (sumN (l.take c) : Nat) ∧ w = wr)
  case atStart => exact ⟨0, Nat.zero_le _, by omega, rfl, rfl, rfl⟩
  case round =>
    obtain ⟨c, hc, hgk, rfl, rfl, rfl⟩ := hrel
    have HGK := Lib.hid hgk
    clear hgk
    by_cases hlt : c < l.length
    · obtain ⟨b, off, rfl, hg, hcell⟩ := HI.out c hlt
      have hsn := sumN_take hlt
      have hsb := sumN_bound (l := l.take c) (fun x hx => HBD.out x (List.mem_of_mem_take hx))
      rw [List.length_take] at hsb
      have hxb := HBD.out _ (List.getElem_mem hlt)
      generalize l[c] = x at hcell hsn hxb
      generalize sumN (l.take c) = s at hsn hsb ⊢
      obtain ⟨s', hs'⟩ : ∃ s' : Int, s' = ((sumN (l.take (c + 1)) : Nat) : Int) := ⟨_, rfl⟩
      have HE := Lib.hid hs'
      by_cases hx : x < 0
      · have t1 : decide (x < 0) = true := decide_eq_true hx
        have hw : IntKind.i64.wrap ((s : Int) - x) = s' := by rw [IntWalk.i64_in _ (by omega)]; omega
        clear hsn hs' hx hsb hxb hg
        go_wp2
        go_roundg (gk - 1)
        case rel => exact ⟨c + 1, by omega, by have := HGK.out; omega, by go_num, by rw [← HE.out], rfl⟩
        case measure => have := HGK.out; omega
      · have t1 : decide (x < 0) = false := decide_eq_false hx
        have hw : IntKind.i64.wrap ((s : Int) + x) = s' := by rw [IntWalk.i64_in _ (by omega)]; omega
        clear hsn hs' hx hsb hxb hg
        go_wp2
        go_roundg (gk - 1)
        case rel => exact ⟨c + 1, by omega, by have := HGK.out; omega, by go_num, by rw [← HE.out], rfl⟩
        case measure => have := HGK.out; omega
    · obtain rfl : c = l.length := by omega
      rw [List.take_length]
      go_wp2
      go_ret
      exact ⟨rfl, rfl⟩
end Go.Proofs.Ytbbcemgcanclnaa
