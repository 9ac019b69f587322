import Derived.Test.YtcgkalfclammfaaFilM
namespace Go.Proofs.FilM
open Go.Proofs.LatM

theorem codeR_zero {l xs : List Int} (h : codeR l xs = 0) : goodL l = true ∧ xs.all isS = true := by
  unfold codeR at h
  cases hg : goodL l with
  | false => rw [hg] at h; simp at h
  | true =>
    cases hs : xs.all isS with
    | false => rw [hg, hs] at h; simp at h
    | true => exact ⟨rfl, rfl⟩
theorem codeR_of {l xs : List Int} (h1 : goodL l = true) (h2 : xs.all isS = true) : codeR l xs = 0 := by unfold codeR; rw [h1, h2]; rfl
theorem good_nil : goodL [] = true := by decide
theorem codeR_take {l xs : List Int} (h : codeR l xs = 0) (k : Nat) : codeR l (xs.take k) = 0 := by
  obtain ⟨h1, h2⟩ := codeR_zero h
  exact codeR_of h1 (List.all_eq_true.2 fun x hx => List.all_eq_true.1 h2 x (List.mem_of_mem_take hx))
theorem codeR_none {l xs : List Int} (h : codeR l xs = 0) : codeR [] xs = 0 := codeR_of good_nil (codeR_zero h).2
theorem res_take (l xs : List Int) (k : Nat) : res l (xs.take k) = (res l xs).take k := by
  apply List.ext_getElem
  · rw [res_length, List.length_take, List.length_take, res_length]
  · intro i h1 h2
    have hi : i < (xs.take k).length := by rw [res_length] at h1; exact h1
    have hi2 : i < k ∧ i < xs.length := by rw [List.length_take] at hi; omega
    rw [res_at hi, List.getElem_take, List.getElem_take, res_at hi2.2, List.take_take, Nat.min_eq_left (by omega)]
theorem fore_none (p : List Int) : fore [] p = 0 := by
  unfold fore pred
  simp [cf, psum, rnd]
theorem res_none (xs : List Int) : res [] xs = xs := by
  apply List.ext_getElem
  · rw [res_length]
  · intro i h1 h2
    rw [res_at h2, fore_none]; omega
theorem psum_zeros (c : List Int) (m : Nat) : ∀ n, psum c (List.replicate m 0) n = 0
  | 0 => rfl
  | n + 1 => by
    rw [psum, psum_zeros c m n]
    have : (List.replicate m (0 : Int)).getD ((List.replicate m (0 : Int)).length - 1 - n) 0 = 0 := by
      rw [List.getD, List.getElem?_replicate]; split <;> rfl
    rw [this]; omega
theorem fore_zeros (l : List Int) (m : Nat) : fore l (List.replicate m 0) = 0 := by
  unfold fore pred
  rw [psum_zeros]; simp [rnd]
theorem res_zeros (l : List Int) (m : Nat) : res l (List.replicate m 0) = List.replicate m 0 := by
  apply List.ext_getElem
  · rw [res_length]
  · intro i h1 h2
    rw [res_at h2, List.take_replicate, fore_zeros, List.getElem_replicate]; rfl
theorem res_first (l : List Int) (x : Int) (xs : List Int) : (res l (x :: xs))[0]'(by rw [res_length]; simp) = x := by
  rw [res_at (by simp)]
  have := fore_zeros l 0
  simp only [List.replicate_zero] at this
  simp [this]
theorem isS_zero : isS 0 = true := by decide
theorem still_good : goodL [-64] = true := by decide
theorem fore_still {xs : List Int} {i : Nat} (h : i < xs.length) (h0 : 0 < i) : fore [-64] (xs.take i) = xs[i - 1]'(by omega) := by
  have e1 : (xs.take i).length = i := by rw [List.length_take]; omega
  have e2 : min ([-64] : List Int).length (xs.take i).length = 1 := by rw [e1]; simp; omega
  unfold fore
  rw [e2, show cf [-64] 1 = [-16384] by decide]
  unfold pred
  have e3 : min ([-16384] : List Int).length (xs.take i).length = 1 := e2
  have e4 : (xs.take i).getD ((xs.take i).length - 1 - 0) 0 = xs[i - 1]'(by omega) := by
    rw [e1, List.getD, List.getElem?_take, if_pos (by omega), Nat.sub_zero, List.getElem?_eq_getElem (by omega)]; rfl
  rw [e3, psum, psum, e4]
  simp [rnd]
  omega
theorem res_still0 {xs : List Int} (h : 0 < xs.length) : (res [-64] xs)[0]'(by rw [res_length]; exact h) = xs[0] := by
  rw [res_at h]
  have := fore_zeros [-64] 0
  simp only [List.replicate_zero] at this
  simp [this]
theorem res_still {xs : List Int} {i : Nat} (h : i < xs.length) (h0 : 0 < i) : (res [-64] xs)[i]'(by rw [res_length]; exact h) = xs[i] - xs[i - 1]'(by omega) := by
  rw [res_at h, fore_still h h0]
theorem codeR_still (xs : List Int) : codeR [-64] xs = if xs.all isS then 0 else 9 := by unfold codeR; rw [still_good]; rfl
end Go.Proofs.FilM
