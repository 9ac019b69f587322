import Derived.Test.YtnfpkjnllkkngaaGreatDoorMathRice
import Derived.Deep.RegionWith
import Derived.Laws.BitsAllLaws

section
namespace Go.Proofs.YtnfpkjnllkkngaaGreatDoor
open Go.RowKit Go.Proofs Go.Proofs.PipeM Go.Proofs.PipeA

set_option maxHeartbeats 400000 in
theorem refFold (n : Int) (w : World) (h : InR n) :
    Calls Tryz.prog 115 #[.int .i64 n] w fun e w' => e = .returned (.int .i64 (foldN n)) ∧ w = w' := by
  obtain ⟨h1, h2⟩ := h
  by_cases hn : n < 0
  · have HF : Hid ((foldN n : Int) = -(n + 1) * 2 + 1) := by show _ = _; unfold foldN; rw [if_pos hn]; omega
    go_enter Tryz.func115, Tryz.ntmps115
    go_wp2
    go_ret
    exact ⟨by rw [HF.out]; rfl, rfl⟩
  · have HF : Hid ((foldN n : Int) = n * 2) := by show _ = _; unfold foldN; rw [if_neg hn]; omega
    go_enter Tryz.func115, Tryz.ntmps115
    go_wp2
    go_ret
    exact ⟨by rw [HF.out]; rfl, rfl⟩

theorem pow24 (k : Nat) (hk : k ≤ 24) : 1 ≤ 2 ^ k ∧ 2 ^ k ≤ 16777216 := ⟨Nat.two_pow_pos k, Nat.le_trans (Nat.pow_le_pow_right (by decide) hk) (by decide)⟩

set_option maxHeartbeats 400000 in
theorem refLength (n : Int) (k : Nat) (w : World) (h : InR n) (hk : k ≤ 24) :
    Calls Tryz.prog 100 #[.int .i64 n, .int .i64 k] w fun e w' => e = .returned (.int .i64 (costN n k)) ∧ w = w' := by
  have HF := fun W => Lib.hid (refFold n W h)
  have HP := fun W => Lib.hid (refPower k W (by omega))
  obtain ⟨p1, p2⟩ := pow24 k hk
  have hz := foldN_lt h
  have hc : costN n k = if foldN n / 2 ^ k < 24 then foldN n / 2 ^ k + 1 + k else 59 := rfl
  obtain ⟨z, hzz⟩ : ∃ z, z = foldN n := ⟨_, rfl⟩
  obtain ⟨p, hp⟩ : ∃ p, p = 2 ^ k := ⟨_, rfl⟩
  rw [← hzz] at HF hz hc
  rw [← hp] at HP p1 p2 hc
  have hd : z / p ≤ z := Nat.div_le_self _ _
  obtain ⟨q, hq⟩ : ∃ q, q = z / p := ⟨_, rfl⟩
  have hqi : ((z : Int) / (p : Int)) = (q : Int) := by rw [hq, Int.natCast_ediv]
  rw [← hq] at hd hc
  by_cases hq24 : q < 24
  · have HC : Hid (costN n k = q + 1 + k) := by rw [hc, if_pos hq24]; rfl
    clear hc hzz hp hq h
    go_enter Tryz.func100, Tryz.ntmps100
    go_wp2_with (first | (go_at_call 115; refine (HF _).out.mono ?_; rintro e w1 ⟨rfl, rfl⟩) | (go_at_call 26; refine (HP _).out.mono ?_; rintro e w1 ⟨rfl, rfl⟩))
    go_ret
    refine ⟨?_, rfl⟩
    rw [HC.out]
    show Ending.returned (Value.int .i64 ((q : Int) + 1 + (k : Int))) = _
    congr 2
  · have HC : Hid (costN n k = 59) := by rw [hc, if_neg hq24]; rfl
    clear hc hzz hp hq h
    go_enter Tryz.func100, Tryz.ntmps100
    go_wp2_with (first | (go_at_call 115; refine (HF _).out.mono ?_; rintro e w1 ⟨rfl, rfl⟩) | (go_at_call 26; refine (HP _).out.mono ?_; rintro e w1 ⟨rfl, rfl⟩))
    go_ret
    exact ⟨by rw [HC.out]; rfl, rfl⟩

/-- Numbers that lie in memory. -/
def IntsAt (w : World) (ao : Option Addr) (l : List Int) : Prop :=
  ∀ j (h : j < l.length), ∃ b off, ao = some ⟨b, off, none⟩ ∧ b < w.heap.size ∧ w.cell? ⟨b, off + j, none⟩ = some (.int .i64 l[j])

theorem IntsAt.keeps {w w' : World} {bs : List Nat} {ao : Option Addr} {l : List Int} (h : IntsAt w ao l) (hk : Keeps bs w w') (hn : ∀ g off, ao = some ⟨g, off, none⟩ → g ∉ bs) : IntsAt w' ao l := by
  intro j hj
  obtain ⟨g, off, h1, h2, h3⟩ := h j hj
  exact ⟨g, off, h1, Nat.lt_of_lt_of_le h2 hk.size, by rw [hk.cell (p := ⟨g, off + j, none⟩) h2 (hn g off h1), h3]⟩
theorem IntsAt.below {w w' : World} {ao : Option Addr} {l : List Int} (h : IntsAt w ao l) (hb : Below w.heap.size w w') : IntsAt w' ao l := h.keeps (keeps_of_below hb []) (by simp)

set_option maxHeartbeats 400000 in
theorem refTotal (ao : Option Addr) (cap : Nat) (l : List Int) (k : Nat) (w : World) (hl : l.length ≤ 1000000) (hi : IntsAt w ao l) (hr : ∀ n ∈ l, InR n) (hk : k ≤ 24) :
    Calls Tryz.prog 81 #[.slice ao l.length cap, .int .i64 k] w fun e w' => e = .returned (.int .i64 (totalN l k)) ∧ w = w' := by
  have HI := Lib.hid hi
  have HR := Lib.hid hr
  clear hi hr
  go_enter Tryz.func81, Tryz.ntmps81
  go_wp2
  go_loopg [5, 6, 9] l.length (fun gk s q i wr => ∃ c : Nat, c ≤ l.length ∧ gk + c = l.length ∧ i = .int .i64 c ∧ s = .int .i64 (totalN (l.take c) k) ∧ wr = w)
  case atStart => exact ⟨0, Nat.zero_le _, by omega, rfl, rfl, rfl⟩
  case round =>
    obtain ⟨c, hc, hgk, rfl, rfl, rfl⟩ := hrel
    have HGK := Lib.hid hgk
    clear hgk
    have htl := totalN_le (l.take c) k hk
    rw [List.length_take] at htl
    obtain ⟨x, hx⟩ : ∃ x, x = totalN (l.take c) k := ⟨_, rfl⟩
    rw [← hx] at htl ⊢
    have HX := Lib.hid hx
    clear hx
    by_cases hlt : c < l.length
    · obtain ⟨g, off, rfl, hg, hcell⟩ := HI.out c hlt
      have hcl := costN_le l[c] k hk
      have hsn : totalN (l.take (c + 1)) k = totalN (l.take c) k + costN l[c] k := by rw [List.take_succ_eq_append_getElem hlt, totalN_snoc]
      have HL := fun W => Lib.hid (refLength l[c] k W (HR.out _ (List.getElem_mem hlt)) hk)
      obtain ⟨n, hn⟩ : ∃ n, n = l[c] := ⟨_, rfl⟩
      obtain ⟨y, hy⟩ : ∃ y, y = costN n k := ⟨_, rfl⟩
      rw [← hn] at hcell
      rw [← hn, ← hy] at hcl HL hsn
      have HSN := Lib.hid hsn
      clear hsn hn hy
      go_wp2_with (go_at_call 100; refine (HL _).out.mono ?_; rintro e w1 ⟨rfl, rfl⟩)
      go_roundg (gk - 1)
      case rel => exact ⟨c + 1, by omega, by have := HGK.out; omega, by go_num, by rw [HSN.out, ← HX.out]; go_num, rfl⟩
      case measure => have := HGK.out; omega
    · obtain rfl : c = l.length := by omega
      go_wp2
      go_ret
      exact ⟨by rw [show totalN l k = x by rw [HX.out, List.take_length]]; rfl, rfl⟩

end Go.Proofs.YtnfpkjnllkkngaaGreatDoor
end

section
namespace Go.Proofs.LatM

/-- The rounded part of a product. -/
def rnd (p : Int) : Int := (p + 8192) / 16384
/-- An index's reflection at a place. -/
def refl (place : Nat) (i : Int) : Int := if place = 0 then 2 * (i + 64) * (i + 64) - 16384 else if place = 1 then 16384 - 2 * (i + 64) * (i + 64) else 256 * i
def ix (n : Int) : Bool := decide (-64 ≤ n ∧ n ≤ 63)
/-- Are numbers an index list? -/
def goodL (l : List Int) : Bool := l.all ix && decide (l.length ≤ 16)
/-- The coefficients behind one more reflection. -/
def stp (a : List Int) (k : Int) : List Int := (List.range a.length).map (fun j => a.getD j 0 + rnd (k * a.getD (a.length - 1 - j) 0)) ++ [k]
/-- The coefficients behind the first n indices. -/
def cf (l : List Int) : Nat → List Int
  | 0 => []
  | n + 1 => stp (cf l n) (refl n (l.getD n 0))
/-- What is summed for a prediction. -/
def psum (c p : List Int) : Nat → Int
  | 0 => 0
  | j + 1 => psum c p j + c.getD j 0 * p.getD (p.length - 1 - j) 0
def pred (c p : List Int) : Int := -(rnd (psum c p (min c.length p.length)))

theorem stp_length (a : List Int) (k : Int) : (stp a k).length = a.length + 1 := by simp [stp]
theorem cf_length (l : List Int) : ∀ n, (cf l n).length = n
  | 0 => rfl
  | n + 1 => by rw [cf, stp_length, cf_length l n]
theorem cf_congr {l m : List Int} : ∀ n, (∀ j, j < n → l.getD j 0 = m.getD j 0) → cf l n = cf m n
  | 0, _ => rfl
  | n + 1, h => by rw [cf, cf, cf_congr n (fun j hj => h j (by omega)), h n (by omega)]
theorem cf_take (l : List Int) {n m : Nat} (h : n ≤ m) : cf (l.take m) n = cf l n := by
  refine cf_congr n fun j hj => ?_
  simp only [List.getD, List.getElem?_take]
  rw [if_pos (by omega)]
theorem rnd_bound {k a M : Int} (hk : -16384 ≤ k ∧ k ≤ 16384) (ha : -M ≤ a ∧ a ≤ M) : -M ≤ rnd (k * a) ∧ rnd (k * a) ≤ M := by
  have hM : 0 ≤ M := by omega
  have h1 : k * a ≤ 16384 * M := by
    by_cases h : 0 ≤ a
    · exact Int.le_trans (Int.mul_le_mul_of_nonneg_right hk.2 h) (Int.mul_le_mul_of_nonneg_left ha.2 (by omega))
    · have h2 : (-k) * (-a) ≤ 16384 * (-a) := Int.mul_le_mul_of_nonneg_right (by omega) (by omega)
      have h3 : (16384 : Int) * (-a) ≤ 16384 * M := Int.mul_le_mul_of_nonneg_left (by omega) (by omega)
      rw [Int.neg_mul_neg] at h2
      omega
  have h4 : -(16384 * M) ≤ k * a := by
    by_cases h : 0 ≤ a
    · have h2 : (-k) * a ≤ 16384 * a := Int.mul_le_mul_of_nonneg_right (by omega) h
      have h3 : (16384 : Int) * a ≤ 16384 * M := Int.mul_le_mul_of_nonneg_left ha.2 (by omega)
      rw [Int.neg_mul] at h2
      omega
    · have h2 : k * (-a) ≤ 16384 * (-a) := Int.mul_le_mul_of_nonneg_right hk.2 (by omega)
      have h3 : (16384 : Int) * (-a) ≤ 16384 * M := Int.mul_le_mul_of_nonneg_left (by omega) (by omega)
      rw [Int.mul_neg] at h2
      omega
  unfold rnd
  omega

theorem sq_bound {u : Int} (h0 : 0 ≤ u) (h1 : u ≤ 127) : 0 ≤ 2 * u * u ∧ 2 * u * u ≤ 32258 := by
  have h2 : u * u ≤ 127 * 127 := Int.le_trans (Int.mul_le_mul_of_nonneg_right h1 h0) (Int.mul_le_mul_of_nonneg_left h1 (by omega))
  have h3 : 0 ≤ u * u := Int.mul_nonneg h0 h0
  rw [Int.mul_assoc]
  omega
theorem refl_bound (p : Nat) {i : Int} (h : -64 ≤ i ∧ i ≤ 63) : -16384 ≤ refl p i ∧ refl p i ≤ 16384 := by
  have := sq_bound (u := i + 64) (by omega) (by omega)
  unfold refl
  split
  · omega
  · split <;> omega

theorem good_len {l : List Int} (h : goodL l = true) : l.length ≤ 16 := by
  unfold goodL at h
  rw [Bool.and_eq_true] at h
  exact of_decide_eq_true h.2
theorem good_at {l : List Int} (h : goodL l = true) {j : Nat} (hj : j < l.length) : -64 ≤ l[j] ∧ l[j] ≤ 63 := by
  unfold goodL at h
  rw [Bool.and_eq_true] at h
  exact of_decide_eq_true (List.all_eq_true.1 h.1 _ (List.getElem_mem hj))
theorem good_get {l : List Int} (h : goodL l = true) (j : Nat) : -64 ≤ l.getD j 0 ∧ l.getD j 0 ≤ 63 := by
  by_cases hj : j < l.length
  · rw [List.getD, List.getElem?_eq_getElem hj]
    exact good_at h hj
  · rw [List.getD, List.getElem?_eq_none (by omega)]
    decide

theorem getD_bound {l : List Int} {M : Int} (hM : 0 ≤ M) (h : ∀ x ∈ l, -M ≤ x ∧ x ≤ M) (j : Nat) : -M ≤ l.getD j 0 ∧ l.getD j 0 ≤ M := by
  by_cases hj : j < l.length
  · rw [List.getD, List.getElem?_eq_getElem hj]
    exact h _ (List.getElem_mem hj)
  · rw [List.getD, List.getElem?_eq_none (by omega)]
    simp [hM]
theorem cf_bound {l : List Int} (hg : goodL l = true) : ∀ n, ∀ x ∈ cf l n, -((2 ^ (n + 13) : Nat) : Int) ≤ x ∧ x ≤ ((2 ^ (n + 13) : Nat) : Int)
  | 0, x, hx => by simp [cf] at hx
  | n + 1, x, hx => by
    have hp : 2 ^ (n + 1 + 13) = 2 * 2 ^ (n + 13) := by rw [show n + 1 + 13 = (n + 13) + 1 by omega, Nat.pow_succ]; omega
    have h14 : 2 ^ 14 ≤ 2 ^ (n + 1 + 13) := Nat.pow_le_pow_right (by decide) (by omega)
    have ih := cf_bound hg n
    have hk := refl_bound n (good_get hg n)
    rw [cf, stp, List.mem_append] at hx
    rcases hx with hx | hx
    · obtain ⟨j, _, rfl⟩ := List.mem_map.1 hx
      have h1 := getD_bound (by omega) ih j
      have h2 := rnd_bound hk (getD_bound (by omega) ih ((cf l n).length - 1 - j))
      omega
    · obtain rfl := List.mem_singleton.1 hx
      omega
theorem cf_small {l : List Int} (hg : goodL l = true) {n : Nat} (hn : n ≤ 16) : ∀ x ∈ cf l n, -536870912 ≤ x ∧ x ≤ 536870912 := by
  intro x hx
  have h1 := cf_bound hg n x hx
  have h2 : 2 ^ (n + 13) ≤ 2 ^ 29 := Nat.pow_le_pow_right (by decide) (by omega)
  omega

theorem psum_boundP {c p : List Int} (h : ∀ x ∈ c, ∀ y ∈ p, -72057594037927936 ≤ x * y ∧ x * y ≤ 72057594037927936) : ∀ n : Nat, -(72057594037927936 * (n : Int)) ≤ psum c p n ∧ psum c p n ≤ 72057594037927936 * (n : Int)
  | 0 => by simp [psum]
  | n + 1 => by
    have ih := psum_boundP h n
    have h3 : -72057594037927936 ≤ c.getD n 0 * p.getD (p.length - 1 - n) 0 ∧ c.getD n 0 * p.getD (p.length - 1 - n) 0 ≤ 72057594037927936 := by
      by_cases h1 : n < c.length
      · by_cases h2 : p.length - 1 - n < p.length
        · rw [List.getD, List.getElem?_eq_getElem h1, List.getD, List.getElem?_eq_getElem h2]
          exact h _ (List.getElem_mem h1) _ (List.getElem_mem h2)
        · have e : p.getD (p.length - 1 - n) 0 = 0 := by rw [List.getD, List.getElem?_eq_none (by omega)]; rfl
          rw [e, Int.mul_zero]; omega
      · have e : c.getD n 0 = 0 := by rw [List.getD, List.getElem?_eq_none (by omega)]; rfl
        rw [e, Int.zero_mul]; omega
    rw [psum]
    omega

end Go.Proofs.LatM
end
