import Derived.Test.YtanofklckifeaaaAwake
namespace Go.Proofs.Ytanofklckifeaaa
open Go.RowKit Go.Proofs Go.Proofs.PipeM Go.Proofs.PipeA

/-- Could an act be? -/
def actOk (k v n : Int) : Bool :=
  if k = 1 then decide (0 ≤ n ∧ n ≤ 48 ∧ 0 ≤ v ∧ v < 2 ^ n.toNat)
  else if k = 2 then decide (1 ≤ n ∧ n ≤ 48 ∧ -(2 ^ (n.toNat - 1)) ≤ v ∧ v < 2 ^ (n.toNat - 1))
  else if k = 3 then decide (0 ≤ n ∧ n ≤ 1000)
  else true

/-- The bits behind an act. -/
def actBits (l : List Bool) (k v n : Int) : List Bool :=
  if actOk k v n = false then l
  else if k = 1 then l ++ low v.toNat n.toNat
  else if k = 2 then l ++ low (v % 2 ^ n.toNat).toNat n.toNat
  else if k = 3 then l ++ (List.replicate n.toNat false ++ [true])
  else if k = 4 then pad l
  else l

theorem actBits_le (l : List Bool) (k v n : Int) : (actBits l k v n).length ≤ l.length + 1001 := by
  unfold actBits
  split
  · omega
  · rename_i h
    split
    · rename_i hk
      have : n ≤ 48 := by simp [actOk, hk] at h; omega
      simp [low_length]; omega
    · split
      · rename_i _ hk
        have : n ≤ 48 := by simp [actOk, hk] at h; omega
        simp [low_length]; omega
      · split
        · rename_i _ _ hk
          have : n ≤ 1000 := by simp [actOk, hk] at h; omega
          simp; omega
        · split
          · simp [pad]; omega
          · omega

/-- Any number, put as so many bits. -/
theorem wPut_any (b : Nat) (v : Value) (l : List Bool) (zs : List Nat) (x n : Int) (w : World) (hx : -9223372036854775808 ≤ x ∧ x ≤ 9223372036854775807) (hl : l.length ≤ 100000) (h : WrIs w b v l zs) :
    Calls Try.prog 22 #[.pointer (some ⟨b, 0, none⟩), .int .u64 (IntKind.u64.wrap x), .int .i64 n] w (Puts w b v (actOk 1 x n) (actBits l 1 x n)) := by
  rw [wrap_u64]
  by_cases hok : 0 ≤ n ∧ n ≤ 48 ∧ 0 ≤ x ∧ x < 2 ^ n.toNat
  · obtain ⟨h1, h2, h3, h4⟩ := hok
    obtain ⟨m, rfl⟩ := Int.eq_ofNat_of_zero_le h1
    obtain ⟨y, rfl⟩ := Int.eq_ofNat_of_zero_le h3
    have hy : y < 2 ^ m := by
      have e : ((2 ^ m : Nat) : Int) = (2 : Int) ^ m := by rw [Int.natCast_pow]; rfl
      rw [Int.toNat_natCast, ← e] at h4
      omega
    have e1 : ((y : Int) % 18446744073709551616).toNat = y := by omega
    have hok' : actOk 1 (y : Int) (m : Int) = true := by simp [actOk]; exact ⟨by omega, by simpa using h4⟩
    have e2 : actBits l 1 (y : Int) (m : Int) = l ++ low y m := by unfold actBits; rw [hok']; simp
    rw [e1, hok', e2]
    exact wPut_yes b v l zs y m w (by omega) hy hl h
  · have hok' : actOk 1 x n = false := by simp only [actOk, if_true]; exact decide_eq_false hok
    have e2 : actBits l 1 x n = l := by unfold actBits; rw [hok']; simp
    rw [hok', e2]
    refine (wPut_no b (x % 18446744073709551616).toNat n w ?_).mono ?_
    · by_cases h1 : n < 0
      · exact Or.inl h1
      · by_cases h2 : 48 < n
        · exact Or.inr (Or.inl h2)
        · refine Or.inr (Or.inr ⟨by omega, by omega, ?_⟩)
          obtain ⟨m, rfl⟩ := Int.eq_ofNat_of_zero_le (show 0 ≤ n by omega)
          rw [Int.toNat_natCast] at hok ⊢
          have e : ((2 ^ m : Nat) : Int) = (2 : Int) ^ m := by rw [Int.natCast_pow]; rfl
          rw [← e] at hok
          have h3 : 2 ^ m ≤ 2 ^ 48 := Nat.pow_le_pow_right (by decide) (by omega)
          by_cases h4 : 0 ≤ x
          · have : ¬ x < ((2 ^ m : Nat) : Int) := fun h5 => hok ⟨by omega, by omega, h4, h5⟩
            omega
          · omega
    · rintro e w' ⟨rfl, rfl⟩
      exact ⟨rfl, Wrote.refl h⟩

theorem wSigned_any (b : Nat) (v : Value) (l : List Bool) (zs : List Nat) (x n : Int) (w : World) (hl : l.length ≤ 100000) (h : WrIs w b v l zs) :
    Calls Try.prog 23 #[.pointer (some ⟨b, 0, none⟩), .int .i64 x, .int .i64 n] w (Puts w b v (actOk 2 x n) (actBits l 2 x n)) := by
  by_cases hok : 1 ≤ n ∧ n ≤ 48 ∧ -(2 ^ (n.toNat - 1)) ≤ x ∧ x < 2 ^ (n.toNat - 1)
  · have hok' : actOk 2 x n = true := by simp only [actOk]; exact decide_eq_true hok
    obtain ⟨h1, h2, h3, h4⟩ := hok
    obtain ⟨m, rfl⟩ := Int.eq_ofNat_of_zero_le (show 0 ≤ n by omega)
    rw [Int.toNat_natCast] at h3 h4
    have e2 : actBits l 2 x (m : Int) = l ++ low (x % 2 ^ m).toNat m := by unfold actBits; rw [hok']; simp
    rw [hok', e2]
    exact wSigned_yes b v l zs x m w (by omega) (by omega) h3 h4 hl h
  · have hok' : actOk 2 x n = false := by simp only [actOk]; exact decide_eq_false hok
    have e2 : actBits l 2 x n = l := by unfold actBits; rw [hok']; simp
    rw [hok', e2]
    refine (wSigned_no b x n w ?_).mono ?_
    · by_cases h1 : n < 1
      · exact Or.inl h1
      · by_cases h2 : 48 < n
        · exact Or.inr (Or.inl h2)
        · refine Or.inr (Or.inr ⟨by omega, by omega, ?_⟩)
          by_cases h4 : x < -(2 ^ (n.toNat - 1))
          · exact Or.inl h4
          · by_cases h5 : 2 ^ (n.toNat - 1) ≤ x
            · exact Or.inr h5
            · exact absurd ⟨by omega, by omega, Int.not_lt.1 h4, Int.not_le.1 h5⟩ hok
    · rintro e w' ⟨rfl, rfl⟩
      exact ⟨rfl, Wrote.refl h⟩

theorem wZeros_any (b : Nat) (v : Value) (l : List Bool) (zs : List Nat) (x n : Int) (w : World) (hl : l.length ≤ 100000) (h : WrIs w b v l zs) :
    Calls Try.prog 24 #[.pointer (some ⟨b, 0, none⟩), .int .i64 n] w (Puts w b v (actOk 3 x n) (actBits l 3 x n)) := by
  by_cases hok : 0 ≤ n ∧ n ≤ 1000
  · have hok' : actOk 3 x n = true := by simp only [actOk]; exact decide_eq_true hok
    obtain ⟨m, rfl⟩ := Int.eq_ofNat_of_zero_le hok.1
    have e2 : actBits l 3 x (m : Int) = l ++ (List.replicate m false ++ [true]) := by unfold actBits; rw [hok']; simp
    rw [hok', e2]
    exact wZeros_yes b v l zs m w (by omega) hl h
  · have hok' : actOk 3 x n = false := by simp only [actOk]; exact decide_eq_false hok
    have e2 : actBits l 3 x n = l := by unfold actBits; rw [hok']; simp
    rw [hok', e2]
    refine (wZeros_no b n w (by omega)).mono ?_
    rintro e w' ⟨rfl, rfl⟩
    exact ⟨rfl, Wrote.refl h⟩

theorem WrIs.keeps {w w' : World} {bs : List Nat} {b : Nat} {v : Value} {l : List Bool} {zs : List Nat} (h : WrIs w b v l zs) (hk : Keeps bs w w') (hb : b ∉ bs) (hv : ∀ g, v.ownBlock = some g → g ∉ bs) : WrIs w' b v l zs := by
  refine ⟨⟨Nat.lt_of_lt_of_le h.lt hk.size, (hk.cell (p := ⟨b, 0, none⟩) h.lt hb).trans h.c0, (hk.cell (p := ⟨b, 1, none⟩) h.lt hb).trans h.c1, (hk.frozen (p := ⟨b, 0, none⟩) h.lt hb).trans h.f0, (hk.frozen (p := ⟨b, 1, none⟩) h.lt hb).trans h.f1, ?_⟩, h.packs⟩
  refine ⟨h.own.1, ?_⟩
  rcases h.own.2 with h2 | ⟨g, cap, cur, hv', hg, hh, r⟩
  · exact Or.inl h2
  · have hlt : g < w.heap.size := by
      rcases Nat.lt_or_ge g w.heap.size with h5 | h5
      · exact h5
      · rw [Array.getElem?_eq_none h5] at hh; cases hh
    exact Or.inr ⟨g, cap, cur, hv', hg, by rw [hk.block g hlt (hv g (by rw [hv']; rfl))]; exact hh, r⟩

/-- What was written behind new blocks. -/
theorem Wrote.later {w w1 w2 : World} {b : Nat} {v : Value} {l : List Bool} (hk : Keeps [] w w1) (h2 : Wrote w1 b v l w2) : Wrote w b v l w2 :=
  Wrote.next ⟨hk.os, hk.tape, hk.output, hk.size, fun k hlt _ => hk.block k hlt (by simp)⟩ (Or.inl rfl) h2

set_option maxHeartbeats 1000000 in
theorem wDo (b : Nat) (v : Value) (l : List Bool) (zs : List Nat) (k x n : Int) (w : World) (hx : -9223372036854775808 ≤ x ∧ x ≤ 9223372036854775807) (hl : l.length ≤ 100000) (h : WrIs w b v l zs) :
    Calls Try.prog 9 #[.pointer (some ⟨b, 0, none⟩), .agg #[.int .i64 k, .int .i64 x, .int .i64 n]] w (Puts w b v (actOk k x n) (actBits l k x n)) := by
  have hk1 : Keeps [] w (w.alloc (.cells #[.int .i64 k, .int .i64 x, .int .i64 n] 28)) := keeps_of_below ((Below.refl _ _).alloc (Nat.le_refl _) _) _
  have H := Lib.hid (h.keeps hk1 (by simp) (by simp))
  have HK := Lib.hid hk1
  have H0 := Lib.hid h
  have HX := Lib.hid hx
  clear h hk1 hx
  by_cases h1 : k = 1
  · subst h1
    go_enter Try.func9, Try.ntmps9
    go_wp2_with fail
    refine (wPut_any b v l zs x n _ HX.out hl H.out).mono ?_
    rintro e w1 ⟨rfl, hw1⟩
    go_wp2
    go_ret
    exact ⟨rfl, Wrote.later HK.out hw1⟩
  · by_cases h2 : k = 2
    · subst h2
      clear h1
      go_enter Try.func9, Try.ntmps9
      go_wp2_with fail
      refine (wSigned_any b v l zs x n _ hl H.out).mono ?_
      rintro e w1 ⟨rfl, hw1⟩
      go_wp2
      go_ret
      exact ⟨rfl, Wrote.later HK.out hw1⟩
    · by_cases h3 : k = 3
      · subst h3
        clear h1 h2
        go_enter Try.func9, Try.ntmps9
        go_wp2_with fail
        refine (wZeros_any b v l zs x n _ hl H.out).mono ?_
        rintro e w1 ⟨rfl, hw1⟩
        go_wp2
        go_ret
        exact ⟨rfl, Wrote.later HK.out hw1⟩
      · have hok : actOk k x n = true := by simp [actOk, h1, h2, h3]
        by_cases h4 : k = 4
        · subst h4
          have e : actBits l 4 x n = pad l := by unfold actBits; rw [hok]; simp
          have HOK := Lib.hid hok
          have HE := Lib.hid e
          clear h1 h2 h3 hok e
          rw [HOK.out, HE.out]
          go_enter Try.func9, Try.ntmps9
          go_wp2_with fail
          refine (wAlign b v l zs _ hl H.out).mono ?_
          rintro e w1 ⟨rfl, hw1⟩
          go_wp2
          go_ret
          exact ⟨rfl, Wrote.later HK.out hw1⟩
        · have e : actBits l k x n = l := by simp [actBits, hok, h1, h2, h3, h4]
          have t1 : (k == 1) = false := beq_eq_false_iff_ne.2 h1
          have t2 : (k == 2) = false := beq_eq_false_iff_ne.2 h2
          have t3 : (k == 3) = false := beq_eq_false_iff_ne.2 h3
          have t4 : (k == 4) = false := beq_eq_false_iff_ne.2 h4
          rw [hok, e]
          clear h1 h2 h3 h4 hok e
          go_enter Try.func9, Try.ntmps9
          go_wp2
          go_ret
          exact ⟨rfl, Wrote.later HK.out (Wrote.refl H.out)⟩
end Go.Proofs.Ytanofklckifeaaa
