import Derived.Test.YtanofklckifeaaaActs
namespace Go.Proofs.Ytanofklckifeaaa
open Go.RowKit Go.Proofs Go.Proofs.PipeM Go.Proofs.PipeA

theorem quiet_left {P : Program} {f : FuncId} {args : Array Value} {w : World} {n : Nat} {v : Value}
    (h : Calls P f args (w.drewN n) fun e w' => e = .returned v ∧ w.drewN n = w') : Calls P f args (w.drewN n) fun e w'' => e = .returned v ∧ ∃ m, w'' = w.drewN m :=
  h.mono fun _ _ ⟨he, hm⟩ => ⟨he, n, hm.symm⟩

/-- What the document's act answers. -/
def PutOf (l : List Bool) (k x n : Int) (w : World) (e : Ending) (w' : World) : Prop :=
  e = .returned (.tuple #[.string (str (actBits l k x n)), .bool (actOk k x n)]) ∧ Below w.heap.size w w'

theorem PutOf.no {l : List Bool} {k x n : Int} {w w' : World} (h : actOk k x n = false) (hb : Below w.heap.size w w') : PutOf l k x n w (.returned (.tuple #[.string (str l), .bool false])) w' := by
  have : actBits l k x n = l := by unfold actBits; rw [h]; simp
  exact ⟨by rw [this, h], hb⟩

theorem below_box (w : World) (o : Obj) (n : Nat) : Below w.heap.size w ((w.alloc o).drewN n) := (((Below.refl _ _).alloc (Nat.le_refl _) _).trans ⟨rfl, rfl, rfl, Nat.le_refl _, fun _ _ => rfl⟩)

theorem pow_cast (m : Nat) : ((2 ^ m : Nat) : Int) = (2 : Int) ^ m := by rw [Int.natCast_pow]; rfl

set_option maxHeartbeats 1000000 in
theorem refAct1 (l : List Bool) (x n : Int) (w : World) (hl : l.length ≤ 100000) (hx : -9223372036854775808 ≤ x ∧ x ≤ 9223372036854775807) :
    Calls Try.prog 8 #[.string (str l), .agg #[.int .i64 1, .int .i64 x, .int .i64 n]] w (PutOf l 1 x n w) := by
  have hsz : (str l).size ≤ 100000 := by rw [str_size]; exact hl
  obtain ⟨s, hs⟩ : ∃ s, s = str l := ⟨_, rfl⟩
  rw [← hs] at hsz ⊢
  have HS := Lib.hid hs
  clear hs
  by_cases h1 : n < 0
  · have hno : Hid (actOk 1 x n = false) := by simp only [actOk, if_true]; exact decide_eq_false (by omega)
    have t1 : decide (n < 0) = true := decide_eq_true h1
    go_enter Try.func8, Try.ntmps8
    go_wp2
    go_quiet (fail)
    go_wp2
    go_ret2
    rw [HS.out]
    exact PutOf.no hno.out (below_box _ _ _)
  · have t1 : decide (n < 0) = false := decide_eq_false h1
    by_cases h2 : 48 < n
    · have hno : Hid (actOk 1 x n = false) := by simp only [actOk, if_true]; exact decide_eq_false (by omega)
      have t2 : decide (48 < n) = true := decide_eq_true h2
      go_enter Try.func8, Try.ntmps8
      go_wp2
      go_quiet (fail)
      go_wp2
      go_ret2
      rw [HS.out]
      exact PutOf.no hno.out (below_box _ _ _)
    · have t2 : decide (48 < n) = false := decide_eq_false h2
      by_cases h3 : x < 0
      · have hno : Hid (actOk 1 x n = false) := by simp only [actOk, if_true]; exact decide_eq_false (by omega)
        have t3 : decide (x < 0) = true := decide_eq_true h3
        go_enter Try.func8, Try.ntmps8
        go_wp2
        go_quiet (fail)
        go_wp2
        go_ret2
        rw [HS.out]
        exact PutOf.no hno.out (below_box _ _ _)
      · have t3 : decide (x < 0) = false := decide_eq_false h3
        obtain ⟨m, rfl⟩ := Int.eq_ofNat_of_zero_le (show 0 ≤ n by omega)
        obtain ⟨y, rfl⟩ := Int.eq_ofNat_of_zero_le (show 0 ≤ x by omega)
        have HP := fun W => Lib.hid (refPower m W (by omega))
        have hpc := pow_cast m
        have hq48 : 2 ^ m ≤ 2 ^ 48 := Nat.pow_le_pow_right (by decide) (by omega)
        obtain ⟨q, hq⟩ : ∃ q, q = 2 ^ m := ⟨_, rfl⟩
        rw [← hq] at HP hpc hq48
        by_cases h4 : q ≤ y
        · have hno : Hid (actOk 1 (y : Int) (m : Int) = false) := by simp only [actOk, if_true]; exact decide_eq_false (by rw [Int.toNat_natCast, ← hpc]; omega)
          have t4 : decide ((q : Int) ≤ (y : Int)) = true := decide_eq_true (by omega)
          have t4' : decide (q ≤ y) = true := decide_eq_true h4
          clear hpc hq
          go_enter Try.func8, Try.ntmps8
          go_wp2
          go_quiet ((go_at_call 25; exact quiet_left (HP _).out))
          go_wp2
          go_ret2
          rw [HS.out]
          exact PutOf.no hno.out (below_box _ _ _)
        · have hyes : Hid (actOk 1 (y : Int) (m : Int) = true) := by simp only [actOk, if_true]; exact decide_eq_true (by rw [Int.toNat_natCast, ← hpc]; omega)
          have t4 : decide ((q : Int) ≤ (y : Int)) = false := decide_eq_false (by omega)
          have t4' : decide (q ≤ y) = false := decide_eq_false h4
          have hbits : Hid (actBits l 1 (y : Int) (m : Int) = l ++ low y m) := by show _ = _; unfold actBits; rw [hyes.out]; simp
          have hsz2 : (str (low y m)).size ≤ 48 := by rw [str_size, low_length]; omega
          have HR := fun W => Lib.hid (refPut y m W (by omega) (by omega))
          obtain ⟨s2, hs2⟩ : ∃ s2, s2 = str (low y m) := ⟨_, rfl⟩
          rw [← hs2] at hsz2 HR
          have HS2 := Lib.hid hs2
          clear hpc hq hs2
          go_enter Try.func8, Try.ntmps8
          go_wp2
          go_quiet ((go_at_call 25; exact quiet_left (HP _).out))
          go_wp2_with fail
          refine (HR _).out.mono ?_
          rintro e w1 ⟨rfl, hb1⟩
          have HB1 := Lib.hid hb1
          clear hb1
          go_wp2
          go_ret2
          refine ⟨?_, (below_box _ _ _).trans (HB1.out.mono (below_box _ _ _).size)⟩
          rw [hyes.out, hbits.out, str_append, ← HS.out, ← HS2.out]
          rfl

theorem mod_pow (x : Int) (m : Nat) (h0 : -(2 ^ m) ≤ x) (h1 : x < 2 ^ m) : (x % 2 ^ m).toNat = if x < 0 then (x + 2 ^ m).toNat else x.toNat := by
  have hp := pow_cast m
  have hp2 := Nat.two_pow_pos m
  generalize (2 : Int) ^ m = P at *
  split
  · rename_i h
    have : x % P = x + P := by
      rw [← Int.add_emod_right, Int.emod_eq_of_lt (by omega) (by omega)]
    rw [this]
  · rw [Int.emod_eq_of_lt (by omega) (by omega)]

set_option maxHeartbeats 1000000 in
theorem refSigned (x : Int) (n : Nat) (w : World) (hn0 : 1 ≤ n) (hn : n ≤ 48) (h0 : -(2 ^ (n - 1)) ≤ x) (h1 : x < 2 ^ (n - 1)) :
    Calls Try.prog 27 #[.int .i64 x, .int .i64 n] w fun e w' => e = .returned (.string (str (low (x % 2 ^ n).toNat n))) ∧ Below w.heap.size w w' := by
  have hpc := pow_cast n
  have hpc1 := pow_cast (n - 1)
  have hdbl : 2 ^ n = 2 * 2 ^ (n - 1) := by
    have e : n = (n - 1) + 1 := by omega
    rw [e, Nat.pow_succ]; simp; omega
  have hq48 : 2 ^ n ≤ 2 ^ 48 := Nat.pow_le_pow_right (by decide) hn
  have hmp := mod_pow x n (by omega) (by omega)
  rw [hmp]
  have HP := fun W => Lib.hid (refPower n W (by omega))
  rw [← hpc]
  rw [← hpc1] at h0 h1
  obtain ⟨q, hq⟩ : ∃ q, q = 2 ^ n := ⟨_, rfl⟩
  obtain ⟨r, hr⟩ : ∃ r, r = 2 ^ (n - 1) := ⟨_, rfl⟩
  rw [← hq] at HP hq48 ⊢
  rw [← hr] at h0 h1
  have hq1 : q ≤ 2 * r := by omega
  have hq2 : 2 * r ≤ q := by omega
  clear hpc hpc1 hdbl hmp hq hr
  by_cases hx : x < 0
  · rw [if_pos hx]
    have e1 : x + (q : Int) = (((x + (q : Int)).toNat : Nat) : Int) := by omega
    have HE := Lib.hid e1
    have HR := fun W => Lib.hid (refPut (x + (q : Int)).toNat n W (by omega) (by omega))
    clear e1
    go_enter Try.func27, Try.ntmps27
    go_wp2_with fail
    refine (HP _).out.mono ?_
    rintro e w1 ⟨rfl, rfl⟩
    go_wp2_with fail
    rw [HE.out]
    refine (HR _).out.mono ?_
    rintro e w1 ⟨rfl, hb1⟩
    have HB1 := Lib.hid hb1
    clear hb1
    go_wp2
    go_ret
    exact ⟨rfl, HB1.out⟩
  · rw [if_neg hx]
    obtain ⟨y, rfl⟩ := Int.eq_ofNat_of_zero_le (show 0 ≤ x by omega)
    rw [Int.toNat_natCast]
    have HR := fun W => Lib.hid (refPut y n W (by omega) (by omega))
    go_enter Try.func27, Try.ntmps27
    go_wp2_with fail
    refine (HR _).out.mono ?_
    rintro e w1 ⟨rfl, hb1⟩
    have HB1 := Lib.hid hb1
    clear hb1
    go_wp2
    go_ret
    exact ⟨rfl, HB1.out⟩

set_option maxHeartbeats 1000000 in
theorem refAct2 (l : List Bool) (x n : Int) (w : World) (hl : l.length ≤ 100000) :
    Calls Try.prog 8 #[.string (str l), .agg #[.int .i64 2, .int .i64 x, .int .i64 n]] w (PutOf l 2 x n w) := by
  have hsz : (str l).size ≤ 100000 := by rw [str_size]; exact hl
  obtain ⟨s, hs⟩ : ∃ s, s = str l := ⟨_, rfl⟩
  rw [← hs] at hsz ⊢
  have HS := Lib.hid hs
  clear hs
  by_cases h1 : n < 1
  · have hno : Hid (actOk 2 x n = false) := by simp only [actOk]; exact decide_eq_false (by omega)
    have t1 : decide (n < 1) = true := decide_eq_true h1
    go_enter Try.func8, Try.ntmps8
    go_wp2
    go_quiet (fail)
    go_wp2
    go_ret2
    rw [HS.out]
    exact PutOf.no hno.out (below_box _ _ _)
  · have t1 : decide (n < 1) = false := decide_eq_false h1
    by_cases h2 : 48 < n
    · have hno : Hid (actOk 2 x n = false) := by simp only [actOk]; exact decide_eq_false (by omega)
      have t2 : decide (48 < n) = true := decide_eq_true h2
      go_enter Try.func8, Try.ntmps8
      go_wp2
      go_quiet (fail)
      go_wp2
      go_ret2
      rw [HS.out]
      exact PutOf.no hno.out (below_box _ _ _)
    · have t2 : decide (48 < n) = false := decide_eq_false h2
      obtain ⟨m, rfl⟩ : ∃ m : Nat, n = (m : Int) + 1 := ⟨(n - 1).toNat, by omega⟩
      have HP := fun W => Lib.hid (refPower m W (by omega))
      have hpc := pow_cast m
      have hq48 : 2 ^ m ≤ 2 ^ 48 := Nat.pow_le_pow_right (by decide) (by omega)
      have hnt : ((m : Int) + 1).toNat - 1 = m := by omega
      have hnt2 : ((m : Int) + 1).toNat = m + 1 := by omega
      have hokd : Hid (actOk 2 x ((m : Int) + 1) = decide (-(2 ^ m) ≤ x ∧ x < 2 ^ m)) := by
        show _ = _
        simp only [actOk, hnt]
        apply decide_eq_decide.2
        omega
      have HRS := fun W h0 h1 => Lib.hid (refSigned x (m + 1) W (by omega) (by omega) h0 h1)
      rw [Nat.add_sub_cancel] at HRS
      rw [← hpc] at hokd HRS
      have hw1 : IntKind.i64.wrap ((m : Int) + 1 - 1) = (m : Int) := by rw [IntWalk.i64_in _ (by omega)]; omega
      have hw2 : (m : Int) + 1 - 1 = (m : Int) := by omega
      obtain ⟨q, hq⟩ : ∃ q, q = 2 ^ m := ⟨_, rfl⟩
      rw [← hq] at HP hpc hq48 hokd HRS
      have hw3 : IntKind.i64.wrap (-(q : Int)) = -(q : Int) := IntWalk.i64_in _ (by omega)
      clear hpc hq
      by_cases h3 : x < -(q : Int)
      · have hno : Hid (actOk 2 x ((m : Int) + 1) = false) := by rw [hokd.out]; exact decide_eq_false (by omega)
        have t3 : decide (x < -(q : Int)) = true := decide_eq_true h3
        go_enter Try.func8, Try.ntmps8
        go_wp2
        go_quiet ((go_at_call 25; exact quiet_left (HP _).out))
        go_wp2
        go_ret2
        rw [HS.out]
        exact PutOf.no hno.out (below_box _ _ _)
      · have t3 : decide (x < -(q : Int)) = false := decide_eq_false h3
        by_cases h4 : (q : Int) ≤ x
        · have hno : Hid (actOk 2 x ((m : Int) + 1) = false) := by rw [hokd.out]; exact decide_eq_false (by omega)
          have t4 : decide ((q : Int) ≤ x) = true := decide_eq_true h4
          go_enter Try.func8, Try.ntmps8
          go_wp2
          go_quiet ((go_at_call 25; exact quiet_left (HP _).out))
          go_wp2
          go_ret2
          rw [HS.out]
          exact PutOf.no hno.out (below_box _ _ _)
        · have t4 : decide ((q : Int) ≤ x) = false := decide_eq_false h4
          have hyes : Hid (actOk 2 x ((m : Int) + 1) = true) := by rw [hokd.out]; exact decide_eq_true (by omega)
          have hbits : Hid (actBits l 2 x ((m : Int) + 1) = l ++ low (x % 2 ^ (m + 1)).toNat (m + 1)) := by
            show _ = _; unfold actBits; rw [hyes.out, hnt2]; simp
          have HR := fun W => HRS W (by omega) (by omega)
          have hsz2 : (str (low (x % 2 ^ (m + 1)).toNat (m + 1))).size ≤ 49 := by rw [str_size, low_length]; omega
          obtain ⟨s2, hs2⟩ : ∃ s2, s2 = str (low (x % 2 ^ (m + 1)).toNat (m + 1)) := ⟨_, rfl⟩
          rw [← hs2] at hsz2 HR
          have HS2 := Lib.hid hs2
          clear hs2 hnt hnt2
          go_enter Try.func8, Try.ntmps8
          go_wp2
          go_quiet ((go_at_call 25; exact quiet_left (HP _).out))
          go_wp2_with fail
          refine (HR _).out.mono ?_
          rintro e w1 ⟨rfl, hb1⟩
          have HB1 := Lib.hid hb1
          clear hb1
          go_wp2
          go_ret2
          refine ⟨?_, (below_box _ _ _).trans (HB1.out.mono (below_box _ _ _).size)⟩
          rw [hyes.out, hbits.out, str_append, ← HS.out, ← HS2.out]
          rfl

set_option maxHeartbeats 1000000 in
theorem refAct3 (l : List Bool) (x n : Int) (w : World) (hl : l.length ≤ 100000) :
    Calls Try.prog 8 #[.string (str l), .agg #[.int .i64 3, .int .i64 x, .int .i64 n]] w (PutOf l 3 x n w) := by
  have hsz : (str l).size ≤ 100000 := by rw [str_size]; exact hl
  obtain ⟨s, hs⟩ : ∃ s, s = str l := ⟨_, rfl⟩
  rw [← hs] at hsz ⊢
  have HS := Lib.hid hs
  clear hs
  by_cases h1 : n < 0
  · have hno : Hid (actOk 3 x n = false) := by simp only [actOk]; exact decide_eq_false (by omega)
    have t1 : decide (n < 0) = true := decide_eq_true h1
    go_enter Try.func8, Try.ntmps8
    go_wp2
    go_ret2
    rw [HS.out]
    exact PutOf.no hno.out (below_box _ _ 0)
  · have t1 : decide (n < 0) = false := decide_eq_false h1
    by_cases h2 : 1000 < n
    · have hno : Hid (actOk 3 x n = false) := by simp only [actOk]; exact decide_eq_false (by omega)
      have t2 : decide (1000 < n) = true := decide_eq_true h2
      go_enter Try.func8, Try.ntmps8
      go_wp2
      go_ret2
      rw [HS.out]
      exact PutOf.no hno.out (below_box _ _ 0)
    · have t2 : decide (1000 < n) = false := decide_eq_false h2
      obtain ⟨m, rfl⟩ := Int.eq_ofNat_of_zero_le (show 0 ≤ n by omega)
      have hyes : Hid (actOk 3 x (m : Int) = true) := by simp only [actOk]; exact decide_eq_true (by omega)
      have hbits : Hid (actBits l 3 x (m : Int) = l ++ (List.replicate m false ++ [true])) := by show _ = _; unfold actBits; rw [hyes.out]; simp
      have HR := fun W => Lib.hid (refZeros m W (by omega))
      have hsz2 : (str (List.replicate m false ++ [true])).size ≤ 1001 := by rw [str_size]; simp; omega
      obtain ⟨s2, hs2⟩ : ∃ s2, s2 = str (List.replicate m false ++ [true]) := ⟨_, rfl⟩
      rw [← hs2] at hsz2 HR
      have HS2 := Lib.hid hs2
      clear hs2
      go_enter Try.func8, Try.ntmps8
      go_wp2_with fail
      refine (HR _).out.mono ?_
      rintro e w1 ⟨rfl, rfl⟩
      go_wp2
      go_ret2
      refine ⟨?_, below_box _ _ 0⟩
      rw [hyes.out, hbits.out, str_append, ← HS.out, ← HS2.out]
      rfl

set_option maxHeartbeats 1000000 in
theorem refAct (l : List Bool) (k x n : Int) (w : World) (hl : l.length ≤ 100000) (hx : -9223372036854775808 ≤ x ∧ x ≤ 9223372036854775807) :
    Calls Try.prog 8 #[.string (str l), .agg #[.int .i64 k, .int .i64 x, .int .i64 n]] w (PutOf l k x n w) := by
  by_cases h1 : k = 1
  · subst h1; exact refAct1 l x n w hl hx
  · by_cases h2 : k = 2
    · subst h2; exact refAct2 l x n w hl
    · by_cases h3 : k = 3
      · subst h3; exact refAct3 l x n w hl
      · have hok : actOk k x n = true := by simp [actOk, h1, h2, h3]
        have hsz : (str l).size ≤ 100000 := by rw [str_size]; exact hl
        have HR := fun W => Lib.hid (refAlign l W (by omega))
        obtain ⟨s, hs⟩ : ∃ s, s = str l := ⟨_, rfl⟩
        rw [← hs] at hsz HR ⊢
        have HS := Lib.hid hs
        clear hs
        by_cases h4 : k = 4
        · subst h4
          have e : Hid (actBits l 4 x n = pad l) := by show _ = _; unfold actBits; rw [hok]; simp
          have HOK := Lib.hid hok
          clear h1 h2 h3 hok
          go_enter Try.func8, Try.ntmps8
          go_wp2_with fail
          refine (HR _).out.mono ?_
          rintro e1 w1 ⟨rfl, rfl⟩
          go_wp2
          go_ret2
          refine ⟨?_, below_box _ _ 0⟩
          rw [HOK.out, e.out]
          rfl
        · have e : Hid (actBits l k x n = l) := by show _ = _; simp [actBits, hok, h1, h2, h3, h4]
          have HOK := Lib.hid hok
          have t1 : (k == 1) = false := beq_eq_false_iff_ne.2 h1
          have t2 : (k == 2) = false := beq_eq_false_iff_ne.2 h2
          have t3 : (k == 3) = false := beq_eq_false_iff_ne.2 h3
          have t4 : (k == 4) = false := beq_eq_false_iff_ne.2 h4
          clear h1 h2 h3 h4 hok
          go_enter Try.func8, Try.ntmps8
          go_wp2
          go_ret2
          refine ⟨?_, below_box _ _ 0⟩
          rw [HOK.out, e.out, ← HS.out]
          rfl
end Go.Proofs.Ytanofklckifeaaa
