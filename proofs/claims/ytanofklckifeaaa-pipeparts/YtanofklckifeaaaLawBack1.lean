import Derived.Test.YtanofklckifeaaaLawBack
namespace Go.Proofs.Ytanofklckifeaaa
open Go.RowKit Go.Proofs Go.Proofs.PipeM Go.Proofs.PipeA

theorem actBits_pre (l : List Bool) (k x n : Int) : ∃ r, actBits l k x n = l ++ r := by
  unfold actBits
  split
  · exact ⟨[], by simp⟩
  · split
    · exact ⟨_, rfl⟩
    · split
      · exact ⟨_, rfl⟩
      · split
        · exact ⟨_, rfl⟩
        · split
          · exact ⟨_, rfl⟩
          · exact ⟨[], by simp⟩

theorem fold_pre (ys : List (Int × Int × Int)) : ∀ l : List Bool, ∃ r, ys.foldl (fun l t => actBits l t.1 t.2.1 t.2.2) l = l ++ r := by
  induction ys with
  | nil => intro l; exact ⟨[], by simp⟩
  | cons t ys ih =>
    intro l
    obtain ⟨r1, h1⟩ := actBits_pre l t.1 t.2.1 t.2.2
    obtain ⟨r2, h2⟩ := ih (actBits l t.1 t.2.1 t.2.2)
    refine ⟨r1 ++ r2, ?_⟩
    rw [List.foldl_cons, h2, h1, List.append_assoc]

theorem runs_pre (ys : List (Int × Int × Int)) (c : Nat) : ∃ r, runs ys = runs (ys.take c) ++ r := by
  obtain ⟨r, h⟩ := fold_pre (ys.drop c) (runs (ys.take c))
  refine ⟨r, ?_⟩
  rw [← h]
  unfold runs
  rw [← List.foldl_append, List.take_append_drop]

/-- Behind the acts' first ones the bytes hold what the next one puts. -/
theorem runs_next {ys : List (Int × Int × Int)} {zs : List Nat} (h : Packs zs (runs ys)) (c : Nat) (hc : c < ys.length) :
    ∃ r, bitsOf zs = actBits (runs (ys.take c)) ys[c].1 ys[c].2.1 ys[c].2.2 ++ r := by
  obtain ⟨r, hr⟩ := runs_pre ys (c + 1)
  rw [List.take_succ_eq_append_getElem hc, runs_snoc] at hr
  refine ⟨r ++ List.replicate ((8 - (runs ys).length % 8) % 8) false, ?_⟩
  rw [h.2, pad, hr, List.append_assoc]

theorem bitsAt_mid {zs : List Nat} {l add r : List Bool} (h : bitsOf zs = (l ++ add) ++ r) : bitsAt zs l.length add.length = add ∧ l.length + add.length ≤ 8 * zs.length := by
  have hl := congrArg List.length h
  rw [bitsOf_length] at hl
  refine ⟨?_, by simp at hl; omega⟩
  unfold bitsAt
  rw [h, List.append_assoc, List.drop_append_of_le_length (Nat.le_refl _), List.drop_length, List.nil_append, List.take_append_of_le_length (Nat.le_refl _), List.take_length]

theorem bitAt_mid {zs : List Nat} {l add r : List Bool} (h : bitsOf zs = (l ++ add) ++ r) (c : Nat) (hc : c < add.length) : bitAt zs (l.length + c) = add[c] := by
  have hm := (bitsAt_mid h).2
  have h1 := bitsOf_get zs (l.length + c) (by omega)
  rw [h, List.append_assoc, List.getElem?_append_right (by omega), Nat.add_sub_cancel_left, List.getElem?_append_left hc, List.getElem?_eq_getElem hc] at h1
  simp only [Option.some.injEq] at h1
  exact h1.symm

theorem sgn_low (x : Int) (n : Nat) (hn : 1 ≤ n) (h0 : -(2 ^ (n - 1)) ≤ x) (h1 : x < 2 ^ (n - 1)) : sgn ((x % 2 ^ n).toNat % 2 ^ n) n = x := by
  have hpc : ((2 ^ n : Nat) : Int) = (2 : Int) ^ n := by rw [Int.natCast_pow]; rfl
  have hpc1 : ((2 ^ (n - 1) : Nat) : Int) = (2 : Int) ^ (n - 1) := by rw [Int.natCast_pow]; rfl
  have hdbl : 2 ^ n = 2 * 2 ^ (n - 1) := by
    have e : n = (n - 1) + 1 := by omega
    rw [e, Nat.pow_succ]; simp; omega
  have hpos := Nat.two_pow_pos (n - 1)
  have hm : x % 2 ^ n = if x < 0 then x + 2 ^ n else x := by
    rw [← hpc]
    rw [← hpc1] at h0 h1
    generalize 2 ^ n = N at *
    generalize 2 ^ (n - 1) = M at *
    split
    · rw [← Int.add_emod_right, Int.emod_eq_of_lt (by omega) (by omega)]
    · rw [Int.emod_eq_of_lt (by omega) (by omega)]
  unfold sgn
  rw [hm, ← hpc]
  rw [← hpc1] at h0 h1
  generalize 2 ^ n = N at *
  generalize 2 ^ (n - 1) = M at *
  clear hpc hpc1 hm
  split
  · rename_i hx
    have e : (x + (N : Int)).toNat % N = (x + (N : Int)).toNat := Nat.mod_eq_of_lt (by omega)
    rw [e, if_pos (by omega)]
    omega
  · have e : x.toNat % N = x.toNat := Nat.mod_eq_of_lt (by omega)
    rw [e, if_neg (by omega)]
    omega

section
variable (R : Nat) (ao : Option Addr) (cap : Nat) (zs : List Nat) (l r : List Bool) (x n : Int) (W : World)

theorem back1 (hok : actOk 1 x n = true) (hb : bitsOf zs = actBits l 1 x n ++ r) (h : RdIs W R ao cap zs l.length 0) :
    Calls Try.prog 14 #[.pointer (some ⟨R, 0, none⟩), .int .i64 n] W fun e w' => e = .returned (.int .u64 (IntKind.u64.wrap x)) ∧ Took W R ao cap zs (actBits l 1 x n).length 0 w' := by
  have h4 : 0 ≤ n ∧ n ≤ 48 ∧ 0 ≤ x ∧ x < 2 ^ n.toNat := by simp only [actOk, if_true] at hok; exact of_decide_eq_true hok
  obtain ⟨m, rfl⟩ := Int.eq_ofNat_of_zero_le h4.1
  obtain ⟨y, rfl⟩ := Int.eq_ofNat_of_zero_le h4.2.2.1
  have e : actBits l 1 (y : Int) (m : Int) = l ++ low y m := by unfold actBits; rw [hok]; simp
  rw [e] at hb ⊢
  have hm := bitsAt_mid hb
  rw [low_length] at hm
  have hy : y < 2 ^ m := by
    have hpc : ((2 ^ m : Nat) : Int) = (2 : Int) ^ m := by rw [Int.natCast_pow]; rfl
    have := h4.2.2.2
    rw [Int.toNat_natCast, ← hpc] at this
    omega
  have hy48 : 2 ^ m ≤ 2 ^ 48 := Nat.pow_le_pow_right (by decide) (by omega)
  have hwr : IntKind.u64.wrap (y : Int) = (y : Int) := by rw [wrap_u64]; omega
  have ht := rTake R ao cap zs l.length m 0 W h (by omega) hm.2
  rw [hm.1, num_low, Nat.mod_eq_of_lt hy] at ht
  rw [hwr, List.length_append, low_length]
  exact ht

theorem back2 (hok : actOk 2 x n = true) (hb : bitsOf zs = actBits l 2 x n ++ r) (h : RdIs W R ao cap zs l.length 0) :
    Calls Try.prog 15 #[.pointer (some ⟨R, 0, none⟩), .int .i64 n] W fun e w' => e = .returned (.int .i64 x) ∧ Took W R ao cap zs (actBits l 2 x n).length 0 w' := by
  have h4 : 1 ≤ n ∧ n ≤ 48 ∧ -(2 ^ (n.toNat - 1)) ≤ x ∧ x < 2 ^ (n.toNat - 1) := by simp only [actOk] at hok; exact of_decide_eq_true hok
  obtain ⟨m, rfl⟩ := Int.eq_ofNat_of_zero_le (show 0 ≤ n by omega)
  rw [Int.toNat_natCast] at h4
  have e : actBits l 2 x (m : Int) = l ++ low (x % 2 ^ m).toNat m := by unfold actBits; rw [hok]; simp
  rw [e] at hb ⊢
  have hm := bitsAt_mid hb
  rw [low_length] at hm
  have ht := rSigned R ao cap zs l.length m 0 W h (by omega) (by omega) hm.2
  rw [hm.1, num_low, sgn_low x m (by omega) h4.2.2.1 h4.2.2.2] at ht
  rw [List.length_append, low_length]
  exact ht

theorem back3 (hok : actOk 3 x n = true) (hb : bitsOf zs = actBits l 3 x n ++ r) (h : RdIs W R ao cap zs l.length 0) :
    Calls Try.prog 16 #[.pointer (some ⟨R, 0, none⟩), .int .i64 1000] W fun e w' => e = .returned (.int .i64 n) ∧ Took W R ao cap zs (actBits l 3 x n).length 0 w' := by
  have h4 : 0 ≤ n ∧ n ≤ 1000 := by simp only [actOk] at hok; exact of_decide_eq_true hok
  obtain ⟨m, rfl⟩ := Int.eq_ofNat_of_zero_le h4.1
  have e : actBits l 3 x (m : Int) = l ++ (List.replicate m false ++ [true]) := by unfold actBits; rw [hok]; simp
  rw [e] at hb ⊢
  have hm := bitsAt_mid hb
  have hml : (List.replicate m false ++ [true]).length = m + 1 := by simp
  rw [hml] at hm
  have ht := rZeros R ao cap zs l.length m 1000 0 W h (by omega) (by omega) (by omega)
    (fun c hc => by rw [bitAt_mid hb c (by rw [hml]; omega), List.getElem_append_left (by simpa using hc)]; simp)
    (by rw [bitAt_mid hb m (by rw [hml]; omega), List.getElem_append_right (by simp)]; simp)
  rw [List.length_append, hml]
  exact ht

theorem back4 (hb : bitsOf zs = pad l ++ r) (h : RdIs W R ao cap zs l.length 0) :
    Calls Try.prog 17 #[.pointer (some ⟨R, 0, none⟩)] W fun e w' => e = .returned (.tuple #[]) ∧ Took W R ao cap zs (pad l).length 0 w' := by
  unfold pad at hb
  have ht := rAlign R ao cap zs l.length 0 W h (fun c hc => by rw [bitAt_mid hb c (by simpa using hc)]; simp)
  have e : (pad l).length = l.length + (8 - l.length % 8) % 8 := by simp [pad]
  rw [e]
  exact ht
end

theorem acts_own {w : World} {base cap : Nat} {ao : Option Addr} {ys : List (Int × Int × Int)} (h : w.ownsRow base 28 3 (.slice ao ys.length cap) ys.length (actCells ys)) : ActsAt w ao ys := by
  intro i hi
  rcases h.2 with ⟨_, h'⟩ | ⟨g, cap', cur, h', hb, hh, _⟩
  · omega
  · simp only [Value.slice.injEq, true_and] at h'
    obtain ⟨rfl, rfl⟩ := h'
    have hlt := (own_block_lt h g rfl).2
    have hg := actCells_get ys i hi
    refine ⟨g, 0, rfl, hlt, ?_, ?_, ?_⟩
    · rw [Nat.zero_add, h.cellAt _ (by omega)]; exact hg.1
    · rw [Nat.zero_add, h.cellAt _ (by omega)]; exact hg.2.1
    · rw [Nat.zero_add, h.cellAt _ (by omega)]; exact hg.2.2

theorem end_packs {zs : List Nat} {l : List Bool} (h : Packs zs l) : endOf zs l.length = 0 := by
  have hl := h.length
  unfold endOf
  rw [if_neg (by omega)]
  have hb : bitsAt zs l.length (8 * zs.length - l.length) = List.replicate ((8 - l.length % 8) % 8) false := by
    unfold bitsAt
    rw [h.2, pad, List.drop_append_of_le_length (Nat.le_refl _), List.drop_length, List.nil_append, List.take_of_length_le (by simp; omega)]
  unfold endFew
  rw [hb, if_pos ((num_zero _).2 (by intro b hb; exact List.eq_of_mem_replicate hb))]
end Go.Proofs.Ytanofklckifeaaa
