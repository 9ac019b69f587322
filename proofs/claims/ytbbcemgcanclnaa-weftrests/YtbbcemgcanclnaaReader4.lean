import Derived.Test.YtbbcemgcanclnaaReader3
namespace Go.Proofs.Ytbbcemgcanclnaa
open Go.RowKit Go.Proofs Go.Proofs.PipeM Go.Proofs.PipeA

theorem takeV_lt (s : RS) (n : Int) : s.takeV n < 281474976710656 := by
  unfold RS.takeV
  split
  · refine Nat.lt_of_lt_of_le (num_lt _) ?_
    have h : (s.bits.take n.toNat).length ≤ 48 := by rw [List.length_take]; omega
    exact Nat.le_trans (Nat.pow_le_pow_right (by decide) h) (by decide)
  · omega

/-- The next bit. -/
theorem aNext (b : Nat) (ao : Option Addr) (s : RS) (c : Bool) (r : List Bool) (w : World) (h : RdA w b ao s) (hb : s.bits = c :: r) :
    Calls Try.prog 50 #[.pointer (some ⟨b, 0, none⟩)] w fun e w' => e = .returned (.int .u8 ((c.toNat : Nat) : Int)) ∧ Reads w b ao ⟨r, s.err⟩ w' := by
  obtain ⟨ao', cap, zs, p, h1, h2, h3, h4⟩ := h
  have e : s.bits.length = 8 * zs.length - p := by rw [h2]; simp [bitsOf_length]
  have hl : 0 < s.bits.length := by rw [hb]; simp
  have hg := bitsOf_get zs p (by omega)
  have hc : c = (zs.getD (p / 8) 0).testBit (7 - p % 8) := by
    have h5 : s.bits[0]? = (bitsOf zs)[p]? := by rw [h2, List.getElem?_drop, Nat.add_zero]
    rw [hb, hg] at h5
    simpa using h5
  have hr : r = (bitsOf zs).drop (p + 1) := by
    have h5 : s.bits.drop 1 = (bitsOf zs).drop (p + 1) := by rw [h2, List.drop_drop]
    rw [hb] at h5
    simpa using h5
  refine (rNext b ao' cap zs p s.err w h1 (by omega)).mono ?_
  rintro e w1 ⟨rfl, ht⟩
  exact ⟨by rw [hc], reads_took (s := ⟨r, s.err⟩) ht hr h3 h4⟩

def RS.signedV (s : RS) (n : Int) : Int := if n < 1 ∨ 48 < n then 0 else sgn (s.takeV n) n.toNat
def RS.signedS (s : RS) (n : Int) : RS := if n < 1 ∨ 48 < n then s.give 1 else s.takeS n

set_option maxHeartbeats 800000 in
theorem aSigned (b : Nat) (ao : Option Addr) (s : RS) (n : Int) (w : World) (h : RdA w b ao s) :
    Calls Try.prog 44 #[.pointer (some ⟨b, 0, none⟩), .int .i64 n] w fun r w' => r = .returned (.int .i64 (s.signedV n)) ∧ Reads w b ao (s.signedS n) w' := by
  by_cases hr : n < 1 ∨ 48 < n
  · have HV : Hid (s.signedV n = 0) := by show _ = _; unfold RS.signedV; rw [if_pos hr]
    have HS : Hid (s.signedS n = s.give 1) := by show _ = _; unfold RS.signedS; rw [if_pos hr]
    have HG := Lib.hid (aGive b ao s 1 w h)
    have t : decide (n < 1) = true ∨ (decide (n < 1) = false ∧ decide (48 < n) = true) := by
      by_cases hn : n < 1
      · exact Or.inl (decide_eq_true hn)
      · exact Or.inr ⟨decide_eq_false hn, decide_eq_true (by omega)⟩
    clear hr h
    rcases t with t1 | ⟨t1, t2⟩
    all_goals
      go_enter Try.func44, Try.ntmps44
      go_wp2_with fail
      refine HG.out.mono ?_
      rintro e w1 ⟨rfl, hw1⟩
      have HW1 := Lib.hid hw1
      clear hw1
      go_wp2
      go_ret
      exact ⟨by rw [HV.out]; rfl, by rw [HS.out]; exact HW1.out⟩
  · have HV0 : Hid (s.signedV n = sgn (s.takeV n) n.toNat) := by show _ = _; unfold RS.signedV; rw [if_neg hr]
    have HS : Hid (s.signedS n = s.takeS n) := by show _ = _; unfold RS.signedS; rw [if_neg hr]
    have HT := Lib.hid (aTake b ao s n w h)
    have hv := takeV_lt s n
    obtain ⟨m, rfl⟩ := Int.eq_ofNat_of_zero_le (show 0 ≤ n by omega)
    rw [Int.toNat_natCast] at HV0
    have hn : m ≤ 48 := by omega
    have t1 : decide ((m : Int) < 1) = false := decide_eq_false (by omega)
    have t2 : decide ((48 : Int) < (m : Int)) = false := decide_eq_false (by omega)
    have hb1 := half_bound m hn
    have hq48 : 2 ^ m ≤ 2 ^ 48 := Nat.pow_le_pow_right (by decide) hn
    have hpc : ((2 ^ m : Nat) : Int) = (2 : Int) ^ m := by rw [Int.natCast_pow]; rfl
    have hpc1 : ((2 ^ (m - 1) : Nat) : Int) = (2 : Int) ^ (m - 1) := by rw [Int.natCast_pow]; rfl
    obtain ⟨v, hvv⟩ : ∃ v, v = s.takeV (m : Int) := ⟨_, rfl⟩
    rw [← hvv] at HT hv HV0
    have hm1 : 1 ≤ m := by omega
    clear h hvv hr
    obtain ⟨hf, hhf⟩ : ∃ hf, hf = (2 : Int) ^ (m - 1) := ⟨_, rfl⟩
    obtain ⟨fl, hfl⟩ : ∃ fl, fl = (2 : Int) ^ m := ⟨_, rfl⟩
    rw [← hhf] at hb1 hpc1
    rw [← hfl] at hpc
    have hfl2 : 0 ≤ fl ∧ fl ≤ 281474976710656 := by
      obtain ⟨N, hN⟩ : ∃ N, N = 2 ^ m := ⟨_, rfl⟩
      rw [← hN] at hpc hq48
      clear hfl hN
      omega
    have hhv : hf ≤ (v : Int) ↔ 2 ^ (m - 1) ≤ v := by
      obtain ⟨N, hN⟩ : ∃ N, N = 2 ^ (m - 1) := ⟨_, rfl⟩
      rw [← hN] at hpc1 ⊢
      clear hhf hN
      omega
    have hw : wrap64 (2 ^ (m - 1)) = hf := by rw [← hhf]; exact IntWalk.wrap64_in _ ⟨by omega, by omega⟩
    have hw2 : wrap64 (2 ^ m) = fl := by rw [← hfl]; exact IntWalk.wrap64_in _ ⟨by omega, by omega⟩
    by_cases hc : hf ≤ (v : Int)
    · have HV : Hid (s.signedV (m : Int) = (v : Int) - fl) := by rw [HV0.out]; show _ = _; unfold sgn; rw [if_pos (hhv.1 hc), hfl]
      clear hhf hfl hpc hpc1 hq48 hhv
      go_enter Try.func44, Try.ntmps44
      go_wp2_with fail
      refine HT.out.mono ?_
      rintro e w1 ⟨rfl, ht⟩
      have HT2 := Lib.hid ht
      clear ht
      go_wp2
      go_ret
      exact ⟨by rw [HV.out]; rfl, by rw [HS.out]; exact HT2.out⟩
    · have HV : Hid (s.signedV (m : Int) = (v : Int)) := by rw [HV0.out]; show _ = _; unfold sgn; rw [if_neg (fun h => hc (hhv.2 h))]
      clear hhf hfl hpc hpc1 hq48 hhv
      go_enter Try.func44, Try.ntmps44
      go_wp2_with fail
      refine HT.out.mono ?_
      rintro e w1 ⟨rfl, ht⟩
      have HT2 := Lib.hid ht
      clear ht
      go_wp2
      go_ret
      exact ⟨by rw [HV.out]; rfl, by rw [HS.out]; exact HT2.out⟩

/-- Zeros: how many, and what is left. -/
def zgo (most err : Int) : List Bool → Nat → Nat × RS
  | [], _ => (0, RS.give ⟨[], err⟩ 3)
  | true :: r, c => (c, ⟨r, err⟩)
  | false :: r, c => if most ≤ c then (0, RS.give ⟨r, err⟩ 1) else zgo most err r (c + 1)

end Go.Proofs.Ytbbcemgcanclnaa
