import Derived.Test.YtbbcemgcanclnaaReader
namespace Go.Proofs.Ytbbcemgcanclnaa
open Go.RowKit Go.Proofs Go.Proofs.PipeM Go.Proofs.PipeA

/-- Bit q of bytes. -/
def bitAt (zs : List Nat) (q : Nat) : Bool := (zs.getD (q / 8) 0).testBit (7 - q % 8)

/-- A number of n bits in two's complement. -/
def sgn (v n : Nat) : Int := if 2 ^ (n - 1) ≤ v then (v : Int) - 2 ^ n else v

set_option maxHeartbeats 800000 in
theorem rSigned (b : Nat) (ao : Option Addr) (cap : Nat) (zs : List Nat) (p n : Nat) (err : Int) (w : World) (h : RdIs w b ao cap zs p err) (hn0 : 1 ≤ n) (hn : n ≤ 48) (hp : p + n ≤ 8 * zs.length) :
    Calls Try.prog 44 #[.pointer (some ⟨b, 0, none⟩), .int .i64 n] w fun e w' => e = .returned (.int .i64 (sgn (num (bitsAt zs p n)) n)) ∧ Took w b ao cap zs (p + n) err w' := by
  have t1 : decide ((n : Int) < 1) = false := decide_eq_false (by omega)
  have t2 : decide ((48 : Int) < (n : Int)) = false := decide_eq_false (by omega)
  have HT := Lib.hid (rTake b ao cap zs p n err w h hn hp)
  have hv := num_bitsAt_lt zs p n hn
  have hb1 := half_bound n hn
  have hq48 : 2 ^ n ≤ 2 ^ 48 := Nat.pow_le_pow_right (by decide) hn
  have hpc : ((2 ^ n : Nat) : Int) = (2 : Int) ^ n := by rw [Int.natCast_pow]; rfl
  have hpc1 : ((2 ^ (n - 1) : Nat) : Int) = (2 : Int) ^ (n - 1) := by rw [Int.natCast_pow]; rfl
  obtain ⟨v, hvv⟩ : ∃ v, v = num (bitsAt zs p n) := ⟨_, rfl⟩
  rw [← hvv] at HT hv ⊢
  clear h hp hvv
  obtain ⟨hf, hhf⟩ : ∃ hf, hf = (2 : Int) ^ (n - 1) := ⟨_, rfl⟩
  obtain ⟨fl, hfl⟩ : ∃ fl, fl = (2 : Int) ^ n := ⟨_, rfl⟩
  rw [← hhf] at hb1 hpc1
  rw [← hfl] at hpc
  have hfl2 : 0 ≤ fl ∧ fl ≤ 281474976710656 := by
    obtain ⟨N, hN⟩ : ∃ N, N = 2 ^ n := ⟨_, rfl⟩
    rw [← hN] at hpc hq48
    clear hfl hN
    omega
  have hhv : ∀ v : Nat, hf ≤ (v : Int) ↔ 2 ^ (n - 1) ≤ v := by
    intro v
    obtain ⟨N, hN⟩ : ∃ N, N = 2 ^ (n - 1) := ⟨_, rfl⟩
    rw [← hN] at hpc1 ⊢
    clear hhf hN
    omega
  have hw : wrap64 (2 ^ (n - 1)) = hf := by rw [← hhf]; exact IntWalk.wrap64_in _ ⟨by omega, by omega⟩
  have hw2 : wrap64 (2 ^ n) = fl := by rw [← hfl]; exact IntWalk.wrap64_in _ ⟨by omega, by omega⟩
  by_cases hc : hf ≤ (v : Int)
  · have HS : Hid (sgn v n = (v : Int) - fl) := by show _ = _; unfold sgn; rw [if_pos ((hhv v).1 hc), hfl]
    clear hhf hfl hpc hpc1 hq48 hhv
    go_enter Try.func44, Try.ntmps44
    go_wp2_with fail
    refine HT.out.mono ?_
    rintro e w1 ⟨rfl, ht⟩
    have HT2 := Lib.hid ht
    clear ht
    go_wp2
    go_ret
    exact ⟨by rw [HS.out]; rfl, HT2.out⟩
  · have HS : Hid (sgn v n = (v : Int)) := by show _ = _; unfold sgn; rw [if_neg (fun h => hc ((hhv v).2 h))]
    clear hhf hfl hpc hpc1 hq48 hhv
    go_enter Try.func44, Try.ntmps44
    go_wp2_with fail
    refine HT.out.mono ?_
    rintro e w1 ⟨rfl, ht⟩
    have HT2 := Lib.hid ht
    clear ht
    go_wp2
    go_ret
    exact ⟨by rw [HS.out]; rfl, HT2.out⟩

end Go.Proofs.Ytbbcemgcanclnaa
