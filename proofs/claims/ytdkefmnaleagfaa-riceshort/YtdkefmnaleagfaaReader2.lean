import Derived.Test.YtdkefmnaleagfaaReader
namespace Go.Proofs.Ytdkefmnaleagfaa
open Go.RowKit Go.Proofs Go.Proofs.PipeM Go.Proofs.PipeA

/-- Bit q of bytes. -/
def bitAt (zs : List Nat) (q : Nat) : Bool := (zs.getD (q / 8) 0).testBit (7 - q % 8)

/-- A number of n bits in two's complement. -/
def sgn (v n : Nat) : Int := if 2 ^ (n - 1) ≤ v then (v : Int) - 2 ^ n else v

set_option maxHeartbeats 800000 in
theorem rZeros (b : Nat) (ao : Option Addr) (cap : Nat) (zs : List Nat) (p k most : Nat) (err : Int) (w : World) (h : RdIs w b ao cap zs p err) (hp : p + k < 8 * zs.length) (hk : k ≤ most) (hm : most ≤ 1000000)
    (h0 : ∀ c, c < k → bitAt zs (p + c) = false) (h1 : bitAt zs (p + k) = true) :
    Calls Try.prog 52 #[.pointer (some ⟨b, 0, none⟩), .int .i64 most] w fun e w' => e = .returned (.int .i64 k) ∧ Took w b ao cap zs (p + k + 1) err w' := by
  have H := Lib.hid h
  have HP := Lib.hid hp
  have H0 := Lib.hid h0
  have H1 := Lib.hid h1
  clear h hp h0 h1
  go_enter Try.func52, Try.ntmps52
  go_wp2
  go_loopg [5] k (fun gk z wr => ∃ c : Nat, c ≤ k ∧ gk + c = k ∧ z = .int .i64 c ∧ Hid (Took w b ao cap zs (p + c) err wr))
  case atStart => exact ⟨0, Nat.zero_le _, by omega, rfl, ⟨H.out, Keeps.refl _ _⟩⟩
  case round =>
    obtain ⟨c, hc, hgk, rfl, HT⟩ := hrel
    have HGK := Lib.hid hgk
    clear hgk
    go_wp2_with fail
    refine (rLeft b ao cap zs (p + c) err wr HT.out.1).mono ?_
    rintro e w1 ⟨rfl, hm1⟩
    have H2 : Hid (RdIs w1 b ao cap zs (p + c) err) := by obtain ⟨m, rfl⟩ := hm1; exact HT.out.1.drewN m
    have K2 : Hid (Keeps [b] w w1) := by obtain ⟨m, rfl⟩ := hm1; exact HT.out.2.trans (keeps_drewN wr m _)
    clear hm1
    have hpos : (0 : Int) < ((8 * zs.length - (p + c) : Nat) : Int) := by have := HP.out; omega
    obtain ⟨x, hx⟩ : ∃ x : Int, x = ((8 * zs.length - (p + c) : Nat) : Int) := ⟨_, rfl⟩
    rw [← hx] at hpos ⊢
    clear hx
    go_wp2_with fail
    refine (rNext b ao cap zs (p + c) err w1 H2.out (by have := HP.out; omega)).mono ?_
    rintro e w2 ⟨rfl, ht2⟩
    have HT2 : Hid (Took w b ao cap zs (p + c + 1) err w2) := ⟨ht2.1, K2.out.trans ht2.2⟩
    clear ht2
    by_cases hlt : c < k
    · have hbit : (zs.getD ((p + c) / 8) 0).testBit (7 - (p + c) % 8) = false := H0.out c hlt
      rw [hbit]
      clear hbit
      go_wp2
      go_roundg (gk - 1)
      case rel => exact ⟨c + 1, by omega, by have := HGK.out; omega, by go_num, HT2⟩
      case measure => have := HGK.out; omega
    · obtain rfl : c = k := by omega
      have hbit : (zs.getD ((p + c) / 8) 0).testBit (7 - (p + c) % 8) = true := H1.out
      rw [hbit]
      clear hbit
      go_wp2
      go_ret
      exact ⟨rfl, HT2.out⟩

end Go.Proofs.Ytdkefmnaleagfaa
