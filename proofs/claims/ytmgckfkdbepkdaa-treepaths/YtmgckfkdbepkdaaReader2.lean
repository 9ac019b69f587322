import Derived.Test.YtmgckfkdbepkdaaReader
namespace Go.Proofs.Ytmgckfkdbepkdaa
open Go.RowKit Go.Proofs Go.Proofs.PipeM Go.Proofs.PipeA

/-- Bit q of bytes. -/
def bitAt (zs : List Nat) (q : Nat) : Bool := (zs.getD (q / 8) 0).testBit (7 - q % 8)

/-- A number of n bits in two's complement. -/
def sgn (v n : Nat) : Int := if 2 ^ (n - 1) ≤ v then (v : Int) - 2 ^ n else v

set_option maxHeartbeats 800000 in
theorem rAlign (b : Nat) (ao : Option Addr) (cap : Nat) (zs : List Nat) (p : Nat) (err : Int) (w : World) (h : RdIs w b ao cap zs p err)
    (h0 : ∀ c, c < (8 - p % 8) % 8 → bitAt zs (p + c) = false) :
    Calls Try.prog 23 #[.pointer (some ⟨b, 0, none⟩)] w fun e w' => e = .returned (.tuple #[]) ∧ Took w b ao cap zs (p + (8 - p % 8) % 8) err w' := by
  have H := Lib.hid h
  have H0 := Lib.hid h0
  have hle := h.le
  have hlen := h.len
  have HLE := Lib.hid hle
  clear h h0
  go_enter Try.func23, Try.ntmps23
  go_wp2
  go_loopg [] 8 (fun gk wr => ∃ c : Nat, c ≤ (8 - p % 8) % 8 ∧ Hid (gk + c = 8) ∧ Hid (Took w b ao cap zs (p + c) err wr))
  case atStart => exact ⟨0, Nat.zero_le _, rfl, ⟨H.out, Keeps.refl _ _⟩⟩
  case round =>
    obtain ⟨c, hc, HGK, HT⟩ := hrel
    have h1 := HT.out.1.c1
    obtain ⟨q, hq⟩ : ∃ q, q = p + c := ⟨_, rfl⟩
    rw [← hq] at h1
    by_cases hlt : c < (8 - p % 8) % 8
    · have hne : ((q : Int) % 8 != 0) = true := by rw [bne_iff_ne]; omega
      have hqb : q ≤ 800000000 := by omega
      have HQ := Lib.hid hq
      have hql : Hid (q < 8 * zs.length) := by show _ < _; omega
      clear hq
      go_wp2_with fail
      rw [← HQ.out] at HT
      refine (rNext b ao cap zs q err wr HT.out.1 hql.out).mono ?_
      rintro e w2 ⟨rfl, ht2⟩
      have HT2 : Hid (Took w b ao cap zs (q + 1) err w2) := ⟨ht2.1, HT.out.2.trans ht2.2⟩
      have hbit : (zs.getD (q / 8) 0).testBit (7 - q % 8) = false := by rw [HQ.out]; exact H0.out c hlt
      rw [hbit]
      clear hbit ht2
      go_wp2
      go_roundg (gk - 1)
      case rel => exact ⟨c + 1, by omega, by have := HGK.out; show _ = _; omega, by have := HT2.out; rw [HQ.out] at this; exact this⟩
      case measure => have := HGK.out; omega
    · obtain rfl : c = (8 - p % 8) % 8 := by omega
      have hne : ((q : Int) % 8 != 0) = false := by rw [bne_eq_false_iff_eq]; omega
      have hqb : q ≤ 800000000 := by omega
      clear hq
      go_wp2
      go_end0
      exact ⟨rfl, HT.out⟩
end Go.Proofs.Ytmgckfkdbepkdaa
