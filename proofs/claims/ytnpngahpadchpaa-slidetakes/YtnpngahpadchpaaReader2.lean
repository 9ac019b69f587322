import Derived.Test.YtnpngahpadchpaaReader
namespace Go.Proofs.Ytnpngahpadchpaa
open Go.RowKit Go.Proofs Go.Proofs.PipeM Go.Proofs.PipeA

/-- Bit q of bytes. -/
def bitAt (zs : List Nat) (q : Nat) : Bool := (zs.getD (q / 8) 0).testBit (7 - q % 8)

/-- A number of n bits in two's complement. -/
def sgn (v n : Nat) : Int := if 2 ^ (n - 1) ≤ v then (v : Int) - 2 ^ n else v

set_option maxHeartbeats 800000 in
theorem rZeros (b : Nat) (ao : Option Addr) (cap : Nat) (zs : List Nat) (p k most : Nat) (err : Int) (w : World) (h : RdIs w b ao cap zs p err) (hp : p + k < 8 * zs.length) (hk : k ≤ most) (hm : most ≤ 1000000)
    (h0 : ∀ c, c < k → bitAt zs (p + c) = false) (h1 : bitAt zs (p + k) = true) :
    Calls Try.prog 78 #[.pointer (some ⟨b, 0, none⟩), .int .i64 most] w fun e w' => e = .returned (.int .i64 k) ∧ Took w b ao cap zs (p + k + 1) err w' := by
  have H := Lib.hid h
  have HP := Lib.hid hp
  have H0 := Lib.hid h0
  have H1 := Lib.hid h1
  clear h hp h0 h1
  go_enter Try.func78, Try.ntmps78
  go_wp2
  go_loopg [5] k (fun gk z wr => ∃ c : Nat, c ≤ k ∧ gk + c = k ∧ z = .int .i64 c ∧ Hid (Took w b ao cap zs (p + c) err wr))
  case atStart => exact ⟨0, Nat.zero_le _, by omega, rfl, ⟨H.out, Keeps.refl _ _⟩⟩
  case round =>
    obtain ⟨c, hc, hgk, rfl, HT⟩ := hrel
    have HGK := Lib.hid hgk
    clear hgk
    go_wp2_with fail
    refine (rLeft b ao cap zs (p + c) err wr HT.out.1).mono ?_
    rintro e w1 ⟨rfl, hm1⟩
    have H2 : Hid (RdIs w1 b ao cap zs (p + c) err) := by obtain ⟨m, rfl⟩ := hm1; exact HT.out.1.drewN m
    have K2 : Hid (Keeps [b] w w1) := by obtain ⟨m, rfl⟩ := hm1; exact HT.out.2.trans (keeps_drewN wr m _)
    clear hm1
    have hpos : (0 : Int) < ((8 * zs.length - (p + c) : Nat) : Int) := by have := HP.out; omega
    obtain ⟨x, hx⟩ : ∃ x : Int, x = ((8 * zs.length - (p + c) : Nat) : Int) := ⟨_, rfl⟩
    rw [← hx] at hpos ⊢
    clear hx
    go_wp2_with fail
    refine (rNext b ao cap zs (p + c) err w1 H2.out (by have := HP.out; omega)).mono ?_
    rintro e w2 ⟨rfl, ht2⟩
    have HT2 : Hid (Took w b ao cap zs (p + c + 1) err w2) := ⟨ht2.1, K2.out.trans ht2.2⟩
    clear ht2
    by_cases hlt : c < k
    · have hbit : (zs.getD ((p + c) / 8) 0).testBit (7 - (p + c) % 8) = false := H0.out c hlt
      rw [hbit]
      clear hbit
      go_wp2
      go_roundg (gk - 1)
      case rel => exact ⟨c + 1, by omega, by have := HGK.out; omega, by go_num, HT2⟩
      case measure => have := HGK.out; omega
    · obtain rfl : c = k := by omega
      have hbit : (zs.getD ((p + c) / 8) 0).testBit (7 - (p + c) % 8) = true := H1.out
      rw [hbit]
      clear hbit
      go_wp2
      go_ret
      exact ⟨rfl, HT2.out⟩

set_option maxHeartbeats 800000 in
theorem rAlign (b : Nat) (ao : Option Addr) (cap : Nat) (zs : List Nat) (p : Nat) (err : Int) (w : World) (h : RdIs w b ao cap zs p err)
    (h0 : ∀ c, c < (8 - p % 8) % 8 → bitAt zs (p + c) = false) :
    Calls Try.prog 33 #[.pointer (some ⟨b, 0, none⟩)] w fun e w' => e = .returned (.tuple #[]) ∧ Took w b ao cap zs (p + (8 - p % 8) % 8) err w' := by
  have H := Lib.hid h
  have H0 := Lib.hid h0
  have hle := h.le
  have hlen := h.len
  have HLE := Lib.hid hle
  clear h h0
  go_enter Try.func33, Try.ntmps33
  go_wp2
  go_loopg [] 8 (fun gk wr => ∃ c : Nat, c ≤ (8 - p % 8) % 8 ∧ Hid (gk + c = 8) ∧ Hid (Took w b ao cap zs (p + c) err wr))
  case atStart => exact ⟨0, Nat.zero_le _, rfl, ⟨H.out, Keeps.refl _ _⟩⟩
  case round =>
    obtain ⟨c, hc, HGK, HT⟩ := hrel
    have h1 := HT.out.1.c1
    obtain ⟨q, hq⟩ : ∃ q, q = p + c := ⟨_, rfl⟩
    rw [← hq] at h1
    by_cases hlt : c < (8 - p % 8) % 8
    · have hne : ((q : Int) % 8 != 0) = true := by rw [bne_iff_ne]; omega
      have hqb : q ≤ 800000000 := by omega
      have HQ := Lib.hid hq
      have hql : Hid (q < 8 * zs.length) := by show _ < _; omega
      clear hq
      go_wp2_with fail
      rw [← HQ.out] at HT
      refine (rNext b ao cap zs q err wr HT.out.1 hql.out).mono ?_
      rintro e w2 ⟨rfl, ht2⟩
      have HT2 : Hid (Took w b ao cap zs (q + 1) err w2) := ⟨ht2.1, HT.out.2.trans ht2.2⟩
      have hbit : (zs.getD (q / 8) 0).testBit (7 - q % 8) = false := by rw [HQ.out]; exact H0.out c hlt
      rw [hbit]
      clear hbit ht2
      go_wp2
      go_roundg (gk - 1)
      case rel => exact ⟨c + 1, by omega, by have := HGK.out; show _ = _; omega, by have := HT2.out; rw [HQ.out] at this; exact this⟩
      case measure => have := HGK.out; omega
    · obtain rfl : c = (8 - p % 8) % 8 := by omega
      have hne : ((q : Int) % 8 != 0) = false := by rw [bne_eq_false_iff_eq]; omega
      have hqb : q ≤ 800000000 := by omega
      clear hq
      go_wp2
      go_end0
      exact ⟨rfl, HT.out⟩
end Go.Proofs.Ytnpngahpadchpaa
