import Derived.Test.YtfnbhpjekjjpaaaDoorTollC1
namespace Go.Proofs.YtfnbhpjekjjpaaaDoor
open Go.RowKit Go.Proofs Go.Proofs.TollM
set_option maxRecDepth 100000

theorem bit_xor (s : Nat) (b : Bool) : S (s ^^^ b.toNat) = s / 2 ^^^ (if (s % 2 = 1) ↔ ¬ (b = true) then PL else 0) := by
  rw [S_xor]
  cases b
  · simp [S]
  · have h1 : S true.toNat = PL := by decide
    rw [h1]
    unfold S
    rcases (by omega : s % 2 = 0 ∨ s % 2 = 1) with h | h <;> simp [h, Nat.xor_assoc]

set_option maxHeartbeats 400000 in
theorem refBit (s : Nat) (b : Bool) (w : World) (hs : s < 4294967296) :
    Calls Tryd.prog 18 #[.int .u32 s, .bool b] w fun e w' => e = .returned (.int .u32 ((S (s ^^^ b.toNat) : Nat) : Int)) ∧ w' = w := by
  have hb := bit_xor s b
  have hx : bits .xor .u32 ((s / 2 : Nat) : Int) 3988292384 = ((s / 2 ^^^ PL : Nat) : Int) := u32_xor_nat (s / 2) PL (by omega) (by decide)
  obtain ⟨q, hq⟩ : ∃ q, q = s / 2 := ⟨_, rfl⟩
  have hq2 : (s : Int) / 2 = (q : Int) := by omega
  rw [← hq] at hx hb
  rcases (by omega : s % 2 = 0 ∨ s % 2 = 1) with h | h
  · have h' : (s : Int) % 2 = 0 := by omega
    cases b
    · simp [h] at hb
      have HB := Lib.hid hb
      clear hb hq h
      go_enter Tryd.func18, Tryd.ntmps18
      go_wp2
      go_ret
      exact ⟨by have := HB.out; simp at this ⊢; rw [this], rfl⟩
    · simp [h] at hb
      have HB := Lib.hid hb
      clear hb hq h
      go_enter Tryd.func18, Tryd.ntmps18
      go_wp2
      go_ret
      exact ⟨by have := HB.out; simp at this ⊢; rw [this], rfl⟩
  · have h' : (s : Int) % 2 = 1 := by omega
    cases b
    · simp [h] at hb
      have HB := Lib.hid hb
      clear hb hq h
      go_enter Tryd.func18, Tryd.ntmps18
      go_wp2
      go_ret
      exact ⟨by have := HB.out; simp at this ⊢; rw [this], rfl⟩
    · simp [h] at hb
      have HB := Lib.hid hb
      clear hb hq h
      go_enter Tryd.func18, Tryd.ntmps18
      go_wp2
      go_ret
      exact ⟨by have := HB.out; simp at this ⊢; rw [this], rfl⟩

theorem odd_toNat (c : Nat) : ((c : Int) % 2 == 1).toNat = c % 2 := by
  rcases (by omega : c % 2 = 0 ∨ c % 2 = 1) with h | h
  · rw [show (c : Int) % 2 = 0 by omega, h]; rfl
  · rw [show (c : Int) % 2 = 1 by omega, h]; rfl

set_option maxHeartbeats 400000 in
theorem refByte (s c : Nat) (w : World) (hs : s < 4294967296) (hc : c < 256) :
    Calls Tryd.prog 15 #[.int .u32 s, .int .u8 c] w fun e w' => e = .returned (.int .u32 ((Sn 8 (s ^^^ c) : Nat) : Int)) ∧ w' = w := by
  have hf := feed_eq 8 s c hc
  have HF := Lib.hid hf
  clear hf
  go_enter Tryd.func15, Tryd.ntmps15
  go_wp2
  go_loopw [0, 1, 5] (fun p d i wr => ∃ k p' d' : Nat, k ≤ 8 ∧ i = .int .i64 k ∧ p = .int .u32 p' ∧ d = .int .u8 d' ∧ p' < 4294967296 ∧ d' < 256 ∧ Hid (feed (8 - k) p' d' = feed 8 s c) ∧ wr = w)
    (fun _ _ i _ => 8 - (intOf i).toNat)
  case atStart => exact ⟨0, s, c, by omega, rfl, rfl, rfl, hs, hc, Lib.hid rfl, rfl⟩
  case round =>
    obtain ⟨k, p, d, hk, rfl, rfl, rfl, hp, hd, H, rfl⟩ := hrel
    by_cases hlt : k < 8
    · have ho := odd_toNat d
      have HB := Lib.hid (refBit p ((d : Int) % 2 == 1) wr hp)
      have hl : S (p ^^^ ((d : Int) % 2 == 1).toNat) < 4294967296 := S_lt (Nat.xor_lt_two_pow (n := 32) hp (by rw [ho]; omega))
      have H2 : Hid (feed (8 - (k + 1)) (S (p ^^^ ((d : Int) % 2 == 1).toNat)) (d / 2) = feed 8 s c) := Lib.hid (by
        have := H.out
        rw [show 8 - k = (8 - (k + 1)) + 1 by omega] at this
        rw [ho]; exact this)
      clear ho H
      generalize hz : ((d : Int) % 2 == 1) = z at HB hl H2
      generalize S (p ^^^ z.toNat) = p2 at HB hl H2
      go_wp2_with (go_at_call 18; refine HB.out.mono ?_; rintro e w1 ⟨rfl, rfl⟩)
      go_roundw
      case rel => exact ⟨k + 1, p2, d / 2, by omega, by go_num, rfl, by go_num, hl, by omega, H2, trivial⟩
      case measure => simp [intOf]; omega
    · obtain rfl : k = 8 := by omega
      have he := H.out
      rw [Nat.sub_self] at he
      have he2 : p = Sn 8 (s ^^^ c) := he.trans HF.out
      clear he
      subst he2
      go_wp2
      go_ret
      exact ⟨rfl, rfl⟩

set_option maxHeartbeats 400000 in
theorem refSum (ao : Option Addr) (cap : Nat) (zs : List Nat) (w : World) (hl : zs.length ≤ 100000) (hz : ∀ z ∈ zs, z < 256) (hc : BytesAt w ao zs) :
    Calls Tryd.prog 8 #[.slice ao zs.length cap] w fun e w' => e = .returned (.int .u32 ((sum zs : Nat) : Int)) ∧ w' = w := by
  have HZ := Lib.hid hz
  have HC := Lib.hid hc
  have HR := Lib.hid (reg_sum hz)
  clear hz hc
  go_enter Tryd.func8, Tryd.ntmps8
  go_wp2
  go_loopw [3, 4, 7] (fun p _ i wr => ∃ k : Nat, k ≤ zs.length ∧ i = .int .i64 k ∧ p = .int .u32 ((reg 4294967295 (zs.take k) : Nat) : Int) ∧ wr = w)
    (fun _ _ i _ => zs.length - (intOf i).toNat)
  case atStart => exact ⟨0, Nat.zero_le _, rfl, rfl, rfl⟩
  case round =>
    obtain ⟨k, hk, rfl, rfl, rfl⟩ := hrel
    by_cases hlt : k < zs.length
    · obtain ⟨b, off, rfl, h1, h2⟩ := HC.out k hlt
      have hz1 := getD_lt HZ.out k
      obtain ⟨z, hz2⟩ : ∃ z, z = zs.getD k 0 := ⟨_, rfl⟩
      have hst := reg_take 4294967295 zs k hlt
      have hpl := reg_take_lt (s := 4294967295) (by decide) HZ.out k
      rw [← hz2] at h2 hz1 hst
      have HS := Lib.hid hst
      clear hst hz2
      generalize hpe : reg 4294967295 (zs.take k) = p at hpl HS
      clear hpe
      go_wp2_with fail
      refine (refByte p z _ hpl hz1).mono ?_
      rintro e w1 ⟨rfl, rfl⟩
      rw [← HS.out]
      go_wp2
      go_roundw
      case rel => exact ⟨k + 1, by omega, by go_num, rfl, trivial⟩
      case measure => simp [intOf]; omega
    · obtain rfl : k = zs.length := by omega
      rw [List.take_length]
      have hpl : reg 4294967295 zs < 4294967296 := reg_lt zs (by decide) HZ.out
      generalize hpe : reg 4294967295 zs = p at *
      go_wp2
      go_ret
      exact ⟨by rw [← HR.out]; go_num, rfl⟩
end Go.Proofs.YtfnbhpjekjjpaaaDoor
