import Derived.Test.YtnpngahpadchpaaReader3
namespace Go.Proofs.Ytnpngahpadchpaa
open Go.RowKit Go.Proofs Go.Proofs.PipeM Go.Proofs.PipeA

theorem takeV_lt (s : RS) (n : Int) : s.takeV n < 281474976710656 := by
  unfold RS.takeV
  split
  · refine Nat.lt_of_lt_of_le (num_lt _) ?_
    have h : (s.bits.take n.toNat).length ≤ 48 := by rw [List.length_take]; omega
    exact Nat.le_trans (Nat.pow_le_pow_right (by decide) h) (by decide)
  · omega

/-- The next bit. -/
theorem aNext (b : Nat) (ao : Option Addr) (s : RS) (c : Bool) (r : List Bool) (w : World) (h : RdA w b ao s) (hb : s.bits = c :: r) :
    Calls Try.prog 60 #[.pointer (some ⟨b, 0, none⟩)] w fun e w' => e = .returned (.int .u8 ((c.toNat : Nat) : Int)) ∧ Reads w b ao ⟨r, s.err⟩ w' := by
  obtain ⟨ao', cap, zs, p, h1, h2, h3, h4⟩ := h
  have e : s.bits.length = 8 * zs.length - p := by rw [h2]; simp [bitsOf_length]
  have hl : 0 < s.bits.length := by rw [hb]; simp
  have hg := bitsOf_get zs p (by omega)
  have hc : c = (zs.getD (p / 8) 0).testBit (7 - p % 8) := by
    have h5 : s.bits[0]? = (bitsOf zs)[p]? := by rw [h2, List.getElem?_drop, Nat.add_zero]
    rw [hb, hg] at h5
    simpa using h5
  have hr : r = (bitsOf zs).drop (p + 1) := by
    have h5 : s.bits.drop 1 = (bitsOf zs).drop (p + 1) := by rw [h2, List.drop_drop]
    rw [hb] at h5
    simpa using h5
  refine (rNext b ao' cap zs p s.err w h1 (by omega)).mono ?_
  rintro e w1 ⟨rfl, ht⟩
  exact ⟨by rw [hc], reads_took (s := ⟨r, s.err⟩) ht hr h3 h4⟩

def RS.signedV (s : RS) (n : Int) : Int := if n < 1 ∨ 48 < n then 0 else sgn (s.takeV n) n.toNat
def RS.signedS (s : RS) (n : Int) : RS := if n < 1 ∨ 48 < n then s.give 1 else s.takeS n

/-- Zeros: how many, and what is left. -/
def zgo (most err : Int) : List Bool → Nat → Nat × RS
  | [], _ => (0, RS.give ⟨[], err⟩ 3)
  | true :: r, c => (c, ⟨r, err⟩)
  | false :: r, c => if most ≤ c then (0, RS.give ⟨r, err⟩ 1) else zgo most err r (c + 1)

set_option maxHeartbeats 800000 in
theorem aZeros (b : Nat) (ao : Option Addr) (s : RS) (most : Int) (w : World) (h : RdA w b ao s) :
    Calls Try.prog 78 #[.pointer (some ⟨b, 0, none⟩), .int .i64 most] w fun r w' => r = .returned (.int .i64 ((zgo most s.err s.bits 0).1 : Int)) ∧ Reads w b ao (zgo most s.err s.bits 0).2 w' := by
  have H := Lib.hid h
  have hlen := h.len
  obtain ⟨err, herr⟩ : ∃ err, err = s.err := ⟨_, rfl⟩
  rw [← herr]
  have H0 : Hid (Reads w b ao ⟨s.bits, err⟩ w) := by rw [herr]; exact Reads.refl H.out
  clear h
  go_enter Try.func78, Try.ntmps78
  go_wp2
  go_loopg [5] s.bits.length (fun gk z wr => ∃ (c : Nat) (l : List Bool), gk = l.length ∧ c + l.length ≤ s.bits.length ∧ z = .int .i64 c ∧ Hid (Reads w b ao ⟨l, err⟩ wr) ∧ Hid (zgo most err s.bits 0 = zgo most err l c))
  case atStart => exact ⟨0, s.bits, rfl, by omega, rfl, H0, rfl⟩
  case round =>
    obtain ⟨c, l, hgk, hcl, rfl, HR, HZ⟩ := hrel
    have HGK := Lib.hid hgk
    clear hgk herr
    go_wp2_with fail
    refine (aLeft b ao ⟨l, err⟩ wr HR.out.1).mono ?_
    rintro e w1 ⟨rfl, hm⟩
    have H1 : Hid (RdA w1 b ao ⟨l, err⟩) := by obtain ⟨m, rfl⟩ := hm; exact HR.out.1.drewN m
    have K1 : Hid (Keeps [b] w w1) := by obtain ⟨m, rfl⟩ := hm; exact HR.out.2.trans (keeps_drewN wr m [b])
    clear hm HR H0 H
    cases l with
    | nil =>
      have t1 : ¬ ((0 : Int) < (([] : List Bool).length : Int)) := by simp
      go_wp2_with fail
      refine (aGive b ao ⟨[], err⟩ 3 w1 H1.out).mono ?_
      rintro e w2 ⟨rfl, hw2⟩
      have HW2 : Hid (Reads w b ao (RS.give ⟨[], err⟩ 3) w2) := ⟨hw2.1, K1.out.trans hw2.2⟩
      clear hw2
      go_wp2
      go_ret
      exact ⟨by rw [HZ.out]; rfl, by rw [HZ.out]; exact HW2.out⟩
    | cons x r =>
      have t1 : (0 : Int) < ((x :: r).length : Int) := by simp
      obtain ⟨len, hln⟩ : ∃ len : Int, len = ((x :: r).length : Int) := ⟨_, rfl⟩
      rw [← hln] at t1 ⊢
      clear hln
      have hcr : c + 1 + r.length ≤ s.bits.length := by simp at hcl; omega
      clear hcl
      go_wp2_with fail
      refine (aNext b ao ⟨x :: r, err⟩ x r w1 H1.out rfl).mono ?_
      rintro e w2 ⟨rfl, hw2⟩
      have HW2 : Hid (Reads w b ao ⟨r, err⟩ w2) := ⟨hw2.1, K1.out.trans hw2.2⟩
      clear hw2
      cases x with
      | true =>
        go_wp2
        go_ret
        exact ⟨by rw [HZ.out]; rfl, by rw [HZ.out]; exact HW2.out⟩
      | false =>
        by_cases hmo : most ≤ (c : Int)
        · have HZ2 : Hid (zgo most err s.bits 0 = (0, RS.give ⟨r, err⟩ 1)) := by rw [HZ.out]; show _ = _; rw [zgo, if_pos hmo]
          go_wp2_with fail
          refine (aGive b ao ⟨r, err⟩ 1 w2 HW2.out.1).mono ?_
          rintro e w3 ⟨rfl, hw3⟩
          have HW3 := Lib.hid hw3
          clear hw3
          go_wp2
          go_ret
          exact ⟨by rw [HZ2.out]; rfl, by rw [HZ2.out]; exact HW2.out.next HW3.out⟩
        · have HZ2 : Hid (zgo most err s.bits 0 = zgo most err r (c + 1)) := by rw [HZ.out]; show _ = _; rw [zgo, if_neg hmo]
          go_wp2
          go_roundg r.length
          case rel => exact ⟨c + 1, r, rfl, hcr, by go_num, HW2, HZ2⟩
          case measure => have := HGK.out; simp at this; omega
end Go.Proofs.Ytnpngahpadchpaa
