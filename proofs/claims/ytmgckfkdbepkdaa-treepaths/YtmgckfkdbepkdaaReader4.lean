import Derived.Test.YtmgckfkdbepkdaaReader3
namespace Go.Proofs.Ytmgckfkdbepkdaa
open Go.RowKit Go.Proofs Go.Proofs.PipeM Go.Proofs.PipeA

theorem takeV_lt (s : RS) (n : Int) : s.takeV n < 281474976710656 := by
  unfold RS.takeV
  split
  · refine Nat.lt_of_lt_of_le (num_lt _) ?_
    have h : (s.bits.take n.toNat).length ≤ 48 := by rw [List.length_take]; omega
    exact Nat.le_trans (Nat.pow_le_pow_right (by decide) h) (by decide)
  · omega

/-- The next bit. -/
theorem aNext (b : Nat) (ao : Option Addr) (s : RS) (c : Bool) (r : List Bool) (w : World) (h : RdA w b ao s) (hb : s.bits = c :: r) :
    Calls Try.prog 50 #[.pointer (some ⟨b, 0, none⟩)] w fun e w' => e = .returned (.int .u8 ((c.toNat : Nat) : Int)) ∧ Reads w b ao ⟨r, s.err⟩ w' := by
  obtain ⟨ao', cap, zs, p, h1, h2, h3, h4⟩ := h
  have e : s.bits.length = 8 * zs.length - p := by rw [h2]; simp [bitsOf_length]
  have hl : 0 < s.bits.length := by rw [hb]; simp
  have hg := bitsOf_get zs p (by omega)
  have hc : c = (zs.getD (p / 8) 0).testBit (7 - p % 8) := by
    have h5 : s.bits[0]? = (bitsOf zs)[p]? := by rw [h2, List.getElem?_drop, Nat.add_zero]
    rw [hb, hg] at h5
    simpa using h5
  have hr : r = (bitsOf zs).drop (p + 1) := by
    have h5 : s.bits.drop 1 = (bitsOf zs).drop (p + 1) := by rw [h2, List.drop_drop]
    rw [hb] at h5
    simpa using h5
  refine (rNext b ao' cap zs p s.err w h1 (by omega)).mono ?_
  rintro e w1 ⟨rfl, ht⟩
  exact ⟨by rw [hc], reads_took (s := ⟨r, s.err⟩) ht hr h3 h4⟩

def RS.signedV (s : RS) (n : Int) : Int := if n < 1 ∨ 48 < n then 0 else sgn (s.takeV n) n.toNat
def RS.signedS (s : RS) (n : Int) : RS := if n < 1 ∨ 48 < n then s.give 1 else s.takeS n

/-- Zeros: how many, and what is left. -/
def zgo (most err : Int) : List Bool → Nat → Nat × RS
  | [], _ => (0, RS.give ⟨[], err⟩ 3)
  | true :: r, c => (c, ⟨r, err⟩)
  | false :: r, c => if most ≤ c then (0, RS.give ⟨r, err⟩ 1) else zgo most err r (c + 1)

end Go.Proofs.Ytmgckfkdbepkdaa
