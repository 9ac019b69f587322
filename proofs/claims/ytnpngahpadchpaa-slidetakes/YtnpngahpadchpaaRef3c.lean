import Derived.Test.YtnpngahpadchpaaRef3b
namespace Go.Proofs.Ytnpngahpadchpaa
open Go.RowKit Go.Proofs Go.Proofs.PipeM Go.Proofs.PipeA

/-- What the document's bits of a list are. -/
def SlideIs (l : List Int) (P : Int) (ks : List Int) (w : World) (e : Ending) (w' : World) : Prop :=
  e = .returned (.tuple #[.string (str (slideBits l P ks)), .bool (slideOk l P ks)]) ∧ Below w.heap.size w w'

set_option maxHeartbeats 1600000 in
theorem refSlide_no (lo ao : Option Addr) (lcap cap : Nat) (l : List Int) (P : Int) (ks : List Int) (w : World) (hl : l.length ≤ 1000000) (hk : ks.length ≤ 1000000) (hi : IntsAt w lo l) (hj : IntsAt w ao ks) (h : slideOk l P ks = false) :
    Calls Try.prog 11 #[.slice lo l.length lcap, .agg #[.int .i64 P, .slice ao ks.length cap]] w (SlideIs l P ks w) := by
  have HS : Hid (slideBits l P ks = []) := by show _ = _; unfold slideBits; rw [h]; rfl
  have HO := Lib.hid h
  have HIb := fun o => Lib.hid (hi.below (box_below w o))
  have HJb := fun o => Lib.hid (hj.below (box_below w o))
  obtain ⟨b1, hb1⟩ : ∃ b1, b1 = partsOk l.length P ks := ⟨_, rfl⟩
  obtain ⟨b2, hb2⟩ : ∃ b2, b2 = listOk l := ⟨_, rfl⟩
  have HG := fun W hj => Lib.hid (refGood l.length P ao cap ks W (by omega) (by omega) hj)
  have HL := fun W hi => Lib.hid (refList lo lcap l W (by omega) hi)
  have hb : (b1 && b2) = false := by rw [hb1, hb2]; exact h
  rw [← hb1] at HG
  rw [← hb2] at HL
  clear h hb1 hb2 hi hj
  obtain ⟨len, hlen⟩ : ∃ len, len = l.length := ⟨_, rfl⟩
  rw [← hlen] at HG HL hl ⊢
  clear hlen
  go_enter Try.func11, Try.ntmps11
  go_wp2_with fail
  refine (HG _ (HJb _).out).out.mono ?_
  rintro e w1 ⟨rfl, hbel⟩
  have HI1 := Lib.hid ((HIb _).out.below hbel)
  have HB1 := Lib.hid ((box_below w _).trans (hbel.mono (box_below w _).size))
  clear hbel
  cases b1
  · go_wp2
    go_ret2
    exact ⟨by rw [HS.out, HO.out]; rfl, HB1.out⟩
  · obtain rfl : b2 = false := hb
    go_wp2_with fail
    refine (HL _ HI1.out).out.mono ?_
    rintro e w2 ⟨rfl, rfl⟩
    go_wp2
    go_ret2
    exact ⟨by rw [HS.out, HO.out]; rfl, HB1.out⟩
end Go.Proofs.Ytnpngahpadchpaa
