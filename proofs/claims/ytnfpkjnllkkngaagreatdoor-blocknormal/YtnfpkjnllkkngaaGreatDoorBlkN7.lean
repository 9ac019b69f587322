import Derived.Test.YtnfpkjnllkkngaaGreatDoorBlkN6

namespace Go.Proofs.YtnfpkjnllkkngaaGreatDoor
open Go.RowKit Go.Proofs Go.Proofs.PipeM Go.Proofs.PipeA Go.Proofs.BlkM Go.Proofs.BlkB Go.Proofs.LatM Go.Proofs.FilM Go.Proofs.LagM
set_option maxRecDepth 100000

theorem rNormal10 (lo io : Option Addr) (lcap icap : Nat) (l index : List Int) (d a g sh : Int) (w : World) (hl : l.length ≤ 1000) (hil : index.length ≤ 1000) (hicap : index.length ≤ icap) (hi : IntsAt w lo l) (hj : IntsAt w io index) : Calls Tryz.prog 6 #[.slice lo l.length lcap, .int .i64 d, .slice io index.length icap, .int .i64 a, .int .i64 g, .int .i64 sh] w (NormR l d index a g sh w) := by
  by_cases hc : chkB l d = 0
  · cases hf : (shiftB d sh && goodL index && goodT a g) with
    | false => exact rNormal_form lo io lcap icap l index d a g sh w hl hil hi hj hc hf
    | true => exact rNormal_good lo io lcap icap l index d a g sh w hl hil hi hj hicap hc hf
  · exact rNormal_samples lo io lcap icap l index d a g sh w hl hi hc

set_option maxHeartbeats 3200000 in
/-- Two blocks with the same numbers are the same, wherever their lists lie. -/
theorem rSameN (b : Blk) (ia ra da ja sa ea : Option Addr) (ic rc dc jc sc ec : Nat) (w : World) (hl : b.index.length ≤ 1000000 ∧ b.rice.length ≤ 1000000 ∧ b.data.length ≤ 1000000) (i1 : IntsAt w ia b.index) (r1 : IntsAt w ra b.rice) (d1 : IntsAt w da b.data) (i2 : IntsAt w ja b.index) (r2 : IntsAt w sa b.rice) (d2 : IntsAt w ea b.data) :
    Calls Tryz.prog 7 #[blkV b ia ra da ic rc dc, blkV b ja sa ea jc sc ec] w fun e w' => e = .returned (.bool true) ∧ Below w.heap.size w w' := by
  have HB := fun o1 o2 => Lib.hid (below2 w o1 o2)
  obtain ⟨kind, value, shift, index, lag, gain, part, rice, data⟩ := b
  dsimp only at hl i1 r1 d1 i2 r2 d2
  have HS1 : Hid (∀ W, Below w.heap.size w W → Calls Tryz.prog 8 #[.slice ia index.length ic, .slice ja index.length jc] W fun e w' => e = .returned (.bool true) ∧ ∃ k, w' = W.drewN k) := fun W hW => by
    have := refSame ia ja ic jc index index W (by omega) (i1.below hW) (i2.below hW)
    rwa [decide_eq_true rfl] at this
  have HS2 : Hid (∀ W, Below w.heap.size w W → Calls Tryz.prog 8 #[.slice ra rice.length rc, .slice sa rice.length sc] W fun e w' => e = .returned (.bool true) ∧ ∃ k, w' = W.drewN k) := fun W hW => by
    have := refSame ra sa rc sc rice rice W (by omega) (r1.below hW) (r2.below hW)
    rwa [decide_eq_true rfl] at this
  have HS3 : Hid (∀ W, Below w.heap.size w W → Calls Tryz.prog 8 #[.slice da data.length dc, .slice ea data.length ec] W fun e w' => e = .returned (.bool true) ∧ ∃ k, w' = W.drewN k) := fun W hW => by
    have := refSame da ea dc ec data data W (by omega) (d1.below hW) (d2.below hW)
    rwa [decide_eq_true rfl] at this
  clear hl i1 r1 d1 i2 r2 d2
  unfold blkV
  dsimp only
  generalize index.length = il at *
  generalize rice.length = rl at *
  generalize data.length = dl at *
  go_enter Tryz.func7, Tryz.ntmps7
  go_wp2_with fail
  refine (HS1.out _ (HB _ _).out).mono ?_
  rintro e w1 ⟨rfl, m1, rfl⟩
  go_wp2_with fail
  refine (HS2.out _ (below_drewN (HB _ _).out _)).mono ?_
  rintro e w2 ⟨rfl, m2, rfl⟩
  go_wp2_with fail
  refine (HS3.out _ (below_drewN (HB _ _).out _)).mono ?_
  rintro e w3 ⟨rfl, m3, rfl⟩
  go_wp2
  go_ret
  exact ⟨rfl, below_drewN (HB _ _).out _⟩
end Go.Proofs.YtnfpkjnllkkngaaGreatDoor
