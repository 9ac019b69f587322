import Derived.Test.YtefbakhhlonafaaDoorBlkC1
import Derived.Shelf.Spec.TrailingZeros

namespace Go.Proofs.YtefbakhhlonafaaDoor
open Go.RowKit Go.Proofs Go.Proofs.PipeM Go.Proofs.PipeA Go.Proofs.BlkM Go.Proofs.BlkB
set_option maxRecDepth 100000

/-- The table of math/bits, as it is laid. -/
def TabZ (w : World) : Prop := 0 < w.heap.size ∧ ∀ k, k < 64 → w.cell? ⟨0, k, none⟩ = some (.int .u8 ((Lib.deBruijn64tab.getD k 0 : Nat) : Int))
theorem TabZ.below {w w' : World} (h : TabZ w) (hb : Below w.heap.size w w') : TabZ w' :=
  ⟨Nat.lt_of_lt_of_le h.1 hb.size, fun k hk => (hb.cell (p := ⟨0, k, none⟩) h.1).trans (h.2 k hk)⟩
set_option maxHeartbeats 1600000 in
theorem cTZ_core (x k idx : Nat) (w : World) (hx0 : ((x : Int) == 0) = false)
    (key : IntKind.u64.wrap (bits BinOp.and IntKind.u64 (x : Int) (IntKind.u64.wrap (-(x : Int))) * 285870213051353865) / 288230376151711744 = (idx : Int))
    (hi : idx < 64) (hk : k < 64) (hcell : w.cell? ⟨0, idx, none⟩ = some (.int .u8 (k : Int))) :
    Calls Tryd.prog 15 #[.int .u64 x] w fun e w' => e = .returned (.int .i64 (k : Int)) ∧ w = w' := by
  have hx1 : (x == 0) = false := beq_eq_false_iff_ne.2 (fun h => by subst h; simp at hx0)
  go_enter Tryd.func15, Tryd.ntmps15
  go_wp2_with (simp only [key])
  go_ret
  exact ⟨rfl, rfl⟩
theorem cTZ_zero (w : World) : Calls Tryd.prog 15 #[.int .u64 0] w fun e w' => e = .returned (.int .i64 64) ∧ w = w' := by
  go_enter Tryd.func15, Tryd.ntmps15
  go_wp2
  go_ret
  exact ⟨rfl, rfl⟩
theorem cTZ (x : Nat) (w : World) (hx : x < 18446744073709551616) (ht : TabZ w) :
    Calls Tryd.prog 15 #[.int .u64 x] w fun e w' => e = .returned (.int .i64 (Lib.ctz 64 x : Nat)) ∧ w = w' := by
  by_cases hx0 : x = 0
  · subst hx0
    exact cTZ_zero w
  · obtain ⟨hlow, hk⟩ := Lib.lowest_bit 64 x hx0 hx
    obtain ⟨hi, htab⟩ := Lib.deBruijn64_at _ hk
    have hcell := ht.2 _ hi
    rw [htab] at hcell
    exact cTZ_core x _ _ w (by simp; omega) (tz64_key x _ hx hx0 hlow) hi hk hcell

set_option maxHeartbeats 1600000 in
theorem cZeros (ao : Option Addr) (cap : Nat) (l : List Int) (w : World) (hl : l.length ≤ 1000000) (hi : IntsAt w ao l) (ht : TabZ w) :
    Calls Tryd.prog 9 #[.slice ao l.length cap] w fun e w' => e = .returned (.int .i64 (zerosL l : Nat)) ∧ w = w' := by
  have HI := Lib.hid hi
  have HTZ := Lib.hid (cTZ (word (orAll l)) w (word_lt _) ht)
  have HZ : Hid (zerosL l = Lib.ctz 64 (word (orAll l))) := rfl
  rw [← HZ.out] at HTZ
  have hwd : IntKind.u64.wrap (orAll l) = (word (orAll l) : Int) := by rw [IntKind.wrap_u64]; unfold word; omega
  have HWD := Lib.hid hwd
  clear hi ht hwd HZ
  generalize zerosL l = z at *
  generalize word (orAll l) = wd at *
  go_enter Tryd.func9, Tryd.ntmps9
  go_wp2
  go_loopg [3, 5, 8] l.length (fun gk va q i wr => ∃ c : Nat, c ≤ l.length ∧ gk + c = l.length ∧ i = .int .i64 c ∧ va = .int .i64 (orAll (l.take c)) ∧ w = wr)
  case atStart => exact ⟨0, Nat.zero_le _, by omega, rfl, rfl, rfl⟩
  case round =>
    obtain ⟨c, hc, hgk, rfl, rfl, rfl⟩ := hrel
    have HGK := Lib.hid hgk
    clear hgk
    by_cases hlt : c < l.length
    · obtain ⟨b, off, rfl, hg, hcell⟩ := HI.out c hlt
      have hst : orAll (l.take (c + 1)) = orI (orAll (l.take c)) l[c] := by rw [List.take_succ_eq_append_getElem hlt, orAll_snoc]
      obtain ⟨A2, hA2⟩ : ∃ A2, A2 = orAll (l.take (c + 1)) := ⟨_, rfl⟩
      rw [← hA2] at hst
      have HA2 := Lib.hid hA2
      generalize orAll (l.take c) = A at *
      generalize l[c] = x at *
      have hor : bits BinOp.or IntKind.i64 A x = A2 := hst.symm
      clear hst hA2 hg
      go_wp2
      go_roundg (gk - 1)
      case rel => exact ⟨c + 1, by omega, by have := HGK.out; omega, by go_num, by rw [HA2.out], rfl⟩
      case measure => have := HGK.out; omega
    · obtain rfl : c = l.length := by omega
      have hw2 := HWD.out
      rw [List.take_length]
      generalize orAll l = A at *
      go_wp2_with fail
      refine HTZ.out.mono ?_
      rintro e w1 ⟨rfl, rfl⟩
      go_wp2
      go_ret
      exact ⟨rfl, rfl⟩

/-- How many low bits are 0 of all, up to 24. -/
def shiftN (l : List Int) : Nat := min (zerosL l) 24
set_option maxHeartbeats 800000 in
theorem cShift (ao : Option Addr) (cap : Nat) (l : List Int) (w : World) (hl : l.length ≤ 1000000) (hi : IntsAt w ao l) (ht : TabZ w) :
    Calls Tryd.prog 5 #[.slice ao l.length cap] w fun e w' => e = .returned (.int .i64 (shiftN l : Nat)) ∧ w = w' := by
  have HZ := Lib.hid (cZeros ao cap l w hl hi ht)
  have HE : Hid (shiftN l = min (zerosL l) 24) := rfl
  clear hi ht
  generalize shiftN l = s at *
  generalize zerosL l = z at *
  by_cases h : (z : Int) ≤ 24
  · have hs : s = z := by rw [HE.out]; omega
    subst hs
    clear HE
    go_enter Tryd.func5, Tryd.ntmps5
    go_wp2_with fail
    refine HZ.out.mono ?_
    rintro e w1 ⟨rfl, rfl⟩
    go_wp2
    go_ret
    exact ⟨rfl, rfl⟩
  · have hs : s = 24 := by rw [HE.out]; omega
    subst hs
    clear HE
    go_enter Tryd.func5, Tryd.ntmps5
    go_wp2_with fail
    refine HZ.out.mono ?_
    rintro e w1 ⟨rfl, rfl⟩
    go_wp2
    go_ret
    exact ⟨rfl, rfl⟩
end Go.Proofs.YtefbakhhlonafaaDoor
