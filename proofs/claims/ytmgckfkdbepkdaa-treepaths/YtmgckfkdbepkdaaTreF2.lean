import Derived.Test.YtmgckfkdbepkdaaTreF1
namespace Go.Proofs.Ytmgckfkdbepkdaa
open Go.RowKit Go.Proofs Go.Proofs.PipeA Go.Proofs.TreM
set_option maxRecDepth 100000

/-- May a size be? -/
def sizeB (size : Int) : Bool := decide (1 ≤ size) && decide (size ≤ 1024)
theorem sizeB_of {size : Int} (h : sizeB size = true) : ∃ n : Nat, size = n ∧ 1 ≤ n ∧ n ≤ 1024 := by
  unfold sizeB at h
  simp only [Bool.and_eq_true, decide_eq_true_eq] at h
  exact ⟨size.toNat, by omega, by omega, by omega⟩
theorem sizeB_nat {n : Nat} (h1 : 1 ≤ n) (h2 : n ≤ 1024) : sizeB (n : Int) = true := by
  unfold sizeB
  simp only [Bool.and_eq_true, decide_eq_true_eq]
  omega
theorem sizeB_no {size : Int} (h : sizeB size = false) : size < 1 ∨ 1 ≤ size ∧ 1024 < size := by
  unfold sizeB at h
  rw [Bool.and_eq_false_iff, decide_eq_false_iff_not, decide_eq_false_iff_not] at h
  omega
/-- What is wrong with a text; with leaves. -/
def codeL (size : Int) (s : List UInt8) : Int := if sizeB size then (if (leavesOf size.toNat s).isSome then 0 else 10) else 1
def codeX (size : Int) (l : List Int) : Int := if sizeB size then (if (textOf size.toNat l).isSome then 0 else 10) else 1
theorem codeL_size {size : Int} {s : List UInt8} (h : sizeB size = false) : codeL size s = 1 := by unfold codeL; rw [h]; rfl
theorem codeL_none {n : Nat} {s : List UInt8} (h : sizeB (n : Int) = true) (h2 : leavesOf n s = none) : codeL n s = 10 := by unfold codeL; rw [h, Int.toNat_natCast, h2]; rfl
theorem codeL_some {n : Nat} {s : List UInt8} {l : List Int} (h : sizeB (n : Int) = true) (h2 : leavesOf n s = some l) : codeL n s = 0 := by unfold codeL; rw [h, Int.toNat_natCast, h2]; rfl
theorem codeX_size {size : Int} {l : List Int} (h : sizeB size = false) : codeX size l = 1 := by unfold codeX; rw [h]; rfl
theorem codeX_none {n : Nat} {l : List Int} (h : sizeB (n : Int) = true) (h2 : textOf n l = none) : codeX n l = 10 := by unfold codeX; rw [h, Int.toNat_natCast, h2]; rfl
theorem codeX_some {n : Nat} {l : List Int} {s : List UInt8} (h : sizeB (n : Int) = true) (h2 : textOf n l = some s) : codeX n l = 0 := by unfold codeX; rw [h, Int.toNat_natCast, h2]; rfl
theorem codeL_zero {size : Int} {s : List UInt8} (h : codeL size s = 0) : ∃ n : Nat, size = n ∧ 1 ≤ n ∧ n ≤ 1024 ∧ ∃ l, leavesOf n s = some l := by
  unfold codeL at h
  split at h
  · rename_i h1
    obtain ⟨n, rfl, h2, h3⟩ := sizeB_of h1
    rw [Int.toNat_natCast] at h
    split at h
    · rename_i h4
      exact ⟨n, rfl, h2, h3, Option.isSome_iff_exists.1 h4⟩
    · cases h
  · cases h
theorem codeX_zero {size : Int} {l : List Int} (h : codeX size l = 0) : ∃ n : Nat, size = n ∧ 1 ≤ n ∧ n ≤ 1024 ∧ ∃ s, textOf n l = some s := by
  unfold codeX at h
  split at h
  · rename_i h1
    obtain ⟨n, rfl, h2, h3⟩ := sizeB_of h1
    rw [Int.toNat_natCast] at h
    split at h
    · rename_i h4
      exact ⟨n, rfl, h2, h3, Option.isSome_iff_exists.1 h4⟩
    · cases h
  · cases h

/-- Leaves of a text, or what is wrong. -/
def LeavesIs (size : Int) (s : List UInt8) (w : World) (e : Ending) (w' : World) : Prop :=
  (codeL size s ≠ 0 ∧ e = .returned (.tuple #[.slice none 0 0, .int .i64 (codeL size s)]) ∧ Below w.heap.size w w') ∨
  (codeL size s = 0 ∧ ∃ ao cap l, leavesOf size.toNat s = some l ∧ e = .returned (.tuple #[.slice ao l.length cap, .int .i64 0]) ∧ IntsAt w' ao l ∧ l.length ≤ cap ∧ l.length ≤ 16 ∧ Below w.heap.size w w')
theorem LeavesIs.no {size : Int} {s : List UInt8} {w w' : World} {c : Int} (h : codeL size s = c) (hc : c ≠ 0) (hb : Below w.heap.size w w') : LeavesIs size s w (.returned (.tuple #[.slice none 0 0, .int .i64 c])) w' := .inl ⟨by omega, by rw [h], hb⟩
theorem leavesOf_none1 {n : Nat} {s : List UInt8} (h : rd 4 n s = none) : leavesOf n s = none := by unfold leavesOf; rw [h]
theorem leavesOf_none2 {n : Nat} {s r : List UInt8} {l : List Int} {c : UInt8} (h : rd 4 n s = some (l, c :: r)) : leavesOf n s = none := by unfold leavesOf; rw [h]
theorem own_capR {w : World} {base size n cap : Nat} {e : TypeId} {xs : List Value} {ao : Option Addr} (h : w.ownsRow base e size (.slice ao n cap) n xs) : n ≤ cap := by
  rcases h.2 with ⟨h1, h2⟩ | ⟨g, cap', cur, h1, _, _, h2, _⟩
  · omega
  · cases h1; exact h2

set_option maxHeartbeats 1600000 in
theorem rLeaves (size : Int) (s : List UInt8) (w : World) (hz : -9223372036854775808 ≤ size ∧ size ≤ 9223372036854775807) (hl : s.length ≤ 100000) :
    Calls Try.prog 12 #[.string (bs s), .int .i64 size] w (LeavesIs size s w) := by
  cases hs : sizeB size with
  | false =>
    have HF := Lib.hid (LeavesIs.no (w := w) (w' := w) (codeL_size (s := s) hs) (by omega) (Below.refl _ _))
    rcases sizeB_no hs with h1 | ⟨h1, h2⟩
    · clear hs
      go_enter Try.func12, Try.ntmps12
      go_wp2
      refine bodyPost_ret (v := .tuple #[.slice none 0 0, .int .i64 1]) (by simp [results, Try.results12, go_sem]) rfl ?_
      exact HF.out
    · clear hs
      go_enter Try.func12, Try.ntmps12
      go_wp2
      refine bodyPost_ret (v := .tuple #[.slice none 0 0, .int .i64 1]) (by simp [results, Try.results12, go_sem]) rfl ?_
      exact HF.out
  | true =>
    obtain ⟨n, rfl, h1, h2⟩ := sizeB_of hs
    have HR := Lib.hid (rRead 4 n s w (by omega) h2 hl)
    have HSB := Lib.hid hs
    clear hs
    cases hr : rd 4 n s with
    | none =>
      have HF : Hid (∀ W, Below w.heap.size w W → LeavesIs n s w (.returned (.tuple #[.slice none 0 0, .int .i64 10])) W) := fun W hb => LeavesIs.no (codeL_none HSB.out (leavesOf_none1 hr)) (by omega) hb
      rw [hr] at HR
      clear hr
      go_enter Try.func12, Try.ntmps12
      go_wp2_with fail
      refine HR.out.mono ?_
      rintro e w1 ⟨v1, l1, rfl, _, _, _, hb1⟩
      have HB := Lib.hid hb1
      clear hb1
      go_wp2
      refine bodyPost_ret (v := .tuple #[.slice none 0 0, .int .i64 10]) (by simp [results, Try.results12, go_sem]) rfl ?_
      exact HF.out _ HB.out
    | some x =>
      obtain ⟨l, r⟩ := x
      cases r with
      | nil =>
        have hlv : leavesOf n s = some l := leavesOf_some.2 hr
        have HL := Lib.hid hlv
        rw [hr] at HR
        have hE : ((bs []).toList == ([] : List UInt8)) = true := by rw [bs_toList]; rfl
        clear hr hlv
        go_enter Try.func12, Try.ntmps12
        go_wp2_with fail
        refine HR.out.mono ?_
        rintro e w1 ⟨v1, l1, rfl, ho1, hn1, hx1, hb1⟩
        obtain rfl : l1 = l := hx1 _ rfl
        obtain ⟨ao, cap, rfl⟩ := own_sl ho1
        have HF : Hid (LeavesIs n s w (.returned (.tuple #[.slice ao l1.length cap, .int .i64 0])) w1) := .inr ⟨codeL_some HSB.out HL.out, ao, cap, l1, by rw [Int.toNat_natCast]; exact HL.out, rfl, ints_own ho1, own_capR ho1, hn1, hb1⟩
        clear ho1 hn1 hx1 hb1
        rw [show behindOf (some (l1, ([] : List UInt8))) = [] from rfl, show (some (l1, ([] : List UInt8))).isSome = true from rfl]
        go_wp2
        refine bodyPost_ret (v := .tuple #[.slice ao l1.length cap, .int .i64 0]) (by simp [results, Try.results12, go_sem]) rfl ?_
        exact HF.out
      | cons c r =>
        have HF : Hid (∀ W, Below w.heap.size w W → LeavesIs n s w (.returned (.tuple #[.slice none 0 0, .int .i64 10])) W) := fun W hb => LeavesIs.no (codeL_none HSB.out (leavesOf_none2 hr)) (by omega) hb
        rw [hr] at HR
        have hE : ((bs (c :: r)).toList == ([] : List UInt8)) = false := by rw [bs_toList]; rfl
        clear hr
        go_enter Try.func12, Try.ntmps12
        go_wp2_with fail
        refine HR.out.mono ?_
        rintro e w1 ⟨v1, l1, rfl, _, _, _, hb1⟩
        have HB := Lib.hid hb1
        clear hb1
        rw [show behindOf (some (l, c :: r)) = c :: r from rfl, show (some (l, c :: r)).isSome = true from rfl]
        go_wp2
        refine bodyPost_ret (v := .tuple #[.slice none 0 0, .int .i64 10]) (by simp [results, Try.results12, go_sem]) rfl ?_
        exact HF.out _ HB.out
end Go.Proofs.Ytmgckfkdbepkdaa
