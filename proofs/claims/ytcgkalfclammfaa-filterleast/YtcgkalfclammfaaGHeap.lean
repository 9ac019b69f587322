import Derived.Test.YtcgkalfclammfaaInts
import Derived.Test.YtcgkalfclammfaaHeapMath
namespace Go.Proofs.Ytcgkalfclammfaa
open Go.RowKit Go.Proofs Go.Proofs.PipeA Go.Proofs.HeapM

/-- What a heap of the program's own tells of itself: how it lies in memory while it holds a list of at most N, and what its calls do to it. -/
structure HeapOps {α : Type} [Inhabited α] (t : TypeId) (v : Value) (te : TypeId) (enc : α → Value) (lt : α → α → Bool) (N : Nat) (At : List α → World → Prop) (R : World → World → Prop) where
  fLen : FuncId
  fLess : FuncId
  fSwap : FuncId
  fPush : FuncId
  fPop : FuncId
  refl : ∀ w, R w w
  trans : ∀ a b c, R a b → R b c → R a c
  order : Order lt
  room : ∀ l w, At l w → l.length ≤ N
  eLen : ∀ args w, (callFunc fLen args).run Try.prog w = .ok (.enter fLen args) w
  mLen : ∀ w, (method 198 t v "Len").run Try.prog w = .ok (fLen, v) w
  eLess : ∀ args w, (callFunc fLess args).run Try.prog w = .ok (.enter fLess args) w
  mLess : ∀ w, (method 198 t v "Less").run Try.prog w = .ok (fLess, v) w
  eSwap : ∀ args w, (callFunc fSwap args).run Try.prog w = .ok (.enter fSwap args) w
  mSwap : ∀ w, (method 198 t v "Swap").run Try.prog w = .ok (fSwap, v) w
  ePush : ∀ args w, (callFunc fPush args).run Try.prog w = .ok (.enter fPush args) w
  mPush : ∀ w, (method 198 t v "Push").run Try.prog w = .ok (fPush, v) w
  ePop : ∀ args w, (callFunc fPop args).run Try.prog w = .ok (.enter fPop args) w
  mPop : ∀ w, (method 198 t v "Pop").run Try.prog w = .ok (fPop, v) w
  len : ∀ l w, At l w → Calls Try.prog fLen #[v] w fun e w' => e = .returned (.int .i64 l.length) ∧ At l w' ∧ R w w'
  less : ∀ l w (i j : Nat), i < l.length → j < l.length → At l w → Calls Try.prog fLess #[v, .int .i64 i, .int .i64 j] w fun e w' => e = .returned (.bool (lt l[i]! l[j]!)) ∧ At l w' ∧ R w w'
  swap : ∀ l w (i j : Nat), i < l.length → j < l.length → At l w → Calls Try.prog fSwap #[v, .int .i64 i, .int .i64 j] w fun e w' => e = .returned (.tuple #[]) ∧ At (swp l i j) w' ∧ R w w'
  push : ∀ l w x, l.length < N → At l w → Calls Try.prog fPush #[v, .iface te (enc x)] w fun e w' => e = .returned (.tuple #[]) ∧ At (l ++ [x]) w' ∧ R w w'
  pop : ∀ l w x, At (l ++ [x]) w → Calls Try.prog fPop #[v] w fun e w' => e = .returned (.iface te (enc x)) ∧ At l w' ∧ R w w'

section
variable {α : Type} [Inhabited α] {t : TypeId} {v : Value} {te : TypeId} {enc : α → Value} {lt : α → α → Bool} {N : Nat} {At : List α → World → Prop} {R : World → World → Prop} (H : HeapOps t v te enc lt N At R)

include H in
set_option maxHeartbeats 1600000 in
theorem heapUp (l : List α) (j : Nat) (w : World) (hN : N ≤ 1000000000) (hj : j < l.length) (ha : At l w) (hu : UpInv lt l j) :
    Calls Try.prog 39 #[.iface t v, .int .i64 j] w fun e w' => e = .returned (.tuple #[]) ∧ ∃ l', l'.Perm l ∧ IsHeap lt l' ∧ At l' w' ∧ R w w' := by
  have hlen := H.room l w ha
  have HA := Lib.hid ha
  have HU := Lib.hid hu
  have hmLess := H.mLess
  have hmSwap := H.mSwap
  have heLess := H.eLess
  have heSwap := H.eSwap
  clear ha hu
  go_enter Try.func39, Try.ntmps39
  go_wp2
  go_loopg [1] (j + 1) (fun gk jv wr => ∃ (j' : Nat) (l' : List α), jv = .int .i64 j' ∧ j' < gk ∧ j' < l'.length ∧ l'.length = l.length ∧ Hid (l'.Perm l ∧ UpInv lt l' j' ∧ At l' wr ∧ R w wr))
  case atStart => exact ⟨j, l, rfl, by omega, hj, rfl, List.Perm.refl _, HU.out, HA.out, H.refl _⟩
  case round =>
    obtain ⟨j', l', rfl, hg, hj', hl', HI⟩ := hrel
    have HL' := Lib.hid hl'
    have hjb : j' < 1000000000 := by omega
    clear hl'
    by_cases h0 : j' = 0
    · subst h0
      go_wp2
      go_end0
      exact ⟨rfl, l', HI.out.1, up_done0 HI.out.2.1, HI.out.2.2.1, HI.out.2.2.2⟩
    · have hq : (((j' : Int) - 1) / 2) = (((j' - 1) / 2 : Nat) : Int) := by omega
      have t1 : ((((j' : Int) - 1) / 2) == (j' : Int)) = false := by rw [hq]; simpa using by omega
      have HQ := Lib.hid hq
      clear hq
      have hil : (j' - 1) / 2 < l'.length := by omega
      cases hlt : lt l'[j']! l'[(j' - 1) / 2]!
      · have HC := Lib.hid (H.less l' wr j' ((j' - 1) / 2) hj' hil HI.out.2.2.1)
        rw [← HQ.out, hlt] at HC
        have HLT := Lib.hid hlt
        clear hlt
        go_wp2_with fail
        refine HC.out.mono ?_
        rintro e w2 ⟨rfl, ha2, hr2⟩
        have HA2 := Lib.hid ha2
        have HR2 := Lib.hid hr2
        clear ha2 hr2
        go_wp2
        go_end0
        exact ⟨rfl, l', HI.out.1, up_done HI.out.2.1 HLT.out, HA2.out, H.trans _ _ _ HI.out.2.2.2 HR2.out⟩
      · have HC := Lib.hid (H.less l' wr j' ((j' - 1) / 2) hj' hil HI.out.2.2.1)
        rw [← HQ.out, hlt] at HC
        have HLT := Lib.hid hlt
        clear hlt
        go_wp2_with fail
        refine HC.out.mono ?_
        rintro e w2 ⟨rfl, ha2, hr2⟩
        have HA2 := Lib.hid ha2
        have HR2 := Lib.hid hr2
        clear ha2 hr2
        have HC2 := Lib.hid (H.swap l' w2 ((j' - 1) / 2) j' hil hj' HA2.out)
        rw [← HQ.out] at HC2
        go_wp2_with fail
        refine HC2.out.mono ?_
        rintro e w3 ⟨rfl, ha3, hr3⟩
        have HA3 := Lib.hid ha3
        have HR3 := Lib.hid hr3
        clear ha3 hr3
        go_wp2
        go_roundg ((j' - 1) / 2 + 1)
        case rel =>
          refine ⟨(j' - 1) / 2, swp l' ((j' - 1) / 2) j', by rw [HQ.out], by omega, by rw [swp_length]; exact hil, by rw [swp_length]; exact HL'.out, ?_⟩
          exact ⟨(swp_perm _ _ _ hil hj').trans HI.out.1, up_step H.order HI.out.2.1 hj' (by omega) HLT.out, HA3.out, H.trans _ _ _ HI.out.2.2.2 (H.trans _ _ _ HR2.out HR3.out)⟩
        case measure => omega

include H in
set_option maxHeartbeats 1600000 in
theorem heapPush (l : List α) (x : α) (w : World) (hN : N ≤ 1000000000) (hl : l.length < N) (ha : At l w) (hh : IsHeap lt l) :
    Calls Try.prog 29 #[.iface t v, .iface te (enc x)] w fun e w' => e = .returned (.tuple #[]) ∧ ∃ l', l'.Perm (x :: l) ∧ IsHeap lt l' ∧ At l' w' ∧ R w w' := by
  have HA := Lib.hid ha
  have HH := Lib.hid hh
  have HC := Lib.hid (H.push l w x hl ha)
  have hmLen := H.mLen
  have hmPush := H.mPush
  have heLen := H.eLen
  have hePush := H.ePush
  clear ha hh
  go_enter Try.func29, Try.ntmps29
  go_wp2_with fail
  refine HC.out.mono ?_
  rintro e w2 ⟨rfl, ha2, hr2⟩
  have HA2 := Lib.hid ha2
  have HR2 := Lib.hid hr2
  clear ha2 hr2
  go_wp2_with fail
  refine (H.len _ w2 HA2.out).mono ?_
  rintro e w3 ⟨rfl, ha3, hr3⟩
  have HA3 := Lib.hid ha3
  have HR3 := Lib.hid hr3
  clear ha3 hr3
  have hlen : (((l ++ [x]).length : Nat) : Int) = (l.length : Int) + 1 := by simp
  rw [hlen]
  clear hlen
  have HU := Lib.hid (heapUp H (l ++ [x]) l.length w3 hN (by simp) HA3.out (up_start l x HH.out))
  obtain ⟨n, hn⟩ : ∃ n, n = l.length := ⟨_, rfl⟩
  rw [← hn] at HU hl ⊢
  clear hn
  go_wp2_with fail
  refine HU.out.mono ?_
  rintro e w4 ⟨rfl, l', hp, hh', ha4, hr4⟩
  have HF : Hid (∃ l', l'.Perm (x :: l) ∧ IsHeap lt l' ∧ At l' w4 ∧ R w w4) := ⟨l', hp.trans (List.perm_append_singleton _ _), hh', ha4, H.trans _ _ _ HR2.out (H.trans _ _ _ HR3.out hr4)⟩
  clear hp hh' ha4 hr4
  go_wp2
  go_end0
  exact ⟨rfl, HF.out⟩
end
end Go.Proofs.Ytcgkalfclammfaa
