import Derived.Test.YtnfpkjnllkkngaaGreatDoorSlideC4
import Derived.WalkKit
import Derived.Test.YtnfpkjnllkkngaaGreatDoorRef3b

section
namespace Go.Proofs.YtnfpkjnllkkngaaGreatDoor
open Go.RowKit Go.Shelf Go.Proofs Go.Proofs.PipeM Go.Proofs.PipeA
set_option maxRecDepth 100000

/-- The writer's blocks are others than these. -/
def Off (b : Nat) (v : Value) (g : Nat) : Prop := g ∉ b :: v.ownBlock.toList

theorem Off.next {b : Nat} {v v3 : Value} {g n : Nat} (h : Off b v g) (hg : g < n) (ho : v3.ownBlock = v.ownBlock ∨ ∃ g', v3.ownBlock = some g' ∧ n ≤ g') : Off b v3 g := by
  rcases ho with e | ⟨g', e, hn⟩
  · unfold Off at h ⊢; rw [e]; exact h
  · unfold Off at h ⊢
    simp only [List.mem_cons, not_or] at h ⊢
    refine ⟨h.1, ?_⟩
    rw [e]; simp; omega
theorem Off.new {w : World} {b : Nat} {v : Value} {g : Nat} {l : List Bool} {zs : List Nat} (h : WrIs w b v l zs) (hg : w.heap.size ≤ g) : Off b v g := by
  unfold Off
  simp only [List.mem_cons, not_or]
  refine ⟨by have := h.lt; omega, fun hm => ?_⟩
  have := (own_block_lt h.own g (by simpa using hm)).2
  omega

attribute [local go_sem] Oper.semAt_some

theorem cBits (lo ao : Option Addr) (lcap cap : Nat) (l : List Int) (P : Int) (ks : List Int) (w : World) (hcap : l.length ≤ lcap) (hl : l.length ≤ 1000000) (hk : ks.length ≤ 1000000) (hi : IntsAt w lo l) (hj : IntsAt w ao ks) :
    Calls Tryz.prog 82 #[.slice lo l.length lcap, .agg #[.int .i64 P, .slice ao ks.length cap]] w fun e w' => e = .returned (.int .i64 (slideLen l P ks)) ∧ Below w.heap.size w w' := by
  cases h : slideOk l P ks
  · exact cBits_no lo ao lcap cap l P ks w hl hk hi hj h
  · exact cBits_yes lo ao lcap cap l P ks w hcap hi hj h
end Go.Proofs.YtnfpkjnllkkngaaGreatDoor
end

section
namespace Go.Proofs.HeapM

variable {α : Type} [Inhabited α]

def swp (l : List α) (i j : Nat) : List α := (l.set i l[j]!).set j l[i]!

theorem swp_length (l : List α) (i j : Nat) : (swp l i j).length = l.length := by simp [swp]

theorem get_set (l : List α) (i k : Nat) (x : α) (hi : i < l.length) : (l.set i x)[k]! = if k = i then x else l[k]! := by
  by_cases h : k = i
  · subst h
    rw [if_pos rfl, List.getElem!_eq_getElem?_getD, List.getElem?_set_self hi]; rfl
  · rw [if_neg h, List.getElem!_eq_getElem?_getD, List.getElem!_eq_getElem?_getD, List.getElem?_set_ne (by omega)]

theorem swp_get (l : List α) (i j k : Nat) (hi : i < l.length) (hj : j < l.length) : (swp l i j)[k]! = if k = j then l[i]! else if k = i then l[j]! else l[k]! := by
  unfold swp
  rw [get_set _ _ _ _ (by simpa using hj), get_set _ _ _ _ hi]

theorem get_eq (l : List α) (i : Nat) (h : i < l.length) : l[i]! = l[i] := by simp [h]

theorem set_perm {β : Type} (l : List β) (i : Nat) (x : β) (h : i < l.length) : (l[i] :: l.set i x).Perm (x :: l) := by
  induction l generalizing i with
  | nil => simp at h
  | cons a r ih =>
    cases i with
    | zero => simp; exact List.Perm.swap x a r
    | succ i =>
      simp only [List.length_cons, Nat.add_lt_add_iff_right] at h
      have := ih i h
      simp only [List.getElem_cons_succ, List.set_cons_succ]
      exact (List.Perm.swap a _ _).trans ((this.cons a).trans (List.Perm.swap x a r))

theorem swp_perm (l : List α) (i j : Nat) (hi : i < l.length) (hj : j < l.length) : (swp l i j).Perm l := by
  by_cases hij : i = j
  · subst hij
    unfold swp
    rw [List.set_set, get_eq l i hi, List.set_getElem_self]
  · unfold swp
    have h1 := set_perm l i l[j]! hi
    have h2 := set_perm (l.set i l[j]!) j l[i]! (by simpa using hj)
    have e : (l.set i l[j]!)[j]'(by simpa using hj) = l[j]! := by
      rw [List.getElem_set_ne hij]; exact (get_eq l j hj).symm
    rw [e] at h2
    rw [get_eq l i hi] at h2 ⊢
    have h3 := h2.trans h1
    exact h3.cons_inv

variable (lt : α → α → Bool)

/-- An order in which of two one is never behind the other, both ways. -/
structure Order : Prop where
  total : ∀ a b, lt a b = true → lt b a = false
  trans : ∀ a b c, lt b a = false → lt c b = false → lt c a = false

/-- The one is not behind the other. -/
def le (a b : α) : Prop := lt b a = false

variable {lt}
omit [Inhabited α] in
theorem Order.refl (h : Order lt) (a : α) : le lt a a := by
  unfold le
  cases e : lt a a
  · rfl
  · have := h.total a a e; rw [e] at this; exact this
omit [Inhabited α] in
theorem Order.le_of_lt (h : Order lt) {a b : α} (hl : lt a b = true) : le lt a b := h.total a b hl
omit [Inhabited α] in
theorem Order.le_trans (h : Order lt) {a b c : α} (h1 : le lt a b) (h2 : le lt b c) : le lt a c := h.trans a b c h1 h2

variable (lt)
/-- Of the first n no one stands ahead of its parent. -/
def HeapN (l : List α) (n : Nat) : Prop := ∀ k, 0 < k → k < n → le lt l[(k - 1) / 2]! l[k]!
def IsHeap (l : List α) : Prop := HeapN lt l l.length

/-- A heap but for what stands at j, seen upwards. -/
def UpInv (l : List α) (j : Nat) : Prop :=
  (∀ k, 0 < k → k < l.length → k ≠ j → le lt l[(k - 1) / 2]! l[k]!) ∧ (∀ k, 0 < k → k < l.length → (k - 1) / 2 = j → 0 < j → le lt l[(j - 1) / 2]! l[k]!)

/-- A heap of the first n but for what stands at i, seen downwards. -/
def DownInv (l : List α) (i n : Nat) : Prop :=
  (∀ k, 0 < k → k < n → (k - 1) / 2 ≠ i → le lt l[(k - 1) / 2]! l[k]!) ∧ (∀ k, 0 < k → k < n → (k - 1) / 2 = i → 0 < i → le lt l[(i - 1) / 2]! l[k]!)

variable {lt}
theorem up_start (l : List α) (x : α) (h : IsHeap lt l) : UpInv lt (l ++ [x]) l.length := by
  have g : ∀ k, k < l.length → (l ++ [x])[k]! = l[k]! := by
    intro k hk
    rw [List.getElem!_eq_getElem?_getD, List.getElem!_eq_getElem?_getD, List.getElem?_append_left hk]
  constructor
  · intro k h0 h1 h2
    simp at h1
    have hk : k < l.length := by omega
    rw [g k hk, g _ (by omega)]
    exact h k h0 hk
  · intro k h0 h1 h2 h3
    simp at h1
    omega

theorem up_done0 {l : List α} (h : UpInv lt l 0) : IsHeap lt l := fun k h0 h1 => h.1 k h0 h1 (by omega)
theorem up_done {l : List α} {j : Nat} (h : UpInv lt l j) (hl : lt l[j]! l[(j - 1) / 2]! = false) : IsHeap lt l := by
  intro k h0 h1
  by_cases hk : k = j
  · subst hk; exact hl
  · exact h.1 k h0 h1 hk

theorem up_step (ho : Order lt) {l : List α} {j : Nat} (h : UpInv lt l j) (hj : j < l.length) (h0 : 0 < j) (hl : lt l[j]! l[(j - 1) / 2]! = true) :
    UpInv lt (swp l ((j - 1) / 2) j) ((j - 1) / 2) := by
  obtain ⟨i, hi⟩ : ∃ i, i = (j - 1) / 2 := ⟨_, rfl⟩
  rw [← hi] at hl ⊢
  have hij : i < j := by omega
  have hil : i < l.length := by omega
  have hle : le lt l[j]! l[i]! := ho.le_of_lt hl
  constructor
  · intro k k0 k1 kne
    rw [swp_length] at k1
    rw [swp_get _ _ _ _ hil hj, swp_get _ _ _ _ hil hj]
    by_cases hk : k = j
    · rw [if_pos hk]
      have e : (k - 1) / 2 = i := by rw [hk, hi]
      rw [e, if_neg (by omega), if_pos rfl]
      exact hle
    · rw [if_neg hk, if_neg kne]
      by_cases hp : (k - 1) / 2 = j
      · rw [if_pos hp]
        have := h.2 k k0 k1 hp h0
        rw [← hi] at this
        exact this
      · rw [if_neg hp]
        have h1 := h.1 k k0 k1 hk
        by_cases hp2 : (k - 1) / 2 = i
        · rw [if_pos hp2]
          rw [hp2] at h1
          exact ho.le_trans hle h1
        · rw [if_neg hp2]; exact h1
  · intro k k0 k1 kp i0
    rw [swp_length] at k1
    have hg : le lt l[(i - 1) / 2]! l[i]! := h.1 i i0 hil (by omega)
    rw [swp_get _ _ _ _ hil hj, swp_get _ _ _ _ hil hj, if_neg (by omega), if_neg (by omega)]
    by_cases hk : k = j
    · rw [if_pos hk]; exact hg
    · rw [if_neg hk, if_neg (by omega)]
      have h1 := h.1 k k0 k1 hk
      rw [kp] at h1
      exact ho.le_trans hg h1

theorem down_start {l : List α} {n : Nat} (hn : l.length = n + 1) (h : IsHeap lt l) : DownInv lt (swp l 0 n) 0 n := by
  constructor
  · intro k h0 h1 h2
    rw [swp_get _ _ _ _ (by omega) (by omega), swp_get _ _ _ _ (by omega) (by omega), if_neg (by omega), if_neg h2, if_neg (by omega), if_neg (by omega)]
    exact h k h0 (by omega)
  · intro k _ _ _ h3; omega

theorem down_none {l : List α} {i n : Nat} (h : DownInv lt l i n) (hn : n ≤ 2 * i + 1) : HeapN lt l n := by
  intro k h0 h1
  exact h.1 k h0 h1 (by omega)

/-- j is a child of i that no other child stands ahead of. -/
def Child (lt : α → α → Bool) (l : List α) (i n j : Nat) : Prop := (j - 1) / 2 = i ∧ 0 < j ∧ j < n ∧ ∀ k, 0 < k → k < n → (k - 1) / 2 = i → le lt l[j]! l[k]!

theorem child_one (ho : Order lt) {l : List α} {i n : Nat} (h1 : 2 * i + 1 < n) (h2 : n ≤ 2 * i + 2) : Child lt l i n (2 * i + 1) := by
  refine ⟨by omega, by omega, h1, fun k k0 k1 kp => ?_⟩
  have : k = 2 * i + 1 := by omega
  subst this; exact ho.refl _
theorem child_left (ho : Order lt) {l : List α} {i n : Nat} (h2 : 2 * i + 2 < n) (hl : lt l[2 * i + 2]! l[2 * i + 1]! = false) : Child lt l i n (2 * i + 1) := by
  refine ⟨by omega, by omega, by omega, fun k k0 k1 kp => ?_⟩
  have : k = 2 * i + 1 ∨ k = 2 * i + 2 := by omega
  rcases this with rfl | rfl
  · exact ho.refl _
  · exact hl
theorem child_right (ho : Order lt) {l : List α} {i n : Nat} (h2 : 2 * i + 2 < n) (hl : lt l[2 * i + 2]! l[2 * i + 1]! = true) : Child lt l i n (2 * i + 2) := by
  refine ⟨by omega, by omega, by omega, fun k k0 k1 kp => ?_⟩
  have : k = 2 * i + 1 ∨ k = 2 * i + 2 := by omega
  rcases this with rfl | rfl
  · exact ho.le_of_lt hl
  · exact ho.refl _

theorem down_done (ho : Order lt) {l : List α} {i n j : Nat} (h : DownInv lt l i n) (hc : Child lt l i n j) (hl : lt l[j]! l[i]! = false) : HeapN lt l n := by
  intro k h0 h1
  by_cases hk : (k - 1) / 2 = i
  · rw [hk]; exact ho.le_trans hl (hc.2.2.2 k h0 h1 hk)
  · exact h.1 k h0 h1 hk

theorem down_step (ho : Order lt) {l : List α} {i n j : Nat} (h : DownInv lt l i n) (hc : Child lt l i n j) (hn : n ≤ l.length) (hl : lt l[j]! l[i]! = true) : DownInv lt (swp l i j) j n := by
  obtain ⟨cp, c0, cn, cm⟩ := hc
  have hij : i < j := by omega
  have hil : i < l.length := by omega
  have hjl : j < l.length := by omega
  constructor
  · intro k k0 k1 kp
    rw [swp_get _ _ _ _ hil hjl, swp_get _ _ _ _ hil hjl, if_neg kp]
    by_cases hk : k = j
    · rw [if_pos hk, hk, cp, if_pos rfl]; exact ho.le_of_lt hl
    · rw [if_neg hk]
      by_cases hki : k = i
      · subst hki
        rw [if_pos rfl, if_neg (by omega)]
        exact h.2 j c0 cn cp k0
      · rw [if_neg hki]
        by_cases hp : (k - 1) / 2 = i
        · rw [if_pos hp]; exact cm k k0 k1 hp
        · rw [if_neg hp]; exact h.1 k k0 k1 hp
  · intro k k0 k1 kp j0
    rw [swp_get _ _ _ _ hil hjl, swp_get _ _ _ _ hil hjl, cp, if_neg (by omega), if_pos rfl, if_neg (by omega), if_neg (by omega)]
    have := h.1 k k0 k1 (by omega)
    rw [kp] at this
    exact this

theorem heap_root (ho : Order lt) {l : List α} (h : IsHeap lt l) : ∀ k, k < l.length → le lt l[0]! l[k]! := by
  intro k
  induction k using Nat.strongRecOn with
  | _ k ih =>
    intro hk
    by_cases h0 : k = 0
    · subst h0; exact ho.refl _
    · exact ho.le_trans (ih ((k - 1) / 2) (by omega) (by omega)) (h k (by omega) hk)

theorem heap_root_mem (ho : Order lt) {l : List α} (h : IsHeap lt l) (x : α) (hx : x ∈ l) : le lt l[0]! x := by
  obtain ⟨k, hk, rfl⟩ := List.getElem_of_mem hx
  have := heap_root ho h k hk
  rwa [get_eq l k hk] at this

theorem heapN_take {l : List α} {n : Nat} (hn : n ≤ l.length) (h : HeapN lt l n) : IsHeap lt (l.take n) := by
  have g : ∀ k, k < n → (l.take n)[k]! = l[k]! := by
    intro k hk
    rw [List.getElem!_eq_getElem?_getD, List.getElem!_eq_getElem?_getD, List.getElem?_take_of_lt hk]
  intro k h0 h1
  rw [List.length_take] at h1
  rw [g k (by omega), g _ (by omega)]
  exact h k h0 (by omega)

theorem isHeap_nil : IsHeap lt ([] : List α) := fun k _ h => absurd h (by simp)
end Go.Proofs.HeapM
end

section
namespace Go.Proofs.YtnfpkjnllkkngaaGreatDoor
open Go.RowKit Go.Proofs Go.Proofs.PipeM Go.Proofs.PipeA Go.Proofs.HeapM

/-- What a heap of the program's own tells of itself: how it lies in memory while it holds a list of at most N, and what its calls do to it. -/
structure HeapOps {α : Type} [Inhabited α] (t : TypeId) (v : Value) (te : TypeId) (enc : α → Value) (lt : α → α → Bool) (N : Nat) (At : List α → World → Prop) (R : World → World → Prop) where
  fLen : FuncId
  fLess : FuncId
  fSwap : FuncId
  fPush : FuncId
  fPop : FuncId
  refl : ∀ w, R w w
  trans : ∀ a b c, R a b → R b c → R a c
  order : Order lt
  room : ∀ l w, At l w → l.length ≤ N
  eLen : ∀ args w, (callFunc fLen args).run Tryz.prog w = .ok (.enter fLen args) w
  mLen : ∀ w, (method 263 t v "Len").run Tryz.prog w = .ok (fLen, v) w
  eLess : ∀ args w, (callFunc fLess args).run Tryz.prog w = .ok (.enter fLess args) w
  mLess : ∀ w, (method 263 t v "Less").run Tryz.prog w = .ok (fLess, v) w
  eSwap : ∀ args w, (callFunc fSwap args).run Tryz.prog w = .ok (.enter fSwap args) w
  mSwap : ∀ w, (method 263 t v "Swap").run Tryz.prog w = .ok (fSwap, v) w
  ePush : ∀ args w, (callFunc fPush args).run Tryz.prog w = .ok (.enter fPush args) w
  mPush : ∀ w, (method 263 t v "Push").run Tryz.prog w = .ok (fPush, v) w
  ePop : ∀ args w, (callFunc fPop args).run Tryz.prog w = .ok (.enter fPop args) w
  mPop : ∀ w, (method 263 t v "Pop").run Tryz.prog w = .ok (fPop, v) w
  len : ∀ l w, At l w → Calls Tryz.prog fLen #[v] w fun e w' => e = .returned (.int .i64 l.length) ∧ At l w' ∧ R w w'
  less : ∀ l w (i j : Nat), i < l.length → j < l.length → At l w → Calls Tryz.prog fLess #[v, .int .i64 i, .int .i64 j] w fun e w' => e = .returned (.bool (lt l[i]! l[j]!)) ∧ At l w' ∧ R w w'
  swap : ∀ l w (i j : Nat), i < l.length → j < l.length → At l w → Calls Tryz.prog fSwap #[v, .int .i64 i, .int .i64 j] w fun e w' => e = .returned (.tuple #[]) ∧ At (swp l i j) w' ∧ R w w'
  push : ∀ l w x, l.length < N → At l w → Calls Tryz.prog fPush #[v, .iface te (enc x)] w fun e w' => e = .returned (.tuple #[]) ∧ At (l ++ [x]) w' ∧ R w w'
  pop : ∀ l w x, At (l ++ [x]) w → Calls Tryz.prog fPop #[v] w fun e w' => e = .returned (.iface te (enc x)) ∧ At l w' ∧ R w w'

section
variable {α : Type} [Inhabited α] {t : TypeId} {v : Value} {te : TypeId} {enc : α → Value} {lt : α → α → Bool} {N : Nat} {At : List α → World → Prop} {R : World → World → Prop} (H : HeapOps t v te enc lt N At R)

include H in
set_option maxHeartbeats 1600000 in
theorem heapUp (l : List α) (j : Nat) (w : World) (hN : N ≤ 1000000000) (hj : j < l.length) (ha : At l w) (hu : UpInv lt l j) :
    Calls Tryz.prog 113 #[.iface t v, .int .i64 j] w fun e w' => e = .returned (.tuple #[]) ∧ ∃ l', l'.Perm l ∧ IsHeap lt l' ∧ At l' w' ∧ R w w' := by
  have hlen := H.room l w ha
  have HA := Lib.hid ha
  have HU := Lib.hid hu
  have hmLess := H.mLess
  have hmSwap := H.mSwap
  have heLess := H.eLess
  have heSwap := H.eSwap
  clear ha hu
  go_enter Tryz.func113, Tryz.ntmps113
  go_wp2
  go_loopg [1] (j + 1) (fun gk jv wr => ∃ (j' : Nat) (l' : List α), jv = .int .i64 j' ∧ j' < gk ∧ j' < l'.length ∧ l'.length = l.length ∧ Hid (l'.Perm l ∧ UpInv lt l' j' ∧ At l' wr ∧ R w wr))
  case atStart => exact ⟨j, l, rfl, by omega, hj, rfl, List.Perm.refl _, HU.out, HA.out, H.refl _⟩
  case round =>
    obtain ⟨j', l', rfl, hg, hj', hl', HI⟩ := hrel
    have HL' := Lib.hid hl'
    have hjb : j' < 1000000000 := by omega
    clear hl'
    by_cases h0 : j' = 0
    · subst h0
      go_wp2
      go_end0
      exact ⟨rfl, l', HI.out.1, up_done0 HI.out.2.1, HI.out.2.2.1, HI.out.2.2.2⟩
    · have hq : (((j' : Int) - 1) / 2) = (((j' - 1) / 2 : Nat) : Int) := by omega
      have t1 : ((((j' : Int) - 1) / 2) == (j' : Int)) = false := by rw [hq]; simpa using by omega
      have HQ := Lib.hid hq
      clear hq
      have hil : (j' - 1) / 2 < l'.length := by omega
      cases hlt : lt l'[j']! l'[(j' - 1) / 2]!
      · have HC := Lib.hid (H.less l' wr j' ((j' - 1) / 2) hj' hil HI.out.2.2.1)
        rw [← HQ.out, hlt] at HC
        have HLT := Lib.hid hlt
        clear hlt
        go_wp2_with fail
        refine HC.out.mono ?_
        rintro e w2 ⟨rfl, ha2, hr2⟩
        have HA2 := Lib.hid ha2
        have HR2 := Lib.hid hr2
        clear ha2 hr2
        go_wp2
        go_end0
        exact ⟨rfl, l', HI.out.1, up_done HI.out.2.1 HLT.out, HA2.out, H.trans _ _ _ HI.out.2.2.2 HR2.out⟩
      · have HC := Lib.hid (H.less l' wr j' ((j' - 1) / 2) hj' hil HI.out.2.2.1)
        rw [← HQ.out, hlt] at HC
        have HLT := Lib.hid hlt
        clear hlt
        go_wp2_with fail
        refine HC.out.mono ?_
        rintro e w2 ⟨rfl, ha2, hr2⟩
        have HA2 := Lib.hid ha2
        have HR2 := Lib.hid hr2
        clear ha2 hr2
        have HC2 := Lib.hid (H.swap l' w2 ((j' - 1) / 2) j' hil hj' HA2.out)
        rw [← HQ.out] at HC2
        go_wp2_with fail
        refine HC2.out.mono ?_
        rintro e w3 ⟨rfl, ha3, hr3⟩
        have HA3 := Lib.hid ha3
        have HR3 := Lib.hid hr3
        clear ha3 hr3
        go_wp2
        go_roundg ((j' - 1) / 2 + 1)
        case rel =>
          refine ⟨(j' - 1) / 2, swp l' ((j' - 1) / 2) j', by rw [HQ.out], by omega, by rw [swp_length]; exact hil, by rw [swp_length]; exact HL'.out, ?_⟩
          exact ⟨(swp_perm _ _ _ hil hj').trans HI.out.1, up_step H.order HI.out.2.1 hj' (by omega) HLT.out, HA3.out, H.trans _ _ _ HI.out.2.2.2 (H.trans _ _ _ HR2.out HR3.out)⟩
        case measure => omega

include H in
set_option maxHeartbeats 1600000 in
theorem heapPush (l : List α) (x : α) (w : World) (hN : N ≤ 1000000000) (hl : l.length < N) (ha : At l w) (hh : IsHeap lt l) :
    Calls Tryz.prog 95 #[.iface t v, .iface te (enc x)] w fun e w' => e = .returned (.tuple #[]) ∧ ∃ l', l'.Perm (x :: l) ∧ IsHeap lt l' ∧ At l' w' ∧ R w w' := by
  have HA := Lib.hid ha
  have HH := Lib.hid hh
  have HC := Lib.hid (H.push l w x hl ha)
  have hmLen := H.mLen
  have hmPush := H.mPush
  have heLen := H.eLen
  have hePush := H.ePush
  clear ha hh
  go_enter Tryz.func95, Tryz.ntmps95
  go_wp2_with fail
  refine HC.out.mono ?_
  rintro e w2 ⟨rfl, ha2, hr2⟩
  have HA2 := Lib.hid ha2
  have HR2 := Lib.hid hr2
  clear ha2 hr2
  go_wp2_with fail
  refine (H.len _ w2 HA2.out).mono ?_
  rintro e w3 ⟨rfl, ha3, hr3⟩
  have HA3 := Lib.hid ha3
  have HR3 := Lib.hid hr3
  clear ha3 hr3
  have hlen : (((l ++ [x]).length : Nat) : Int) = (l.length : Int) + 1 := by simp
  rw [hlen]
  clear hlen
  have HU := Lib.hid (heapUp H (l ++ [x]) l.length w3 hN (by simp) HA3.out (up_start l x HH.out))
  obtain ⟨n, hn⟩ : ∃ n, n = l.length := ⟨_, rfl⟩
  rw [← hn] at HU hl ⊢
  clear hn
  go_wp2_with fail
  refine HU.out.mono ?_
  rintro e w4 ⟨rfl, l', hp, hh', ha4, hr4⟩
  have HF : Hid (∃ l', l'.Perm (x :: l) ∧ IsHeap lt l' ∧ At l' w4 ∧ R w w4) := ⟨l', hp.trans (List.perm_append_singleton _ _), hh', ha4, H.trans _ _ _ HR2.out (H.trans _ _ _ HR3.out hr4)⟩
  clear hp hh' ha4 hr4
  go_wp2
  go_end0
  exact ⟨rfl, HF.out⟩
end
end Go.Proofs.YtnfpkjnllkkngaaGreatDoor
end
