import Derived.Test.YtefbakhhlonafaaBlkC9

section
namespace Go.Proofs.Ytefbakhhlonafaa
open Go.RowKit Go.Proofs Go.Proofs.BlkM Go.Proofs.BlkB
set_option maxRecDepth 100000

theorem cNotN (n m : Int) (b : Nat) (w : World) (hb : w.cell? ⟨b, 0, none⟩ = some (.int .i64 n)) :
    Calls Try.prog 52 #[.int .i64 m, .pointer (some ⟨b, 0, none⟩)] w fun e w' => e = .returned (.bool (m != n)) ∧ w = w' := by
  go_enter Try.func52, Try.ntmps52
  go_wp2
  go_ret
  exact ⟨rfl, rfl⟩

theorem cIndexNot (ao : Option Addr) (cap : Nat) (l : List Int) (n : Int) (b : Nat) (w : World) (hb : w.cell? ⟨b, 0, none⟩ = some (.int .i64 n)) (hl : l.length ≤ 9223372036854775807) (hi : IntsAt w ao l) :
    Calls Try.prog 68 #[.slice ao l.length cap, .func (.func 52) #[] #[.pointer (some ⟨b, 0, none⟩)]] w fun e w' => ∃ k : Int, e = .returned (.int .i64 k) ∧ FoundB l (fun m => m != n) k ∧ w = w' := by
  have HI := Lib.hid hi
  have HL := fun m => Lib.hid (cNotN n m b w hb)
  clear hi
  go_enter Try.func68, Try.ntmps68
  go_wp2
  go_loopg [5, 8] l.length (fun gk q i wr => ∃ c : Nat, c ≤ l.length ∧ gk + c = l.length ∧ i = .int .i64 c ∧ Hid ((l.take c).any (fun m => m != n) = false) ∧ w = wr)
  case atStart => exact ⟨0, Nat.zero_le _, by omega, rfl, by simp [Hid], rfl⟩
  case round =>
    obtain ⟨c, hc, hgk, rfl, HT, rfl⟩ := hrel
    have HGK := Lib.hid hgk
    clear hgk
    by_cases hlt : c < l.length
    · obtain ⟨g, off, rfl, hg, hcell⟩ := HI.out c hlt
      have HNX := Lib.hid (b_any_take (f := fun m => m != n) hlt)
      have HLC := HL l[c]
      have HMem : Hid ((l[c] != n) = true → l.any (fun m => m != n) = true) := fun h => List.any_eq_true.2 ⟨l[c], List.getElem_mem hlt, h⟩
      generalize l[c] = x at hcell HNX HLC HMem
      cases hx : (x != n)
      · have HN2 : Hid ((l.take (c + 1)).any (fun m => m != n) = false) := by show _ = _; rw [HNX.out, HT.out]; simp [hx]
        rw [hx] at HLC
        clear hx HMem HNX hg
        go_wp2_with fail
        refine HLC.out.mono ?_
        rintro e w1 ⟨rfl, rfl⟩
        go_wp2
        go_roundg (gk - 1)
        case rel => exact ⟨c + 1, by omega, by have := HGK.out; omega, by go_num, HN2, rfl⟩
        case measure => have := HGK.out; omega
      · have HM2 := Lib.hid (HMem.out hx)
        rw [hx] at HLC
        clear hx HMem HNX hg
        go_wp2_with fail
        refine HLC.out.mono ?_
        rintro e w1 ⟨rfl, rfl⟩
        go_wp2
        go_ret
        exact ⟨_, rfl, by unfold FoundB; rw [HM2.out]; exact decide_eq_true (by omega), rfl⟩
    · obtain rfl : c = l.length := by omega
      have HA : Hid (l.any (fun m => m != n) = false) := by have := HT.out; rw [List.take_length] at this; exact this
      go_wp2
      go_ret
      exact ⟨_, rfl, by unfold FoundB; rw [HA.out]; rfl, rfl⟩

set_option maxHeartbeats 400000 in
theorem cContainsNot (ao : Option Addr) (cap : Nat) (l : List Int) (n : Int) (b : Nat) (w : World) (hb : w.cell? ⟨b, 0, none⟩ = some (.int .i64 n)) (hl : l.length ≤ 9223372036854775807) (hi : IntsAt w ao l) :
    Calls Try.prog 44 #[.slice ao l.length cap, .func (.func 52) #[] #[.pointer (some ⟨b, 0, none⟩)]] w fun e w' => e = .returned (.bool (l.any (fun m => m != n))) ∧ w = w' := by
  have HC := Lib.hid (cIndexNot ao cap l n b w hb hl hi)
  obtain ⟨d, hd⟩ : ∃ d, d = l.any (fun m => m != n) := ⟨_, rfl⟩
  rw [← hd]
  have HD := Lib.hid hd
  clear hi hd hb
  go_enter Try.func44, Try.ntmps44
  go_wp2_with fail
  refine HC.out.mono ?_
  rintro e w1 ⟨k, rfl, hf, rfl⟩
  unfold FoundB at hf
  rw [← HD.out] at hf
  go_wp2
  go_ret
  exact ⟨rfl, rfl⟩

/-- Whether all are n. -/
def allN (l : List Int) (n : Int) : Bool := l.all (fun m => m == n)
theorem any_allN (l : List Int) (n : Int) : l.any (fun m => m != n) = !(allN l n) := by
  unfold allN
  induction l with
  | nil => rfl
  | cons x r ih => rw [List.any_cons, List.all_cons, ih, Bool.not_and]; rfl

theorem cIsAll (ao : Option Addr) (cap : Nat) (l : List Int) (n : Int) (w : World) (hl : l.length ≤ 9223372036854775807) (hi : IntsAt w ao l) :
    Calls Try.prog 27 #[.slice ao l.length cap, .int .i64 n] w fun e w' => e = .returned (.bool (allN l n)) ∧ Below w.heap.size w w' := by
  have hb1 := box_below w (.cells #[.int .i64 n] 3)
  have hn1 := World.alloc_heap_new w (.cells #[.int .i64 n] 3)
  obtain ⟨w1, hw1⟩ : ∃ w1, w1 = w.alloc (.cells #[.int .i64 n] 3) := ⟨_, rfl⟩
  rw [← hw1] at hb1 hn1
  have HC := Lib.hid (cContainsNot ao cap l n w.heap.size w1 (cell_of_heap hn1 0) hl (hi.below hb1))
  rw [any_allN] at HC
  have HW := Lib.hid hw1
  have HB := Lib.hid hb1
  generalize allN l n = r at *
  clear hi hb1 hn1 hw1
  go_enter Try.func27, Try.ntmps27
  go_wp2_with fail
  rw [← HW.out]
  refine HC.out.mono ?_
  rintro e w2 ⟨rfl, rfl⟩
  go_wp2
  go_ret
  exact ⟨by simp, HB.out⟩
end Go.Proofs.Ytefbakhhlonafaa
end

section
namespace Go.Proofs.Ytefbakhhlonafaa
open Go.RowKit Go.Proofs Go.Proofs.PipeM Go.Proofs.PipeA Go.Proofs.BlkM
set_option maxRecDepth 100000

/-- Nine cells of a block. -/
structure Box9 (W : World) (B : Nat) (cs : Array Value) : Prop where
  lt : B < W.heap.size
  c : ∀ j v, cs[j]? = some v → W.cell? ⟨B, j, none⟩ = some v
  f : ∀ j, j < 9 → W.frozen? ⟨B, j, none⟩ = false
theorem Box9.keeps {W W' : World} {B : Nat} {cs : Array Value} {bs : List Nat} (h : Box9 W B cs) (hk : Keeps bs W W') (hb : B ∉ bs) : Box9 W' B cs :=
  ⟨Nat.lt_of_lt_of_le h.lt hk.size, fun j v hj => (hk.cell (p := ⟨B, j, none⟩) h.lt hb).trans (h.c j v hj), fun j hj => (hk.frozen (p := ⟨B, j, none⟩) h.lt hb).trans (h.f j hj)⟩
theorem Box9.set {W : World} {B : Nat} {cs : Array Value} (h : Box9 W B cs) (j : Nat) (v : Value) (hj : j < cs.size) : Box9 (W.setCell ⟨B, j, none⟩ v) B (cs.setIfInBounds j v) := by
  refine ⟨by simpa using h.lt, fun i u hi => ?_, fun i hi => by rw [World.frozen?_setCell]; exact h.f i hi⟩
  by_cases e : i = j
  · subst e
    have h0 : cs[i]? = some cs[i] := Array.getElem?_eq_getElem _
    have h1 : u = v := by
      rw [Array.getElem?_setIfInBounds_self_of_lt hj] at hi
      cases hi; rfl
    subst h1
    exact World.cell?_setCell_same _ _ _ (h.c i _ h0)
  · rw [Array.getElem?_setIfInBounds_ne (fun h => e h.symm)] at hi
    rw [World.cell?_setCell_other _ _ _ _ (by simp)]
    exact h.c i u hi
theorem Box9.setTo {W : World} {B : Nat} {cs cs' : Array Value} (h : Box9 W B cs) (j : Nat) (v : Value) (hj : j < cs.size) (hc : cs' = cs.setIfInBounds j v) : Box9 (W.setCell ⟨B, j, none⟩ v) B cs' := by
  rw [hc]; exact h.set j v hj
def set9 (W : World) (B : Nat) (v0 v1 v2 v3 v4 v5 v6 v7 v8 : Value) : World :=
  ((((((((W.setCell ⟨B, 0, none⟩ v0).setCell ⟨B, 1, none⟩ v1).setCell ⟨B, 2, none⟩ v2).setCell ⟨B, 3, none⟩ v3).setCell ⟨B, 4, none⟩ v4).setCell ⟨B, 5, none⟩ v5).setCell ⟨B, 6, none⟩ v6).setCell ⟨B, 7, none⟩ v7).setCell ⟨B, 8, none⟩ v8
theorem Box9.set9 {W : World} {B : Nat} {u0 u1 u2 u3 u4 u5 u6 u7 u8 : Value} (h : Box9 W B #[u0, u1, u2, u3, u4, u5, u6, u7, u8]) (v0 v1 v2 v3 v4 v5 v6 v7 v8 : Value) :
    Box9 (set9 W B v0 v1 v2 v3 v4 v5 v6 v7 v8) B #[v0, v1, v2, v3, v4, v5, v6, v7, v8] ∧ Keeps [B] W (set9 W B v0 v1 v2 v3 v4 v5 v6 v7 v8) := by
  constructor
  · have h0 := h
    have h1 := h0.setTo 0 v0 (by simp) (show #[v0, u1, u2, u3, u4, u5, u6, u7, u8] = (#[u0, u1, u2, u3, u4, u5, u6, u7, u8] : Array Value).setIfInBounds 0 v0 from rfl)
    have h2 := h1.setTo 1 v1 (by simp) (show #[v0, v1, u2, u3, u4, u5, u6, u7, u8] = (#[v0, u1, u2, u3, u4, u5, u6, u7, u8] : Array Value).setIfInBounds 1 v1 from rfl)
    have h3 := h2.setTo 2 v2 (by simp) (show #[v0, v1, v2, u3, u4, u5, u6, u7, u8] = (#[v0, v1, u2, u3, u4, u5, u6, u7, u8] : Array Value).setIfInBounds 2 v2 from rfl)
    have h4 := h3.setTo 3 v3 (by simp) (show #[v0, v1, v2, v3, u4, u5, u6, u7, u8] = (#[v0, v1, v2, u3, u4, u5, u6, u7, u8] : Array Value).setIfInBounds 3 v3 from rfl)
    have h5 := h4.setTo 4 v4 (by simp) (show #[v0, v1, v2, v3, v4, u5, u6, u7, u8] = (#[v0, v1, v2, v3, u4, u5, u6, u7, u8] : Array Value).setIfInBounds 4 v4 from rfl)
    have h6 := h5.setTo 5 v5 (by simp) (show #[v0, v1, v2, v3, v4, v5, u6, u7, u8] = (#[v0, v1, v2, v3, v4, u5, u6, u7, u8] : Array Value).setIfInBounds 5 v5 from rfl)
    have h7 := h6.setTo 6 v6 (by simp) (show #[v0, v1, v2, v3, v4, v5, v6, u7, u8] = (#[v0, v1, v2, v3, v4, v5, u6, u7, u8] : Array Value).setIfInBounds 6 v6 from rfl)
    have h8 := h7.setTo 7 v7 (by simp) (show #[v0, v1, v2, v3, v4, v5, v6, v7, u8] = (#[v0, v1, v2, v3, v4, v5, v6, u7, u8] : Array Value).setIfInBounds 7 v7 from rfl)
    have h9 := h8.setTo 8 v8 (by simp) (show #[v0, v1, v2, v3, v4, v5, v6, v7, v8] = (#[v0, v1, v2, v3, v4, v5, v6, v7, u8] : Array Value).setIfInBounds 8 v8 from rfl)
    exact h9
  · unfold Go.Proofs.Ytefbakhhlonafaa.set9
    exact ((((((((keeps_setCell _ _ _ _).trans (keeps_setCell _ _ _ _)).trans (keeps_setCell _ _ _ _)).trans (keeps_setCell _ _ _ _)).trans (keeps_setCell _ _ _ _)).trans (keeps_setCell _ _ _ _)).trans (keeps_setCell _ _ _ _)).trans (keeps_setCell _ _ _ _)).trans (keeps_setCell _ _ _ _)

theorem box9_new (w : World) (v0 v1 v2 v3 v4 v5 v6 v7 v8 : Value) (t : TypeId) : Box9 (w.alloc (.cells #[v0, v1, v2, v3, v4, v5, v6, v7, v8] t)) w.heap.size #[v0, v1, v2, v3, v4, v5, v6, v7, v8] := by
  have h := World.alloc_heap_new w (.cells #[v0, v1, v2, v3, v4, v5, v6, v7, v8] t)
  exact ⟨(Array.getElem?_eq_some_iff.1 h).1, fun j v hj => by rw [cell_of_heap h]; exact hj, fun j _ => frozen_of_heap h _⟩
end Go.Proofs.Ytefbakhhlonafaa
end
