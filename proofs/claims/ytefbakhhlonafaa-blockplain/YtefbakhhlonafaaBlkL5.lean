import Derived.Test.YtefbakhhlonafaaBlkL1
import Derived.Test.YtefbakhhlonafaaBlkP4
import Derived.Test.YtefbakhhlonafaaBlkG4
import Derived.Test.YtefbakhhlonafaaRef3g
import Derived.Test.YtefbakhhlonafaaBlkQ3

namespace Go.Proofs.Ytefbakhhlonafaa
open Go.RowKit Go.Proofs Go.Proofs.PipeM Go.Proofs.PipeA Go.Proofs.BlkM Go.Proofs.BlkB
set_option maxRecDepth 100000

set_option maxHeartbeats 800000 in
theorem plain10_many (ao : Option Addr) (cap len : Nat) (d : Int) (w : World) (h : ¬ len ≤ 64) :
    Calls Try.prog 4 #[.slice ao len cap, .int .i64 d] w fun e w' => e = .returned (.bool true) ∧ Below w.heap.size w w' := by
  have HA := fun W => Lib.hid (awake10 W)
  have t1 : decide ((64 : Int) < (len : Int)) = true := decide_eq_true (by omega)
  have t2 : decide (64 < len) = true := decide_eq_true (by omega)
  clear h
  go_enter Try.func4, Try.ntmps4
  go_wp2_with fail
  refine (HA _).out.mono ?_
  rintro e w1 ⟨rfl, hb1⟩
  have HB1 := Lib.hid hb1
  clear hb1
  go_wp2_with fail
  refine (HA _).out.mono ?_
  rintro e w2 ⟨rfl, hb2⟩
  have HB2 := Lib.hid (HB1.out.trans (hb2.mono HB1.out.size))
  clear hb2
  go_wp2
  go_ret
  exact ⟨rfl, HB2.out⟩

/-- Two blocks that are none are the same. -/
theorem same_none (W : World) : Calls Try.prog 12 #[.agg #[.int .i64 0, .int .i64 0, .int .i64 0, .slice none 0 0, .int .i64 0, .int .i64 0, .int .i64 0, .slice none 0 0, .slice none 0 0], .agg #[.int .i64 0, .int .i64 0, .int .i64 0, .slice none 0 0, .int .i64 0, .int .i64 0, .int .i64 0, .slice none 0 0, .slice none 0 0]] W fun e w' => e = .returned (.bool true) ∧ Below W.heap.size W w' :=
  rSame10 ⟨0, 0, 0, [], 0, 0, 0, [], []⟩ none none none none none none 0 0 0 0 0 0 W (blk_none_in _ _ _) (blk_none_in _ _ _)

set_option maxHeartbeats 1600000 in
theorem plain10_sizes (ao : Option Addr) (cap : Nat) (l : List Int) (d : Int) (w : World) (h : l.length ≤ 64) (hi : IntsAt w ao l) (hs : (sizeN (l.length : Int) && depthB d) = false) :
    Calls Try.prog 4 #[.slice ao l.length cap, .int .i64 d] w fun e w' => e = .returned (.bool true) ∧ Below w.heap.size w w' := by
  have HA := fun W => Lib.hid (awake10 W)
  have hc : chkB l d = 1 := by unfold chkB; rw [hs]; rfl
  have HPL := fun W (hb : Below w.heap.size w W) => Lib.hid (cPlain_no ao cap l d W (by omega) (hi.below hb) 1 hc (by decide))
  have HRD := fun W => Lib.hid (rDepth d W)
  have HSN := fun W => Lib.hid (same_none W)
  have t1 : decide ((64 : Int) < (l.length : Int)) = false := decide_eq_false (by omega)
  have t2 : decide (64 < l.length) = false := decide_eq_false (by omega)
  have h3 : l.length = 0 ∨ (0 < l.length ∧ depthB d = false) := by
    rcases Nat.eq_zero_or_pos l.length with h0 | h0
    · exact .inl h0
    · refine .inr ⟨h0, ?_⟩
      rw [show sizeN (l.length : Int) = true from decide_eq_true (by omega), Bool.true_and] at hs
      exact hs
  clear hi hc hs
  rcases h3 with h3 | ⟨h3, h4⟩
  · have t3 : decide ((l.length : Int) < 1) = true := decide_eq_true (by omega)
    have t4 : decide (l.length < 1) = true := decide_eq_true (by omega)
    clear h h3 HRD
    go_enter Try.func4, Try.ntmps4
    go_wp2_with fail
    refine (HA _).out.mono ?_
    rintro e w1 ⟨rfl, hb1⟩
    have HB1 := Lib.hid hb1
    clear hb1
    go_wp2_with fail
    refine (HPL _ HB1.out).out.mono ?_
    rintro e w2 ⟨rfl, hb2⟩
    have HB2 := Lib.hid (HB1.out.trans (hb2.mono HB1.out.size))
    clear hb2
    have HXN := Lib.hid (box9_new w2 (.int .i64 0) (.int .i64 0) (.int .i64 0) (.slice none 0 0) (.int .i64 0) (.int .i64 0) (.int .i64 0) (.slice none 0 0) (.slice none 0 0) 24)
    have hb3 := box_below w2 (.cells #[.int .i64 0, .int .i64 0, .int .i64 0, .slice none 0 0, .int .i64 0, .int .i64 0, .int .i64 0, .slice none 0 0, .slice none 0 0] 24)
    obtain ⟨w3, hw3⟩ : ∃ w3, w3 = w2.alloc (.cells #[.int .i64 0, .int .i64 0, .int .i64 0, .slice none 0 0, .int .i64 0, .int .i64 0, .int .i64 0, .slice none 0 0, .slice none 0 0] 24) := ⟨_, rfl⟩
    rw [← hw3] at HXN hb3
    have HB3 := Lib.hid (HB2.out.trans (hb3.mono HB2.out.size))
    have HW3 := Lib.hid hw3
    clear hw3 hb3
    have c0 := HXN.out.c 0 (.int .i64 0) rfl
    have c1 := HXN.out.c 1 (.int .i64 0) rfl
    have c2 := HXN.out.c 2 (.int .i64 0) rfl
    have c3 := HXN.out.c 3 (.slice none 0 0) rfl
    have c4 := HXN.out.c 4 (.int .i64 0) rfl
    have c5 := HXN.out.c 5 (.int .i64 0) rfl
    have c6 := HXN.out.c 6 (.int .i64 0) rfl
    have c7 := HXN.out.c 7 (.slice none 0 0) rfl
    have c8 := HXN.out.c 8 (.slice none 0 0) rfl
    go_wp2_with fail
    rw [← HW3.out]
    refine (HSN _).out.mono ?_
    rintro e w4 ⟨rfl, hb4⟩
    have HB4 := Lib.hid (HB3.out.trans (hb4.mono HB3.out.size))
    clear hb4
    go_wp2
    go_ret
    exact ⟨rfl, HB4.out⟩
  · rw [h4] at HRD
    have t3 : decide ((l.length : Int) < 1) = false := decide_eq_false (by omega)
    have t4 : decide (l.length < 1) = false := decide_eq_false (by omega)
    clear h h3 h4
    go_enter Try.func4, Try.ntmps4
    go_wp2_with fail
    refine (HA _).out.mono ?_
    rintro e w1 ⟨rfl, hb1⟩
    have HB1 := Lib.hid hb1
    clear hb1
    go_wp2_with fail
    refine (HPL _ HB1.out).out.mono ?_
    rintro e w2 ⟨rfl, hb2⟩
    have HB2 := Lib.hid (HB1.out.trans (hb2.mono HB1.out.size))
    clear hb2
    have HXN := Lib.hid (box9_new w2 (.int .i64 0) (.int .i64 0) (.int .i64 0) (.slice none 0 0) (.int .i64 0) (.int .i64 0) (.int .i64 0) (.slice none 0 0) (.slice none 0 0) 24)
    have hb3 := box_below w2 (.cells #[.int .i64 0, .int .i64 0, .int .i64 0, .slice none 0 0, .int .i64 0, .int .i64 0, .int .i64 0, .slice none 0 0, .slice none 0 0] 24)
    obtain ⟨w3, hw3⟩ : ∃ w3, w3 = w2.alloc (.cells #[.int .i64 0, .int .i64 0, .int .i64 0, .slice none 0 0, .int .i64 0, .int .i64 0, .int .i64 0, .slice none 0 0, .slice none 0 0] 24) := ⟨_, rfl⟩
    rw [← hw3] at HXN hb3
    have HB3 := Lib.hid (HB2.out.trans (hb3.mono HB2.out.size))
    have HW3 := Lib.hid hw3
    clear hw3 hb3
    have c0 := HXN.out.c 0 (.int .i64 0) rfl
    have c1 := HXN.out.c 1 (.int .i64 0) rfl
    have c2 := HXN.out.c 2 (.int .i64 0) rfl
    have c3 := HXN.out.c 3 (.slice none 0 0) rfl
    have c4 := HXN.out.c 4 (.int .i64 0) rfl
    have c5 := HXN.out.c 5 (.int .i64 0) rfl
    have c6 := HXN.out.c 6 (.int .i64 0) rfl
    have c7 := HXN.out.c 7 (.slice none 0 0) rfl
    have c8 := HXN.out.c 8 (.slice none 0 0) rfl
    go_wp2_with fail
    rw [← HW3.out]
    refine (HRD _).out.mono ?_
    rintro e w4 ⟨rfl, rfl⟩
    go_wp2_with fail
    refine (HSN _).out.mono ?_
    rintro e w4 ⟨rfl, hb4⟩
    have HB4 := Lib.hid (HB3.out.trans (hb4.mono HB3.out.size))
    clear hb4
    go_wp2
    go_ret
    exact ⟨rfl, HB4.out⟩

theorem take_all_succ {l : List Int} {f : Int → Bool} {c : Nat} (h : c < l.length) : (l.take (c + 1)).all f = ((l.take c).all f && f l[c]) := by
  rw [List.take_succ_eq_append_getElem h, List.all_append]
  simp
theorem chk_bad {l : List Int} {m : Nat} (hs : (sizeN (l.length : Int) && depthB (m : Int)) = true) (ha : l.all (hasP (halfOf (m : Int))) = false) : chkB l m = 9 := by
  unfold chkB; rw [hs, ha]; rfl
theorem chk_good {l : List Int} {m : Nat} (hs : (sizeN (l.length : Int) && depthB (m : Int)) = true) (ha : l.all (hasP (halfOf (m : Int))) = true) : chkB l m = 0 := by
  unfold chkB; rw [hs, ha]; rfl

set_option maxHeartbeats 3200000 in
theorem plain10_bad (ao : Option Addr) (cap : Nat) (l : List Int) (m : Nat) (w : World) (h : l.length ≤ 64) (hi : IntsAt w ao l) (hs : (sizeN (l.length : Int) && depthB (m : Int)) = true) (ha : l.all (hasP (halfOf (m : Int))) = false) :
    Calls Try.prog 4 #[.slice ao l.length cap, .int .i64 m] w fun e w' => e = .returned (.bool true) ∧ Below w.heap.size w w' := by
  have HA := fun W => Lib.hid (awake10 W)
  have HPL := fun W (hb : Below w.heap.size w W) => Lib.hid (cPlain_no ao cap l m W (by omega) (hi.below hb) 9 (chk_bad hs ha) (by decide))
  have hs' := hs
  rw [Bool.and_eq_true] at hs'
  obtain ⟨k, hk, hk1, hk2⟩ := sizeN_of hs'.1
  obtain ⟨m', hm, hm1, hm2⟩ := depthB_of hs'.2
  obtain rfl : m = m' := by omega
  have HRD := fun W => Lib.hid (rDepth m W)
  rw [hs'.2] at HRD
  have HSN := fun W => Lib.hid (same_none W)
  have HHS := fun x W => Lib.hid (rHas x m W hm1 hm2)
  have hp : 0 < l.length := by omega
  have HI := fun W (hb : Below w.heap.size w W) => Lib.hid (hi.below hb)
  obtain ⟨g0, o0, rfl, hg0, _⟩ := hi 0 hp
  have HCE : Hid (∀ W, Below w.heap.size w W → ∀ j (hj : j < l.length), W.cell? ⟨g0, o0 + j, none⟩ = some (.int .i64 l[j])) := fun W hb j hj => by
    obtain ⟨b', off', e, _, h2⟩ := hi.below hb j hj
    cases e
    exact h2
  have t1 : decide ((64 : Int) < (l.length : Int)) = false := decide_eq_false (by omega)
  have t2 : decide (64 < l.length) = false := decide_eq_false (by omega)
  have t3 : decide ((l.length : Int) < 1) = false := decide_eq_false (by omega)
  have t4 : decide (l.length < 1) = false := decide_eq_false (by omega)
  have HAL := Lib.hid ha
  clear hi hs hs' hk hk1 hk2 hm hm1 hm2 ha HI
  generalize halfOf (m : Int) = P at *
  go_enter Try.func4, Try.ntmps4
  go_wp2_with fail
  refine (HA _).out.mono ?_
  rintro e w1 ⟨rfl, hb1⟩
  have HB1 := Lib.hid hb1
  clear hb1
  go_wp2_with fail
  refine (HPL _ HB1.out).out.mono ?_
  rintro e w2 ⟨rfl, hb2⟩
  have HB2 := Lib.hid (HB1.out.trans (hb2.mono HB1.out.size))
  clear hb2
  have HXN := Lib.hid (box9_new w2 (.int .i64 0) (.int .i64 0) (.int .i64 0) (.slice none 0 0) (.int .i64 0) (.int .i64 0) (.int .i64 0) (.slice none 0 0) (.slice none 0 0) 24)
  have hb3 := box_below w2 (.cells #[.int .i64 0, .int .i64 0, .int .i64 0, .slice none 0 0, .int .i64 0, .int .i64 0, .int .i64 0, .slice none 0 0, .slice none 0 0] 24)
  obtain ⟨w3, hw3⟩ : ∃ w3, w3 = w2.alloc (.cells #[.int .i64 0, .int .i64 0, .int .i64 0, .slice none 0 0, .int .i64 0, .int .i64 0, .int .i64 0, .slice none 0 0, .slice none 0 0] 24) := ⟨_, rfl⟩
  rw [← hw3] at HXN hb3
  have HB3 := Lib.hid (HB2.out.trans (hb3.mono HB2.out.size))
  have HW3 := Lib.hid hw3
  clear hw3 hb3
  have c0 := HXN.out.c 0 (.int .i64 0) rfl
  have c1 := HXN.out.c 1 (.int .i64 0) rfl
  have c2 := HXN.out.c 2 (.int .i64 0) rfl
  have c3 := HXN.out.c 3 (.slice none 0 0) rfl
  have c4 := HXN.out.c 4 (.int .i64 0) rfl
  have c5 := HXN.out.c 5 (.int .i64 0) rfl
  have c6 := HXN.out.c 6 (.int .i64 0) rfl
  have c7 := HXN.out.c 7 (.slice none 0 0) rfl
  have c8 := HXN.out.c 8 (.slice none 0 0) rfl
  have HCL : Hid (∀ j (hj : j < l.length), w3.cell? ⟨g0, o0 + j, none⟩ = some (.int .i64 l[j])) := HCE.out w3 HB3.out
  have h00 := HCL.out 0 hp
  rw [Nat.add_zero] at h00
  obtain ⟨x0, hx0⟩ : ∃ x0, l[0] = x0 := ⟨_, rfl⟩
  rw [hx0] at h00
  have HX0 := Lib.hid hx0
  clear hx0
  go_wp2_with fail
  rw [← HW3.out]
  refine (HRD _).out.mono ?_
  rintro e w4 ⟨rfl, rfl⟩
  go_wp2
  go_region_with fail
  have hd := (keeps_drew_b w3 []).below (Nat.le_refl _) (by simp)
  obtain ⟨w5, hw5⟩ : ∃ w5, w5 = w3.drew := ⟨_, rfl⟩
  rw [← hw5] at hd ⊢
  have HB5 := Lib.hid (HB3.out.trans (hd.mono HB3.out.size))
  have HX5 := Lib.hid (HXN.out.keeps (keeps_of_below hd []) (by simp))
  have HCL5 := Lib.hid (HCE.out w5 HB5.out)
  have h05 := HCL5.out 0 hp
  rw [Nat.add_zero, HX0.out] at h05
  clear c0 c1 c2 c3 c4 c5 c6 c7 c8 h00 hd hw5
  have c0 := HX5.out.c 0 (.int .i64 0) rfl
  have c1 := HX5.out.c 1 (.int .i64 0) rfl
  have c2 := HX5.out.c 2 (.int .i64 0) rfl
  have c3 := HX5.out.c 3 (.slice none 0 0) rfl
  have c4 := HX5.out.c 4 (.int .i64 0) rfl
  have c5 := HX5.out.c 5 (.int .i64 0) rfl
  have c6 := HX5.out.c 6 (.int .i64 0) rfl
  have c7 := HX5.out.c 7 (.slice none 0 0) rfl
  have c8 := HX5.out.c 8 (.slice none 0 0) rfl
  go_wp2
  go_loopg [7, 8, 10, 48] l.length (fun gk kd vl nn i wr => ∃ c : Nat, ∃ K V : Int, c ≤ l.length ∧ gk + c = l.length ∧ i = .int .i64 c ∧ kd = .int .i64 K ∧ vl = .int .i64 V ∧ Hid ((l.take c).all (hasP P) = true) ∧ wr = w5)
  case atStart => exact ⟨0, 1, x0, Nat.zero_le _, by omega, rfl, rfl, rfl, by simp [Hid], rfl⟩
  case round =>
    obtain ⟨c, K, V, hc, hgk, rfl, rfl, rfl, HT, rfl⟩ := hrel
    have HGK := Lib.hid hgk
    clear hgk
    by_cases hlt : c < l.length
    · have hcc := HCL5.out c hlt
      have HSU := Lib.hid (take_all_succ (f := hasP P) hlt)
      have HX := HHS l[c]
      generalize l[c] = x at hcc HSU HX
      cases hx : hasP P x with
      | false =>
        rw [hx] at HX
        clear HSU hx
        go_wp2_with fail
        refine (HX _).out.mono ?_
        rintro e w4 ⟨rfl, rfl⟩
        go_wp2_with fail
        refine (HSN _).out.mono ?_
        rintro e w4 ⟨rfl, hb4⟩
        have HB4 := Lib.hid (HB5.out.trans (hb4.mono HB5.out.size))
        clear hb4
        go_wp2
        go_ret
        exact ⟨rfl, HB4.out⟩
      | true =>
        rw [hx] at HX
        have HT2 : Hid ((l.take (c + 1)).all (hasP P) = true) := by show _ = _; rw [HSU.out, HT.out, hx]; rfl
        clear HSU hx
        cases hne : (x != x0) with
        | false =>
          go_wp2_with fail
          refine (HX _).out.mono ?_
          rintro e w4 ⟨rfl, rfl⟩
          go_wp2
          go_roundg (gk - 1)
          case rel => exact ⟨c + 1, K, V, by omega, by have := HGK.out; omega, by go_num, rfl, rfl, HT2, rfl⟩
          case measure => have := HGK.out; omega
        | true =>
          go_wp2_with fail
          refine (HX _).out.mono ?_
          rintro e w4 ⟨rfl, rfl⟩
          go_wp2
          go_roundg (gk - 1)
          case rel => exact ⟨c + 1, 3, 0, by omega, by have := HGK.out; omega, by go_num, rfl, rfl, HT2, rfl⟩
          case measure => have := HGK.out; omega
    · obtain rfl : c = l.length := by omega
      have := HT.out
      rw [List.take_length, HAL.out] at this
      exact absurd this (by decide)
/-- What is plain: kind, value and bits. -/
theorem plain_cases {l : List Int} {x0 : Int} (h0 : l.headD 0 = x0) (hp : 0 < l.length) : ∃ K V : Int, ∃ D : List Int, plainK l = ⟨K, V, 0, [], 0, 0, 0, [], D⟩ ∧
    ((allN l x0 = true ∧ x0 = 0 ∧ K = 0 ∧ V = 0 ∧ ∀ m, (bitsB ⟨K, V, 0, [], 0, 0, 0, [], D⟩ m).length = 2) ∨
     (allN l x0 = true ∧ x0 ≠ 0 ∧ K = 1 ∧ V = x0 ∧ ∀ m, (bitsB ⟨K, V, 0, [], 0, 0, 0, [], D⟩ m).length = 2 + m) ∨
     (allN l x0 = false ∧ K = 3 ∧ V = 0 ∧ ∀ m, (bitsB ⟨K, V, 0, [], 0, 0, 0, [], D⟩ m).length = 2 + l.length * m)) := by
  have hx : ∀ n, allN l n = true → x0 = n := fun n hn => by
    cases l with
    | nil => simp at hp
    | cons y r =>
      unfold allN at hn
      rw [List.all_cons, Bool.and_eq_true] at hn
      rw [← h0]
      simpa using hn.1
  unfold plainK
  rw [h0]
  cases ha : allN l 0 with
  | true =>
    obtain rfl := hx 0 ha
    rw [if_pos rfl]
    exact ⟨0, 0, [], rfl, .inl ⟨ha, rfl, rfl, rfl, fun m => bits_zero m⟩⟩
  | false =>
    cases hb : allN l x0 with
    | true =>
      refine ⟨1, x0, [], rfl, .inr (.inl ⟨rfl, fun h => ?_, rfl, rfl, fun m => bits_const x0 m⟩)⟩
      rw [h, ha] at hb
      exact absurd hb (by decide)
    | false => exact ⟨3, 0, l, rfl, .inr (.inr ⟨rfl, rfl, rfl, fun m => bits_raw l m⟩)⟩

set_option maxHeartbeats 6400000 in
theorem plain10_good (ao : Option Addr) (cap : Nat) (l : List Int) (m : Nat) (w : World) (h : l.length ≤ 64) (hi : IntsAt w ao l) (hs : (sizeN (l.length : Int) && depthB (m : Int)) = true) (ha : l.all (hasP (halfOf (m : Int))) = true) :
    Calls Try.prog 4 #[.slice ao l.length cap, .int .i64 m] w fun e w' => e = .returned (.bool true) ∧ Below w.heap.size w w' := by
  have HA := fun W => Lib.hid (awake10 W)
  have hck := chk_good hs ha
  have hs' := hs
  rw [Bool.and_eq_true] at hs'
  obtain ⟨k, hk, hk1, hk2⟩ := sizeN_of hs'.1
  obtain ⟨m', hm, hm1, hm2⟩ := depthB_of hs'.2
  obtain rfl : m = m' := by omega
  have HRD := fun W => Lib.hid (rDepth m W)
  rw [hs'.2] at HRD
  have HHS := fun x W => Lib.hid (rHas x m W hm1 hm2)
  have hp : 0 < l.length := by omega
  obtain ⟨x0, hx0⟩ : ∃ x0, l[0] = x0 := ⟨_, rfl⟩
  have hhd : l.headD 0 = x0 := by rw [← hx0]; cases l with | nil => simp at hp | cons y r => rfl
  obtain ⟨K, V, D, hK, hcase⟩ := plain_cases hhd hp
  have hV : In64 V := by
    have hb := hp_bound hm1 hm2
    have h0 : hasP (halfOf (m : Int)) x0 = true := by rw [← hx0]; exact List.all_eq_true.1 ha _ (List.getElem_mem hp)
    have h1 := of_decide_eq_true h0
    unfold In64
    rcases hcase with ⟨_, _, _, e, _⟩ | ⟨_, _, _, e, _⟩ | ⟨_, _, e, _⟩ <;> omega
  have hcode : codeB ⟨K, V, 0, [], 0, 0, 0, [], D⟩ l.length m = 0 := by rw [← hK]; exact plain_code hck
  have hout : outB ⟨K, V, 0, [], 0, 0, 0, [], D⟩ l.length = l := by rw [← hK]; exact plain_out l
  have hwf : Wf9 ⟨K, V, 0, [], 0, 0, 0, [], D⟩ := ⟨hV, by show In64 0; unfold In64; decide, by show In64 0; unfold In64; decide, by show In64 0; unfold In64; decide, by show In64 0; unfold In64; decide⟩
  have HPL := fun W (hb : Below w.heap.size w W) => Lib.hid (cPlain ao cap l m W (by omega) (hi.below hb) hck)
  unfold PlainIs blkV at HPL
  rw [hK] at HPL
  dsimp only [List.length_nil] at HPL
  have HSP : Hid (∀ ia ra da ic rc dc W, BlkIn W ⟨K, V, 0, [], 0, 0, 0, [], D⟩ ia ra da ic rc dc → Calls Try.prog 7 #[.agg #[.int .i64 K, .int .i64 V, .int .i64 0, .slice ia 0 ic, .int .i64 0, .int .i64 0, .int .i64 0, .slice ra 0 rc, .slice da D.length dc], .int .i64 (l.length : Nat), .int .i64 m] W fun e w' => ∃ mo mc, e = .returned (.tuple #[.slice mo l.length mc, .int .i64 0]) ∧ IntsAt w' mo l ∧ Below W.heap.size W w') := fun ia ra da ic rc dc W hI => (cSamples10 ⟨K, V, 0, [], 0, 0, 0, [], D⟩ ia ra da ic rc dc (l.length : Nat) m W hI hwf).mono (by
    rintro e w' (⟨h1, _⟩ | ⟨_, mo, mc, he, h3, _, h5, _⟩)
    · exact absurd hcode h1
    · rw [show ((l.length : Nat) : Int).toNat = l.length from rfl, hout] at he h3
      exact ⟨mo, mc, he, h3, h5⟩)
  have HBT : Hid (∀ ia ra da ic rc dc W, BlkIn W ⟨K, V, 0, [], 0, 0, 0, [], D⟩ ia ra da ic rc dc → Calls Try.prog 14 #[.agg #[.int .i64 K, .int .i64 V, .int .i64 0, .slice ia 0 ic, .int .i64 0, .int .i64 0, .int .i64 0, .slice ra 0 rc, .slice da D.length dc], .int .i64 (l.length : Nat), .int .i64 m] W fun e w' => e = .returned (.int .i64 ((bitsB ⟨K, V, 0, [], 0, 0, 0, [], D⟩ m).length : Nat)) ∧ Below W.heap.size W w') := fun ia ra da ic rc dc W hI => cBits10 ⟨K, V, 0, [], 0, 0, 0, [], D⟩ ia ra da ic rc dc (l.length : Nat) m W hcode hwf hI
  have HRB : Hid (∀ ia ra da ic rc dc W, BlkIn W ⟨K, V, 0, [], 0, 0, 0, [], D⟩ ia ra da ic rc dc → Calls Try.prog 15 #[.agg #[.int .i64 K, .int .i64 V, .int .i64 0, .slice ia 0 ic, .int .i64 0, .int .i64 0, .int .i64 0, .slice ra 0 rc, .slice da D.length dc], .int .i64 m] W fun e w' => e = .returned (.int .i64 ((bitsB ⟨K, V, 0, [], 0, 0, 0, [], D⟩ m).length : Nat)) ∧ Below W.heap.size W w') := fun ia ra da ic rc dc W hI => rBits10 ⟨K, V, 0, [], 0, 0, 0, [], D⟩ ia ra da ic rc dc (l.length : Nat) m W hcode hI
  obtain ⟨N, hN⟩ : ∃ N, N = (bitsB ⟨K, V, 0, [], 0, 0, 0, [], D⟩ m).length := ⟨_, rfl⟩
  rw [← hN] at HBT HRB
  obtain ⟨L, hL⟩ : ∃ L, L = l.length * m := ⟨_, rfl⟩
  have hcase2 : (allN l x0 = true ∧ x0 = 0 ∧ K = 0 ∧ V = 0 ∧ N = 2) ∨ (allN l x0 = true ∧ x0 ≠ 0 ∧ K = 1 ∧ V = x0 ∧ N = 2 + m) ∨ (allN l x0 = false ∧ K = 3 ∧ V = 0 ∧ N = 2 + L) := by
    rcases hcase with ⟨a1, a2, a3, a4, a5⟩ | ⟨a1, a2, a3, a4, a5⟩ | ⟨a1, a3, a4, a5⟩
    · exact .inl ⟨a1, a2, a3, a4, hN.trans (a5 m)⟩
    · exact .inr (.inl ⟨a1, a2, a3, a4, hN.trans (a5 m)⟩)
    · exact .inr (.inr ⟨a1, a3, a4, by rw [hN, a5 m, hL]⟩)
  have HCA := Lib.hid hcase2
  have HBW := fun W (hb : Below w.heap.size w W) => Lib.hid (hi.below hb)
  have HSA := fun W mo mc (hb : Below w.heap.size w W) (hj : IntsAt W mo l) => Lib.hid (refSame mo ao mc cap l l W (by omega) hj (hi.below hb))
  rw [decide_eq_true rfl] at HSA
  obtain ⟨g0, o0, rfl, hg0, _⟩ := hi 0 hp
  have HCE : Hid (∀ W, Below w.heap.size w W → ∀ j (hj : j < l.length), W.cell? ⟨g0, o0 + j, none⟩ = some (.int .i64 l[j])) := fun W hb j hj => by
    obtain ⟨b', off', e, _, h2⟩ := hi.below hb j hj
    cases e
    exact h2
  have t1 : decide ((64 : Int) < (l.length : Int)) = false := decide_eq_false (by omega)
  have t2 : decide (64 < l.length) = false := decide_eq_false (by omega)
  have t3 : decide ((l.length : Int) < 1) = false := decide_eq_false (by omega)
  have t4 : decide (l.length < 1) = false := decide_eq_false (by omega)
  have HX0 := Lib.hid hx0
  have HALL := Lib.hid (fun x (hx : x ∈ l) => List.all_eq_true.1 ha x hx)
  have HMB := Lib.hid hm2
  have HL64 := Lib.hid h
  have hLb : L ≤ 1664 := by rw [hL]; exact Nat.le_trans (Nat.mul_le_mul h hm2) (by decide)
  have hLw : IntKind.i64.wrap ((l.length : Int) * (m : Int)) = (L : Int) := by
    rw [IntWalk.i64_in _ (by rw [← Int.natCast_mul, ← hL]; omega), hL, Int.natCast_mul]
  clear hi hs hs' hk hk1 hk2 hm hm1 hck hcode hout hwf ha hcase hV hK hhd hx0 hL hcase2 hN
  generalize halfOf (m : Int) = P at *
  go_enter Try.func4, Try.ntmps4
  go_wp2_with fail
  refine (HA _).out.mono ?_
  rintro e w1 ⟨rfl, hb1⟩
  have HB1 := Lib.hid hb1
  clear hb1
  go_wp2_with fail
  refine (HPL _ HB1.out).out.mono ?_
  rintro e w2 ⟨ia, ra, da, ic, rc, dc, rfl, hI2, hb2⟩
  have HB2 := Lib.hid (HB1.out.trans (hb2.mono HB1.out.size))
  have HI2 := Lib.hid hI2
  clear hb2 hI2
  generalize hdl : D.length = dl at *
  clear hdl
  have HXN := Lib.hid (box9_new w2 (.int .i64 K) (.int .i64 V) (.int .i64 0) (.slice ia 0 ic) (.int .i64 0) (.int .i64 0) (.int .i64 0) (.slice ra 0 rc) (.slice da dl dc) 24)
  have hb3 := box_below w2 (.cells #[.int .i64 K, .int .i64 V, .int .i64 0, .slice ia 0 ic, .int .i64 0, .int .i64 0, .int .i64 0, .slice ra 0 rc, .slice da dl dc] 24)
  obtain ⟨w3, hw3⟩ : ∃ w3, w3 = w2.alloc (.cells #[.int .i64 K, .int .i64 V, .int .i64 0, .slice ia 0 ic, .int .i64 0, .int .i64 0, .int .i64 0, .slice ra 0 rc, .slice da dl dc] 24) := ⟨_, rfl⟩
  rw [← hw3] at HXN hb3
  have HB3 := Lib.hid (HB2.out.trans (hb3.mono HB2.out.size))
  have HI3 := Lib.hid (HI2.out.below hb3)
  have HW3 := Lib.hid hw3
  clear hw3 hb3
  have h00 := HCE.out w3 HB3.out 0 hp
  rw [Nat.add_zero, HX0.out] at h00
  go_wp2_with fail
  rw [← HW3.out]
  refine (HRD _).out.mono ?_
  rintro e w4 ⟨rfl, rfl⟩
  go_wp2
  go_region_with fail
  have hd := (keeps_drew_b w3 []).below (Nat.le_refl _) (by simp)
  obtain ⟨w5, hw5⟩ : ∃ w5, w5 = w3.drew := ⟨_, rfl⟩
  rw [← hw5] at hd ⊢
  have HB5 := Lib.hid (HB3.out.trans (hd.mono HB3.out.size))
  have HX5 := Lib.hid (HXN.out.keeps (keeps_of_below hd []) (by simp))
  have HI5 := Lib.hid (HI3.out.below hd)
  have HCL5 := Lib.hid (HCE.out w5 HB5.out)
  have h05 := HCL5.out 0 hp
  rw [Nat.add_zero, HX0.out] at h05
  clear h00 hd hw5
  go_wp2
  go_loopg [7, 8, 10, 48] l.length (fun gk kd vl nn i wr => ∃ c : Nat, ∃ A : Bool, c ≤ l.length ∧ gk + c = l.length ∧ i = .int .i64 c ∧ Hid ((l.take c).all (fun y => y == x0) = A) ∧ kd = .int .i64 (bif A then 1 else 3) ∧ vl = .int .i64 (bif A then x0 else 0) ∧ w5 = wr)
  case atStart => exact ⟨0, true, Nat.zero_le _, by omega, rfl, by simp [Hid], rfl, rfl, rfl⟩
  case round =>
    obtain ⟨c, A, hc, hgk, rfl, HT, rfl, rfl, rfl⟩ := hrel
    have HGK := Lib.hid hgk
    clear hgk
    by_cases hlt : c < l.length
    · have hcc := HCL5.out c hlt
      have HSU := Lib.hid (take_all_succ (f := fun y => y == x0) hlt)
      have HX := fun W => HHS l[c] W
      have hx : hasP P l[c] = true := HALL.out _ (List.getElem_mem hlt)
      rw [hx] at HX
      clear hx
      generalize l[c] = x at hcc HSU HX
      cases hne : (x != x0) with
      | false =>
        have HT2 : Hid ((l.take (c + 1)).all (fun y => y == x0) = A) := by
          show _ = _
          rw [HSU.out, HT.out, show (x == x0) = true by simpa using hne]
          cases A <;> rfl
        obtain ⟨kd, hkd⟩ : ∃ kd : Int, kd = bif A then 1 else 3 := ⟨_, rfl⟩
        obtain ⟨vl, hvl⟩ : ∃ vl : Int, vl = bif A then x0 else 0 := ⟨_, rfl⟩
        rw [← hkd, ← hvl]
        have HKD := Lib.hid hkd
        have HVL := Lib.hid hvl
        clear HSU hkd hvl
        go_wp2_with fail
        refine (HX _).out.mono ?_
        rintro e w4 ⟨rfl, rfl⟩
        go_wp2
        go_roundg (gk - 1)
        case rel => exact ⟨c + 1, A, by omega, by have := HGK.out; omega, by go_num, HT2, by rw [HKD.out], by rw [HVL.out], rfl⟩
        case measure => have := HGK.out; omega
      | true =>
        have HT2 : Hid ((l.take (c + 1)).all (fun y => y == x0) = false) := by
          show _ = _
          rw [HSU.out, HT.out, show (x == x0) = false by simpa using hne]
          cases A <;> rfl
        obtain ⟨kd, hkd⟩ : ∃ kd : Int, kd = bif A then 1 else 3 := ⟨_, rfl⟩
        obtain ⟨vl, hvl⟩ : ∃ vl : Int, vl = bif A then x0 else 0 := ⟨_, rfl⟩
        rw [← hkd, ← hvl]
        clear HSU hkd hvl
        go_wp2_with fail
        refine (HX _).out.mono ?_
        rintro e w4 ⟨rfl, rfl⟩
        go_wp2
        go_roundg (gk - 1)
        case rel => exact ⟨c + 1, false, by omega, by have := HGK.out; omega, by go_num, HT2, rfl, rfl, rfl⟩
        case measure => have := HGK.out; omega
    · obtain rfl : c = l.length := by omega
      have hA : allN l x0 = A := by have := HT.out; rw [List.take_length] at this; exact this
      clear hlt hc
      rcases HCA.out with ⟨a1, a2, a3, a4, a5⟩ | ⟨a1, a2, a3, a4, a5⟩ | ⟨a1, a3, a4, a5⟩
      · obtain rfl : A = true := hA.symm.trans a1
        subst a2 a3 a4
        have HA2 := Lib.hid hA
        have HM2 := HMB.out
        have HNN : Hid ((N : Int) = (N : Int)) := rfl
        have t11 : ((N : Int) == (N : Int)) = true := by simp
        have HCC : Hid (∀ W, Below w5.heap.size w5 W → W.cell? ⟨w2.heap.size, 0, none⟩ = some (.int .i64 0) ∧ W.cell? ⟨w2.heap.size, 1, none⟩ = some (.int .i64 0) ∧ W.cell? ⟨w2.heap.size, 2, none⟩ = some (.int .i64 0) ∧ W.cell? ⟨w2.heap.size, 3, none⟩ = some (.slice ia 0 ic) ∧ W.cell? ⟨w2.heap.size, 4, none⟩ = some (.int .i64 0) ∧ W.cell? ⟨w2.heap.size, 5, none⟩ = some (.int .i64 0) ∧ W.cell? ⟨w2.heap.size, 6, none⟩ = some (.int .i64 0) ∧ W.cell? ⟨w2.heap.size, 7, none⟩ = some (.slice ra 0 rc) ∧ W.cell? ⟨w2.heap.size, 8, none⟩ = some (.slice da dl dc)) := fun W hW => by
          have hx := HX5.out.keeps (keeps_of_below hW []) (by simp)
          exact ⟨hx.c 0 _ rfl, hx.c 1 _ rfl, hx.c 2 _ rfl, hx.c 3 _ rfl, hx.c 4 _ rfl, hx.c 5 _ rfl, hx.c 6 _ rfl, hx.c 7 _ rfl, hx.c 8 _ rfl⟩
        obtain ⟨c0, c1, c2, c3, c4, c5, c6, c7, c8⟩ := HCC.out w5 (Below.refl _ _)
        clear a1 hA
        go_wp2_with fail
        refine (HSP.out ia ra da ic rc dc _ HI5.out).mono ?_
        rintro e w6 ⟨mo, mc, rfl, hm6, hb6⟩
        have HM6 := Lib.hid hm6
        have HD6 : Hid (Below w5.heap.size w5 w6) := hb6
        obtain ⟨m2, m3, m4, r2, r3, r4, rl, hmb⟩ := map_three w6 (2 + (m : Int)) (2 + (L : Int)) 0 (N : Int) (wf_i64 (by omega) (by omega)) (wf_i64 (by omega) (by omega)) (.inl ⟨rfl, by omega⟩)
        have HD7 : Hid (Below w5.heap.size w5 m4) := HD6.out.trans (hmb.mono HD6.out.size)
        have HM7 := Lib.hid (HM6.out.below hmb)
        have hmm := @run_makeMap Try.prog
        clear c0 c1 c2 c3 c4 c5 c6 c7 c8 hm6 hb6 hmb
        obtain ⟨c0, c1, c2, c3, c4, c5, c6, c7, c8⟩ := HCC.out m4 HD7.out
        go_wp2_with fail
        refine (HSA _ mo mc (HB5.out.trans (HD7.out.mono HB5.out.size)) HM7.out).out.mono ?_
        rintro e w8 ⟨rfl, k8, hw8⟩
        have HD8 : Hid (Below w5.heap.size w5 w8) := by show Below _ _ _; rw [hw8]; exact HD7.out.trans ((keeps_drewN m4 k8 []).below HD7.out.size (by simp))
        clear hw8 c0 c1 c2 c3 c4 c5 c6 c7 c8
        obtain ⟨c0, c1, c2, c3, c4, c5, c6, c7, c8⟩ := HCC.out w8 HD8.out
        go_wp2_with fail
        refine (HBT.out ia ra da ic rc dc _ (HI5.out.below HD8.out)).mono ?_
        rintro e w9 ⟨rfl, hb9⟩
        have HD9 : Hid (Below w5.heap.size w5 w9) := HD8.out.trans (hb9.mono HD8.out.size)
        clear hb9 c0 c1 c2 c3 c4 c5 c6 c7 c8
        obtain ⟨c0, c1, c2, c3, c4, c5, c6, c7, c8⟩ := HCC.out w9 HD9.out
        go_wp2_with fail
        refine (HRB.out ia ra da ic rc dc _ (HI5.out.below HD9.out)).mono ?_
        rintro e w10 ⟨rfl, hb10⟩
        have HD10 : Hid (Below w5.heap.size w5 w10) := HD9.out.trans (hb10.mono HD9.out.size)
        clear hb10
        go_wp2
        go_ret
        exact ⟨rfl, HB5.out.trans (HD10.out.mono HB5.out.size)⟩
      · obtain rfl : A = true := hA.symm.trans a1
        subst a3 a4
        have t9 : (V == V) = true := by simp
        have t10 : (V == 0) = false := by simpa using a2
        have HA2 := Lib.hid hA
        have HM2 := HMB.out
        have HNN : Hid ((N : Int) = (N : Int)) := rfl
        have t11 : ((N : Int) == (N : Int)) = true := by simp
        have HCC : Hid (∀ W, Below w5.heap.size w5 W → W.cell? ⟨w2.heap.size, 0, none⟩ = some (.int .i64 1) ∧ W.cell? ⟨w2.heap.size, 1, none⟩ = some (.int .i64 V) ∧ W.cell? ⟨w2.heap.size, 2, none⟩ = some (.int .i64 0) ∧ W.cell? ⟨w2.heap.size, 3, none⟩ = some (.slice ia 0 ic) ∧ W.cell? ⟨w2.heap.size, 4, none⟩ = some (.int .i64 0) ∧ W.cell? ⟨w2.heap.size, 5, none⟩ = some (.int .i64 0) ∧ W.cell? ⟨w2.heap.size, 6, none⟩ = some (.int .i64 0) ∧ W.cell? ⟨w2.heap.size, 7, none⟩ = some (.slice ra 0 rc) ∧ W.cell? ⟨w2.heap.size, 8, none⟩ = some (.slice da dl dc)) := fun W hW => by
          have hx := HX5.out.keeps (keeps_of_below hW []) (by simp)
          exact ⟨hx.c 0 _ rfl, hx.c 1 _ rfl, hx.c 2 _ rfl, hx.c 3 _ rfl, hx.c 4 _ rfl, hx.c 5 _ rfl, hx.c 6 _ rfl, hx.c 7 _ rfl, hx.c 8 _ rfl⟩
        obtain ⟨c0, c1, c2, c3, c4, c5, c6, c7, c8⟩ := HCC.out w5 (Below.refl _ _)
        clear a1 hA
        go_wp2_with fail
        refine (HSP.out ia ra da ic rc dc _ HI5.out).mono ?_
        rintro e w6 ⟨mo, mc, rfl, hm6, hb6⟩
        have HM6 := Lib.hid hm6
        have HD6 : Hid (Below w5.heap.size w5 w6) := hb6
        obtain ⟨m2, m3, m4, r2, r3, r4, rl, hmb⟩ := map_three w6 (2 + (m : Int)) (2 + (L : Int)) 1 (N : Int) (wf_i64 (by omega) (by omega)) (wf_i64 (by omega) (by omega)) (.inr (.inl ⟨rfl, by omega⟩))
        have HD7 : Hid (Below w5.heap.size w5 m4) := HD6.out.trans (hmb.mono HD6.out.size)
        have HM7 := Lib.hid (HM6.out.below hmb)
        have hmm := @run_makeMap Try.prog
        clear c0 c1 c2 c3 c4 c5 c6 c7 c8 hm6 hb6 hmb
        obtain ⟨c0, c1, c2, c3, c4, c5, c6, c7, c8⟩ := HCC.out m4 HD7.out
        go_wp2_with fail
        refine (HSA _ mo mc (HB5.out.trans (HD7.out.mono HB5.out.size)) HM7.out).out.mono ?_
        rintro e w8 ⟨rfl, k8, hw8⟩
        have HD8 : Hid (Below w5.heap.size w5 w8) := by show Below _ _ _; rw [hw8]; exact HD7.out.trans ((keeps_drewN m4 k8 []).below HD7.out.size (by simp))
        clear hw8 c0 c1 c2 c3 c4 c5 c6 c7 c8
        obtain ⟨c0, c1, c2, c3, c4, c5, c6, c7, c8⟩ := HCC.out w8 HD8.out
        go_wp2_with fail
        refine (HBT.out ia ra da ic rc dc _ (HI5.out.below HD8.out)).mono ?_
        rintro e w9 ⟨rfl, hb9⟩
        have HD9 : Hid (Below w5.heap.size w5 w9) := HD8.out.trans (hb9.mono HD8.out.size)
        clear hb9 c0 c1 c2 c3 c4 c5 c6 c7 c8
        obtain ⟨c0, c1, c2, c3, c4, c5, c6, c7, c8⟩ := HCC.out w9 HD9.out
        go_wp2_with fail
        refine (HRB.out ia ra da ic rc dc _ (HI5.out.below HD9.out)).mono ?_
        rintro e w10 ⟨rfl, hb10⟩
        have HD10 : Hid (Below w5.heap.size w5 w10) := HD9.out.trans (hb10.mono HD9.out.size)
        clear hb10
        go_wp2
        go_ret
        exact ⟨rfl, HB5.out.trans (HD10.out.mono HB5.out.size)⟩
      · obtain rfl : A = false := hA.symm.trans a1
        subst a3 a4
        have HA2 := Lib.hid hA
        have HM2 := HMB.out
        have HNN : Hid ((N : Int) = (N : Int)) := rfl
        have t11 : ((N : Int) == (N : Int)) = true := by simp
        have HCC : Hid (∀ W, Below w5.heap.size w5 W → W.cell? ⟨w2.heap.size, 0, none⟩ = some (.int .i64 3) ∧ W.cell? ⟨w2.heap.size, 1, none⟩ = some (.int .i64 0) ∧ W.cell? ⟨w2.heap.size, 2, none⟩ = some (.int .i64 0) ∧ W.cell? ⟨w2.heap.size, 3, none⟩ = some (.slice ia 0 ic) ∧ W.cell? ⟨w2.heap.size, 4, none⟩ = some (.int .i64 0) ∧ W.cell? ⟨w2.heap.size, 5, none⟩ = some (.int .i64 0) ∧ W.cell? ⟨w2.heap.size, 6, none⟩ = some (.int .i64 0) ∧ W.cell? ⟨w2.heap.size, 7, none⟩ = some (.slice ra 0 rc) ∧ W.cell? ⟨w2.heap.size, 8, none⟩ = some (.slice da dl dc)) := fun W hW => by
          have hx := HX5.out.keeps (keeps_of_below hW []) (by simp)
          exact ⟨hx.c 0 _ rfl, hx.c 1 _ rfl, hx.c 2 _ rfl, hx.c 3 _ rfl, hx.c 4 _ rfl, hx.c 5 _ rfl, hx.c 6 _ rfl, hx.c 7 _ rfl, hx.c 8 _ rfl⟩
        obtain ⟨c0, c1, c2, c3, c4, c5, c6, c7, c8⟩ := HCC.out w5 (Below.refl _ _)
        clear a1 hA
        go_wp2_with fail
        refine (HSP.out ia ra da ic rc dc _ HI5.out).mono ?_
        rintro e w6 ⟨mo, mc, rfl, hm6, hb6⟩
        have HM6 := Lib.hid hm6
        have HD6 : Hid (Below w5.heap.size w5 w6) := hb6
        obtain ⟨m2, m3, m4, r2, r3, r4, rl, hmb⟩ := map_three w6 (2 + (m : Int)) (2 + (L : Int)) 3 (N : Int) (wf_i64 (by omega) (by omega)) (wf_i64 (by omega) (by omega)) (.inr (.inr ⟨rfl, by omega⟩))
        have HD7 : Hid (Below w5.heap.size w5 m4) := HD6.out.trans (hmb.mono HD6.out.size)
        have HM7 := Lib.hid (HM6.out.below hmb)
        have hmm := @run_makeMap Try.prog
        clear c0 c1 c2 c3 c4 c5 c6 c7 c8 hm6 hb6 hmb
        obtain ⟨c0, c1, c2, c3, c4, c5, c6, c7, c8⟩ := HCC.out m4 HD7.out
        go_wp2_with fail
        refine (HSA _ mo mc (HB5.out.trans (HD7.out.mono HB5.out.size)) HM7.out).out.mono ?_
        rintro e w8 ⟨rfl, k8, hw8⟩
        have HD8 : Hid (Below w5.heap.size w5 w8) := by show Below _ _ _; rw [hw8]; exact HD7.out.trans ((keeps_drewN m4 k8 []).below HD7.out.size (by simp))
        clear hw8 c0 c1 c2 c3 c4 c5 c6 c7 c8
        obtain ⟨c0, c1, c2, c3, c4, c5, c6, c7, c8⟩ := HCC.out w8 HD8.out
        go_wp2_with fail
        refine (HBT.out ia ra da ic rc dc _ (HI5.out.below HD8.out)).mono ?_
        rintro e w9 ⟨rfl, hb9⟩
        have HD9 : Hid (Below w5.heap.size w5 w9) := HD8.out.trans (hb9.mono HD8.out.size)
        clear hb9 c0 c1 c2 c3 c4 c5 c6 c7 c8
        obtain ⟨c0, c1, c2, c3, c4, c5, c6, c7, c8⟩ := HCC.out w9 HD9.out
        go_wp2_with fail
        refine (HRB.out ia ra da ic rc dc _ (HI5.out.below HD9.out)).mono ?_
        rintro e w10 ⟨rfl, hb10⟩
        have HD10 : Hid (Below w5.heap.size w5 w10) := HD9.out.trans (hb10.mono HD9.out.size)
        clear hb10
        go_wp2
        go_ret
        exact ⟨rfl, HB5.out.trans (HD10.out.mono HB5.out.size)⟩

/-- **BlockPlain.** -/
theorem blockPlain (ao : Option Addr) (cap len : Nat) (d : Int) (w : World) (hi : len ≤ 64 → ∃ l : List Int, l.length = len ∧ IntsAt w ao l) :
    Calls Try.prog 4 #[.slice ao len cap, .int .i64 d] w fun e w' => e = .returned (.bool true) ∧ Below w.heap.size w w' := by
  by_cases hl : len ≤ 64
  · obtain ⟨l, rfl, hd⟩ := hi hl
    cases hs : (sizeN (l.length : Int) && depthB d) with
    | false => exact plain10_sizes ao cap l d w hl hd hs
    | true =>
      have hs' := hs
      rw [Bool.and_eq_true] at hs'
      obtain ⟨m, rfl, _, _⟩ := depthB_of hs'.2
      cases ha : l.all (hasP (halfOf (m : Int))) with
      | false => exact plain10_bad ao cap l m w hl hd hs ha
      | true => exact plain10_good ao cap l m w hl hd hs ha
  · exact plain10_many ao cap len d w hl
end Go.Proofs.Ytefbakhhlonafaa
