import Derived.Test.YtbbcemgcanclnaaInts9
import Derived.Test.YtbbcemgcanclnaaWefM
namespace Go.Proofs.Ytbbcemgcanclnaa
open Go.RowKit Go.Proofs Go.Proofs.PipeM Go.Proofs.PipeA Go.Proofs.WefM
set_option maxRecDepth 100000

/-- A weave, and its gains, as the program holds them. -/
def wvV (w : Wv) : Value := .agg #[.bool w.some, .int .i64 w.master, .int .i64 w.g0, .int .i64 w.g1, .int .i64 w.g2]
def gnV (w : Wv) : Value := .agg #[.int .i64 w.g0, .int .i64 w.g1, .int .i64 w.g2]
/-- The number of a place; 0, where there is none. -/
def sampW (l : List Int) (i : Int) : Int := if 0 ≤ i ∧ i < l.length then l.getD i.toNat 0 else 0
theorem sampW_b4 (l : List Int) {i : Nat} (h : i < l.length) : sampW l ((i : Int) - 1) = aheadW l i := by
  unfold sampW aheadW
  by_cases h0 : 0 < i
  · rw [if_pos (by omega), if_pos h0, show ((i : Int) - 1).toNat = i - 1 by omega]
  · rw [if_neg (by omega), if_neg h0]
theorem sampW_at (l : List Int) (i : Nat) : sampW l (i : Int) = l.getD i 0 := by
  unfold sampW
  by_cases h : i < l.length
  · rw [if_pos (by omega), Int.toNat_natCast]
  · rw [if_neg (by omega), List.getD, List.getElem?_eq_none (by omega)]; rfl
theorem sampW_S {l : List Int} (h : l.all inS = true) (i : Int) : -8388608 ≤ sampW l i ∧ sampW l i ≤ 8388607 := by
  unfold sampW
  split
  · exact get_S h _
  · exact ⟨by decide, by decide⟩

set_option maxHeartbeats 800000 in
theorem rSample (ao : Option Addr) (cap : Nat) (l : List Int) (i : Int) (w : World) (hi : IntsAt w ao l) :
    Calls Try.prog 42 #[.slice ao l.length cap, .int .i64 i] w fun e w' => e = .returned (.int .i64 (sampW l i)) ∧ w = w' := by
  by_cases h0 : 0 ≤ i
  · obtain ⟨c, rfl⟩ : ∃ c : Nat, i = c := ⟨i.toNat, by omega⟩
    rw [sampW_at]
    have t1 : decide ((0 : Int) ≤ (c : Int)) = true := decide_eq_true h0
    by_cases h1 : c < l.length
    · obtain ⟨b, off, rfl, hb, hcell⟩ := hi c h1
      have t2 : decide ((c : Int) < (l.length : Int)) = true := decide_eq_true (by omega)
      have t3 : decide (c < l.length) = true := decide_eq_true h1
      rw [getD_ltW h1]
      generalize l[c] = x at hcell ⊢
      clear hi h0
      go_enter Try.func42, Try.ntmps42
      go_wp2
      go_ret
      exact ⟨rfl, rfl⟩
    · have t2 : decide ((c : Int) < (l.length : Int)) = false := decide_eq_false (by omega)
      have t3 : decide (c < l.length) = false := decide_eq_false h1
      rw [List.getD, List.getElem?_eq_none (by omega)]
      clear hi h0 h1
      go_enter Try.func42, Try.ntmps42
      go_wp2
      go_ret
      exact ⟨rfl, rfl⟩
  · have t1 : decide ((0 : Int) ≤ i) = false := decide_eq_false h0
    rw [show sampW l i = 0 by unfold sampW; rw [if_neg (by omega)]]
    clear hi h0
    go_enter Try.func42, Try.ntmps42
    go_wp2
    go_ret
    exact ⟨rfl, rfl⟩

set_option maxHeartbeats 1600000 in
theorem rIn (ao : Option Addr) (cap : Nat) (l : List Int) (w : World) (hl : l.length ≤ 100000) (hi : IntsAt w ao l) :
    Calls Try.prog 28 #[.slice ao l.length cap] w fun e w' => e = .returned (.bool (l.all inS)) ∧ w = w' := by
  have HI := Lib.hid hi
  clear hi
  go_enter Try.func28, Try.ntmps28
  go_wp2
  go_loopg [3, 6] l.length (fun gk q i wr => ∃ c : Nat, c ≤ l.length ∧ gk + c = l.length ∧ i = .int .i64 c ∧ Hid ((l.take c).all inS = true) ∧ w = wr)
  case atStart => exact ⟨0, Nat.zero_le _, by omega, rfl, by simp [Hid], rfl⟩
  case round =>
    obtain ⟨c, hc, hgk, rfl, HT, rfl⟩ := hrel
    have HGK := Lib.hid hgk
    clear hgk
    by_cases hlt : c < l.length
    · obtain ⟨b, off, rfl, hb, hcell⟩ := HI.out c hlt
      have HME : Hid (inS l[c] = false → l.all inS = false) := fun h => by
        cases ha : l.all inS with
        | false => rfl
        | true => exact absurd ((List.all_eq_true.1 ha _ (List.getElem_mem hlt)).symm.trans h) (by decide)
      have HSU : Hid ((l.take (c + 1)).all inS = ((l.take c).all inS && inS l[c])) := by
        show _ = _
        rw [List.take_succ_eq_append_getElem hlt, List.all_append]; simp
      generalize l[c] = x at hcell HME HSU
      by_cases h1 : x < -8388608
      · have HF : Hid (l.all inS = false) := HME.out (decide_eq_false (by omega))
        have t1 : decide (x < -8388608) = true := decide_eq_true h1
        clear HME HSU h1
        go_wp2
        go_ret
        exact ⟨by rw [HF.out]; rfl, rfl⟩
      · have t1 : decide (x < -8388608) = false := decide_eq_false h1
        by_cases h2 : 8388607 < x
        · have HF : Hid (l.all inS = false) := HME.out (decide_eq_false (by omega))
          have t2 : decide (8388607 < x) = true := decide_eq_true h2
          clear HME HSU h1 h2
          go_wp2
          go_ret
          exact ⟨by rw [HF.out]; rfl, rfl⟩
        · have t2 : decide (8388607 < x) = false := decide_eq_false h2
          have HT2 : Hid ((l.take (c + 1)).all inS = true) := by show _ = _; rw [HSU.out, HT.out, show inS x = true from decide_eq_true (by omega)]; rfl
          clear HME HSU h1 h2
          go_wp2
          go_roundg (gk - 1)
          case rel => exact ⟨c + 1, by omega, by have := HGK.out; omega, by go_num, HT2, rfl⟩
          case measure => have := HGK.out; omega
    · obtain rfl : c = l.length := by omega
      have HF : Hid (l.all inS = true) := by have := HT.out; rwa [List.take_length] at this
      go_wp2
      go_ret
      exact ⟨by rw [HF.out]; rfl, rfl⟩

/-- A sixteenth, down. -/
theorem down16 (n : Int) : (Int.tmod n 16 < 0 ∧ Int.tdiv n 16 - 1 = n / 16) ∨ (0 ≤ Int.tmod n 16 ∧ Int.tdiv n 16 = n / 16) := by
  by_cases h : 0 ≤ n
  · rw [Int.tdiv_eq_ediv_of_nonneg h, Int.tmod_eq_emod_of_nonneg h]
    omega
  · obtain ⟨m, rfl⟩ : ∃ m, n = -m := ⟨-n, by omega⟩
    rw [Int.neg_tdiv, Int.neg_tmod, Int.tdiv_eq_ediv_of_nonneg (by omega), Int.tmod_eq_emod_of_nonneg (by omega)]
    omega

set_option maxHeartbeats 800000 in
theorem rForeseen (x : Wv) (ao : Option Addr) (cap : Nat) (m : List Int) (i : Nat) (w : World) (hg : (-16 ≤ x.g0 ∧ x.g0 ≤ 15) ∧ (-16 ≤ x.g1 ∧ x.g1 ≤ 15) ∧ (-16 ≤ x.g2 ∧ x.g2 ≤ 15)) (hm : m.all inS = true) (hl : m.length ≤ 100000) (hlt : i < m.length) (hi : IntsAt w ao m) :
    Calls Try.prog 29 #[gnV x, .slice ao m.length cap, .int .i64 i] w fun e w' => e = .returned (.int .i64 (fore x m i)) ∧ Below w.heap.size w w' := by
  have hb0 := box_below w (.cells #[.int .i64 x.g0, .int .i64 x.g1, .int .i64 x.g2] 22)
  have hn0 := heap_alloc_new w (.cells #[.int .i64 x.g0, .int .i64 x.g1, .int .i64 x.g2] 22)
  obtain ⟨W0, hW0⟩ : ∃ W0, W0 = w.alloc (.cells #[.int .i64 x.g0, .int .i64 x.g1, .int .i64 x.g2] 22) := ⟨_, rfl⟩
  rw [← hW0] at hb0 hn0
  have k0 : W0.cell? ⟨w.heap.size, 0, none⟩ = some (.int .i64 x.g0) := cell_of_heap hn0 0
  have k1 : W0.cell? ⟨w.heap.size, 1, none⟩ = some (.int .i64 x.g1) := cell_of_heap hn0 1
  have k2 : W0.cell? ⟨w.heap.size, 2, none⟩ = some (.int .i64 x.g2) := cell_of_heap hn0 2
  have hi0 := hi.below hb0
  have HSA : Hid (∀ j W, Below W0.heap.size W0 W → Calls Try.prog 42 #[.slice ao m.length cap, .int .i64 j] W fun e w' => e = .returned (.int .i64 (sampW m j)) ∧ W = w') := fun j W hb => rSample ao cap m j W (hi0.below hb)
  have HF : Hid ((x.g0 * sampW m ((i : Int) - 1) + x.g1 * sampW m (i : Int) + x.g2 * sampW m ((i : Int) + 1)) / 16 = fore x m i) := by
    show _ = _
    unfold fore
    rw [sampW_b4 m hlt, sampW_at, show ((i : Int) + 1) = ((i + 1 : Nat) : Int) by omega, sampW_at]
  have ha := sampW_S hm ((i : Int) - 1)
  have hb := sampW_S hm (i : Int)
  have hc := sampW_S hm ((i : Int) + 1)
  have w1 : IntKind.i64.wrap ((i : Int) - 1) = (i : Int) - 1 := IntWalk.i64_in _ (by omega)
  have w2 : IntKind.i64.wrap ((i : Int) + 1) = (i : Int) + 1 := IntWalk.i64_in _ (by omega)
  obtain ⟨ja, hja⟩ : ∃ ja, ja = (i : Int) - 1 := ⟨_, rfl⟩
  obtain ⟨jc, hjc⟩ : ∃ jc, jc = (i : Int) + 1 := ⟨_, rfl⟩
  rw [← hja] at HF ha w1
  rw [← hjc] at HF hc w2
  have w1' : IntKind.i64.wrap ((i : Int) - 1) = ja := by rw [hja] at w1 ⊢; exact w1
  have w2' : IntKind.i64.wrap ((i : Int) + 1) = jc := by rw [hjc] at w2 ⊢; exact w2
  have hbq : ∀ k, Below W0.heap.size W0 (W0.drewN k) := fun k => (keeps_drewN W0 k []).below (Nat.le_refl _) (by simp)
  have HBQ := Lib.hid hbq
  have HQ : Hid (∀ j n, Calls Try.prog 42 #[.slice ao m.length cap, .int .i64 j] (W0.drewN n) fun e w' => e = .returned (.int .i64 (sampW m j)) ∧ ∃ k, w' = W0.drewN k) := fun j n => quiet_left (HSA.out j _ (hbq n))
  have HQ1 := Lib.hid (HQ.out ja)
  have HQ2 := Lib.hid (HQ.out (i : Int))
  have HQ3 := Lib.hid (HQ.out jc)
  rw [← HF.out]
  generalize sampW m ja = sa at *
  generalize sampW m (i : Int) = sb at *
  generalize sampW m jc = sc at *
  have pa := prodW hg.1 ha
  have pb := prodW hg.2.1 hb
  have pc := prodW hg.2.2 hc
  unfold gnV
  generalize x.g0 = g0 at *
  generalize x.g1 = g1 at *
  generalize x.g2 = g2 at *
  obtain ⟨pq, hpq⟩ : ∃ pq, pq = g0 * sa := ⟨_, rfl⟩
  obtain ⟨pr, hpr⟩ : ∃ pr, pr = g1 * sb := ⟨_, rfl⟩
  obtain ⟨ps, hps⟩ : ∃ ps, ps = g2 * sc := ⟨_, rfl⟩
  rw [← hpq] at pa
  rw [← hpr] at pb
  rw [← hps] at pc
  have v1 : IntKind.i64.wrap (g0 * sa) = pq := by rw [← hpq]; exact IntWalk.i64_in _ (by omega)
  have v2 : IntKind.i64.wrap (g1 * sb) = pr := by rw [← hpr]; exact IntWalk.i64_in _ (by omega)
  have v3 : IntKind.i64.wrap (g2 * sc) = ps := by rw [← hps]; exact IntWalk.i64_in _ (by omega)
  obtain ⟨u, hu⟩ : ∃ u, u = pq + pr := ⟨_, rfl⟩
  have v4 : IntKind.i64.wrap (pq + pr) = u := by rw [← hu]; exact IntWalk.i64_in _ (by omega)
  obtain ⟨n, hn⟩ : ∃ n, n = u + ps := ⟨_, rfl⟩
  have v5 : IntKind.i64.wrap (u + ps) = n := by rw [← hn]; exact IntWalk.i64_in _ (by omega)
  have hnn : g0 * sa + g1 * sb + g2 * sc = n := by rw [← hpq, ← hpr, ← hps]; omega
  rw [hnn]
  have hd := down16 n
  have hnb : -1000000000 ≤ n ∧ n ≤ 1000000000 := by omega
  have hmb : -16 < Int.tmod n 16 ∧ Int.tmod n 16 < 16 := ⟨Int.lt_tmod_of_pos n (by decide), Int.tmod_lt_of_pos n (by decide)⟩
  obtain ⟨q, hq⟩ : ∃ q, q = Int.tdiv n 16 := ⟨_, rfl⟩
  obtain ⟨r, hr⟩ : ∃ r, r = Int.tmod n 16 := ⟨_, rfl⟩
  have q1 : Int.tdiv n 16 = q := hq.symm
  have q2 : Int.tmod n 16 = r := hr.symm
  rw [q1, q2] at hd
  rw [q2] at hmb
  have hqb : -1000000000 ≤ q ∧ q ≤ 1000000000 := by rcases hd with ⟨_, h⟩ | ⟨_, h⟩ <;> omega
  have w3 : IntKind.i64.wrap q = q := IntWalk.i64_in _ (by omega)
  have w4 : IntKind.i64.wrap (q - 1) = q - 1 := IntWalk.i64_in _ (by omega)
  have w5 : IntKind.i64.wrap r = r := IntWalk.i64_in _ (by omega)
  obtain ⟨f, hf⟩ : ∃ f, f = n / 16 := ⟨_, rfl⟩
  rw [← hf] at hd ⊢
  have HD := Lib.hid hd
  have HBX := Lib.hid hb0
  have HW0 := Lib.hid hW0
  clear hbq w1 w2 hja hjc hi hi0 HSA HQ HF hn0 hb0 hW0 hnn hu hn hpq hpr hps hq hr hf ha hb hc hg pa pb pc hnb
  go_enter Try.func29, Try.ntmps29
  go_wp2_with fail
  rw [← HW0.out]
  go_quiet (first
    | (go_at_call 42; with_reducible exact HQ1.out _)
    | (go_at_call 42; with_reducible exact HQ2.out _)
    | (go_at_call 42; with_reducible exact HQ3.out _))
  rcases HD.out with ⟨h1, h2⟩ | ⟨h1, h2⟩
  · have t1 : decide (r < 0) = true := decide_eq_true h1
    have w6 : q - 1 = f := h2
    clear h1 h2 HD
    go_wp2
    go_ret
    exact ⟨rfl, HBX.out.trans ((HBQ.out _).mono HBX.out.size)⟩
  · have t1 : decide (r < 0) = false := decide_eq_false (by omega)
    have w6 : q = f := h2
    subst w6
    clear h1 HD
    go_wp2
    go_ret
    exact ⟨rfl, HBX.out.trans ((HBQ.out _).mono HBX.out.size)⟩
end Go.Proofs.Ytbbcemgcanclnaa
