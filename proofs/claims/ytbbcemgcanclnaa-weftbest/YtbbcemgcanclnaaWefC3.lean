import Derived.Test.YtbbcemgcanclnaaWefC2
namespace Go.Proofs.Ytbbcemgcanclnaa
open Go.RowKit Go.Proofs Go.Proofs.PipeM Go.Proofs.PipeA Go.Proofs.WefM
set_option maxRecDepth 100000

theorem sampW_cases (m : List Int) (a : Int) : (∃ (q : Nat) (h : q < m.length), a = q ∧ sampW m a = m[q]) ∨ (a < 0 ∧ sampW m a = 0) ∨ (0 ≤ a ∧ ¬ a < m.length ∧ sampW m a = 0) := by
  by_cases h0 : 0 ≤ a
  · obtain ⟨q, rfl⟩ : ∃ q : Nat, a = q := ⟨a.toNat, by omega⟩
    by_cases h1 : q < m.length
    · exact .inl ⟨q, h1, rfl, by rw [sampW_at, getD_ltW h1]⟩
    · exact .inr (.inr ⟨h0, by omega, by unfold sampW; rw [if_neg (by omega)]⟩)
  · exact .inr (.inl ⟨by omega, by unfold sampW; rw [if_neg (by omega)]⟩)

theorem index_gains (W : World) (a b c : Int) :
    (Instr.index 57 (.agg #[.int .i64 a, .int .i64 b, .int .i64 c]) (.int .i64 0)).run Try.prog W = .ok (.int .i64 a) W ∧
    (Instr.index 57 (.agg #[.int .i64 a, .int .i64 b, .int .i64 c]) (.int .i64 1)).run Try.prog W = .ok (.int .i64 b) W ∧
    (Instr.index 57 (.agg #[.int .i64 a, .int .i64 b, .int .i64 c]) (.int .i64 2)).run Try.prog W = .ok (.int .i64 c) W := by
  refine ⟨?_, ?_, ?_⟩ <;> simp [Instr.index, run_underlying Try.underlying57, go_sem]
set_option maxHeartbeats 3200000 in
theorem cForeseen (x : Wv) (ao : Option Addr) (cap : Nat) (m : List Int) (i : Nat) (w : World) (hg : (-16 ≤ x.g0 ∧ x.g0 ≤ 15) ∧ (-16 ≤ x.g1 ∧ x.g1 ≤ 15) ∧ (-16 ≤ x.g2 ∧ x.g2 ≤ 15)) (hm : m.all inS = true) (hl : m.length ≤ 100000) (hlt : i < m.length) (hi : IntsAt w ao m) :
    Calls Try.prog 26 #[gnV x, .slice ao m.length cap, .int .i64 i] w fun e w' => e = .returned (.int .i64 (fore x m i)) ∧ Below w.heap.size w w' := by
  have hb0 := box_below w (.cells #[.int .i64 x.g0, .int .i64 x.g1, .int .i64 x.g2] 57)
  have hn0 := heap_alloc_new w (.cells #[.int .i64 x.g0, .int .i64 x.g1, .int .i64 x.g2] 57)
  obtain ⟨W0, hW0⟩ : ∃ W0, W0 = w.alloc (.cells #[.int .i64 x.g0, .int .i64 x.g1, .int .i64 x.g2] 57) := ⟨_, rfl⟩
  rw [← hW0] at hb0 hn0
  have k0 : W0.cell? ⟨w.heap.size, 0, none⟩ = some (.int .i64 x.g0) := cell_of_heap hn0 0
  have k1 : W0.cell? ⟨w.heap.size, 1, none⟩ = some (.int .i64 x.g1) := cell_of_heap hn0 1
  have k2 : W0.cell? ⟨w.heap.size, 2, none⟩ = some (.int .i64 x.g2) := cell_of_heap hn0 2
  have HI := Lib.hid (hi.below hb0)
  have HF : Hid ((x.g0 * sampW m ((i : Int) - 1) + x.g1 * sampW m (i : Int) + x.g2 * sampW m ((i : Int) + 1)) / 16 = fore x m i) := by
    show _ = _
    unfold fore
    rw [sampW_b4 m hlt, sampW_at, show ((i : Int) + 1) = ((i + 1 : Nat) : Int) by omega, sampW_at]
  have ha := sampW_S hm ((i : Int) - 1)
  have hb := sampW_S hm (i : Int)
  have hc := sampW_S hm ((i : Int) + 1)
  have HA := Lib.hid (sampW_cases m ((i : Int) - 1))
  have HB := Lib.hid (sampW_cases m (i : Int))
  have HC := Lib.hid (sampW_cases m ((i : Int) + 1))
  obtain ⟨jb, hjb⟩ : ∃ jb : Int, jb = (i : Int) := ⟨_, rfl⟩
  obtain ⟨ja, hja⟩ : ∃ ja, ja = (i : Int) - 1 := ⟨_, rfl⟩
  obtain ⟨jc, hjc⟩ : ∃ jc, jc = (i : Int) + 1 := ⟨_, rfl⟩
  rw [← hja] at HA HF ha
  rw [← hjc] at HC HF hc
  rw [← hjb] at HB HF hb ⊢
  have w1 : IntKind.i64.wrap (jb - 1) = ja := by rw [hja, ← hjb]; exact IntWalk.i64_in _ (by omega)
  have w2 : IntKind.i64.wrap ja = ja := IntWalk.i64_in _ (by omega)
  have w3 : IntKind.i64.wrap (ja + 1) = jb := by rw [hja, hjb]; rw [IntWalk.i64_in _ (by omega)]; omega
  have w4 : IntKind.i64.wrap (ja + 2) = jc := by rw [hja, hjc]; rw [IntWalk.i64_in _ (by omega)]; omega
  rw [← HF.out]
  generalize sampW m ja = sa at *
  generalize sampW m jb = sb at *
  generalize sampW m jc = sc at *
  have pa := prodW hg.1 ha
  have pb := prodW hg.2.1 hb
  have pc := prodW hg.2.2 hc
  unfold gnV
  generalize x.g0 = g0 at *
  generalize x.g1 = g1 at *
  generalize x.g2 = g2 at *
  obtain ⟨pq, hpq⟩ : ∃ pq, pq = g0 * sa := ⟨_, rfl⟩
  obtain ⟨pr, hpr⟩ : ∃ pr, pr = g1 * sb := ⟨_, rfl⟩
  obtain ⟨ps, hps⟩ : ∃ ps, ps = g2 * sc := ⟨_, rfl⟩
  rw [← hpq] at pa ⊢
  rw [← hpr] at pb ⊢
  rw [← hps] at pc ⊢
  have v1 : IntKind.i64.wrap (sa * g0) = pq := by rw [Int.mul_comm, ← hpq]; exact IntWalk.i64_in _ (by omega)
  have v2 : IntKind.i64.wrap (sb * g1) = pr := by rw [Int.mul_comm, ← hpr]; exact IntWalk.i64_in _ (by omega)
  have v3 : IntKind.i64.wrap (sc * g2) = ps := by rw [Int.mul_comm, ← hps]; exact IntWalk.i64_in _ (by omega)
  have HZ : Hid ((sa = 0 → pq = 0) ∧ (sb = 0 → pr = 0) ∧ (sc = 0 → ps = 0)) := ⟨fun h => by rw [hpq, h, Int.mul_zero], fun h => by rw [hpr, h, Int.mul_zero], fun h => by rw [hps, h, Int.mul_zero]⟩
  obtain ⟨u, hu⟩ : ∃ u, u = pq + pr := ⟨_, rfl⟩
  have v0 : IntKind.i64.wrap pq = pq := IntWalk.i64_in _ (by omega)
  have v4 : IntKind.i64.wrap (pq + pr) = u := by rw [← hu]; exact IntWalk.i64_in _ (by omega)
  obtain ⟨n, hn⟩ : ∃ n, n = u + ps := ⟨_, rfl⟩
  have v5 : IntKind.i64.wrap (u + ps) = n := by rw [← hn]; exact IntWalk.i64_in _ (by omega)
  rw [← hu, ← hn]
  have HU := Lib.hid hu
  have HN := Lib.hid hn
  have HBX := Lib.hid hb0
  have HW0 := Lib.hid hW0
  clear hja hjb hjc hi hm hlt HF hn0 hb0 hW0 hu hn hpq hpr hps ha hb hc hg pa pb pc
  have ix0 : ∀ W, (Instr.index 57 (.agg #[.int .i64 g0, .int .i64 g1, .int .i64 g2]) (.int .i64 0)).run Try.prog W = .ok (.int .i64 g0) W := fun W => (index_gains W g0 g1 g2).1
  have ix1 : ∀ W, (Instr.index 57 (.agg #[.int .i64 g0, .int .i64 g1, .int .i64 g2]) (.int .i64 1)).run Try.prog W = .ok (.int .i64 g1) W := fun W => (index_gains W g0 g1 g2).2.1
  have ix2 : ∀ W, (Instr.index 57 (.agg #[.int .i64 g0, .int .i64 g1, .int .i64 g2]) (.int .i64 2)).run Try.prog W = .ok (.int .i64 g2) W := fun W => (index_gains W g0 g1 g2).2.2
  go_enter Try.func26, Try.ntmps26
  go_wp2_with fail
  rw [← HW0.out]
  go_wp2
  go_loopg [7, 8, 9, 10, 12] 3 (fun gk s q1 q2 q3 k wr => ∃ (c : Nat) (S : Int), c ≤ 3 ∧ gk + c = 3 ∧ k = .int .i64 c ∧ s = .int .i64 S ∧ Hid (S = if c = 0 then 0 else if c = 1 then pq else if c = 2 then u else n) ∧ W0 = wr)
  case atStart => exact ⟨0, 0, by omega, by omega, rfl, rfl, rfl, rfl⟩
  case round =>
    obtain ⟨c, S, hc, hgk, rfl, rfl, HS, rfl⟩ := hrel
    have HGK := Lib.hid hgk
    clear hgk
    have h4 : c = 0 ∨ c = 1 ∨ c = 2 ∨ c = 3 := by omega
    clear hc
    rcases h4 with rfl | rfl | rfl | rfl
    · rw [show S = 0 from HS.out]
      clear HS
      rcases HA.out with ⟨q, hq, e1, e2⟩ | ⟨h1, e2⟩ | ⟨h1, h2, e2⟩
      · obtain ⟨b, off, rfl, hbk, hcell⟩ := HI.out q hq
        have t1 : decide ((0 : Int) ≤ (q : Int)) = true := decide_eq_true (by omega)
        have t2 : decide ((q : Int) < (m.length : Int)) = true := decide_eq_true (by omega)
        have t3 : decide (q < m.length) = true := decide_eq_true hq
        rw [← e2] at hcell
        subst e1
        clear e2 HA HB HC HI hbk
        go_wp2
        go_roundg (gk - 1)
        case rel => exact ⟨1, pq, by omega, by have := HGK.out; omega, by go_num, by go_num, rfl, rfl⟩
        case measure => have := HGK.out; omega
      · have t1 : decide ((0 : Int) ≤ ja) = false := decide_eq_false (by omega)
        have e3 := HZ.out.1 e2
        have HE : Hid (0 = if 1 = 0 then 0 else if 1 = 1 then pq else if 1 = 2 then u else n) := by show _; exact e3.symm
        clear e2 e3 HA HB HC HI h1
        go_wp2
        go_roundg (gk - 1)
        case rel => exact ⟨1, 0, by omega, by have := HGK.out; omega, by go_num, by go_num, HE, rfl⟩
        case measure => have := HGK.out; omega
      · have t1 : decide ((0 : Int) ≤ ja) = true := decide_eq_true h1
        have t2 : decide (ja < (m.length : Int)) = false := decide_eq_false (by omega)
        have e3 := HZ.out.1 e2
        have HE : Hid (0 = if 1 = 0 then 0 else if 1 = 1 then pq else if 1 = 2 then u else n) := by show _; exact e3.symm
        clear e2 e3 HA HB HC HI h1 h2
        go_wp2
        go_roundg (gk - 1)
        case rel => exact ⟨1, 0, by omega, by have := HGK.out; omega, by go_num, by go_num, HE, rfl⟩
        case measure => have := HGK.out; omega
    · rw [show S = pq from HS.out]
      clear HS
      rcases HB.out with ⟨q, hq, e1, e2⟩ | ⟨h1, e2⟩ | ⟨h1, h2, e2⟩
      · obtain ⟨b, off, rfl, hbk, hcell⟩ := HI.out q hq
        have t1 : decide ((0 : Int) ≤ (q : Int)) = true := decide_eq_true (by omega)
        have t2 : decide ((q : Int) < (m.length : Int)) = true := decide_eq_true (by omega)
        have t3 : decide (q < m.length) = true := decide_eq_true hq
        rw [← e2] at hcell
        subst e1
        clear e2 HA HB HC HI hbk
        go_wp2
        go_roundg (gk - 1)
        case rel => exact ⟨2, u, by omega, by have := HGK.out; omega, by go_num, by go_num, rfl, rfl⟩
        case measure => have := HGK.out; omega
      · have t1 : decide ((0 : Int) ≤ jb) = false := decide_eq_false (by omega)
        have e3 := HZ.out.2.1 e2
        have HE : Hid (pq = if 2 = 0 then 0 else if 2 = 1 then pq else if 2 = 2 then u else n) := by show _; show pq = u; have := HU.out; omega
        clear e2 e3 HA HB HC HI h1
        go_wp2
        go_roundg (gk - 1)
        case rel => exact ⟨2, pq, by omega, by have := HGK.out; omega, by go_num, by go_num, HE, rfl⟩
        case measure => have := HGK.out; omega
      · have t1 : decide ((0 : Int) ≤ jb) = true := decide_eq_true h1
        have t2 : decide (jb < (m.length : Int)) = false := decide_eq_false (by omega)
        have e3 := HZ.out.2.1 e2
        have HE : Hid (pq = if 2 = 0 then 0 else if 2 = 1 then pq else if 2 = 2 then u else n) := by show _; show pq = u; have := HU.out; omega
        clear e2 e3 HA HB HC HI h1 h2
        go_wp2
        go_roundg (gk - 1)
        case rel => exact ⟨2, pq, by omega, by have := HGK.out; omega, by go_num, by go_num, HE, rfl⟩
        case measure => have := HGK.out; omega
    · rw [show S = u from HS.out]
      clear HS
      rcases HC.out with ⟨q, hq, e1, e2⟩ | ⟨h1, e2⟩ | ⟨h1, h2, e2⟩
      · obtain ⟨b, off, rfl, hbk, hcell⟩ := HI.out q hq
        have t1 : decide ((0 : Int) ≤ (q : Int)) = true := decide_eq_true (by omega)
        have t2 : decide ((q : Int) < (m.length : Int)) = true := decide_eq_true (by omega)
        have t3 : decide (q < m.length) = true := decide_eq_true hq
        rw [← e2] at hcell
        subst e1
        clear e2 HA HB HC HI hbk
        go_wp2
        go_roundg (gk - 1)
        case rel => exact ⟨3, n, by omega, by have := HGK.out; omega, by go_num, by go_num, rfl, rfl⟩
        case measure => have := HGK.out; omega
      · have t1 : decide ((0 : Int) ≤ jc) = false := decide_eq_false (by omega)
        have e3 := HZ.out.2.2 e2
        have HE : Hid (u = if 3 = 0 then 0 else if 3 = 1 then pq else if 3 = 2 then u else n) := by show _; show u = n; have := HN.out; omega
        clear e2 e3 HA HB HC HI h1
        go_wp2
        go_roundg (gk - 1)
        case rel => exact ⟨3, u, by omega, by have := HGK.out; omega, by go_num, by go_num, HE, rfl⟩
        case measure => have := HGK.out; omega
      · have t1 : decide ((0 : Int) ≤ jc) = true := decide_eq_true h1
        have t2 : decide (jc < (m.length : Int)) = false := decide_eq_false (by omega)
        have e3 := HZ.out.2.2 e2
        have HE : Hid (u = if 3 = 0 then 0 else if 3 = 1 then pq else if 3 = 2 then u else n) := by show _; show u = n; have := HN.out; omega
        clear e2 e3 HA HB HC HI h1 h2
        go_wp2
        go_roundg (gk - 1)
        case rel => exact ⟨3, u, by omega, by have := HGK.out; omega, by go_num, by go_num, HE, rfl⟩
        case measure => have := HGK.out; omega
    · rw [show S = n from HS.out]
      clear HS
      go_wp2
      go_ret
      exact ⟨rfl, HBX.out⟩
end Go.Proofs.Ytbbcemgcanclnaa
