import Derived.Test.YtpbbhebongggpaaPackL1
namespace Go.Proofs.Ytpbbhebongggpaa
open Go.RowKit Go.Proofs Go.Proofs.PipeM Go.Proofs.PipeA Go.Proofs.PackM
set_option maxRecDepth 100000

theorem turn_at (z : Nat) (rows : List (List Int)) (i : Nat) (hz : 0 < z) : pAt z false rows i = pAt z true rows (i / z * z + z - 1 - i % z) := by
  have hm := Nat.mod_lt i hz
  have e0 : i / z * z + z - 1 - i % z = z * (i / z) + (z - 1 - i % z) := by rw [Nat.mul_comm]; omega
  rw [e0]
  unfold pAt
  have e1 : (z * (i / z) + (z - 1 - i % z)) / z = i / z := by rw [Nat.mul_add_div hz, Nat.div_eq_of_lt (show z - 1 - i % z < z by omega), Nat.add_zero]
  have e2 : (z * (i / z) + (z - 1 - i % z)) % z = z - 1 - i % z := by rw [Nat.mul_add_mod, Nat.mod_eq_of_lt (show z - 1 - i % z < z by omega)]
  rw [e1, e2]
  congr 1
  unfold shiftN
  simp
  omega

theorem turn_lt (z q i m : Nat) (hz : 0 < z) (hm : m = q * z) (hi : i < m) : i / z * z + z - 1 - i % z < m := by
  have h1 : i / z < q := by rw [Nat.div_lt_iff_lt_mul hz, ← hm]; exact hi
  have h2 : (i / z + 1) * z ≤ q * z := Nat.mul_le_mul_right _ h1
  rw [Nat.add_mul, Nat.one_mul] at h2
  omega

/-- The first tests: where channels are many, or something is wrong with them. -/
theorem turns_out (a0 : Nat) (ao : Option Addr) (cap : Nat) (rows : List (List Int)) (w : World) (ha : a0 ≤ 255) (hl : rows.length ≤ 9223372036854775807) (hi : RowsAt w ao rows) (h : fewB rows = false ∨ (fewB rows = true ∧ code ((8 * (1 + a0 % 3) : Nat) : Int) rows ≠ 0)) :
    Calls Try.prog 7 #[.int .u8 (a0 : Int), .slice ao rows.length cap] w fun e w' => e = .returned (.bool true) ∧ Below w.heap.size w w' := by
  obtain ⟨q, hq⟩ : ∃ q, q = a0 % 3 := ⟨_, rfl⟩
  obtain ⟨zb, hzb⟩ : ∃ zb, zb = 8 * (1 + q) := ⟨_, rfl⟩
  have e1 : (a0 : Int) % 3 = (q : Int) := by omega
  have e2 : 8 * (1 + (q : Int)) = (zb : Int) := by omega
  have hq2 : q ≤ 2 := by omega
  rw [← hq, ← hzb] at h
  have HB := fun o => Lib.hid (box_below w o)
  have HA := fun W => Lib.hid (awake W)
  have HF := fun W (hb : Below w.heap.size w W) => Lib.hid (cFew ao cap rows W hl (hi.below hb))
  rcases h with hf | ⟨hf, hc⟩
  · rw [hf] at HF
    clear hf hi hq hzb
    go_enter Try.func7, Try.ntmps7
    go_wp2_with fail
    refine (HA _).out.mono ?_
    rintro e w1 ⟨rfl, hb1⟩
    have HB1 := Lib.hid ((HB _).out.trans (hb1.mono (HB _).out.size))
    clear hb1
    go_wp2_with fail
    refine (HF _ HB1.out).out.mono ?_
    rintro e w2 ⟨rfl, rfl⟩
    go_wp2_with fail
    refine (HA _).out.mono ?_
    rintro e w3 ⟨rfl, hb3⟩
    have HB3 := Lib.hid (HB1.out.trans (hb3.mono HB1.out.size))
    clear hb3
    go_wp2
    go_ret
    exact ⟨rfl, HB3.out⟩
  · have hsm := few_small hf
    have HRC := fun W (hb : Below w.heap.size w W) => Lib.hid (rCheck ao cap rows (zb : Int) false W ⟨hsm.1, fun r hr => by have := hsm.2 r hr; omega⟩ (hi.below hb))
    have t1 : (code (zb : Int) rows != 0) = true := by rw [bne_iff_ne]; exact hc
    rw [hf] at HF
    generalize code (zb : Int) rows = cd at HRC t1
    clear hf hi hq hzb hc hsm
    go_enter Try.func7, Try.ntmps7
    go_wp2_with fail
    refine (HA _).out.mono ?_
    rintro e w1 ⟨rfl, hb1⟩
    have HB1 := Lib.hid ((HB _).out.trans (hb1.mono (HB _).out.size))
    have c0 : w1.cell? ⟨w.heap.size, 0, none⟩ = some (.int .i64 (zb : Int)) := (hb1.cell (p := ⟨w.heap.size, 0, none⟩) (by simp)).trans (by simp)
    have c1 : w1.cell? ⟨w.heap.size, 1, none⟩ = some (.bool false) := (hb1.cell (p := ⟨w.heap.size, 1, none⟩) (by simp)).trans (by simp)
    clear hb1
    go_wp2_with fail
    refine (HF _ HB1.out).out.mono ?_
    rintro e w2 ⟨rfl, rfl⟩
    go_wp2_with fail
    refine (HRC _ HB1.out).out.mono ?_
    rintro e w3 ⟨rfl, hb3⟩
    have HB3 := Lib.hid (HB1.out.trans (hb3.mono HB1.out.size))
    clear hb3
    go_wp2_with fail
    refine (HA _).out.mono ?_
    rintro e w4 ⟨rfl, hb4⟩
    have HB4 := Lib.hid (HB3.out.trans (hb4.mono HB3.out.size))
    clear hb4
    go_wp2
    go_ret
    exact ⟨rfl, HB4.out⟩

theorem ints_lit (W : World) (b : Nat) (n : Int) (t : TypeId) (h : W.heap[b]? = some (.cells #[.int .i64 n] t)) : IntsAt W (some ⟨b, 0, none⟩) [n] := by
  intro j hj
  obtain rfl : j = 0 := by simpa using hj
  exact ⟨b, 0, rfl, (Array.getElem?_eq_some_iff.1 h).1, by simp [World.cell?, h]⟩

set_option maxHeartbeats 6400000 in
theorem turns_ok (a0 z : Nat) (ao : Option Addr) (cap : Nat) (rows : List (List Int)) (w : World) (ha : a0 ≤ 255) (hza : z = 1 + a0 % 3) (hf : fewB rows = true) (hi : RowsAt w ao rows) (hcd : code ((8 * z : Nat) : Int) rows = 0) :
    Calls Try.prog 7 #[.int .u8 (a0 : Int), .slice ao rows.length cap] w fun e w' => e = .returned (.bool true) ∧ Below w.heap.size w w' := by
  have hz : z = 1 ∨ z = 2 ∨ z = 3 := by omega
  obtain ⟨q, hq⟩ : ∃ q, q = a0 % 3 := ⟨_, rfl⟩
  obtain ⟨zb, hzb⟩ : ∃ zb, zb = 8 * z := ⟨_, rfl⟩
  have e1 : (a0 : Int) % 3 = (q : Int) := by omega
  have e2 : 8 * (1 + (q : Int)) = (zb : Int) := by omega
  have e3 : (zb : Int) / 8 = (z : Int) := by omega
  have hq2 : q ≤ 2 := by omega
  have hsm := few_small hf
  have hS : Small rows := ⟨hsm.1, fun r hr => by have := hsm.2 r hr; omega⟩
  obtain ⟨_, hc1, hc8, hlev, hhas⟩ := code_zero hcd
  have HB := fun o => Lib.hid (box_below w o)
  have HA := fun W => Lib.hid (awake W)
  have HF := fun W (hb : Below w.heap.size w W) => Lib.hid (cFew ao cap rows W (by omega) (hi.below hb))
  rw [hf] at HF
  have HRC := fun W (hb : Below w.heap.size w W) => Lib.hid (rCheck ao cap rows ((8 * z : Nat) : Int) false W hS (hi.below hb))
  rw [hcd] at HRC
  have HP := fun g W (hb : Below w.heap.size w W) => Lib.hid (cPack_ok ao cap rows z g W hz hS (hi.below hb) hcd)
  have hs0 : len0 rows ≤ 200 := by
    unfold len0
    rw [head_get (show 0 < rows.length by omega)]
    exact hsm.2 _ (List.getElem_mem _)
  have hm48 : len0 rows * rows.length * z ≤ 24000 := Nat.le_trans (Nat.mul_le_mul (Nat.mul_le_mul hs0 hc8) (show z ≤ 3 by omega)) (by decide)
  obtain ⟨b, off, r0, rc0, rfl, hbw, hcell0, _⟩ := hi 0 hc1
  rw [Nat.add_zero, show rows[0].length = len0 rows by unfold len0; rw [head_get (show 0 < rows.length by omega)]] at hcell0
  obtain ⟨m, hm⟩ : ∃ m, m = len0 rows * rows.length * z := ⟨_, rfl⟩
  rw [← hm] at HP hm48
  have HPL := fun g => Lib.hid (packF_length z g rows m)
  have HPT := fun i (h : i < m) => Lib.hid (show (packF z false rows m).getD i 0 = (packF z true rows m).getD (i / z * z + z - 1 - i % z) 0 by
    rw [packF_get z false rows m i h, packF_get z true rows m _ (turn_lt z _ i m (by omega) hm h)]; exact turn_at z rows i (by omega))
  have HTL := fun i (h : i < m) => Lib.hid (turn_lt z _ i m (by omega) hm h)
  obtain ⟨s, hs⟩ : ∃ s, s = len0 rows := ⟨_, rfl⟩
  obtain ⟨ch, hch⟩ : ∃ ch, ch = rows.length := ⟨_, rfl⟩
  obtain ⟨p, hp⟩ : ∃ p, p = ch * s := ⟨_, rfl⟩
  rw [← hs] at hs0 hm hcell0
  rw [← hch] at hm hc8 HF HRC HP ⊢
  have hp1 : (ch : Int) * (s : Int) = (p : Int) := by rw [hp, Int.natCast_mul]
  have hp2 : (p : Int) * (z : Int) = (m : Int) := by rw [hm, hp, Nat.mul_comm ch s, ← Int.natCast_mul]
  have hpb : p ≤ 2000 := by rw [hp]; exact Nat.le_trans (Nat.mul_le_mul hc8 hs0) (by decide)
  rw [← hzb] at HRC HP
  have hz3 : 1 ≤ z ∧ z ≤ 3 := by omega
  have hch1 : 0 < ch := by rw [hch]; exact hc1
  clear hf hi hcd hsm hS hz hlev hhas hm hzb hs hch hp hza hq
  go_enter Try.func7, Try.ntmps7
  go_wp2_with fail
  refine (HA _).out.mono ?_
  rintro e w1 ⟨rfl, hb1⟩
  have HB1 := Lib.hid ((HB _).out.trans (hb1.mono (HB _).out.size))
  have c0 : w1.cell? ⟨w.heap.size, 0, none⟩ = some (.int .i64 (zb : Int)) := (hb1.cell (p := ⟨w.heap.size, 0, none⟩) (by simp)).trans (by simp)
  have c1 : w1.cell? ⟨w.heap.size, 1, none⟩ = some (.bool false) := (hb1.cell (p := ⟨w.heap.size, 1, none⟩) (by simp)).trans (by simp)
  have hsz1 : w.heap.size + 1 ≤ w1.heap.size := by have := hb1.size; simpa using this
  clear hb1
  go_wp2_with fail
  refine (HF _ HB1.out).out.mono ?_
  rintro e w1' ⟨rfl, rfl⟩
  go_wp2_with fail
  refine (HRC _ HB1.out).out.mono ?_
  rintro e w3 ⟨rfl, hb3⟩
  have HB3 := Lib.hid (HB1.out.trans (hb3.mono HB1.out.size))
  have c0 := (hb3.cell (p := ⟨w.heap.size, 0, none⟩) (by show w.heap.size < _; omega)).trans c0
  have c1 := (hb3.cell (p := ⟨w.heap.size, 1, none⟩) (by show w.heap.size < _; omega)).trans c1
  have hsz3 := hb3.size
  clear hb3
  go_wp2_with fail
  refine (HP false _ HB3.out).out.mono ?_
  rintro e w4 ⟨H1, rfl, hby1, _, hH1, hb4⟩
  have HB4 := Lib.hid (HB3.out.trans (hb4.mono HB3.out.size))
  have c0 := (hb4.cell (p := ⟨w.heap.size, 0, none⟩) (by show w.heap.size < _; omega)).trans c0
  have hsz4 := hb4.size
  have HY1 := Lib.hid hby1
  clear hb4 hby1 c1
  go_wp2_with fail
  refine (HP true _ HB4.out).out.mono ?_
  rintro e w5 ⟨H2, rfl, hby2, _, hH2, hb5⟩
  have HB5 := Lib.hid (HB4.out.trans (hb5.mono HB4.out.size))
  have c0 := (hb5.cell (p := ⟨w.heap.size, 0, none⟩) (by show w.heap.size < _; omega)).trans c0
  have hsz5 := hb5.size
  have HY1 := Lib.hid (HY1.out.below hb5)
  have HY2 := Lib.hid hby2
  clear hb5 hby2
  go_wp2
  go_loopg [11, 64] m (fun gk q i wr => ∃ k d : Nat, k ≤ m ∧ gk + k = m ∧ i = .int .i64 k ∧ Hid (wr = w5.drewN d))
  case atStart => exact ⟨0, 0, Nat.zero_le _, by omega, rfl, rfl⟩
  case round =>
    obtain ⟨k, d, hk, hgk, rfl, HW⟩ := hrel
    have HGK := Lib.hid hgk
    clear hgk
    by_cases hlt : k < m
    · obtain ⟨b1, o1, e4, _, hc1⟩ := HY1.out k (by rw [(HPL _).out]; exact hlt)
      cases e4
      have HJ := Lib.hid ((HPT k hlt).out)
      have hjm := (HTL k hlt).out
      obtain ⟨j, hj⟩ : ∃ j, j = k / z * z + z - 1 - k % z := ⟨_, rfl⟩
      rw [← hj] at HJ hjm
      obtain ⟨b2, o2, e5, _, hc2⟩ := HY2.out j (by rw [(HPL _).out]; exact hjm)
      cases e5
      rw [Nat.zero_add] at hc1 hc2
      rw [HJ.out] at hc1
      generalize (packF z true rows m).getD j 0 = bb at hc1 hc2
      have y1 : wr.cell? ⟨H1, k, none⟩ = some (.int .u8 (bb : Int)) := by rw [HW.out]; exact hc1
      have y2 : wr.cell? ⟨H2, j, none⟩ = some (.int .u8 (bb : Int)) := by rw [HW.out]; exact hc2
      obtain ⟨qk, hqk⟩ : ∃ qk, qk = k / z := ⟨_, rfl⟩
      obtain ⟨rk, hrk⟩ : ∃ rk, rk = k % z := ⟨_, rfl⟩
      obtain ⟨pk, hpk⟩ : ∃ pk, pk = qk * z := ⟨_, rfl⟩
      have hrz : rk < z := by rw [hrk]; exact Nat.mod_lt _ (by omega)
      have hpm : pk ≤ k := by rw [hpk, hqk]; exact Nat.div_mul_le_self k z
      have g1 : (k : Int) / (z : Int) = (qk : Int) := by rw [hqk, Int.natCast_ediv]
      have g2 : (qk : Int) * (z : Int) = (pk : Int) := by rw [hpk, Int.natCast_mul]
      have g3 : (k : Int) % (z : Int) = (rk : Int) := by rw [hrk, Int.natCast_emod]
      have g4 : (pk : Int) + (z : Int) - 1 - (rk : Int) = (j : Int) := by rw [← hqk, ← hpk, ← hrk] at hj; omega
      have hqm : qk ≤ k := by rw [hqk]; exact Nat.div_le_self _ _
      have w1 : IntKind.i64.wrap ((pk : Int) + (z : Int) - 1 - (rk : Int)) = (j : Int) := by rw [g4]; exact IntWalk.i64_in _ ⟨by omega, by omega⟩
      have t1 : ((bb : Int) != (bb : Int)) = false := by simp
      clear hc1 hc2 HJ hj hqk hrk hpk
      go_wp2
      go_quiet (fail)
      go_wp2
      go_roundg (gk - 1)
      case rel => exact ⟨k + 1, _, by omega, by have := HGK.out; omega, by go_num, by show _ = _; rw [HW.out]; exact World.drewN_drewN _ _ _⟩
      case measure => have := HGK.out; omega
    · obtain rfl : k = m := by omega
      have HBR : Hid (Below w.heap.size w wr) := by rw [HW.out]; exact below_drewN HB5.out d
      have hbr : b < wr.heap.size := Nat.lt_of_lt_of_le hbw HBR.out.size
      have kb := cellA (.cells #[.int .i64 (k : Int)] 3) ((HBR.out.cell (p := ⟨b, off, none⟩) hbw).trans hcell0)
      obtain ⟨h1, h2, _⟩ := alloc2h wr (.cells #[.int .i64 (k : Int)] 3) (.cells #[.int .i64 (k : Int)] 3)
      have HSM := Lib.hid (refSame (some ⟨wr.heap.size, 0, none⟩) (some ⟨wr.heap.size + 1, 0, none⟩) 1 1 [(k : Int)] [(k : Int)] ((wr.alloc (.cells #[.int .i64 (k : Int)] 3)).alloc (.cells #[.int .i64 (k : Int)] 3)) (by simp) (ints_lit _ _ _ _ h1) (ints_lit _ _ _ _ h2))
      rw [show decide ([(k : Int)] = [(k : Int)]) = true from decide_eq_true rfl] at HSM
      have HB6 := Lib.hid (HBR.out.trans ((below2 wr (.cells #[.int .i64 (k : Int)] 3) (.cells #[.int .i64 (k : Int)] 3)).mono HBR.out.size))
      clear h1 h2
      go_wp2_with fail
      refine HSM.out.mono ?_
      rintro e w7 ⟨rfl, kd, rfl⟩
      go_wp2
      go_ret
      exact ⟨rfl, below_drewN HB6.out kd⟩

theorem packTurns (a0 : Int) (ao : Option Addr) (cap : Nat) (rows : List (List Int)) (w : World) (h0 : (Lit.int .u8 a0).wf = true) (hw : RowsAt w ao rows ∧ rows.length ≤ 9223372036854775807) :
    Calls Try.prog 7 #[.int .u8 a0, .slice ao rows.length cap] w fun e w' => e = .returned (.bool true) ∧ Below w.heap.size w w' := by
  have hn : 0 ≤ a0 ∧ a0 ≤ 255 := by simpa [Lit.wf, IntKind.min, IntKind.max, IntKind.signed, IntKind.bits] using h0
  obtain ⟨n, rfl⟩ := Int.eq_ofNat_of_zero_le hn.1
  have hn2 : n ≤ 255 := by omega
  cases hf : fewB rows
  · exact turns_out n ao cap rows w hn2 hw.2 hw.1 (.inl hf)
  by_cases hc : code ((8 * (1 + n % 3) : Nat) : Int) rows = 0
  · exact turns_ok n (1 + n % 3) ao cap rows w hn2 rfl hf hw.1 hc
  · exact turns_out n ao cap rows w hn2 hw.2 hw.1 (.inr ⟨hf, hc⟩)
end Go.Proofs.Ytpbbhebongggpaa
