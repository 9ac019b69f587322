import Derived.Test.YtpbbhebongggpaaPackL2
namespace Go.Proofs.Ytpbbhebongggpaa
open Go.RowKit Go.Proofs Go.Proofs.PipeM Go.Proofs.PipeA Go.Proofs.PackM
set_option maxRecDepth 100000

set_option maxHeartbeats 800000 in
theorem packs_many (ao : Option Addr) (cap : Nat) (rows : List (List Int)) (B : Int) (g : Bool) (w : World) (hf : fewB rows = false) (hl : rows.length ≤ 9223372036854775807) (hi : RowsAt w ao rows) :
    Calls Try.prog 3 #[.agg #[.int .i64 B, .bool g], .slice ao rows.length cap] w fun e w' => e = .returned (.bool true) ∧ Below w.heap.size w w' := by
  have HB := fun o => Lib.hid (box_below w o)
  have HA := fun W => Lib.hid (awake W)
  have HF := fun W (hb : Below w.heap.size w W) => Lib.hid (cFew ao cap rows W hl (hi.below hb))
  rw [hf] at HF
  clear hf hi
  go_enter Try.func3, Try.ntmps3
  go_wp2_with fail
  refine (HA _).out.mono ?_
  rintro e w1 ⟨rfl, hb1⟩
  have HB1 := Lib.hid ((HB _).out.trans (hb1.mono (HB _).out.size))
  clear hb1
  go_wp2_with fail
  refine (HF _ HB1.out).out.mono ?_
  rintro e w2 ⟨rfl, rfl⟩
  go_wp2_with fail
  refine (HA _).out.mono ?_
  rintro e w3 ⟨rfl, hb3⟩
  have HB3 := Lib.hid (HB1.out.trans (hb3.mono HB1.out.size))
  clear hb3
  go_wp2
  go_ret
  exact ⟨rfl, HB3.out⟩

set_option maxHeartbeats 1600000 in
theorem packs_no (ao : Option Addr) (cap : Nat) (rows : List (List Int)) (B : Int) (g : Bool) (w : World) (hf : fewB rows = true) (hi : RowsAt w ao rows) (hcd : code B rows ≠ 0) :
    Calls Try.prog 3 #[.agg #[.int .i64 B, .bool g], .slice ao rows.length cap] w fun e w' => e = .returned (.bool true) ∧ Below w.heap.size w w' := by
  have hsm := few_small hf
  have hS : Small rows := ⟨hsm.1, fun r hr => by have := hsm.2 r hr; omega⟩
  have HB := fun o => Lib.hid (box_below w o)
  have HA := fun W => Lib.hid (awake W)
  have HF := fun W (hb : Below w.heap.size w W) => Lib.hid (cFew ao cap rows W (by omega) (hi.below hb))
  rw [hf] at HF
  have HO := fun W (hb : Below w.heap.size w W) => Lib.hid (cOwn ao cap rows W hS (hi.below hb))
  have HRC := fun W (hb : Below w.heap.size w W) => Lib.hid (rCheck ao cap rows B g W hS (hi.below hb))
  have HPN := fun mo mcap W (hm : RowsAt W mo rows) => Lib.hid (cPack_no mo mcap rows B g W hS hm hcd)
  have HCC := fun mo mcap W (hm : RowsAt W mo rows) => Lib.hid (cCheck mo mcap rows B g W hS hm)
  have HSM := fun mo mcap W (hm : RowsAt W mo rows) (hb : Below w.heap.size w W) => Lib.hid (rSame mo ao mcap cap rows rows W (by omega) (fun r hr => by have := hsm.2 r hr; omega) hm (hi.below hb))
  rw [show decide (rows = rows) = true from decide_eq_true rfl] at HSM
  have t1 : (code B rows != code B rows) = false := by simp
  have t2 : (code B rows != 0) = true := by rw [bne_iff_ne]; exact hcd
  clear hf hi hcd hsm hS
  generalize code B rows = cd at HRC HPN HCC t1 t2
  go_enter Try.func3, Try.ntmps3
  go_wp2_with fail
  refine (HA _).out.mono ?_
  rintro e w1 ⟨rfl, hb1⟩
  have HB1 := Lib.hid ((HB _).out.trans (hb1.mono (HB _).out.size))
  have c0 : w1.cell? ⟨w.heap.size, 0, none⟩ = some (.int .i64 B) := (hb1.cell (p := ⟨w.heap.size, 0, none⟩) (by simp)).trans (by simp)
  have c1 : w1.cell? ⟨w.heap.size, 1, none⟩ = some (.bool g) := (hb1.cell (p := ⟨w.heap.size, 1, none⟩) (by simp)).trans (by simp)
  have hsz : w.heap.size + 1 ≤ w1.heap.size := by have := hb1.size; simpa using this
  clear hb1
  go_wp2_with fail
  refine (HF _ HB1.out).out.mono ?_
  rintro e w1' ⟨rfl, rfl⟩
  go_wp2_with fail
  refine (HO _ HB1.out).out.mono ?_
  rintro e w2 ⟨mo, mcap, rfl, hmo, hb2⟩
  have HB2 := Lib.hid (HB1.out.trans (hb2.mono HB1.out.size))
  have c0 := (hb2.cell (p := ⟨w.heap.size, 0, none⟩) (by show w.heap.size < _; omega)).trans c0
  have c1 := (hb2.cell (p := ⟨w.heap.size, 1, none⟩) (by show w.heap.size < _; omega)).trans c1
  have hsz2 := hb2.size
  have HM2 := Lib.hid hmo
  clear hb2 hmo
  go_wp2_with fail
  refine (HRC _ HB2.out).out.mono ?_
  rintro e w3 ⟨rfl, hb3⟩
  have HB3 := Lib.hid (HB2.out.trans (hb3.mono HB2.out.size))
  have c0 := (hb3.cell (p := ⟨w.heap.size, 0, none⟩) (by show w.heap.size < _; omega)).trans c0
  have c1 := (hb3.cell (p := ⟨w.heap.size, 1, none⟩) (by show w.heap.size < _; omega)).trans c1
  have hsz3 := hb3.size
  have HM3 := Lib.hid (HM2.out.below hb3)
  clear hb3 HM2
  go_wp2_with fail
  refine (HPN mo mcap _ HM3.out).out.mono ?_
  rintro e w4 ⟨rfl, hb4⟩
  have HB4 := Lib.hid (HB3.out.trans (hb4.mono HB3.out.size))
  have c0 := (hb4.cell (p := ⟨w.heap.size, 0, none⟩) (by show w.heap.size < _; omega)).trans c0
  have c1 := (hb4.cell (p := ⟨w.heap.size, 1, none⟩) (by show w.heap.size < _; omega)).trans c1
  have HM4 := Lib.hid (HM3.out.below hb4)
  clear hb4 HM3
  go_wp2_with fail
  refine (HCC mo mcap _ HM4.out).out.mono ?_
  rintro e w5 ⟨rfl, hb5⟩
  have HB5 := Lib.hid (HB4.out.trans (hb5.mono HB4.out.size))
  have HM5 := Lib.hid (HM4.out.below hb5)
  clear hb5 HM4
  go_wp2_with fail
  refine (HSM mo mcap _ HM5.out HB5.out).out.mono ?_
  rintro e w6 ⟨rfl, kd, rfl⟩
  go_wp2
  go_ret
  exact ⟨rfl, below_drewN HB5.out kd⟩

set_option maxHeartbeats 6400000 in
theorem packs_ok (ao : Option Addr) (cap : Nat) (rows : List (List Int)) (z : Nat) (g : Bool) (w : World) (hz : z = 1 ∨ z = 2 ∨ z = 3) (hf : fewB rows = true) (hi : RowsAt w ao rows) (hcd : code ((8 * z : Nat) : Int) rows = 0) :
    Calls Try.prog 3 #[.agg #[.int .i64 ((8 * z : Nat) : Int), .bool g], .slice ao rows.length cap] w fun e w' => e = .returned (.bool true) ∧ Below w.heap.size w w' := by
  have hsm := few_small hf
  have hS : Small rows := ⟨hsm.1, fun r hr => by have := hsm.2 r hr; omega⟩
  obtain ⟨_, hc1, hc8, hlev, hhas⟩ := code_zero hcd
  have HB := fun o => Lib.hid (box_below w o)
  have HA := fun W => Lib.hid (awake W)
  have HF := fun W (hb : Below w.heap.size w W) => Lib.hid (cFew ao cap rows W (by omega) (hi.below hb))
  rw [hf] at HF
  have HO := fun W (hb : Below w.heap.size w W) => Lib.hid (cOwn ao cap rows W hS (hi.below hb))
  have HRC := fun W (hb : Below w.heap.size w W) => Lib.hid (rCheck ao cap rows ((8 * z : Nat) : Int) g W hS (hi.below hb))
  have HPN := fun mo mcap W (hm : RowsAt W mo rows) => Lib.hid (cPack_ok mo mcap rows z g W hz hS hm hcd)
  have HCC := fun mo mcap W (hm : RowsAt W mo rows) => Lib.hid (cCheck mo mcap rows ((8 * z : Nat) : Int) g W hS hm)
  have HSM0 := fun mo mcap W (hm : RowsAt W mo rows) (hb : Below w.heap.size w W) => Lib.hid (rSame mo ao mcap cap rows rows W (by omega) (fun r hr => by have := hsm.2 r hr; omega) hm (hi.below hb))
  rw [show decide (rows = rows) = true from decide_eq_true rfl] at HSM0
  rw [hcd] at HRC HCC
  have hs0 : len0 rows ≤ 200 := by
    unfold len0
    rw [head_get (show 0 < rows.length by omega)]
    exact hsm.2 _ (List.getElem_mem _)
  have hm48 : len0 rows * rows.length * z ≤ 24000 := Nat.le_trans (Nat.mul_le_mul (Nat.mul_le_mul hs0 hc8) (show z ≤ 3 by omega)) (by decide)
  obtain ⟨m, hm⟩ : ∃ m, m = len0 rows * rows.length * z := ⟨_, rfl⟩
  rw [← hm] at HPN hm48
  have HUN := fun bo bcap W (hb : BytesAt W bo (packF z g rows m)) => Lib.hid (cUnpack_ok bo bcap (packF z g rows m) z rows.length (len0 rows) g W hz hc1 hc8 (packF_lt z g rows m) (by rw [packF_length, hm]) (by rw [packF_length]; exact hm48) hb)
  have HUP : Hid (unpF z g rows.length (len0 rows) (packF z g rows m) = rows) := by show _ = _; rw [hm]; exact unp_pack z g (len0 rows) rows hz hlev hhas
  have HPL : Hid ((packF z g rows m).length = m) := packF_length z g rows m
  have HRP0 := fun W (hb : Below w.heap.size w W) => Lib.hid (rPack ao cap rows z g W hz hS (hi.below hb) hcd)
  rw [show (rows.headD []).length * rows.length * z = m from hm.symm] at HRP0
  have hst : ∃ st, bstr (packF z g rows m) = st := ⟨_, rfl⟩
  obtain ⟨st, hst⟩ := hst
  have HST := Lib.hid hst
  rw [HPL.out] at HUN
  obtain ⟨zb, hzb⟩ : ∃ zb, zb = 8 * z := ⟨_, rfl⟩
  rw [← hzb] at HRC HPN HCC HUN HRP0 ⊢
  clear hf hi hcd hsm hS hz hlev hhas hm hst hzb hc1 hc8 hs0
  go_enter Try.func3, Try.ntmps3
  go_wp2_with fail
  refine (HA _).out.mono ?_
  rintro e w1 ⟨rfl, hb1⟩
  have HB1 := Lib.hid ((HB _).out.trans (hb1.mono (HB _).out.size))
  have c0 : w1.cell? ⟨w.heap.size, 0, none⟩ = some (.int .i64 (zb : Int)) := (hb1.cell (p := ⟨w.heap.size, 0, none⟩) (by simp)).trans (by simp)
  have c1 : w1.cell? ⟨w.heap.size, 1, none⟩ = some (.bool g) := (hb1.cell (p := ⟨w.heap.size, 1, none⟩) (by simp)).trans (by simp)
  have hsz : w.heap.size + 1 ≤ w1.heap.size := by have := hb1.size; simpa using this
  clear hb1
  go_wp2_with fail
  refine (HF _ HB1.out).out.mono ?_
  rintro e w1' ⟨rfl, rfl⟩
  go_wp2_with fail
  refine (HO _ HB1.out).out.mono ?_
  rintro e w2 ⟨mo, mcap, rfl, hmo, hb2⟩
  have HB2 := Lib.hid (HB1.out.trans (hb2.mono HB1.out.size))
  have c0 := (hb2.cell (p := ⟨w.heap.size, 0, none⟩) (by show w.heap.size < _; omega)).trans c0
  have c1 := (hb2.cell (p := ⟨w.heap.size, 1, none⟩) (by show w.heap.size < _; omega)).trans c1
  have hsz2 := hb2.size
  have HM2 := Lib.hid hmo
  clear hb2 hmo
  go_wp2_with fail
  refine (HRC _ HB2.out).out.mono ?_
  rintro e w3 ⟨rfl, hb3⟩
  have HB3 := Lib.hid (HB2.out.trans (hb3.mono HB2.out.size))
  have c0 := (hb3.cell (p := ⟨w.heap.size, 0, none⟩) (by show w.heap.size < _; omega)).trans c0
  have c1 := (hb3.cell (p := ⟨w.heap.size, 1, none⟩) (by show w.heap.size < _; omega)).trans c1
  have hsz3 := hb3.size
  have HM3 := Lib.hid (HM2.out.below hb3)
  clear hb3 HM2
  go_wp2_with fail
  refine (HPN mo mcap _ HM3.out).out.mono ?_
  rintro e w4 ⟨H, rfl, hby, _, _, hb4⟩
  have HB4 := Lib.hid (HB3.out.trans (hb4.mono HB3.out.size))
  have c0 := (hb4.cell (p := ⟨w.heap.size, 0, none⟩) (by show w.heap.size < _; omega)).trans c0
  have c1 := (hb4.cell (p := ⟨w.heap.size, 1, none⟩) (by show w.heap.size < _; omega)).trans c1
  have HM4 := Lib.hid (HM3.out.below hb4)
  have hsz4 := hb4.size
  have HBY4 := Lib.hid hby
  clear hb4 HM3 hby
  go_wp2_with fail
  refine (HCC mo mcap _ HM4.out).out.mono ?_
  rintro e w5 ⟨rfl, hb5⟩
  have HB5 := Lib.hid (HB4.out.trans (hb5.mono HB4.out.size))
  have c0 := (hb5.cell (p := ⟨w.heap.size, 0, none⟩) (by show w.heap.size < _; omega)).trans c0
  have c1 := (hb5.cell (p := ⟨w.heap.size, 1, none⟩) (by show w.heap.size < _; omega)).trans c1
  have HM5 := Lib.hid (HM4.out.below hb5)
  have HBY5 := Lib.hid (HBY4.out.below hb5)
  have hsz5 := hb5.size
  clear hb5 HM4 HBY4
  go_wp2_with fail
  refine (HSM0 mo mcap _ HM5.out HB5.out).out.mono ?_
  rintro e w6' ⟨rfl, kd6, hw6⟩
  have HB6 : Hid (Below w.heap.size w w6') := by rw [hw6]; exact below_drewN HB5.out kd6
  have c0 : w6'.cell? ⟨w.heap.size, 0, none⟩ = some (.int .i64 (zb : Int)) := by rw [hw6]; exact c0
  have c1 : w6'.cell? ⟨w.heap.size, 1, none⟩ = some (.bool g) := by rw [hw6]; exact c1
  have HBY6 : Hid (BytesAt w6' (some ⟨H, 0, none⟩) (packF z g rows m)) := by rw [hw6]; exact HBY5.out
  have hsz6 : w5.heap.size ≤ w6'.heap.size := by rw [hw6]; exact Nat.le_refl _
  clear hw6 HBY5 HM5
  go_wp2_with fail
  refine (HUN _ m _ HBY6.out).out.mono ?_
  rintro e w7 ⟨O, rfl, hrows, _, hb7⟩
  rw [HUP.out] at hrows
  have HB7 := Lib.hid (HB6.out.trans (hb7.mono HB6.out.size))
  have c0 := (hb7.cell (p := ⟨w.heap.size, 0, none⟩) (by show w.heap.size < _; omega)).trans c0
  have c1 := (hb7.cell (p := ⟨w.heap.size, 1, none⟩) (by show w.heap.size < _; omega)).trans c1
  have HBY7 := Lib.hid (HBY6.out.below hb7)
  have HRO7 := Lib.hid hrows
  have hsz7 := hb7.size
  have HSK : Hid (∀ W', Below w7.heap.size w7 W' → W'.cell? ⟨w.heap.size, 0, none⟩ = some (.int .i64 (zb : Int)) ∧ W'.cell? ⟨w.heap.size, 1, none⟩ = some (.bool g) ∧ (convert 30 9 (.slice (some ⟨H, 0, none⟩) m m)).run Try.prog W' = .ok (.string st) W') := by
    intro W' hb
    refine ⟨(hb.cell (p := ⟨w.heap.size, 0, none⟩) (by show w.heap.size < _; omega)).trans c0, (hb.cell (p := ⟨w.heap.size, 1, none⟩) (by show w.heap.size < _; omega)).trans c1, ?_⟩
    have := conv_bytes (cap := m) (HBY7.out.below hb)
    rw [HPL.out, HST.out] at this
    exact this
  have HRP := fun W (hb : Below w7.heap.size w7 W) => Lib.hid (HRP0 W (HB7.out.trans (hb.mono HB7.out.size))).out
  have HSM := fun W (hb : Below w7.heap.size w7 W) => Lib.hid (HSM0 (some ⟨O, 0, none⟩) rows.length W (HRO7.out.below hb) (HB7.out.trans (hb.mono HB7.out.size))).out
  have hk7 : Below w7.heap.size w7 w7.drew := (keeps_drew_b w7 []).below (Nat.le_refl _) (by simp)
  clear hb7 hrows c0 c1
  go_wp2_with fail
  refine wp_region_held_drew (S := fun W' => W'.cell? ⟨w.heap.size, 0, none⟩ = some (.int .i64 (zb : Int)) ∧ W'.cell? ⟨w.heap.size, 1, none⟩ = some (.bool g) ∧ (convert 30 9 (.slice (some ⟨H, 0, none⟩) m m)).run Try.prog W' = .ok (.string st) W') (by kernel_rfl) (HSK.out _ hk7) (fun hHeld => ?_)
  refine take_at (i := 0) (d := some 59) (v := ?_) rfl rfl (by kernel_rfl) (by kernel_rfl) (by kernel_rfl) (fun _ _ _ h => h) (Or.inl ⟨by rfl, ?_⟩) hHeld ?_
  rotate_left
  · intro w9 hSw; obtain ⟨s0, s1, s2⟩ := hSw; go_simp; try with_reducible rfl
  simp only [Act.put, List.setIfInBounds_toArray, List.set_cons_zero, List.set_cons_succ]
  refine take_at (i := 1) (d := some 60) (v := ?_) rfl rfl (by kernel_rfl) (by kernel_rfl) (by kernel_rfl) (fun _ _ _ h => h) (Or.inl ⟨by rfl, ?_⟩) hHeld ?_
  rotate_left
  · intro w9 hSw; obtain ⟨s0, s1, s2⟩ := hSw; go_simp; try with_reducible rfl
  simp only [Act.put, List.setIfInBounds_toArray, List.set_cons_zero, List.set_cons_succ]
  refine take_at (i := 2) (d := some 61) (v := ?_) rfl rfl (by kernel_rfl) (by kernel_rfl) (by kernel_rfl) (fun _ _ _ h => h) (Or.inl ⟨by rfl, ?_⟩) hHeld ?_
  rotate_left
  · intro w9 hSw; obtain ⟨s0, s1, s2⟩ := hSw; go_simp; try with_reducible rfl
  simp only [Act.put, List.setIfInBounds_toArray, List.set_cons_zero, List.set_cons_succ]
  refine take_at (i := 3) (d := some 62) (v := ?_) rfl rfl (by kernel_rfl) (by kernel_rfl) (by kernel_rfl) (fun _ _ _ h => h) (Or.inl ⟨by rfl, ?_⟩) hHeld ?_
  rotate_left
  · intro w9 hSw; obtain ⟨s0, s1, s2⟩ := hSw; go_simp; try with_reducible rfl
  simp only [Act.put, List.setIfInBounds_toArray, List.set_cons_zero, List.set_cons_succ]
  refine wpAnyH_ready (rs := [4]) (by kernel_rfl) (by simp) ?_
  refine AllReadyH.cons rfl (fun K hK => ?_) ?_
  · go_simp
    refine (HRP _ hk7).out.mono ?_
    rintro e w8 ⟨v8, rfl, hown8, hb8⟩
    have hk8 := hk7.trans (hb8.mono hk7.size)
    obtain ⟨ao8, cap8, rfl, _⟩ := own_slice hown8
    have hcv8 := conv_bytes (cap := cap8) (bytes_own hown8)
    rw [HPL.out, HST.out] at hcv8
    rw [HPL.out]
    clear hb8 hown8
    refine hK.out _ _ ?_ (fun hHeld => ?_)
    · first | exact HSK.out _ hk9 | exact HSK.out _ hk8 | fail
    clear hK K
    refine wpAnyH_ready (rs := [5]) (by kernel_rfl) (by simp) ?_
    refine AllReadyH.cons rfl (fun K hK => ?_) ?_
    · go_simp
      refine hK.out _ _ ?_ (fun hHeld => ?_)
      · first | exact HSK.out _ hk9 | exact HSK.out _ hk8 | fail
      clear hK K
      refine take_at (i := 6) (d := some 65) (v := ?_) rfl rfl (by kernel_rfl) (by kernel_rfl) (by kernel_rfl) (fun _ _ _ h => h) (Or.inl ⟨by rfl, ?_⟩) hHeld ?_
      rotate_left
      · intro w9 hSw; obtain ⟨s0, s1, s2⟩ := hSw; go_simp; try with_reducible rfl
      simp only [Act.put, List.setIfInBounds_toArray, List.set_cons_zero, List.set_cons_succ]
      refine take_at (i := 7) (d := some 66) (v := ?_) rfl rfl (by kernel_rfl) (by kernel_rfl) (by kernel_rfl) (fun _ _ _ h => h) (Or.inl ⟨by rfl, ?_⟩) hHeld ?_
      rotate_left
      · intro w9 hSw; obtain ⟨s0, s1, s2⟩ := hSw; go_simp; try with_reducible rfl
      simp only [Act.put, List.setIfInBounds_toArray, List.set_cons_zero, List.set_cons_succ]
      refine take_at (i := 8) (d := some 67) (v := ?_) rfl rfl (by kernel_rfl) (by kernel_rfl) (by kernel_rfl) (fun _ _ _ h => h) (Or.inl ⟨by rfl, ?_⟩) hHeld ?_
      rotate_left
      · intro w9 hSw; obtain ⟨s0, s1, s2⟩ := hSw; go_simp; try with_reducible rfl
      simp only [Act.put, List.setIfInBounds_toArray, List.set_cons_zero, List.set_cons_succ]
      refine take_at (i := 9) (d := some 68) (v := ?_) rfl rfl (by kernel_rfl) (by kernel_rfl) (by kernel_rfl) (fun _ _ _ h => h) (Or.inl ⟨by rfl, ?_⟩) hHeld ?_
      rotate_left
      · intro w9 hSw; obtain ⟨s0, s1, s2⟩ := hSw; go_simp; try with_reducible rfl
      simp only [Act.put, List.setIfInBounds_toArray, List.set_cons_zero, List.set_cons_succ]
      refine take_at (i := 10) (d := some 69) (v := ?_) rfl rfl (by kernel_rfl) (by kernel_rfl) (by kernel_rfl) (fun _ _ _ h => h) (Or.inl ⟨by rfl, ?_⟩) hHeld ?_
      rotate_left
      · intro w9 hSw; obtain ⟨s0, s1, s2⟩ := hSw; go_simp; try with_reducible rfl
      simp only [Act.put, List.setIfInBounds_toArray, List.set_cons_zero, List.set_cons_succ]
      refine take_at (i := 11) (d := some 70) (v := ?_) rfl rfl (by kernel_rfl) (by kernel_rfl) (by kernel_rfl) (fun _ _ _ h => h) (Or.inl ⟨by rfl, ?_⟩) hHeld ?_
      rotate_left
      · intro w9 hSw; obtain ⟨s0, s1, s2⟩ := hSw; go_simp; try with_reducible rfl
      simp only [Act.put, List.setIfInBounds_toArray, List.set_cons_zero, List.set_cons_succ]
      refine take_at (i := 12) (d := some 71) (v := ?_) rfl rfl (by kernel_rfl) (by kernel_rfl) (by kernel_rfl) (fun _ _ _ h => h) (Or.inl ⟨by rfl, ?_⟩) hHeld ?_
      rotate_left
      · intro w9 hSw; obtain ⟨s0, s1, s2⟩ := hSw; go_simp; try with_reducible rfl
      simp only [Act.put, List.setIfInBounds_toArray, List.set_cons_zero, List.set_cons_succ]
      refine take_at (i := 13) (d := some 72) (v := ?_) rfl rfl (by kernel_rfl) (by kernel_rfl) (by kernel_rfl) (fun _ _ _ h => h) (Or.inl ⟨by rfl, ?_⟩) hHeld ?_
      rotate_left
      · intro w9 hSw; obtain ⟨s0, s1, s2⟩ := hSw; go_simp; try with_reducible rfl
      simp only [Act.put, List.setIfInBounds_toArray, List.set_cons_zero, List.set_cons_succ]
      refine wpAnyH_ready (rs := [14]) (by kernel_rfl) (by simp) ?_
      refine AllReadyH.cons rfl (fun K hK => ?_) ?_
      · go_simp
        refine (HSM _ hk8).out.mono ?_
        rintro e w9 ⟨rfl, kd, rfl⟩
        have hk9 := below_drewN hk8 kd
        refine hK.out _ _ ?_ (fun hHeld => ?_)
        · first | exact HSK.out _ hk9 | exact HSK.out _ hk8 | fail
        clear hK K
        refine take_at (i := 15) (d := some 74) (v := ?_) rfl rfl (by kernel_rfl) (by kernel_rfl) (by kernel_rfl) (fun _ _ _ h => h) (Or.inl ⟨by rfl, ?_⟩) hHeld ?_
        rotate_left
        · intro w9 hSw; obtain ⟨s0, s1, s2⟩ := hSw; go_simp; try with_reducible rfl
        simp only [Act.put, List.setIfInBounds_toArray, List.set_cons_zero, List.set_cons_succ]
        refine take_at (i := 16) (d := some 4) (v := ?_) rfl rfl (by kernel_rfl) (by kernel_rfl) (by kernel_rfl) (fun _ _ _ h => h) (Or.inl ⟨by rfl, ?_⟩) hHeld ?_
        rotate_left
        · intro w9 hSw; obtain ⟨s0, s1, s2⟩ := hSw; go_simp; try with_reducible rfl
        simp only [Act.put, List.setIfInBounds_toArray, List.set_cons_zero, List.set_cons_succ]
        refine wpAnyH_done (by kernel_rfl) ?_ _
        go_wp2
        go_ret
        exact ⟨rfl, HB7.out.trans (hk9.mono HB7.out.size)⟩
      exact AllReadyH.nil
    exact AllReadyH.nil
  exact AllReadyH.nil

theorem packPacks (B : Int) (g : Bool) (ao : Option Addr) (cap : Nat) (rows : List (List Int)) (w : World) (hw : RowsAt w ao rows ∧ rows.length ≤ 9223372036854775807) :
    Calls Try.prog 3 #[.agg #[.int .i64 B, .bool g], .slice ao rows.length cap] w fun e w' => e = .returned (.bool true) ∧ Below w.heap.size w w' := by
  cases hf : fewB rows
  · exact packs_many ao cap rows B g w hf hw.2 hw.1
  by_cases hc : code B rows = 0
  · obtain ⟨z, rfl, hz⟩ := good_cases (code_zero hc).1
    exact packs_ok ao cap rows z g w hz hf hw.1 hc
  · exact packs_no ao cap rows B g w hf hw.1 hc
end Go.Proofs.Ytpbbhebongggpaa
