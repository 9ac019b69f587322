import Derived.Test.YtpbbhebongggpaaPackL1
namespace Go.Proofs.Ytpbbhebongggpaa
open Go.RowKit Go.Proofs Go.Proofs.PipeM Go.Proofs.PipeA Go.Proofs.PackM
set_option maxRecDepth 100000

theorem unp_head (z : Nat) (g : Bool) (ch s : Nat) (zs : List Nat) (hc : 1 ≤ ch) : ((unpF z g ch s zs).headD []).length = s := by
  have h0 : 0 < (unpF z g ch s zs).length := by rw [unpF_length]; exact hc
  rw [head_get h0]
  exact unpF_mem z g ch s zs _ (List.getElem_mem _)
theorem unp_code (z : Nat) (g : Bool) (ch s : Nat) (zs : List Nat) (hz : z = 1 ∨ z = 2 ∨ z = 3) (hc : 1 ≤ ch) (hc8 : ch ≤ 8) (hb : ∀ b ∈ zs, b < 256) : code ((8 * z : Nat) : Int) (unpF z g ch s zs) = 0 := by
  refine code_of (decide_eq_true (by omega)) (by rw [unpF_length]; exact hc) (by rw [unpF_length]; exact hc8) (fun r hr => ?_) (unpF_has z g ch s zs hz hb)
  rw [unpF_mem z g ch s zs r hr, unp_head z g ch s zs hc]

set_option maxHeartbeats 800000 in
theorem unpacks_long (ao : Option Addr) (cap n : Nat) (B ch : Int) (g : Bool) (w : World) (h : 600 < n) (hn : n ≤ 9223372036854775807) :
    Calls Try.prog 4 #[.agg #[.int .i64 B, .bool g], .int .i64 ch, .slice ao n cap] w fun e w' => e = .returned (.bool true) ∧ Below w.heap.size w w' := by
  have HB := fun o => Lib.hid (box_below w o)
  have HA := fun W => Lib.hid (awake W)
  have t : decide (600 < (n : Int)) = true := decide_eq_true (by omega)
  go_enter Try.func4, Try.ntmps4
  go_wp2_with fail
  refine (HA _).out.mono ?_
  rintro e w1 ⟨rfl, hb1⟩
  have HB1 := Lib.hid ((HB _).out.trans (hb1.mono (HB _).out.size))
  clear hb1
  go_wp2_with fail
  refine (HA _).out.mono ?_
  rintro e w2 ⟨rfl, hb2⟩
  have HB2 := Lib.hid (HB1.out.trans (hb2.mono HB1.out.size))
  clear hb2
  go_wp2
  go_ret
  exact ⟨rfl, HB2.out⟩

/-- Where something is wrong: what Unpack answers, and what the law asks then. -/
theorem unpacks_wrong (ao : Option Addr) (cap n : Nat) (B ch : Int) (g : Bool) (w : World) (h : n ≤ 600) (cd : Int)
    (HU : ∀ W, Calls Try.prog 15 #[.agg #[.int .i64 B, .bool g], .int .i64 ch, .slice ao n cap] W fun e w' => e = .returned (.tuple #[.slice none 0 0, .int .i64 cd]) ∧ Below W.heap.size W w')
    (hcd : (good B = false ∧ cd = 7) ∨ (good B = true ∧ decide (ch < 1) = true ∧ cd = 8) ∨ (good B = true ∧ decide (ch < 1) = false ∧ decide (8 < ch) = true ∧ cd = 8) ∨
      (good B = true ∧ decide (ch < 1) = false ∧ decide (8 < ch) = false ∧ (∃ p r x : Nat, ch * B = (p : Int) ∧ p ≤ 1000 ∧ (p : Int) / 8 = (r : Int) ∧ 1 ≤ r ∧ (n : Int) % (r : Int) = (x : Int) ∧ 1 ≤ x) ∧ cd = 3)) :
    Calls Try.prog 4 #[.agg #[.int .i64 B, .bool g], .int .i64 ch, .slice ao n cap] w fun e w' => e = .returned (.bool true) ∧ Below w.heap.size w w' := by
  have HB := fun o => Lib.hid (box_below w o)
  have HA := fun W => Lib.hid (awake W)
  have HUU := fun W => Lib.hid (HU W)
  have HRG := fun W => Lib.hid (rGood B g W)
  have t : decide (600 < (n : Int)) = false := decide_eq_false (by omega)
  clear HU
  rcases hcd with ⟨hg, rfl⟩ | ⟨hg, t1, rfl⟩ | ⟨hg, t1, t2, rfl⟩ | ⟨hg, t1, t2, ⟨p, r, x, hp, hp1, hr, hr1, hx, hx1⟩, rfl⟩
  all_goals
    rw [hg] at HRG
    clear hg
  · go_enter Try.func4, Try.ntmps4
    go_wp2_with fail
    refine (HA _).out.mono ?_
    rintro e w1 ⟨rfl, hb1⟩
    have c0 : w1.cell? ⟨w.heap.size, 0, none⟩ = some (.int .i64 B) := (hb1.cell (p := ⟨w.heap.size, 0, none⟩) (by simp)).trans (by simp)
    have c1 : w1.cell? ⟨w.heap.size, 1, none⟩ = some (.bool g) := (hb1.cell (p := ⟨w.heap.size, 1, none⟩) (by simp)).trans (by simp)
    have hsz : w.heap.size + 1 ≤ w1.heap.size := by have := hb1.size; simpa using this
    have HB1 := Lib.hid ((HB _).out.trans (hb1.mono (HB _).out.size))
    clear hb1
    go_wp2_with fail
    refine (HUU _).out.mono ?_
    rintro e w2 ⟨rfl, hb2⟩
    have c0 := (hb2.cell (p := ⟨w.heap.size, 0, none⟩) (by show w.heap.size < _; omega)).trans c0
    have c1 := (hb2.cell (p := ⟨w.heap.size, 1, none⟩) (by show w.heap.size < _; omega)).trans c1
    have HB2 := Lib.hid (HB1.out.trans (hb2.mono HB1.out.size))
    clear hb2
    go_wp2_with fail
    refine (HRG _).out.mono ?_
    rintro e w3 ⟨rfl, hb3⟩
    have HB3 := Lib.hid (HB2.out.trans (hb3.mono HB2.out.size))
    clear hb3
    go_wp2
    go_ret
    exact ⟨rfl, HB3.out⟩
  · go_enter Try.func4, Try.ntmps4
    go_wp2_with fail
    refine (HA _).out.mono ?_
    rintro e w1 ⟨rfl, hb1⟩
    have c0 : w1.cell? ⟨w.heap.size, 0, none⟩ = some (.int .i64 B) := (hb1.cell (p := ⟨w.heap.size, 0, none⟩) (by simp)).trans (by simp)
    have c1 : w1.cell? ⟨w.heap.size, 1, none⟩ = some (.bool g) := (hb1.cell (p := ⟨w.heap.size, 1, none⟩) (by simp)).trans (by simp)
    have hsz : w.heap.size + 1 ≤ w1.heap.size := by have := hb1.size; simpa using this
    have HB1 := Lib.hid ((HB _).out.trans (hb1.mono (HB _).out.size))
    clear hb1
    go_wp2_with fail
    refine (HUU _).out.mono ?_
    rintro e w2 ⟨rfl, hb2⟩
    have c0 := (hb2.cell (p := ⟨w.heap.size, 0, none⟩) (by show w.heap.size < _; omega)).trans c0
    have c1 := (hb2.cell (p := ⟨w.heap.size, 1, none⟩) (by show w.heap.size < _; omega)).trans c1
    have HB2 := Lib.hid (HB1.out.trans (hb2.mono HB1.out.size))
    clear hb2
    go_wp2_with fail
    refine (HRG _).out.mono ?_
    rintro e w3 ⟨rfl, hb3⟩
    have HB3 := Lib.hid (HB2.out.trans (hb3.mono HB2.out.size))
    clear hb3
    go_wp2
    go_ret
    exact ⟨rfl, HB3.out⟩
  · go_enter Try.func4, Try.ntmps4
    go_wp2_with fail
    refine (HA _).out.mono ?_
    rintro e w1 ⟨rfl, hb1⟩
    have c0 : w1.cell? ⟨w.heap.size, 0, none⟩ = some (.int .i64 B) := (hb1.cell (p := ⟨w.heap.size, 0, none⟩) (by simp)).trans (by simp)
    have c1 : w1.cell? ⟨w.heap.size, 1, none⟩ = some (.bool g) := (hb1.cell (p := ⟨w.heap.size, 1, none⟩) (by simp)).trans (by simp)
    have hsz : w.heap.size + 1 ≤ w1.heap.size := by have := hb1.size; simpa using this
    have HB1 := Lib.hid ((HB _).out.trans (hb1.mono (HB _).out.size))
    clear hb1
    go_wp2_with fail
    refine (HUU _).out.mono ?_
    rintro e w2 ⟨rfl, hb2⟩
    have c0 := (hb2.cell (p := ⟨w.heap.size, 0, none⟩) (by show w.heap.size < _; omega)).trans c0
    have c1 := (hb2.cell (p := ⟨w.heap.size, 1, none⟩) (by show w.heap.size < _; omega)).trans c1
    have HB2 := Lib.hid (HB1.out.trans (hb2.mono HB1.out.size))
    clear hb2
    go_wp2_with fail
    refine (HRG _).out.mono ?_
    rintro e w3 ⟨rfl, hb3⟩
    have HB3 := Lib.hid (HB2.out.trans (hb3.mono HB2.out.size))
    clear hb3
    go_wp2
    go_ret
    exact ⟨rfl, HB3.out⟩
  · have t3 : ((x : Int) != 0) = true := by rw [bne_iff_ne]; omega
    go_enter Try.func4, Try.ntmps4
    go_wp2_with fail
    refine (HA _).out.mono ?_
    rintro e w1 ⟨rfl, hb1⟩
    have c0 : w1.cell? ⟨w.heap.size, 0, none⟩ = some (.int .i64 B) := (hb1.cell (p := ⟨w.heap.size, 0, none⟩) (by simp)).trans (by simp)
    have c1 : w1.cell? ⟨w.heap.size, 1, none⟩ = some (.bool g) := (hb1.cell (p := ⟨w.heap.size, 1, none⟩) (by simp)).trans (by simp)
    have hsz : w.heap.size + 1 ≤ w1.heap.size := by have := hb1.size; simpa using this
    have HB1 := Lib.hid ((HB _).out.trans (hb1.mono (HB _).out.size))
    clear hb1
    go_wp2_with fail
    refine (HUU _).out.mono ?_
    rintro e w2 ⟨rfl, hb2⟩
    have c0 := (hb2.cell (p := ⟨w.heap.size, 0, none⟩) (by show w.heap.size < _; omega)).trans c0
    have c1 := (hb2.cell (p := ⟨w.heap.size, 1, none⟩) (by show w.heap.size < _; omega)).trans c1
    have HB2 := Lib.hid (HB1.out.trans (hb2.mono HB1.out.size))
    have hsz2 := hb2.size
    clear hb2
    go_wp2_with fail
    refine (HRG _).out.mono ?_
    rintro e w3 ⟨rfl, hb3⟩
    have c0 := (hb3.cell (p := ⟨w.heap.size, 0, none⟩) (by show w.heap.size < _; omega)).trans c0
    have HB3 := Lib.hid (HB2.out.trans (hb3.mono HB2.out.size))
    clear hb3
    go_wp2
    go_ret
    exact ⟨rfl, HB3.out⟩

set_option maxHeartbeats 1600000 in
theorem unpacks_ok (ao : Option Addr) (cap : Nat) (zs : List Nat) (z ch s : Nat) (g : Bool) (w : World) (h : zs.length ≤ 600) (hz : z = 1 ∨ z = 2 ∨ z = 3) (hc1 : 1 ≤ ch) (hc8 : ch ≤ 8) (hb : ∀ b ∈ zs, b < 256) (hl : zs.length = s * ch * z) (hi : BytesAt w ao zs) :
    Calls Try.prog 4 #[.agg #[.int .i64 ((8 * z : Nat) : Int), .bool g], .int .i64 (ch : Int), .slice ao zs.length cap] w fun e w' => e = .returned (.bool true) ∧ Below w.heap.size w w' := by
  have HB := fun o => Lib.hid (box_below w o)
  have HA := fun W => Lib.hid (awake W)
  have HU := fun W (hb' : Below w.heap.size w W) => Lib.hid (cUnpack_ok ao cap zs z ch s g W hz hc1 hc8 hb hl (by omega) (hi.below hb'))
  have HRG := fun W => Lib.hid (rGood ((8 * z : Nat) : Int) g W)
  rw [show good ((8 * z : Nat) : Int) = true from decide_eq_true (by omega)] at HRG
  have hr1 : 1 ≤ ch * z := Nat.mul_pos hc1 (by omega)
  have hs600 : s ≤ 600 := by
    have h1 : s * 1 ≤ s * (ch * z) := Nat.mul_le_mul_left s hr1
    rw [← Nat.mul_assoc] at h1
    omega
  have hlr : zs.length = s * (ch * z) := by rw [hl, Nat.mul_assoc]
  have HP := fun O W (hr : RowsAt W (some ⟨O, 0, none⟩) (unpF z g ch s zs)) => Lib.hid (cPack_ok (some ⟨O, 0, none⟩) ch (unpF z g ch s zs) z g W hz ⟨by rw [unpF_length]; omega, fun r hr => by rw [unpF_mem z g ch s zs r hr]; omega⟩ hr (unp_code z g ch s zs hz hc1 hc8 hb))
  have e1 : len0 (unpF z g ch s zs) = s := unp_head z g ch s zs hc1
  rw [e1, unpF_length, ← hl] at HP
  have HPU : Hid (packF z g (unpF z g ch s zs) zs.length = zs) := by show _ = _; rw [hl]; exact pack_unp z g ch s zs hz hb hc1 hl
  obtain ⟨r, hr⟩ : ∃ r, r = ch * z := ⟨_, rfl⟩
  rw [← hr] at hr1 hlr
  have hr24 : r ≤ 24 := by rw [hr]; exact Nat.le_trans (Nat.mul_le_mul hc8 (show z ≤ 3 by omega)) (by decide)
  obtain ⟨zb, hzb⟩ : ∃ zb, zb = 8 * z := ⟨_, rfl⟩
  have hp1 : (ch : Int) * (zb : Int) = ((8 * r : Nat) : Int) := by rw [hzb, hr, ← Int.natCast_mul, ← Nat.mul_assoc, Nat.mul_comm ch 8, Nat.mul_assoc]
  have hp2 : ((8 * r : Nat) : Int) / 8 = (r : Int) := by omega
  obtain ⟨p, hp⟩ : ∃ p, p = 8 * r := ⟨_, rfl⟩
  rw [← hp] at hp1 hp2
  have hpb : p ≤ 1000 := by omega
  obtain ⟨n, hn⟩ : ∃ n, n = zs.length := ⟨_, rfl⟩
  rw [← hn] at h hlr HU HP HPU ⊢
  have hx : (n : Int) % (r : Int) = 0 := by rw [hlr, Int.natCast_mul]; exact Int.mul_emod_left _ _
  rw [← hzb] at HU HRG HP ⊢
  have t : decide (600 < (n : Int)) = false := decide_eq_false (by omega)
  have HI := Lib.hid hi
  have HN := Lib.hid hn
  clear e1 hl hi hb hz hr hzb hp hlr hn
  go_enter Try.func4, Try.ntmps4
  go_wp2_with fail
  refine (HA _).out.mono ?_
  rintro e w1 ⟨rfl, hb1⟩
  have c0 : w1.cell? ⟨w.heap.size, 0, none⟩ = some (.int .i64 (zb : Int)) := (hb1.cell (p := ⟨w.heap.size, 0, none⟩) (by simp)).trans (by simp)
  have c1 : w1.cell? ⟨w.heap.size, 1, none⟩ = some (.bool g) := (hb1.cell (p := ⟨w.heap.size, 1, none⟩) (by simp)).trans (by simp)
  have hsz : w.heap.size + 1 ≤ w1.heap.size := by have := hb1.size; simpa using this
  have HB1 := Lib.hid ((HB _).out.trans (hb1.mono (HB _).out.size))
  clear hb1
  go_wp2_with fail
  refine (HU _ HB1.out).out.mono ?_
  rintro e w2 ⟨O, rfl, hrows, hO, hb2⟩
  have c0 := (hb2.cell (p := ⟨w.heap.size, 0, none⟩) (by show w.heap.size < _; omega)).trans c0
  have c1 := (hb2.cell (p := ⟨w.heap.size, 1, none⟩) (by show w.heap.size < _; omega)).trans c1
  have HB2 := Lib.hid (HB1.out.trans (hb2.mono HB1.out.size))
  have hsz2 := hb2.size
  have HRO := Lib.hid hrows
  clear hb2 hrows
  go_wp2_with fail
  refine (HRG _).out.mono ?_
  rintro e w3 ⟨rfl, hb3⟩
  have c0 := (hb3.cell (p := ⟨w.heap.size, 0, none⟩) (by show w.heap.size < _; omega)).trans c0
  have c1 := (hb3.cell (p := ⟨w.heap.size, 1, none⟩) (by show w.heap.size < _; omega)).trans c1
  have HB3 := Lib.hid (HB2.out.trans (hb3.mono HB2.out.size))
  have HRO3 := Lib.hid (HRO.out.below hb3)
  clear hb3 HRO
  go_wp2_with fail
  refine (HP O _ HRO3.out).out.mono ?_
  rintro e w4 ⟨H, rfl, hby, _, _, hb4⟩
  rw [HPU.out] at hby
  have HB4 := Lib.hid (HB3.out.trans (hb4.mono HB3.out.size))
  have hcv := conv_bytes (cap := n) hby
  have hcv2 := conv_bytes (cap := cap) (HI.out.below HB4.out)
  rw [← HN.out] at hcv hcv2
  generalize bstr zs = st at hcv hcv2
  clear hb4 hby
  go_wp2
  go_ret
  exact ⟨rfl, HB4.out⟩

theorem packUnpacks (B : Int) (g : Bool) (ch : Int) (ao : Option Addr) (cap : Nat) (zs : List Nat) (w : World) (hw : (∀ z ∈ zs, z < 256) ∧ BytesAt w ao zs ∧ zs.length ≤ 9223372036854775807) :
    Calls Try.prog 4 #[.agg #[.int .i64 B, .bool g], .int .i64 ch, .slice ao zs.length cap] w fun e w' => e = .returned (.bool true) ∧ Below w.heap.size w w' := by
  obtain ⟨hb, hi, hl⟩ := hw
  by_cases h6 : 600 < zs.length
  · exact unpacks_long ao cap zs.length B ch g w h6 hl
  cases hg : good B
  · exact unpacks_wrong ao cap zs.length B ch g w (by omega) 7 (fun W => cUnpack_bad ao cap zs.length B ch g W hg) (.inl ⟨hg, rfl⟩)
  by_cases h1 : ch < 1
  · exact unpacks_wrong ao cap zs.length B ch g w (by omega) 8 (fun W => cUnpack_count ao cap zs.length B ch g W hg (by omega)) (.inr (.inl ⟨hg, decide_eq_true h1, rfl⟩))
  by_cases h8 : 8 < ch
  · exact unpacks_wrong ao cap zs.length B ch g w (by omega) 8 (fun W => cUnpack_count ao cap zs.length B ch g W hg (by omega)) (.inr (.inr (.inl ⟨hg, decide_eq_false h1, decide_eq_true h8, rfl⟩)))
  obtain ⟨z, rfl, hz⟩ := good_cases hg
  obtain ⟨c, rfl⟩ := Int.eq_ofNat_of_zero_le (show 0 ≤ ch by omega)
  have hc1 : 1 ≤ c := by omega
  have hc8 : c ≤ 8 := by omega
  have hr1 : 1 ≤ c * z := Nat.mul_pos hc1 (by omega)
  have hr24 : c * z ≤ 24 := Nat.le_trans (Nat.mul_le_mul hc8 (show z ≤ 3 by omega)) (by decide)
  by_cases hm : zs.length % (c * z) = 0
  · obtain ⟨s, hs⟩ := Nat.dvd_of_mod_eq_zero hm
    exact unpacks_ok ao cap zs z c s g w (by omega) hz hc1 hc8 hb (by rw [hs, Nat.mul_comm, Nat.mul_assoc]) hi
  · refine unpacks_wrong ao cap zs.length ((8 * z : Nat) : Int) c g w (by omega) 3 (fun W => cUnpack_end ao cap zs.length z c g W hz hc1 hc8 (by omega) hm) (.inr (.inr (.inr ⟨hg, decide_eq_false h1, decide_eq_false h8, ⟨8 * (c * z), c * z, zs.length % (c * z), ?_, by omega, by omega, hr1, by rw [Int.natCast_emod], by omega⟩, rfl⟩)))
    rw [← Int.natCast_mul, ← Nat.mul_assoc, Nat.mul_comm c 8, Nat.mul_assoc]
end Go.Proofs.Ytpbbhebongggpaa
