import Derived.Test.YtnfpkjnllkkngaaGreatDoorBlkN7

namespace Go.Proofs.YtnfpkjnllkkngaaGreatDoor
open Go.RowKit Go.Proofs Go.Proofs.PipeM Go.Proofs.PipeA Go.Proofs.BlkM Go.Proofs.BlkB Go.Proofs.LatM Go.Proofs.FilM Go.Proofs.LagM
set_option maxRecDepth 100000

set_option maxHeartbeats 1600000 in
/-- Where the law asks nothing. -/
theorem normal_much (lo io : Option Addr) (ll lcap il icap : Nat) (D S A G : Int) (w : World) (h : decide (48 < ll) = true ∨ (decide (48 < ll) = false ∧ decide (24 < il) = true)) :
    Calls Tryz.prog 3 #[.slice lo ll lcap, .agg #[.int .i64 D, .int .i64 S, .int .i64 A, .int .i64 G, .slice io il icap]] w fun e w' => e = .returned (.bool true) ∧ Below w.heap.size w w' := by
  have HB : Hid (∀ o, Below w.heap.size w (w.alloc o)) := fun o => box_below w o
  have HAW := fun W => Lib.hid (awake10 W)
  have K : Hid (∀ (W : World) (o : Array Value), Below (w.heap.size + 1) (w.alloc (.cells o 24)) W → ∀ j v, o[j]? = some v → W.cell? ⟨w.heap.size, j, none⟩ = some v) := fun W o hW j v hj => by
    rw [hW.cell (p := ⟨w.heap.size, j, none⟩) (by simp), cell_of_heap (World.alloc_heap_new w _)]
    exact hj
  rcases h with t1 | ⟨t1, t2⟩
  · have t1i : decide ((48 : Int) < (ll : Int)) = true := decide_eq_true (by have := of_decide_eq_true t1; omega)
    go_enter Tryz.func3, Tryz.ntmps3
    go_wp2_with fail
    refine (HAW _).out.mono ?_
    rintro e w1 ⟨rfl, hb1⟩
    have HB1 : Hid (Below w.heap.size w w1) := (HB.out _).trans (hb1.mono (by simp))
    clear hb1
    go_wp2_with fail
    refine (HAW _).out.mono ?_
    rintro e w3 ⟨rfl, hb3⟩
    have HB3 : Hid (Below w.heap.size w w3) := HB1.out.trans (hb3.mono HB1.out.size)
    clear hb3
    go_wp2
    go_ret
    exact ⟨rfl, HB3.out⟩
  · have t1i : decide ((48 : Int) < (ll : Int)) = false := decide_eq_false (by have := of_decide_eq_false t1; omega)
    have t2i : decide ((24 : Int) < (il : Int)) = true := decide_eq_true (by have := of_decide_eq_true t2; omega)
    go_enter Tryz.func3, Tryz.ntmps3
    go_wp2_with fail
    refine (HAW _).out.mono ?_
    rintro e w1 ⟨rfl, hb1⟩
    have hb' := hb1.mono (show w.heap.size + 1 ≤ _ by simp)
    have k4 := K.out w1 _ hb' 4 (.slice io il icap) rfl
    have HB1 : Hid (Below w.heap.size w w1) := (HB.out _).trans (hb1.mono (by simp))
    clear hb1 hb'
    go_wp2_with fail
    refine (HAW _).out.mono ?_
    rintro e w3 ⟨rfl, hb3⟩
    have HB3 : Hid (Below w.heap.size w w3) := HB1.out.trans (hb3.mono HB1.out.size)
    clear hb3
    go_wp2
    go_ret
    exact ⟨rfl, HB3.out⟩

theorem none_same (W : World) : Calls Tryz.prog 7 #[.agg #[.int .i64 0, .int .i64 0, .int .i64 0, .slice none 0 0, .int .i64 0, .int .i64 0, .int .i64 0, .slice none 0 0, .slice none 0 0], .agg #[.int .i64 0, .int .i64 0, .int .i64 0, .slice none 0 0, .int .i64 0, .int .i64 0, .int .i64 0, .slice none 0 0, .slice none 0 0]] W fun e w' => e = .returned (.bool true) ∧ Below W.heap.size W w' :=
  rSameN ⟨0, 0, 0, [], 0, 0, 0, [], []⟩ none none none none none none 0 0 0 0 0 0 W ⟨Nat.zero_le _, Nat.zero_le _, Nat.zero_le _⟩ (fun j hj => by simp at hj) (fun j hj => by simp at hj) (fun j hj => by simp at hj) (fun j hj => by simp at hj) (fun j hj => by simp at hj) (fun j hj => by simp at hj)

/-- A Normal that was made has numbers of 64 bits, and short lists. -/
theorem norm_wf {l index : List Int} {d a g sh : Int} (h : codeN l d index a g sh = 0) : Wf9 (normN l index a g sh) := by
  obtain ⟨m, s, n, rfl, hm1, hm2, rfl, hs, rfl, hn, hg0, hg1, _⟩ := codeN_zero h
  have hp : bestP (dataN (n : Int) g index s l) ≤ 3 := Nat.le_trans (bestP_le _) (topP_le _)
  have h64 : ∀ x : Int, -1000 ≤ x ∧ x ≤ 1000 → In64 x := fun x hx => by unfold In64; omega
  unfold normN
  rw [Int.toNat_natCast]
  exact ⟨h64 _ (by dsimp only; omega), h64 _ (by dsimp only; omega), h64 _ (by dsimp only; omega), h64 _ (by dsimp only; omega), h64 _ (by dsimp only; omega)⟩

set_option maxHeartbeats 6400000 in
theorem normal_few (lo io : Option Addr) (lcap icap : Nat) (l index : List Int) (D S A G : Int) (w : World) (hl : l.length ≤ 48) (hil : index.length ≤ 24) (hicap : index.length ≤ icap) (hi : IntsAt w lo l) (hj : IntsAt w io index) (ht : TabZ w) :
    Calls Tryz.prog 3 #[.slice lo l.length lcap, .agg #[.int .i64 D, .int .i64 S, .int .i64 A, .int .i64 G, .slice io index.length icap]] w fun e w' => e = .returned (.bool true) ∧ Below w.heap.size w w' := by
  have HAW := fun W => Lib.hid (awake10 W)
  obtain ⟨W0, hW0⟩ : ∃ W0, W0 = w.alloc (.cells #[.int .i64 D, .int .i64 S, .int .i64 A, .int .i64 G, .slice io index.length icap] 24) := ⟨_, rfl⟩
  have hb0 := box_below w (.cells #[.int .i64 D, .int .i64 S, .int .i64 A, .int .i64 G, .slice io index.length icap] 24)
  have hn0 := World.alloc_heap_new w (.cells #[.int .i64 D, .int .i64 S, .int .i64 A, .int .i64 G, .slice io index.length icap] 24)
  rw [← hW0] at hb0 hn0
  have hlt0 : w.heap.size < W0.heap.size := (Array.getElem?_eq_some_iff.1 hn0).1
  have hi0 := hi.below hb0
  have hj0 := hj.below hb0
  have ht0 := ht.below hb0
  have HNM : Hid (∀ W ao cap, Below W0.heap.size W0 W → IntsAt W ao l → Calls Tryz.prog 5 #[.slice ao l.length cap, .int .i64 D, .slice io index.length icap, .agg #[.int .i64 A, .int .i64 G], .int .i64 S] W (NormIs l D index A G S W)) := fun W ao cap hb h => cNormal10 ao io cap icap l index D A G S W (by omega) (by omega) hicap h (hj0.below hb) (ht0.below hb)
  have HRN : Hid (∀ W, Below W0.heap.size W0 W → Calls Tryz.prog 6 #[.slice lo l.length lcap, .int .i64 D, .slice io index.length icap, .int .i64 A, .int .i64 G, .int .i64 S] W (NormR l D index A G S W)) := fun W hb => rNormal10 lo io lcap icap l index D A G S W (by omega) (by omega) hicap (hi0.below hb) (hj0.below hb)
  have HSM : Hid (codeN l D index A G S = 0 → ∀ W ia ra da ic rc dc, BlkIn W (normN l index A G S) ia ra da ic rc dc → Calls Tryz.prog 9 #[blkV (normN l index A G S) ia ra da ic rc dc, .int .i64 l.length, .int .i64 D] W fun e w' => ∃ ao cap, e = .returned (.tuple #[.slice ao l.length cap, .int .i64 0]) ∧ IntsAt w' ao l ∧ Below W.heap.size W w') := fun h0 W ia ra da ic rc dc hB => by
    have hr := normN_right h0
    have := cSamples10 (normN l index A G S) ia ra da ic rc dc (l.length : Int) D W hB (norm_wf h0)
    unfold SampIs at this
    rw [Int.toNat_natCast, hr.1, hr.2] at this
    refine this.mono ?_
    rintro e w' (⟨hne, _⟩ | ⟨_, ao, cap, rfl, h3, _, h4, _⟩)
    · exact absurd rfl hne
    · exact ⟨ao, cap, rfl, h3, h4⟩
  have KA : Hid (∀ W, Below W0.heap.size W0 W → W.cell? ⟨w.heap.size, 0, none⟩ = some (.int .i64 D) ∧ W.cell? ⟨w.heap.size, 1, none⟩ = some (.int .i64 S) ∧ W.cell? ⟨w.heap.size, 2, none⟩ = some (.int .i64 A) ∧ W.cell? ⟨w.heap.size, 3, none⟩ = some (.int .i64 G) ∧ W.cell? ⟨w.heap.size, 4, none⟩ = some (.slice io index.length icap)) := fun W h => ⟨(h.cell (p := ⟨w.heap.size, 0, none⟩) hlt0).trans (cell_of_heap hn0 0), (h.cell (p := ⟨w.heap.size, 1, none⟩) hlt0).trans (cell_of_heap hn0 1), (h.cell (p := ⟨w.heap.size, 2, none⟩) hlt0).trans (cell_of_heap hn0 2), (h.cell (p := ⟨w.heap.size, 3, none⟩) hlt0).trans (cell_of_heap hn0 3), (h.cell (p := ⟨w.heap.size, 4, none⟩) hlt0).trans (cell_of_heap hn0 4)⟩
  have HI0 : Hid (∀ W, Below W0.heap.size W0 W → IntsAt W lo l) := fun W hb => hi0.below hb
  have HSL : Hid (∀ W ao bo cap cap2, IntsAt W ao l → IntsAt W bo l → Calls Tryz.prog 8 #[.slice ao l.length cap, .slice bo l.length cap2] W fun e w' => e = .returned (.bool true) ∧ ∃ k, w' = W.drewN k) := fun W ao bo cap cap2 h1 h2 => by
    have := refSame ao bo cap cap2 l l W (by omega) h1 h2
    rwa [decide_eq_true rfl] at this
  have HCP : Hid (∀ W, Below W0.heap.size W0 W → ∃ g' cap' w', (Builtin.append_ #[22, 22] 22 #[.slice (some ⟨W.heap.size, 0, none⟩) 0 0, .slice lo l.length lcap]).run Tryz.prog (W.alloc (.cells #[] 3)) = .ok (.slice (some ⟨g', 0, none⟩) l.length cap') w' ∧ IntsAt w' (some ⟨g', 0, none⟩) l ∧ Below W.heap.size W w') := fun W hb => by
    obtain ⟨g', cap', w', hrun, ho, _, _, _, hbb⟩ := Fx.run_copyI (ty := 22) (cap := lcap) (World.alloc_heap_new W (.cells #[] 3)) (by omega) ((hi0.below hb).below (box_below W (.cells #[] 3)))
    exact ⟨g', cap', w', hrun, ho, (box_below W _).trans hbb⟩
  have HBX := Lib.hid hb0
  have HW0 := Lib.hid hW0
  have t1 : decide ((48 : Int) < (l.length : Int)) = false := decide_eq_false (by omega)
  have t1n : decide (48 < l.length) = false := decide_eq_false (by omega)
  have t2 : decide ((24 : Int) < (index.length : Int)) = false := decide_eq_false (by omega)
  have t2n : decide (24 < index.length) = false := decide_eq_false (by omega)
  have HLL : Hid (codeN l D index A G S = 0 → (normN l index A G S).index.length ≤ 1000000 ∧ (normN l index A G S).rice.length ≤ 1000000 ∧ (normN l index A G S).data.length ≤ 1000000) := fun _ => by
    have hp : bestP (dataN A G index S.toNat l) ≤ 3 := Nat.le_trans (bestP_le _) (topP_le _)
    unfold normN
    dsimp only
    rw [ksAt_length, dataN_length]
    exact ⟨by omega, Nat.le_trans (Nat.pow_le_pow_right (by decide) hp) (by decide), by omega⟩
  clear hi hj ht hi0 hj0 ht0 hl hil hicap hn0 hW0 hb0
  unfold NormIs at HNM
  unfold NormR at HRN
  generalize codeN l D index A G S = cn at *
  generalize normN l index A G S = N at *
  generalize hle : l.length = ll at *
  generalize hie : index.length = il at *
  clear hle hie
  go_enter Tryz.func3, Tryz.ntmps3
  go_wp2_with fail
  rw [← HW0.out]
  refine (HAW _).out.mono ?_
  rintro e w1 ⟨rfl, hb1⟩
  obtain ⟨k0, k1, k2, k3, k4⟩ := KA.out w1 hb1
  obtain ⟨g1, cap1, w2, hrun, ho2, hb2⟩ := HCP.out w1 hb1
  have hr2 := hb1.trans (hb2.mono hb1.size)
  have HR2 := Lib.hid hr2
  have HO2 := Lib.hid ho2
  obtain ⟨m0, m1, m2, m3, m4⟩ := KA.out w2 hr2
  have HC1 := Lib.hid (HNM.out w2 (some ⟨g1, 0, none⟩) cap1 hr2 ho2)
  clear hb1 hb2 ho2 hr2 HCP HNM
  go_wp2_with (at_builtin; refine wpList_append_run rfl _ _ 22 rfl _ _ _ _ rfl rfl hrun ?_)
  clear k0 k1 k2 k3 k4 hrun
  refine HC1.out.mono ?_
  rintro e w3 h3
  by_cases hcn : cn = 0
  rotate_left
  · obtain ⟨_, rfl, hb3⟩ := h3.resolve_right (fun h => hcn h.1)
    have hr3 := HR2.out.trans (hb3.mono HR2.out.size)
    have HO3 := Lib.hid (HO2.out.below hb3)
    have HNZ := Lib.hid hcn
    clear h3 hb3 m0 m1 m2 m3 m4 HC1 HSM HLL hcn
    have hbxA := box_below w3 (.cells #[.int .i64 0, .int .i64 0, .int .i64 0, .slice none 0 0, .int .i64 0, .int .i64 0, .int .i64 0, .slice none 0 0, .slice none 0 0] 27)
    have hnxA := World.alloc_heap_new w3 (.cells #[.int .i64 0, .int .i64 0, .int .i64 0, .slice none 0 0, .int .i64 0, .int .i64 0, .int .i64 0, .slice none 0 0, .slice none 0 0] 27)
    obtain ⟨w4, hww4⟩ : ∃ w4, w4 = w3.alloc (.cells #[.int .i64 0, .int .i64 0, .int .i64 0, .slice none 0 0, .int .i64 0, .int .i64 0, .int .i64 0, .slice none 0 0, .slice none 0 0] 27) := ⟨_, rfl⟩
    rw [← hww4] at hbxA hnxA
    have HRw4 := Lib.hid (hr3.trans (hbxA.mono hr3.size))
    have hltA : w3.heap.size < w4.heap.size := (Array.getElem?_eq_some_iff.1 hnxA).1
    have KXA : Hid (∀ W, Below w4.heap.size w4 W → W.cell? ⟨w3.heap.size, 0, none⟩ = some (.int .i64 0) ∧ W.cell? ⟨w3.heap.size, 1, none⟩ = some (.int .i64 0) ∧ W.cell? ⟨w3.heap.size, 2, none⟩ = some (.int .i64 0) ∧ W.cell? ⟨w3.heap.size, 3, none⟩ = some (.slice none 0 0) ∧ W.cell? ⟨w3.heap.size, 4, none⟩ = some (.int .i64 0) ∧ W.cell? ⟨w3.heap.size, 5, none⟩ = some (.int .i64 0) ∧ W.cell? ⟨w3.heap.size, 6, none⟩ = some (.int .i64 0) ∧ W.cell? ⟨w3.heap.size, 7, none⟩ = some (.slice none 0 0) ∧ W.cell? ⟨w3.heap.size, 8, none⟩ = some (.slice none 0 0)) := fun W h => ⟨(h.cell (p := ⟨w3.heap.size, 0, none⟩) hltA).trans ((cell_of_heap hnxA 0).trans rfl), (h.cell (p := ⟨w3.heap.size, 1, none⟩) hltA).trans ((cell_of_heap hnxA 1).trans rfl), (h.cell (p := ⟨w3.heap.size, 2, none⟩) hltA).trans ((cell_of_heap hnxA 2).trans rfl), (h.cell (p := ⟨w3.heap.size, 3, none⟩) hltA).trans ((cell_of_heap hnxA 3).trans rfl), (h.cell (p := ⟨w3.heap.size, 4, none⟩) hltA).trans ((cell_of_heap hnxA 4).trans rfl), (h.cell (p := ⟨w3.heap.size, 5, none⟩) hltA).trans ((cell_of_heap hnxA 5).trans rfl), (h.cell (p := ⟨w3.heap.size, 6, none⟩) hltA).trans ((cell_of_heap hnxA 6).trans rfl), (h.cell (p := ⟨w3.heap.size, 7, none⟩) hltA).trans ((cell_of_heap hnxA 7).trans rfl), (h.cell (p := ⟨w3.heap.size, 8, none⟩) hltA).trans ((cell_of_heap hnxA 8).trans rfl)⟩
    have HWw4 := Lib.hid hww4
    obtain ⟨k0, k1, k2, k3, k4⟩ := KA.out w4 HRw4.out
    have HC2 := Lib.hid (HRN.out w4 HRw4.out)
    have HO4 := Lib.hid (HO3.out.below hbxA)
    rw [hww4] at k0 k1 k2 k3 k4
    clear hww4 hbxA hnxA hr3 hltA
    go_wp2_with fail
    rw [← HWw4.out]
    refine HC2.out.mono ?_
    rintro e w5 h5
    clear k0 k1 k2 k3 k4
    obtain ⟨_, rfl, hb5⟩ := h5.resolve_right (fun h => HNZ.out h.1)
    have hr5 := HRw4.out.trans (hb5.mono HRw4.out.size)
    have HO5 := Lib.hid (HO4.out.below hb5)
    have HB5 := Lib.hid hb5
    have hbxB := box_below w5 (.cells #[.int .i64 0, .int .i64 0, .int .i64 0, .slice none 0 0, .int .i64 0, .int .i64 0, .int .i64 0, .slice none 0 0, .slice none 0 0] 27)
    have hnxB := World.alloc_heap_new w5 (.cells #[.int .i64 0, .int .i64 0, .int .i64 0, .slice none 0 0, .int .i64 0, .int .i64 0, .int .i64 0, .slice none 0 0, .slice none 0 0] 27)
    obtain ⟨w6, hww6⟩ : ∃ w6, w6 = w5.alloc (.cells #[.int .i64 0, .int .i64 0, .int .i64 0, .slice none 0 0, .int .i64 0, .int .i64 0, .int .i64 0, .slice none 0 0, .slice none 0 0] 27) := ⟨_, rfl⟩
    rw [← hww6] at hbxB hnxB
    have HRw6 := Lib.hid (hr5.trans (hbxB.mono hr5.size))
    have hltB : w5.heap.size < w6.heap.size := (Array.getElem?_eq_some_iff.1 hnxB).1
    have KXB : Hid (∀ W, Below w6.heap.size w6 W → W.cell? ⟨w5.heap.size, 0, none⟩ = some (.int .i64 0) ∧ W.cell? ⟨w5.heap.size, 1, none⟩ = some (.int .i64 0) ∧ W.cell? ⟨w5.heap.size, 2, none⟩ = some (.int .i64 0) ∧ W.cell? ⟨w5.heap.size, 3, none⟩ = some (.slice none 0 0) ∧ W.cell? ⟨w5.heap.size, 4, none⟩ = some (.int .i64 0) ∧ W.cell? ⟨w5.heap.size, 5, none⟩ = some (.int .i64 0) ∧ W.cell? ⟨w5.heap.size, 6, none⟩ = some (.int .i64 0) ∧ W.cell? ⟨w5.heap.size, 7, none⟩ = some (.slice none 0 0) ∧ W.cell? ⟨w5.heap.size, 8, none⟩ = some (.slice none 0 0)) := fun W h => ⟨(h.cell (p := ⟨w5.heap.size, 0, none⟩) hltB).trans ((cell_of_heap hnxB 0).trans rfl), (h.cell (p := ⟨w5.heap.size, 1, none⟩) hltB).trans ((cell_of_heap hnxB 1).trans rfl), (h.cell (p := ⟨w5.heap.size, 2, none⟩) hltB).trans ((cell_of_heap hnxB 2).trans rfl), (h.cell (p := ⟨w5.heap.size, 3, none⟩) hltB).trans ((cell_of_heap hnxB 3).trans rfl), (h.cell (p := ⟨w5.heap.size, 4, none⟩) hltB).trans ((cell_of_heap hnxB 4).trans rfl), (h.cell (p := ⟨w5.heap.size, 5, none⟩) hltB).trans ((cell_of_heap hnxB 5).trans rfl), (h.cell (p := ⟨w5.heap.size, 6, none⟩) hltB).trans ((cell_of_heap hnxB 6).trans rfl), (h.cell (p := ⟨w5.heap.size, 7, none⟩) hltB).trans ((cell_of_heap hnxB 7).trans rfl), (h.cell (p := ⟨w5.heap.size, 8, none⟩) hltB).trans ((cell_of_heap hnxB 8).trans rfl)⟩
    have HWw6 := Lib.hid hww6
    obtain ⟨A0, A1, A2, A3, A4, A5, A6, A7, A8⟩ := KXA.out w6 (HB5.out.trans (hbxB.mono HB5.out.size))
    obtain ⟨B0, B1, B2, B3, B4, B5, B6, B7, B8⟩ := KXB.out w6 (Below.refl _ _)
    have HO6 := Lib.hid (HO5.out.below hbxB)
    have HSN := Lib.hid (none_same w6)
    have u1 : (cn != cn) = false := by simp
    have u2 : (cn != 0) = true := bne_iff_ne.2 HNZ.out
    clear h5 hb5 hbxB hnxB hr5 hltB HC2
    rw [hww6] at A0 A1 A2 A3 A4 A5 A6 A7 A8 B0 B1 B2 B3 B4 B5 B6 B7 B8
    go_wp2_with fail
    rw [← HWw6.out]
    refine HSN.out.mono ?_
    rintro e w7 ⟨rfl, hb7⟩
    have HR7 := Lib.hid (HRw6.out.trans (hb7.mono HRw6.out.size))
    have HS7 := Lib.hid (HSL.out w7 (some ⟨g1, 0, none⟩) lo cap1 lcap (HO6.out.below hb7) (HI0.out _ HR7.out))
    clear hb7 A0 A1 A2 A3 A4 A5 A6 A7 A8 B0 B1 B2 B3 B4 B5 B6 B7 B8 hww6
    go_wp2_with fail
    refine HS7.out.mono ?_
    rintro e w8 ⟨rfl, k8, hw8⟩
    have HR8 : Hid (Below w.heap.size w w8) := by show Below _ _ _; rw [hw8]; exact below_drewN (HBX.out.trans (HR7.out.mono (Nat.le_of_lt hlt0))) _
    clear hw8
    go_wp2
    go_ret
    exact ⟨rfl, HR8.out⟩
  · subst hcn
    obtain ⟨_, ia, ra, da, ic, rc, dc, he, hB3, hb3⟩ := h3.resolve_left (fun h => h.1 rfl)
    subst he
    have hr3 := HR2.out.trans (hb3.mono HR2.out.size)
    have HO3 := Lib.hid (HO2.out.below hb3)
    have HB3 := Lib.hid hB3
    have HLN := HLL.out rfl
    have HRS : Hid (∀ W ja sa ea jc sc ec, BlkIn W N ia ra da ic rc dc → IntsAt W ja N.index → IntsAt W sa N.rice → IntsAt W ea N.data → Calls Tryz.prog 7 #[blkV N ia ra da ic rc dc, blkV N ja sa ea jc sc ec] W fun e w' => e = .returned (.bool true) ∧ Below W.heap.size W w') := fun W ja sa ea jc sc ec h h1 h2 h3 => rSameN N ia ra da ja sa ea ic rc dc jc sc ec W HLN h.i h.r h.d h1 h2 h3
    have HSS : Hid (∀ W, BlkIn W N ia ra da ic rc dc → Calls Tryz.prog 9 #[blkV N ia ra da ic rc dc, .int .i64 ll, .int .i64 D] W fun e w' => ∃ ao cap, e = .returned (.tuple #[.slice ao ll cap, .int .i64 0]) ∧ IntsAt w' ao l ∧ Below W.heap.size W w') := fun W hB => HSM.out rfl W ia ra da ic rc dc hB
    clear h3 hb3 m0 m1 m2 m3 m4 HC1 HSM HLL HLN hB3
    obtain ⟨kind, value, shift, xs, lag, gain, part, rs, ds⟩ := N
    unfold blkV at HRN HRS HSS ⊢
    dsimp only at HRN HRS HSS ⊢
    generalize hxl : xs.length = xl at *
    generalize hrl : rs.length = rl at *
    generalize hdl : ds.length = dl at *
    clear hxl hrl hdl
    have hbxA := box_below w3 (.cells #[.int .i64 kind, .int .i64 value, .int .i64 shift, .slice ia xl ic, .int .i64 lag, .int .i64 gain, .int .i64 part, .slice ra rl rc, .slice da dl dc] 27)
    have hnxA := World.alloc_heap_new w3 (.cells #[.int .i64 kind, .int .i64 value, .int .i64 shift, .slice ia xl ic, .int .i64 lag, .int .i64 gain, .int .i64 part, .slice ra rl rc, .slice da dl dc] 27)
    obtain ⟨w4, hww4⟩ : ∃ w4, w4 = w3.alloc (.cells #[.int .i64 kind, .int .i64 value, .int .i64 shift, .slice ia xl ic, .int .i64 lag, .int .i64 gain, .int .i64 part, .slice ra rl rc, .slice da dl dc] 27) := ⟨_, rfl⟩
    rw [← hww4] at hbxA hnxA
    have HRw4 := Lib.hid (hr3.trans (hbxA.mono hr3.size))
    have hltA : w3.heap.size < w4.heap.size := (Array.getElem?_eq_some_iff.1 hnxA).1
    have KXA : Hid (∀ W, Below w4.heap.size w4 W → W.cell? ⟨w3.heap.size, 0, none⟩ = some (.int .i64 kind) ∧ W.cell? ⟨w3.heap.size, 1, none⟩ = some (.int .i64 value) ∧ W.cell? ⟨w3.heap.size, 2, none⟩ = some (.int .i64 shift) ∧ W.cell? ⟨w3.heap.size, 3, none⟩ = some (.slice ia xl ic) ∧ W.cell? ⟨w3.heap.size, 4, none⟩ = some (.int .i64 lag) ∧ W.cell? ⟨w3.heap.size, 5, none⟩ = some (.int .i64 gain) ∧ W.cell? ⟨w3.heap.size, 6, none⟩ = some (.int .i64 part) ∧ W.cell? ⟨w3.heap.size, 7, none⟩ = some (.slice ra rl rc) ∧ W.cell? ⟨w3.heap.size, 8, none⟩ = some (.slice da dl dc)) := fun W h => ⟨(h.cell (p := ⟨w3.heap.size, 0, none⟩) hltA).trans ((cell_of_heap hnxA 0).trans rfl), (h.cell (p := ⟨w3.heap.size, 1, none⟩) hltA).trans ((cell_of_heap hnxA 1).trans rfl), (h.cell (p := ⟨w3.heap.size, 2, none⟩) hltA).trans ((cell_of_heap hnxA 2).trans rfl), (h.cell (p := ⟨w3.heap.size, 3, none⟩) hltA).trans ((cell_of_heap hnxA 3).trans rfl), (h.cell (p := ⟨w3.heap.size, 4, none⟩) hltA).trans ((cell_of_heap hnxA 4).trans rfl), (h.cell (p := ⟨w3.heap.size, 5, none⟩) hltA).trans ((cell_of_heap hnxA 5).trans rfl), (h.cell (p := ⟨w3.heap.size, 6, none⟩) hltA).trans ((cell_of_heap hnxA 6).trans rfl), (h.cell (p := ⟨w3.heap.size, 7, none⟩) hltA).trans ((cell_of_heap hnxA 7).trans rfl), (h.cell (p := ⟨w3.heap.size, 8, none⟩) hltA).trans ((cell_of_heap hnxA 8).trans rfl)⟩
    have HWw4 := Lib.hid hww4
    obtain ⟨k0, k1, k2, k3, k4⟩ := KA.out w4 HRw4.out
    have HC2 := Lib.hid (HRN.out w4 HRw4.out)
    have HO4 := Lib.hid (HO3.out.below hbxA)
    have HB4 := Lib.hid (HB3.out.below hbxA)
    rw [hww4] at k0 k1 k2 k3 k4
    clear hww4 hbxA hnxA hr3 hltA HRN
    go_wp2_with fail
    rw [← HWw4.out]
    refine HC2.out.mono ?_
    rintro e w5 h5
    clear k0 k1 k2 k3 k4
    obtain ⟨_, ja, sa, ea, jc, sc, ec, he, i5, r5, d5, hb5⟩ := h5.resolve_left (fun h => h.1 rfl)
    subst he
    have hr5 := HRw4.out.trans (hb5.mono HRw4.out.size)
    have HO5 := Lib.hid (HO4.out.below hb5)
    have HB5 := Lib.hid hb5
    have HBK5 := Lib.hid (HB4.out.below hb5)
    have hbxB := box_below w5 (.cells #[.int .i64 kind, .int .i64 value, .int .i64 shift, .slice ja xl jc, .int .i64 lag, .int .i64 gain, .int .i64 part, .slice sa rl sc, .slice ea dl ec] 27)
    have hnxB := World.alloc_heap_new w5 (.cells #[.int .i64 kind, .int .i64 value, .int .i64 shift, .slice ja xl jc, .int .i64 lag, .int .i64 gain, .int .i64 part, .slice sa rl sc, .slice ea dl ec] 27)
    obtain ⟨w6, hww6⟩ : ∃ w6, w6 = w5.alloc (.cells #[.int .i64 kind, .int .i64 value, .int .i64 shift, .slice ja xl jc, .int .i64 lag, .int .i64 gain, .int .i64 part, .slice sa rl sc, .slice ea dl ec] 27) := ⟨_, rfl⟩
    rw [← hww6] at hbxB hnxB
    have HRw6 := Lib.hid (hr5.trans (hbxB.mono hr5.size))
    have hltB : w5.heap.size < w6.heap.size := (Array.getElem?_eq_some_iff.1 hnxB).1
    have KXB : Hid (∀ W, Below w6.heap.size w6 W → W.cell? ⟨w5.heap.size, 0, none⟩ = some (.int .i64 kind) ∧ W.cell? ⟨w5.heap.size, 1, none⟩ = some (.int .i64 value) ∧ W.cell? ⟨w5.heap.size, 2, none⟩ = some (.int .i64 shift) ∧ W.cell? ⟨w5.heap.size, 3, none⟩ = some (.slice ja xl jc) ∧ W.cell? ⟨w5.heap.size, 4, none⟩ = some (.int .i64 lag) ∧ W.cell? ⟨w5.heap.size, 5, none⟩ = some (.int .i64 gain) ∧ W.cell? ⟨w5.heap.size, 6, none⟩ = some (.int .i64 part) ∧ W.cell? ⟨w5.heap.size, 7, none⟩ = some (.slice sa rl sc) ∧ W.cell? ⟨w5.heap.size, 8, none⟩ = some (.slice ea dl ec)) := fun W h => ⟨(h.cell (p := ⟨w5.heap.size, 0, none⟩) hltB).trans ((cell_of_heap hnxB 0).trans rfl), (h.cell (p := ⟨w5.heap.size, 1, none⟩) hltB).trans ((cell_of_heap hnxB 1).trans rfl), (h.cell (p := ⟨w5.heap.size, 2, none⟩) hltB).trans ((cell_of_heap hnxB 2).trans rfl), (h.cell (p := ⟨w5.heap.size, 3, none⟩) hltB).trans ((cell_of_heap hnxB 3).trans rfl), (h.cell (p := ⟨w5.heap.size, 4, none⟩) hltB).trans ((cell_of_heap hnxB 4).trans rfl), (h.cell (p := ⟨w5.heap.size, 5, none⟩) hltB).trans ((cell_of_heap hnxB 5).trans rfl), (h.cell (p := ⟨w5.heap.size, 6, none⟩) hltB).trans ((cell_of_heap hnxB 6).trans rfl), (h.cell (p := ⟨w5.heap.size, 7, none⟩) hltB).trans ((cell_of_heap hnxB 7).trans rfl), (h.cell (p := ⟨w5.heap.size, 8, none⟩) hltB).trans ((cell_of_heap hnxB 8).trans rfl)⟩
    have HWw6 := Lib.hid hww6
    obtain ⟨A0, A1, A2, A3, A4, A5, A6, A7, A8⟩ := KXA.out w6 (HB5.out.trans (hbxB.mono HB5.out.size))
    obtain ⟨B0, B1, B2, B3, B4, B5, B6, B7, B8⟩ := KXB.out w6 (Below.refl _ _)
    have HO6 := Lib.hid (HO5.out.below hbxB)
    have HB6 := Lib.hid (HBK5.out.below hbxB)
    have HSN := Lib.hid (HRS.out w6 ja sa ea jc sc ec HB6.out (i5.below hbxB) (r5.below hbxB) (d5.below hbxB))
    have HH6 : Hid (Below w4.heap.size w4 w6) := HB5.out.trans (hbxB.mono HB5.out.size)
    clear h5 hb5 hbxB hnxB hr5 hltB HC2 i5 r5 d5 HRS
    rw [hww6] at A0 A1 A2 A3 A4 A5 A6 A7 A8 B0 B1 B2 B3 B4 B5 B6 B7 B8
    go_wp2_with fail
    rw [← HWw6.out]
    refine HSN.out.mono ?_
    rintro e w7 ⟨rfl, hb7⟩
    have HR7 := Lib.hid (HRw6.out.trans (hb7.mono HRw6.out.size))
    have HS7 := Lib.hid (HSL.out w7 (some ⟨g1, 0, none⟩) lo cap1 lcap (HO6.out.below hb7) (HI0.out _ HR7.out))
    have HB7 := Lib.hid (HB6.out.below hb7)
    have HH7 : Hid (Below w4.heap.size w4 w7) := HH6.out.trans (hb7.mono HH6.out.size)
    clear hb7 A0 A1 A2 A3 A4 A5 A6 A7 A8 B0 B1 B2 B3 B4 B5 B6 B7 B8 hww6
    go_wp2_with fail
    refine HS7.out.mono ?_
    rintro e w8 ⟨rfl, k8, hw8⟩
    have hb8 : Below w7.heap.size w7 w8 := by rw [hw8]; exact (keeps_drewN w7 k8 []).below (Nat.le_refl _) (by simp)
    clear hw8
    have HR8 := Lib.hid (HR7.out.trans (hb8.mono HR7.out.size))
    obtain ⟨k0, k1, k2, k3, k4⟩ := KA.out w8 HR8.out
    obtain ⟨A0, A1, A2, A3, A4, A5, A6, A7, A8⟩ := KXA.out w8 (HH7.out.trans (hb8.mono HH7.out.size))
    have HC8 := Lib.hid (HSS.out w8 (HB7.out.below hb8))
    clear hb8 HS7 HSS
    go_wp2_with fail
    refine HC8.out.mono ?_
    rintro e w9 ⟨ao, cap9, rfl, hi9, hb9⟩
    have HR9 := Lib.hid (HR8.out.trans (hb9.mono HR8.out.size))
    have HS9 := Lib.hid (HSL.out w9 ao lo cap9 lcap hi9 (HI0.out _ HR9.out))
    clear hi9 hb9 k0 k1 k2 k3 k4 A0 A1 A2 A3 A4 A5 A6 A7 A8 HC8
    go_wp2_with fail
    refine HS9.out.mono ?_
    rintro e w10 ⟨rfl, k10, hw10⟩
    have HR10 : Hid (Below w.heap.size w w10) := by show Below _ _ _; rw [hw10]; exact below_drewN (HBX.out.trans (HR9.out.mono (Nat.le_of_lt hlt0))) _
    clear hw10
    go_wp2
    go_ret
    exact ⟨rfl, HR10.out⟩

theorem blockNormal (lo io : Option Addr) (lcap icap : Nat) (l index : List Int) (D S A G : Int) (w : World) (hicap : index.length ≤ icap) (hi : IntsAt w lo l) (hj : IntsAt w io index) (ht : TabZ w) :
    Calls Tryz.prog 3 #[.slice lo l.length lcap, .agg #[.int .i64 D, .int .i64 S, .int .i64 A, .int .i64 G, .slice io index.length icap]] w fun e w' => e = .returned (.bool true) ∧ Below w.heap.size w w' := by
  by_cases h1 : 48 < l.length
  · exact normal_much lo io l.length lcap index.length icap D S A G w (.inl (decide_eq_true h1))
  · by_cases h2 : 24 < index.length
    · exact normal_much lo io l.length lcap index.length icap D S A G w (.inr ⟨decide_eq_false h1, decide_eq_true h2⟩)
    · exact normal_few lo io lcap icap l index D S A G w (by omega) (by omega) hicap hi hj ht
end Go.Proofs.YtnfpkjnllkkngaaGreatDoor
