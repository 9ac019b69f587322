import Derived.Test.YtbbcemgcanclnaaWefL1
import Derived.Test.YtbbcemgcanclnaaWefE
namespace Go.Proofs.Ytbbcemgcanclnaa
open Go.RowKit Go.Proofs Go.Proofs.PipeM Go.Proofs.PipeA Go.Proofs.WefM
set_option maxRecDepth 100000

set_option maxHeartbeats 800000 in
theorem weftTakes_much (bo : Option Addr) (cap n : Nat) (ch : Int) (w : World) (h : 20 < n) :
    Calls Try.prog 5 #[.slice bo n cap, .int .i64 ch] w fun e w' => e = .returned (.bool true) ∧ Below w.heap.size w w' := by
  have HA := fun W => Lib.hid (awake11 W)
  have t1 : decide ((20 : Int) < (n : Int)) = true := decide_eq_true (by omega)
  have t1n : decide (20 < n) = true := decide_eq_true h
  clear h
  go_enter Try.func5, Try.ntmps5
  go_wp2_with fail
  refine (HA _).out.mono ?_
  rintro e w1 ⟨rfl, hb1⟩
  have HB1 := Lib.hid hb1
  clear hb1
  go_wp2_with fail
  refine (HA _).out.mono ?_
  rintro e w2 ⟨rfl, hb2⟩
  have HB2 := Lib.hid (HB1.out.trans (hb2.mono HB1.out.size))
  clear hb2
  go_wp2
  go_ret
  exact ⟨rfl, HB2.out⟩

set_option maxHeartbeats 6400000 in
theorem weftTakes_few (bo : Option Addr) (cap : Nat) (zs : List Nat) (ch : Int) (w : World) (hch : I64 ch) (hz : ∀ z ∈ zs, z < 256) (hd : BytesAt w bo zs) (h : zs.length ≤ 20) :
    Calls Try.prog 5 #[.slice bo zs.length cap, .int .i64 ch] w fun e w' => e = .returned (.bool true) ∧ Below w.heap.size w w' := by
  have HA := fun W => Lib.hid (awake11 W)
  have HD := Lib.hid hd
  have hbl := bitsOf_length zs
  obtain ⟨ao2, hao, hab⟩ : ∃ ao2 : Option Addr, (0 < zs.length → bo = ao2) ∧ ∀ g off, ao2 = some ⟨g, off, none⟩ → g < w.heap.size := by
    cases zs with
    | nil => exact ⟨none, by simp, by simp⟩
    | cons z r =>
      obtain ⟨g, off, rfl, hg, _⟩ := hd 0 (by simp)
      exact ⟨_, fun _ => rfl, fun g' off' e => by cases e; exact hg⟩
  have HAB := Lib.hid hab
  have t1 : decide ((20 : Int) < (zs.length : Int)) = false := decide_eq_false (by omega)
  have t1n : decide (20 < zs.length) = false := decide_eq_false (by omega)
  obtain ⟨hsim, hwv⟩ := (Sim.start (bitsOf zs) ((8 * zs.length : Nat) : Int)).weave ch
  have HOP : Hid (∀ W, BytesAt W bo zs → Calls Try.prog 14 #[.slice bo zs.length cap] W fun e w' => e = .returned (.pointer (some ⟨W.heap.size, 0, none⟩)) ∧ RdA w' W.heap.size ao2 ⟨bitsOf zs, 0⟩ ∧ Below W.heap.size W w') := fun W hW => aOpen bo ao2 cap zs W hao hW hz (by omega)
  have HOM : Hid (∀ W, BytesAt W bo zs → Calls Try.prog 17 #[.slice bo zs.length cap] W fun e w' => e = .returned (MR.mk (bitsOf zs) ((8 * zs.length : Nat) : Int) 0).val ∧ Below W.heap.size W w') := fun W hW => mOpen bo cap zs W (by omega) hz hW
  have HTP : Hid (∀ b W, RdA W b ao2 ⟨bitsOf zs, 0⟩ → (∀ g off, ao2 = some ⟨g, off, none⟩ → g < W.heap.size) → Calls Try.prog 15 #[.pointer (some ⟨b, 0, none⟩), .int .i64 ch] W fun e w' => e = .returned (wvV ((RS.mk (bitsOf zs) 0).weave ch).2) ∧ RdA w' b ao2 ((RS.mk (bitsOf zs) 0).weave ch).1 ∧ Keeps [b] W w') := fun b W h1 h2 => cTakeW b ao2 ⟨bitsOf zs, 0⟩ ch W hch h1 h2
  have HTM : Hid (∀ W, Calls Try.prog 16 #[(MR.mk (bitsOf zs) ((8 * zs.length : Nat) : Int) 0).val, .int .i64 ch] W fun e w' => e = .returned (.tuple #[((MR.mk (bitsOf zs) ((8 * zs.length : Nat) : Int) 0).weave ch).1.val, wvV ((MR.mk (bitsOf zs) ((8 * zs.length : Nat) : Int) 0).weave ch).2]) ∧ Below W.heap.size W w') := fun W => rTakeW _ ch W (by simp only; omega)
  rw [hwv] at HTP
  generalize (RS.mk (bitsOf zs) 0).weave ch = sw at *
  generalize (MR.mk (bitsOf zs) ((8 * zs.length : Nat) : Int) 0).weave ch = mw at *
  obtain ⟨s2, y2⟩ := sw
  obtain ⟨m2, x⟩ := mw
  dsimp only at HTP HTM hsim hwv
  have HFL : Hid (s2.err = m2.fail) := hsim.err
  have HBT : Hid (m2.fail = 0 → s2.bits.length = m2.bits.length) := fun h => by rw [hsim.bits h]
  obtain ⟨M0, hM0⟩ : ∃ M0, M0 = (MR.mk (bitsOf zs) ((8 * zs.length : Nat) : Int) 0).val := ⟨_, rfl⟩
  rw [← hM0] at HOM HTM
  obtain ⟨S0, hS0⟩ : ∃ S0, S0 = RS.mk (bitsOf zs) 0 := ⟨_, rfl⟩
  rw [← hS0] at HOP HTP
  generalize zs.length = n at *
  unfold wvV at HTP HTM
  unfold MR.val at HTM
  obtain ⟨ml, mall, mf⟩ := m2
  dsimp only at HTM HFL HBT
  have hsz : (str ml).size = ml.length := str_size ml
  obtain ⟨L, hL⟩ : ∃ L, L = ml.length := ⟨_, rfl⟩
  rw [← hL] at HBT hsz
  obtain ⟨sl, serr⟩ := s2
  dsimp only at HFL HBT
  obtain ⟨K, hK⟩ : ∃ K, K = sl.length := ⟨_, rfl⟩
  have HK := Lib.hid hK
  rw [← hK] at HBT
  obtain ⟨ms, hms⟩ : ∃ ms, ms = str ml := ⟨_, rfl⟩
  rw [← hms] at HTM hsz
  clear hd hz hch hao hab hbl hsim hwv hM0 hS0 h hL hK hms
  go_enter Try.func5, Try.ntmps5
  go_wp2_with fail
  refine (HA _).out.mono ?_
  rintro e w1 ⟨rfl, hb1⟩
  have HB1 := Lib.hid hb1
  have HD1 := Lib.hid (HD.out.below hb1)
  have HO1 := Lib.hid (HOP.out w1 HD1.out)
  clear hb1
  go_wp2_with fail
  refine HO1.out.mono ?_
  rintro e w2 ⟨rfl, hrd2, hb2⟩
  have hwR : w.heap.size ≤ w1.heap.size := HB1.out.size
  have HB2 := Lib.hid (HB1.out.trans (hb2.mono hwR))
  have HT2 := Lib.hid (HTP.out w1.heap.size w2 hrd2 (fun g off e => Nat.lt_of_lt_of_le (HAB.out g off e) HB2.out.size))
  have HWR := Lib.hid hwR
  clear hrd2 hb2 HO1 hwR
  go_wp2_with fail
  refine HT2.out.mono ?_
  rintro e w3 ⟨rfl, hrd3, hk3⟩
  have HB3 := Lib.hid (HB2.out.trans (hk3.below HB2.out.size (by intro x hx; simp at hx; subst hx; exact HWR.out)))
  have HR3 := Lib.hid hrd3
  have hbx := box_below w3 (.cells #[.bool x.some, .int .i64 x.master, .int .i64 x.g0, .int .i64 x.g1, .int .i64 x.g2] 24)
  have hnx := heap_alloc_new w3 (.cells #[.bool x.some, .int .i64 x.master, .int .i64 x.g0, .int .i64 x.g1, .int .i64 x.g2] 24)
  have HO3 := Lib.hid (HOM.out (w3.alloc (.cells #[.bool x.some, .int .i64 x.master, .int .i64 x.g0, .int .i64 x.g1, .int .i64 x.g2] 24)) ((HD.out.below HB3.out).below hbx))
  have HBX := Lib.hid hbx
  have HNX := Lib.hid hnx
  clear hrd3 hk3 HT2 hbx hnx
  go_wp2_with fail
  refine HO3.out.mono ?_
  rintro e w4 ⟨rfl, hb4⟩
  have HB4 := Lib.hid hb4
  clear hb4 HO3
  go_wp2_with fail
  refine (HTM.out _).mono ?_
  rintro e w5 ⟨rfl, hb5⟩
  have h35 : Below w3.heap.size w3 w5 := HBX.out.trans ((HB4.out.trans (hb5.mono HB4.out.size)).mono HBX.out.size)
  have hl35 : w3.heap.size < w5.heap.size := Nat.lt_of_lt_of_le (Nat.lt_of_lt_of_le (by simp) HB4.out.size) hb5.size
  have h45 : Below (w3.alloc (.cells #[.bool x.some, .int .i64 x.master, .int .i64 x.g0, .int .i64 x.g1, .int .i64 x.g2] 24)).heap.size (w3.alloc (.cells #[.bool x.some, .int .i64 x.master, .int .i64 x.g0, .int .i64 x.g1, .int .i64 x.g2] 24)) w5 := HB4.out.trans (hb5.mono HB4.out.size)
  have hlx : w3.heap.size < (w3.alloc (.cells #[.bool x.some, .int .i64 x.master, .int .i64 x.g0, .int .i64 x.g1, .int .i64 x.g2] 24)).heap.size := by simp
  have hq := fun j => (h45.cell (p := ⟨w3.heap.size, j, none⟩) hlx).trans (cell_of_heap HNX.out j)
  obtain ⟨W6, hW6⟩ : ∃ W6, W6 = (w5.alloc (.cells #[.string ms, .int .i64 mall, .int .i64 mf] 44)).alloc (.cells #[.bool x.some, .int .i64 x.master, .int .i64 x.g0, .int .i64 x.g1, .int .i64 x.g2] 24) := ⟨_, rfl⟩
  have h56 : Below w5.heap.size w5 W6 := by rw [hW6]; exact below2 w5 _ _
  have hn6 : W6.heap[w5.heap.size]? = some (.cells #[.string ms, .int .i64 mall, .int .i64 mf] 44) := by rw [hW6]; exact (Below.heap_alloc _ _ _ (by simp)).trans (heap_alloc_new w5 _)
  have hn7 : W6.heap[w5.heap.size + 1]? = some (.cells #[.bool x.some, .int .i64 x.master, .int .i64 x.g0, .int .i64 x.g1, .int .i64 x.g2] 24) := by rw [hW6]; have := heap_alloc_new (w5.alloc (.cells #[.string ms, .int .i64 mall, .int .i64 mf] 44)) (.cells #[.bool x.some, .int .i64 x.master, .int .i64 x.g0, .int .i64 x.g1, .int .i64 x.g2] 24); rwa [World.size_alloc] at this
  have k0 : W6.cell? ⟨w3.heap.size, 0, none⟩ = some (.bool x.some) := (h56.cell (p := ⟨w3.heap.size, 0, none⟩) hl35).trans (hq 0)
  have k1 : W6.cell? ⟨w3.heap.size, 1, none⟩ = some (.int .i64 x.master) := (h56.cell (p := ⟨w3.heap.size, 1, none⟩) hl35).trans (hq 1)
  have k2 : W6.cell? ⟨w3.heap.size, 2, none⟩ = some (.int .i64 x.g0) := (h56.cell (p := ⟨w3.heap.size, 2, none⟩) hl35).trans (hq 2)
  have k3 : W6.cell? ⟨w3.heap.size, 3, none⟩ = some (.int .i64 x.g1) := (h56.cell (p := ⟨w3.heap.size, 3, none⟩) hl35).trans (hq 3)
  have k4 : W6.cell? ⟨w3.heap.size, 4, none⟩ = some (.int .i64 x.g2) := (h56.cell (p := ⟨w3.heap.size, 4, none⟩) hl35).trans (hq 4)
  have p0 : W6.cell? ⟨w5.heap.size, 0, none⟩ = some (.string ms) := cell_of_heap hn6 0
  have p2 : W6.cell? ⟨w5.heap.size, 2, none⟩ = some (.int .i64 mf) := cell_of_heap hn6 2
  have q0 : W6.cell? ⟨w5.heap.size + 1, 0, none⟩ = some (.bool x.some) := cell_of_heap hn7 0
  have q1 : W6.cell? ⟨w5.heap.size + 1, 1, none⟩ = some (.int .i64 x.master) := cell_of_heap hn7 1
  have q2 : W6.cell? ⟨w5.heap.size + 1, 2, none⟩ = some (.int .i64 x.g0) := cell_of_heap hn7 2
  have q3 : W6.cell? ⟨w5.heap.size + 1, 3, none⟩ = some (.int .i64 x.g1) := cell_of_heap hn7 3
  have q4 : W6.cell? ⟨w5.heap.size + 1, 4, none⟩ = some (.int .i64 x.g2) := cell_of_heap hn7 4
  have h36 := h35.trans (h56.mono h35.size)
  have HR6 := Lib.hid (HR3.out.keeps (keeps_of_below h36 []) (by simp) (by simp))
  have HB6 := Lib.hid (HB3.out.trans (h36.mono HB3.out.size))
  have HF6 : Hid (∀ n, Calls Try.prog 18 #[.pointer (some ⟨w1.heap.size, 0, none⟩)] (W6.drewN n) fun e w' => e = .returned (.int .i64 mf) ∧ ∃ j, w' = W6.drewN j) := fun n => by
    have := quiet_left (aFail w1.heap.size ao2 _ (W6.drewN n) (HR6.out.drewN n))
    dsimp only at this
    rwa [HFL.out] at this
  have HL6 : Hid (∀ n, Calls Try.prog 19 #[.pointer (some ⟨w1.heap.size, 0, none⟩)] (W6.drewN n) fun e w' => e = .returned (.int .i64 K) ∧ ∃ j, w' = W6.drewN j) := fun n => by
    have := quiet_drew (aLeft w1.heap.size ao2 _ (W6.drewN n) (HR6.out.drewN n))
    dsimp only at this
    rwa [← HK.out] at this
  have HW6 := Lib.hid hW6
  have heq := fun W => eq_weave W x.some x.master x.g0 x.g1 x.g2
  have hgu := guard_weave
  have hbo := fun W => bin_weave W x.some x.master x.g0 x.g1 x.g2
  clear hb5 h35 hl35 h45 hlx hq h56 hn6 hn7 h36 hW6
  by_cases hf : mf = 0
  · have u1 : (mf == mf) = true := by simp
    have hKL := HBT.out hf
    have u2 : (mf != 0) = false := by rw [hf]; rfl
    have u3 : ((K : Int) == (L : Int)) = true := by rw [beq_iff_eq]; omega
    have u3n : (K == L) = true := by rw [beq_iff_eq]; exact hKL
    clear hKL hf
    go_wp2_with fail
    rw [← HW6.out]
    go_quiet (first
      | (go_at_call 18; with_reducible exact HF6.out _)
      | (go_at_call 19; with_reducible exact HL6.out _))
    go_wp2
    go_ret
    exact ⟨rfl, below_drewN HB6.out _⟩
  · have u1 : (mf == mf) = true := by simp
    have u2 : (mf != 0) = true := bne_iff_ne.2 hf
    clear hf
    go_wp2_with fail
    rw [← HW6.out]
    go_quiet (first
      | (go_at_call 18; with_reducible exact HF6.out _)
      | (go_at_call 19; with_reducible exact HL6.out _))
    go_wp2
    go_ret
    exact ⟨rfl, below_drewN HB6.out _⟩

theorem weftTakes (bo : Option Addr) (cap : Nat) (zs : List Nat) (ch : Int) (w : World) (hch : I64 ch) (hz : ∀ z ∈ zs, z < 256) (hd : BytesAt w bo zs) :
    Calls Try.prog 5 #[.slice bo zs.length cap, .int .i64 ch] w fun e w' => e = .returned (.bool true) ∧ Below w.heap.size w w' := by
  by_cases h1 : 20 < zs.length
  · exact weftTakes_much bo cap zs.length ch w h1
  · exact weftTakes_few bo cap zs ch w hch hz hd (by omega)
end Go.Proofs.Ytbbcemgcanclnaa
