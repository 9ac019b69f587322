import Derived.Test.YtcgkalfclammfabLagL2
import Derived.Test.YtcgkalfclammfabWideC
import Derived.Test.YtcgkalfclammfabSumR
import Derived.Deep.RegionWith
namespace Go.Proofs.Ytcgkalfclammfab
open Go.RowKit Go.Proofs Go.Proofs.PipeA Go.Proofs.LagM
set_option maxRecDepth 100000

/-- Where a part of a slice begins. -/
def cutA (a : Option Addr) (cap lo : Nat) : Option Addr := if cap = lo then a else a.map (fun x => x.add lo)
theorem cut_left0 (a : Option Addr) (len cap hi : Nat) (h2 : hi ≤ cap) (W : World) :
    (Instr.slice 24 (.slice a len cap) none (some (.int .i64 (hi : Int))) none).run Try.prog W = .ok (.slice (cutA a cap 0) hi cap) W := by
  simp [Instr.slice, run_underlying Try.underlying24, Instr.sliceBounds, Instr.sliceBound, asIntOf, h2, cutA]
theorem cut_right (a : Option Addr) (len cap lo : Nat) (h1 : lo ≤ len) (W : World) :
    (Instr.slice 24 (.slice a len cap) (some (.int .i64 (lo : Int))) none none).run Try.prog W = .ok (.slice (cutA a cap lo) (len - lo) (cap - lo)) W := by
  simp [Instr.slice, run_underlying Try.underlying24, Instr.sliceBounds, Instr.sliceBound, asIntOf, h1, cutA]
theorem IntsAt.cut {W : World} {a : Option Addr} {l : List Int} {cap : Nat} (h : IntsAt W a l) (hc : l.length ≤ cap) (lo : Nat) : IntsAt W (cutA a cap lo) (l.drop lo) := by
  intro j hj
  rw [List.length_drop] at hj
  obtain ⟨b, off, rfl, hb, hcell⟩ := h (lo + j) (by omega)
  refine ⟨b, off + lo, ?_, hb, ?_⟩
  · rw [cutA, if_neg (by omega)]; simp [Addr.add_lit]
  · rw [Nat.add_assoc, hcell, List.getElem_drop]
theorem IntsAt.cut0 {W : World} {a : Option Addr} {l : List Int} {cap : Nat} (h : IntsAt W a l) (hc : l.length ≤ cap) : IntsAt W (cutA a cap 0) l := h.cut hc 0

/-- A trial: a term and a sum. -/
def trialL (n g : Int) (s : Nat) : Value := .agg #[.int .i64 n, .int .i64 g, .int .u64 0, .int .u64 (s : Nat)]

/-- Where tried stands. -/
structure TrySt (w : World) (n g : Int) (s : Nat) (W : World) : Prop where
  b1 : W.heap[w.heap.size + 1]? = some (.cells #[.int .i64 0, .int .i64 0, .int .u64 0, .int .u64 0] 51)
  b2 : W.heap[w.heap.size + 1 + 1]? = some (.cells #[.int .i64 n, .int .i64 g, .int .u64 0, .int .u64 (s : Nat)] 51)
  below : Below w.heap.size w W
theorem TrySt.mono {w A C : World} {n g : Int} {s : Nat} (h : TrySt w n g s A) (hb : Below A.heap.size A C) : TrySt w n g s C :=
  ⟨(hb.block _ (Array.getElem?_eq_some_iff.1 h.b1).1).trans h.b1, (hb.block _ (Array.getElem?_eq_some_iff.1 h.b2).1).trans h.b2, h.below.trans (hb.mono h.below.size)⟩
theorem TrySt.drew {w A : World} {n g : Int} {s : Nat} (h : TrySt w n g s A) : TrySt w n g s A.drew := h.mono ((keeps_drew_b A []).below (Nat.le_refl _) (by simp))
theorem cells_four {W : World} {b : Nat} {x y z u : Value} {t : TypeId} (h : W.heap[b]? = some (.cells #[x, y, z, u] t)) :
    (W.cell? ⟨b, 0, none⟩ = some x ∧ W.cell? ⟨b, 1, none⟩ = some y ∧ W.cell? ⟨b, 2, none⟩ = some z ∧ W.cell? ⟨b, 3, none⟩ = some u) ∧ (W.frozen? ⟨b, 0, none⟩ = false ∧ W.frozen? ⟨b, 1, none⟩ = false ∧ W.frozen? ⟨b, 2, none⟩ = false ∧ W.frozen? ⟨b, 3, none⟩ = false) :=
  ⟨⟨by rw [cell_of_heap h]; rfl, by rw [cell_of_heap h]; rfl, by rw [cell_of_heap h]; rfl, by rw [cell_of_heap h]; rfl⟩, frozen_of_heap h _, frozen_of_heap h _, frozen_of_heap h _, frozen_of_heap h _⟩
theorem set_sum {W : World} {b : Nat} {x y z u : Value} {t : TypeId} (z' u' : Value) (h : W.heap[b]? = some (.cells #[x, y, z, u] t)) : ((W.setCell ⟨b, 2, none⟩ z').setCell ⟨b, 3, none⟩ u').heap[b]? = some (.cells #[x, y, z', u'] t) := by
  simp only [World.setCell, Array.getElem?_modify, if_pos, h]
  rfl
theorem set_four {W : World} {b : Nat} {x y z u : Value} {t : TypeId} (x' y' z' u' : Value) (h : W.heap[b]? = some (.cells #[x, y, z, u] t)) : ((((W.setCell ⟨b, 0, none⟩ x').setCell ⟨b, 1, none⟩ y').setCell ⟨b, 2, none⟩ z').setCell ⟨b, 3, none⟩ u').heap[b]? = some (.cells #[x', y', z', u'] t) := by
  simp only [World.setCell, Array.getElem?_modify, if_pos, h]
  rfl
theorem TrySt.set {w W : World} {n g : Int} {s : Nat} (s' : Nat) (h : TrySt w n g s W) : TrySt w n g s' ((W.setCell ⟨w.heap.size + 1 + 1, 2, none⟩ (.int .u64 0)).setCell ⟨w.heap.size + 1 + 1, 3, none⟩ (.int .u64 (s' : Nat))) :=
  ⟨(Below.heap_setCell _ _ _ _ (by simp)).trans ((Below.heap_setCell _ _ _ _ (by simp)).trans h.b1), set_sum _ _ h.b2, (h.below.setCell (p := ⟨w.heap.size + 1 + 1, 2, none⟩) (by show w.heap.size ≤ w.heap.size + 1 + 1; omega) _).setCell (p := ⟨w.heap.size + 1 + 1, 3, none⟩) (by show w.heap.size ≤ w.heap.size + 1 + 1; omega) _⟩
theorem TrySt.new (w : World) (n g : Int) : TrySt w n g 0 (((w.alloc (.cells #[.int .i64 n, .int .i64 g] 23)).alloc (.cells #[.int .i64 0, .int .i64 0, .int .u64 0, .int .u64 0] 51)).alloc (.cells #[.int .i64 n, .int .i64 g, .int .u64 0, .int .u64 0] 51)) := by
  have e1 := World.alloc_heap_new (w.alloc (.cells #[.int .i64 n, .int .i64 g] 23)) (.cells #[.int .i64 0, .int .i64 0, .int .u64 0, .int .u64 0] 51)
  have e2 := World.alloc_heap_new ((w.alloc (.cells #[.int .i64 n, .int .i64 g] 23)).alloc (.cells #[.int .i64 0, .int .i64 0, .int .u64 0, .int .u64 0] 51)) (.cells #[.int .i64 n, .int .i64 g, .int .u64 0, .int .u64 0] 51)
  simp only [World.size_alloc] at e1 e2
  exact ⟨(Below.heap_alloc _ _ _ (by simp)).trans e1, e2, (below2 w _ _).alloc (by simp; omega) _⟩

set_option maxHeartbeats 3200000 in
theorem cTried (n : Nat) (g : Int) (ao : Option Addr) (cap : Nat) (l : List Int) (w : World) (hg : 0 ≤ g ∧ g ≤ 15) (hn : n ≤ l.length) (hl : l.length ≤ 1000) (hcap : l.length ≤ cap) (hb : l.all inB = true) (hi : IntsAt w ao l) :
    Calls Try.prog 26 #[termV n g, .slice ao l.length cap] w fun e w' => e = .returned (trialL n g (sumN (offL n g l))) ∧ Below w.heap.size w w' := by
  have HS := Lib.hid (TrySt.new w n g)
  have HB := Lib.hid (all_B hb)
  have hc1 := cut_left0 ao l.length cap n (by omega)
  have hc2 := cut_right ao l.length cap n hn
  have hc3 := cut_left0 ao l.length cap (l.length - n) (by omega)
  have HAC := Lib.hid (hi.cut0 hcap)
  have HAR := Lib.hid (hi.cut hcap n)
  generalize cutA ao cap 0 = ac at *
  generalize cutA ao cap n = ar at *
  obtain ⟨m, hm⟩ : ∃ m, m = l.length - n := ⟨_, rfl⟩
  rw [← hm] at hc2 hc3
  have hm1 : n + m ≤ l.length := by omega
  have hm2 : l.length ≤ n + m := by omega
  clear hm
  have hol := offL_length n g l
  have HOL := Lib.hid hol
  have HSB : Hid (∀ c, sumN ((offL n g l).take c) ≤ 1000000000000000 * 1000) := fun c => by
    have h := sumN_bound (l := (offL n g l).take c) (fun x hx => by have := offL_bound (a := n) hg (all_B hb) x (List.mem_of_mem_take hx); omega)
    rw [List.length_take, hol] at h
    omega
  have HTK := fun x W hx => Lib.hid (cTaken n g x W hg hx)
  unfold termV trialL
  unfold termV at HTK
  obtain ⟨ws, hws⟩ : ∃ ws, ws = ((w.alloc (.cells #[.int .i64 (n : Int), .int .i64 g] 23)).alloc (.cells #[.int .i64 0, .int .i64 0, .int .u64 0, .int .u64 0] 51)).alloc (.cells #[.int .i64 (n : Int), .int .i64 g, .int .u64 0, .int .u64 0] 51) := ⟨_, rfl⟩
  clear hi hb hol
  go_enter Try.func26, Try.ntmps26
  go_wp2
  go_loopg [7, 19] n (fun gk q i wr => ∃ c : Nat, c ≤ n ∧ gk + c = n ∧ i = .int .i64 c ∧ Hid (TrySt w n g (sumN ((offL n g l).take c)) wr))
  case atStart => exact ⟨0, Nat.zero_le _, by omega, rfl, HS.out⟩
  case round =>
    obtain ⟨c, hc, hgk, rfl, HZ⟩ := hrel
    have HGK := Lib.hid hgk
    clear hgk
    by_cases hlt : c < n
    · obtain ⟨b, off, rfl, hbl, hcell⟩ := (HAC.out.below HZ.out.below) c (by omega)
      have hxb := HB.out l[c] (List.getElem_mem (by omega))
      have HSN : Hid (sumN ((offL n g l).take (c + 1)) = sumN ((offL n g l).take c) + (l[c]'(by omega)).natAbs) := by
        show _ = _
        rw [sumN_take (by rw [HOL.out]; omega), offL_at (by omega), offV_late hlt, getD_lt (by omega)]
      have hsb := HSB.out c
      generalize l[c] = x at *
      have HP := fun W => Lib.hid (cPlus (sumN ((offL n g l).take c)) x W (by omega) (by omega))
      generalize sumN ((offL n g l).take c) = s at *
      rw [← HSN.out] at HP
      obtain ⟨s', hs'⟩ : ∃ s', s' = sumN ((offL n g l).take (c + 1)) := ⟨_, rfl⟩
      rw [← hs'] at HP
      have HE := Lib.hid hs'
      unfold sizeV at HP
      obtain ⟨⟨k0, k1, k2, k3⟩, _⟩ := cells_four HZ.out.b2
      clear hs' hsb hxb hbl
      go_wp2_with fail
      refine (HP _).out.mono ?_
      rintro e w5 ⟨rfl, hb5⟩
      have HZ5 := Lib.hid (HZ.out.mono hb5)
      obtain ⟨⟨r0, r1, r2, r3⟩, _, _, f2, f3⟩ := cells_four HZ5.out.b2
      have HZ6 := Lib.hid (HZ5.out.set s')
      clear hb5 k0 k1 k2 k3
      go_wp2
      go_roundg (gk - 1)
      case rel => exact ⟨c + 1, by omega, by have := HGK.out; omega, by go_num, by rw [← HE.out]; exact HZ6⟩
      case measure => have := HGK.out; omega
    · obtain rfl : c = n := by omega
      obtain ⟨w1, rfl⟩ : ∃ w1, w1 = wr := ⟨_, rfl⟩
      have HZ1 := Lib.hid HZ.out
      obtain ⟨⟨k0, k1, k2, k3⟩, _⟩ := cells_four HZ1.out.b2
      clear HGK hc hlt HZ hws
      go_wp2
      go_loopg [9, 10, 39] m (fun gk q1 q2 i wr => ∃ j : Nat, j ≤ m ∧ gk + j = m ∧ i = .int .i64 j ∧ Hid (TrySt w c g (sumN ((offL c g l).take (c + j))) wr))
      case atStart => exact ⟨0, Nat.zero_le _, by omega, rfl, HZ1.out⟩
      case round =>
        obtain ⟨j, hj, hgk, rfl, HZ⟩ := hrel
        have HGK := Lib.hid hgk
        clear hgk k0 k1 k2 k3 HZ1
        by_cases hlt : j < m
        · obtain ⟨b, off, rfl, hbl, hcell⟩ := (HAC.out.below HZ.out.below) j (by omega)
          obtain ⟨b2, off2, rfl, hb2l, hcell2⟩ := HAR.out j (by rw [List.length_drop]; omega)
          rw [List.getElem_drop] at hcell2
          have hne : b2 ≠ w.heap.size + 1 + 1 := by omega
          have hyd0 := (HZ.out.below.cell (p := ⟨b2, off2 + j, none⟩) hb2l).trans hcell2
          have hb2d : b2 < wr.drew.heap.size := Nat.lt_of_lt_of_le hb2l HZ.out.below.size
          have hxb := HB.out l[j] (List.getElem_mem (by omega))
          have hyb := HB.out (l[c + j]'(by omega)) (List.getElem_mem (by omega))
          have htb := tk_bound hg hxb
          have hzv : offV c g l (c + j) = l[c + j]'(by omega) - tk g l[j] := by
            rw [offV_from (by omega), show c + j - c = j by omega, getD_lt (by omega), getD_lt (by omega)]
          have hzb := offV_bound (a := c) hg HB.out (c + j)
          have HSN : Hid (sumN ((offL c g l).take (c + (j + 1))) = sumN ((offL c g l).take (c + j)) + (offV c g l (c + j)).natAbs) := by
            show _ = _
            rw [← Nat.add_assoc, sumN_take (by rw [HOL.out]; omega), offL_at (by omega)]
          have hsb := HSB.out (c + j)
          have HT := fun W => Lib.hid (HTK l[j] W hxb).out
          generalize l[c + j] = y at *
          generalize tk g l[j] = t at *
          generalize l[j] = x at *
          generalize offV c g l (c + j) = z at *
          have hw : IntKind.i64.wrap (y - t) = z := by rw [IntWalk.i64_in _ (by omega)]; omega
          have HP := fun W => Lib.hid (cPlus (sumN ((offL c g l).take (c + j))) z W (by omega) (by omega))
          generalize sumN ((offL c g l).take (c + j)) = s at *
          rw [← HSN.out] at HP
          obtain ⟨s', hs'⟩ : ∃ s', s' = sumN ((offL c g l).take (c + (j + 1))) := ⟨_, rfl⟩
          rw [← hs'] at HP
          have HE := Lib.hid hs'
          unfold sizeV at HP
          obtain ⟨⟨k0, k1, k2, k3⟩, _⟩ := cells_four HZ.out.b2
          have HZD := Lib.hid HZ.out.drew
          have hyd : wr.drew.cell? ⟨b2, off2 + j, none⟩ = some (.int .i64 y) := hyd0
          clear hs' hsb hxb hyb htb hzv hzb hbl hb2l hcell2 HTK
          go_wp2_with fail
          refine wp_region_held_drew (S := fun w' => w'.cell? ⟨w.heap.size + 1 + 1, 0, none⟩ = some (.int .i64 (c : Int)) ∧ w'.cell? ⟨w.heap.size + 1 + 1, 1, none⟩ = some (.int .i64 g) ∧ w'.cell? ⟨b2, off2 + j, none⟩ = some (.int .i64 y)) (by kernel_rfl) ⟨k0, k1, hyd⟩ (fun hHeld => ?_)
          refine take_at (i := 0) (d := some 44) (v := ?_) rfl rfl (by kernel_rfl) (by kernel_rfl) (by kernel_rfl) (fun _ _ _ h => h) (Or.inl ⟨by rfl, ?_⟩) hHeld ?_
          rotate_left
          · intro w9 hSw; obtain ⟨s0, s1, s2⟩ := hSw; go_simp; try with_reducible rfl
          simp only [Act.put, List.setIfInBounds_toArray, List.set_cons_zero, List.set_cons_succ]
          refine take_at (i := 2) (d := some 46) (v := ?_) rfl rfl (by kernel_rfl) (by kernel_rfl) (by kernel_rfl) (fun _ _ _ h => h) (Or.inl ⟨by rfl, ?_⟩) hHeld ?_
          rotate_left
          · intro w9 hSw; obtain ⟨s0, s1, s2⟩ := hSw; go_simp; try with_reducible rfl
          simp only [Act.put, List.setIfInBounds_toArray, List.set_cons_zero, List.set_cons_succ]
          refine take_at (i := 3) (d := some 47) (v := ?_) rfl rfl (by kernel_rfl) (by kernel_rfl) (by kernel_rfl) (fun _ _ _ h => h) (Or.inl ⟨by rfl, ?_⟩) hHeld ?_
          rotate_left
          · intro w9 hSw; obtain ⟨s0, s1, s2⟩ := hSw; go_simp; try with_reducible rfl
          simp only [Act.put, List.setIfInBounds_toArray, List.set_cons_zero, List.set_cons_succ]
          refine take_at (i := 4) (d := some 48) (v := ?_) rfl rfl (by kernel_rfl) (by kernel_rfl) (by kernel_rfl) (fun _ _ _ h => h) (Or.inl ⟨by rfl, ?_⟩) hHeld ?_
          rotate_left
          · intro w9 hSw; obtain ⟨s0, s1, s2⟩ := hSw; go_simp; try with_reducible rfl
          simp only [Act.put, List.setIfInBounds_toArray, List.set_cons_zero, List.set_cons_succ]
          refine take_at (i := 5) (d := some 49) (v := ?_) rfl rfl (by kernel_rfl) (by kernel_rfl) (by kernel_rfl) (fun _ _ _ h => h) (Or.inl ⟨by rfl, ?_⟩) hHeld ?_
          rotate_left
          · intro w9 hSw; obtain ⟨s0, s1, s2⟩ := hSw; go_simp; try with_reducible rfl
          simp only [Act.put, List.setIfInBounds_toArray, List.set_cons_zero, List.set_cons_succ]
          refine take_at (i := 6) (d := some 50) (v := ?_) rfl rfl (by kernel_rfl) (by kernel_rfl) (by kernel_rfl) (fun _ _ _ h => h) (Or.inl ⟨by rfl, ?_⟩) hHeld ?_
          rotate_left
          · intro w9 hSw; obtain ⟨s0, s1, s2⟩ := hSw; go_simp; try with_reducible rfl
          simp only [Act.put, List.setIfInBounds_toArray, List.set_cons_zero, List.set_cons_succ]
          refine take_at (i := 7) (d := some 51) (v := ?_) rfl rfl (by kernel_rfl) (by kernel_rfl) (by kernel_rfl) (fun _ _ _ h => h) (Or.inl ⟨by rfl, ?_⟩) hHeld ?_
          rotate_left
          · intro w9 hSw; obtain ⟨s0, s1, s2⟩ := hSw; go_simp; try with_reducible rfl
          simp only [Act.put, List.setIfInBounds_toArray, List.set_cons_zero, List.set_cons_succ]
          refine take_at (i := 8) (d := some 52) (v := ?_) rfl rfl (by kernel_rfl) (by kernel_rfl) (by kernel_rfl) (fun _ _ _ h => h) (Or.inl ⟨by rfl, ?_⟩) hHeld ?_
          rotate_left
          · intro w9 hSw; obtain ⟨s0, s1, s2⟩ := hSw; go_simp; try with_reducible rfl
          simp only [Act.put, List.setIfInBounds_toArray, List.set_cons_zero, List.set_cons_succ]
          refine wpAnyH_ready (rs := [1, 9]) (by kernel_rfl) (by simp) ?_
          refine AllReadyH.cons rfl (fun K hK => ?_) ?_
          · go_simp
            refine hK.out _ _ ?_ (fun hHeld => ?_)
            · first | exact hHeld | exact ⟨k05, k15, hy5⟩ | exact ⟨k06, k16, hy6⟩ | exact ⟨(cells_four HZ7.out.b2).1.1, (cells_four HZ7.out.b2).1.2.1, (set_far hne).trans ((set_far hne).trans hy6)⟩
            clear hK K
            refine wpAnyH_ready (rs := [9]) (by kernel_rfl) (by simp) ?_
            refine AllReadyH.cons rfl (fun K hK => ?_) ?_
            · go_simp
              go_at_call 22
              refine (HT _).out.mono ?_
              rintro e w5 ⟨rfl, hb5⟩
              have HZ5 := Lib.hid (HZD.out.mono hb5)
              obtain ⟨⟨k05, k15, h25, h35⟩, _⟩ := cells_four HZ5.out.b2
              have hy5 := (hb5.cell (p := ⟨b2, off2 + j, none⟩) hb2d).trans hyd
              have hb25 : b2 < w5.heap.size := Nat.lt_of_lt_of_le hb2d hb5.size
              clear hb5
              go_wp2
              refine hK.out _ _ ?_ (fun hHeld => ?_)
              · first | exact hHeld | exact ⟨k05, k15, hy5⟩ | exact ⟨k06, k16, hy6⟩ | exact ⟨(cells_four HZ7.out.b2).1.1, (cells_four HZ7.out.b2).1.2.1, (set_far hne).trans ((set_far hne).trans hy6)⟩
              clear hK K
              refine take_at (i := 10) (d := some 54) (v := ?_) rfl rfl (by kernel_rfl) (by kernel_rfl) (by kernel_rfl) (fun _ _ _ h => h) (Or.inl ⟨by rfl, ?_⟩) hHeld ?_
              rotate_left
              · intro w9 hSw; obtain ⟨s0, s1, s2⟩ := hSw; go_simp; try with_reducible rfl
              simp only [Act.put, List.setIfInBounds_toArray, List.set_cons_zero, List.set_cons_succ]
              refine wpAnyH_ready (rs := [11]) (by kernel_rfl) (by simp) ?_
              refine AllReadyH.cons rfl (fun K hK => ?_) ?_
              · go_simp
                go_at_call 29
                refine (HP _).out.mono ?_
                rintro e w6 ⟨rfl, hb6⟩
                have HZ6 := Lib.hid (HZ5.out.mono hb6)
                obtain ⟨⟨k06, k16, h26, h36⟩, _, _, f26, f36⟩ := cells_four HZ6.out.b2
                have hy6 := (hb6.cell (p := ⟨b2, off2 + j, none⟩) hb25).trans hy5
                have HZ7 := Lib.hid (HZ6.out.set s')
                clear hb6
                go_wp2
                refine hK.out _ _ ?_ (fun hHeld => ?_)
                · first | exact hHeld | exact ⟨k05, k15, hy5⟩ | exact ⟨k06, k16, hy6⟩ | exact ⟨(cells_four HZ7.out.b2).1.1, (cells_four HZ7.out.b2).1.2.1, (set_far hne).trans ((set_far hne).trans hy6)⟩
                clear hK K
                refine take_at (i := 12) (d := some 56) (v := ?_) rfl rfl (by kernel_rfl) (by kernel_rfl) (by kernel_rfl) (fun _ _ _ h => h) (Or.inl ⟨by rfl, ?_⟩) hHeld ?_
                rotate_left
                · intro w9 hSw; obtain ⟨s0, s1, s2⟩ := hSw; go_simp; try with_reducible rfl
                simp only [Act.put, List.setIfInBounds_toArray, List.set_cons_zero, List.set_cons_succ]
                refine wpAnyH_ready (rs := [13]) (by kernel_rfl) (by simp) ?_
                refine AllReadyH.cons rfl (fun K hK => ?_) ?_
                · go_simp
                  refine hK.out _ _ ?_ (fun hHeld => ?_)
                  · first | exact hHeld | exact ⟨k05, k15, hy5⟩ | exact ⟨k06, k16, hy6⟩ | exact ⟨(cells_four HZ7.out.b2).1.1, (cells_four HZ7.out.b2).1.2.1, (set_far hne).trans ((set_far hne).trans hy6)⟩
                  clear hK K
                  refine wpAnyH_done (by kernel_rfl) ?_ _
                  clear hHeld k05 k15 h25 h35 hy5 k06 k16 h26 h36 hy6 f26 f36
                  generalize (w6.setCell ⟨w.heap.size + 1 + 1, 2, none⟩ (.int .u64 0)).setCell ⟨w.heap.size + 1 + 1, 3, none⟩ (.int .u64 (s' : Nat)) = w7 at *
                  go_wp2
                  go_roundg (gk - 1)
                  case rel => exact ⟨j + 1, by omega, by have := HGK.out; omega, by go_num, by rw [← HE.out]; exact HZ7⟩
                  case measure => have := HGK.out; omega
                exact AllReadyH.nil
              exact AllReadyH.nil
            exact AllReadyH.nil
          refine AllReadyH.cons rfl (fun K hK => ?_) ?_
          · go_simp
            go_at_call 22
            refine (HT _).out.mono ?_
            rintro e w5 ⟨rfl, hb5⟩
            have HZ5 := Lib.hid (HZD.out.mono hb5)
            obtain ⟨⟨k05, k15, h25, h35⟩, _⟩ := cells_four HZ5.out.b2
            have hy5 := (hb5.cell (p := ⟨b2, off2 + j, none⟩) hb2d).trans hyd
            have hb25 : b2 < w5.heap.size := Nat.lt_of_lt_of_le hb2d hb5.size
            clear hb5
            go_wp2
            refine hK.out _ _ ?_ (fun hHeld => ?_)
            · first | exact hHeld | exact ⟨k05, k15, hy5⟩ | exact ⟨k06, k16, hy6⟩ | exact ⟨(cells_four HZ7.out.b2).1.1, (cells_four HZ7.out.b2).1.2.1, (set_far hne).trans ((set_far hne).trans hy6)⟩
            clear hK K
            refine take_at (i := 10) (d := some 54) (v := ?_) rfl rfl (by kernel_rfl) (by kernel_rfl) (by kernel_rfl) (fun _ _ _ h => h) (Or.inl ⟨by rfl, ?_⟩) hHeld ?_
            rotate_left
            · intro w9 hSw; obtain ⟨s0, s1, s2⟩ := hSw; go_simp; try with_reducible rfl
            simp only [Act.put, List.setIfInBounds_toArray, List.set_cons_zero, List.set_cons_succ]
            refine wpAnyH_ready (rs := [1]) (by kernel_rfl) (by simp) ?_
            refine AllReadyH.cons rfl (fun K hK => ?_) ?_
            · go_simp
              refine hK.out _ _ ?_ (fun hHeld => ?_)
              · first | exact hHeld | exact ⟨k05, k15, hy5⟩ | exact ⟨k06, k16, hy6⟩ | exact ⟨(cells_four HZ7.out.b2).1.1, (cells_four HZ7.out.b2).1.2.1, (set_far hne).trans ((set_far hne).trans hy6)⟩
              clear hK K
              refine wpAnyH_ready (rs := [11]) (by kernel_rfl) (by simp) ?_
              refine AllReadyH.cons rfl (fun K hK => ?_) ?_
              · go_simp
                go_at_call 29
                refine (HP _).out.mono ?_
                rintro e w6 ⟨rfl, hb6⟩
                have HZ6 := Lib.hid (HZ5.out.mono hb6)
                obtain ⟨⟨k06, k16, h26, h36⟩, _, _, f26, f36⟩ := cells_four HZ6.out.b2
                have hy6 := (hb6.cell (p := ⟨b2, off2 + j, none⟩) hb25).trans hy5
                have HZ7 := Lib.hid (HZ6.out.set s')
                clear hb6
                go_wp2
                refine hK.out _ _ ?_ (fun hHeld => ?_)
                · first | exact hHeld | exact ⟨k05, k15, hy5⟩ | exact ⟨k06, k16, hy6⟩ | exact ⟨(cells_four HZ7.out.b2).1.1, (cells_four HZ7.out.b2).1.2.1, (set_far hne).trans ((set_far hne).trans hy6)⟩
                clear hK K
                refine take_at (i := 12) (d := some 56) (v := ?_) rfl rfl (by kernel_rfl) (by kernel_rfl) (by kernel_rfl) (fun _ _ _ h => h) (Or.inl ⟨by rfl, ?_⟩) hHeld ?_
                rotate_left
                · intro w9 hSw; obtain ⟨s0, s1, s2⟩ := hSw; go_simp; try with_reducible rfl
                simp only [Act.put, List.setIfInBounds_toArray, List.set_cons_zero, List.set_cons_succ]
                refine wpAnyH_ready (rs := [13]) (by kernel_rfl) (by simp) ?_
                refine AllReadyH.cons rfl (fun K hK => ?_) ?_
                · go_simp
                  refine hK.out _ _ ?_ (fun hHeld => ?_)
                  · first | exact hHeld | exact ⟨k05, k15, hy5⟩ | exact ⟨k06, k16, hy6⟩ | exact ⟨(cells_four HZ7.out.b2).1.1, (cells_four HZ7.out.b2).1.2.1, (set_far hne).trans ((set_far hne).trans hy6)⟩
                  clear hK K
                  refine wpAnyH_done (by kernel_rfl) ?_ _
                  clear hHeld k05 k15 h25 h35 hy5 k06 k16 h26 h36 hy6 f26 f36
                  generalize (w6.setCell ⟨w.heap.size + 1 + 1, 2, none⟩ (.int .u64 0)).setCell ⟨w.heap.size + 1 + 1, 3, none⟩ (.int .u64 (s' : Nat)) = w7 at *
                  go_wp2
                  go_roundg (gk - 1)
                  case rel => exact ⟨j + 1, by omega, by have := HGK.out; omega, by go_num, by rw [← HE.out]; exact HZ7⟩
                  case measure => have := HGK.out; omega
                exact AllReadyH.nil
              exact AllReadyH.nil
            exact AllReadyH.nil
          exact AllReadyH.nil
        · obtain rfl : j = m := by omega
          have hZ := HZ.out
          rw [List.take_of_length_le (by rw [HOL.out]; omega)] at hZ
          have HZH := Lib.hid hZ
          obtain ⟨⟨p0, p1, p2, p3⟩, _⟩ := cells_four hZ.b2
          obtain ⟨⟨q0, q1, q2, q3⟩, g0, g1, g2, g3⟩ := cells_four hZ.b1
          obtain ⟨s, hs⟩ : ∃ s, s = sumN (offL c g l) := ⟨_, rfl⟩
          rw [← hs] at p3
          have HSS := Lib.hid hs
          clear hZ hs HZ HSB HGK
          have e0 := set_four (.int .i64 (c : Int)) (.int .i64 g) (.int .u64 0) (.int .u64 (s : Nat)) HZH.out.b1
          obtain ⟨⟨r0, r1, r2, r3⟩, _⟩ := cells_four e0
          have R0 := Lib.hid r0
          have R1 := Lib.hid r1
          have R2 := Lib.hid r2
          have R3 := Lib.hid r3
          have HBE := Lib.hid ((((HZH.out.below.setCell (p := ⟨w.heap.size + 1, 0, none⟩) (by show w.heap.size ≤ w.heap.size + 1; omega) (.int .i64 (c : Int))).setCell (p := ⟨w.heap.size + 1, 1, none⟩) (by show w.heap.size ≤ w.heap.size + 1; omega) (.int .i64 g)).setCell (p := ⟨w.heap.size + 1, 2, none⟩) (by show w.heap.size ≤ w.heap.size + 1; omega) (.int .u64 0)).setCell (p := ⟨w.heap.size + 1, 3, none⟩) (by show w.heap.size ≤ w.heap.size + 1; omega) (.int .u64 (s : Nat)))
          clear r0 r1 r2 r3 e0
          go_wp2
          refine bodyPost_ret (v := .agg #[.int .i64 (c : Int), .int .i64 g, .int .u64 0, .int .u64 (s : Nat)]) (by simp [results, Try.results26, go_sem, R0.out, R1.out, R2.out, R3.out]) rfl ?_
          exact ⟨by rw [HSS.out], HBE.out⟩
end Go.Proofs.Ytcgkalfclammfab
