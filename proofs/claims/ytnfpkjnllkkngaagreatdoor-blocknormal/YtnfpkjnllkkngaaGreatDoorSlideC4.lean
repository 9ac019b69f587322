import Derived.Test.YtnfpkjnllkkngaaGreatDoorSlideC1c
import Derived.Test.YtnfpkjnllkkngaaGreatDoorSlideC3
import Derived.Test.YtnfpkjnllkkngaaGreatDoorRef3g

namespace Go.Proofs.YtnfpkjnllkkngaaGreatDoor
open Go.RowKit Go.Shelf Go.Proofs Go.Proofs.PipeM Go.Proofs.PipeA
set_option maxRecDepth 100000

theorem cellA {W : World} {a : Addr} {v : Value} (o : Obj) (h : W.cell? a = some v) : (W.alloc o).cell? a = some v := cell_kept h (World.grownBy_alloc W o none) (fun r e => by cases e)

set_option maxHeartbeats 800000 in
theorem cBits_no (lo ao : Option Addr) (lcap cap : Nat) (l : List Int) (P : Int) (ks : List Int) (w : World) (hl : l.length ≤ 1000000) (hk : ks.length ≤ 1000000) (hi : IntsAt w lo l) (hj : IntsAt w ao ks) (h : slideOk l P ks = false) :
    Calls Tryz.prog 82 #[.slice lo l.length lcap, .agg #[.int .i64 P, .slice ao ks.length cap]] w fun e w' => e = .returned (.int .i64 (slideLen l P ks)) ∧ Below w.heap.size w w' := by
  have HS : Hid (slideLen l P ks = 0) := by show _ = _; unfold slideLen slideBits; rw [h]; rfl
  have HM := fun o => Lib.hid (cMayTell lo ao lcap cap l P ks (w.alloc o) hl hk (hi.below (box_below w o)) (hj.below (box_below w o)))
  have HB := fun o => Lib.hid (box_below w o)
  rw [h] at HM
  clear hi hj h
  generalize ks.length = kl at HM hk ⊢
  generalize l.length = ll at HM hl ⊢
  go_enter Tryz.func82, Tryz.ntmps82
  go_wp2_with (go_at_call 86; refine (HM _).out.mono ?_; rintro e w1 ⟨rfl, hb⟩)
  go_ret
  exact ⟨by rw [HS.out]; rfl, (HB _).out.trans (hb.mono (HB _).out.size)⟩

attribute [local go_sem] Oper.semAt_some

/-- How many bits the parts that have come have. -/
def sumP (f : Nat → Nat) {m : Nat} (pre : List (Fin m)) : Nat := (pre.map fun j => f j.val).sum
theorem sumP_snoc (f : Nat → Nat) {m : Nat} (pre : List (Fin m)) (x : Fin m) : sumP f (pre ++ [x]) = sumP f pre + f x.val := by simp [sumP]
theorem sumP_le (f : Nat → Nat) (k : Nat) {m : Nat} (h : ∀ j, j < m → f j ≤ k) : ∀ pre : List (Fin m), sumP f pre ≤ pre.length * k
  | [] => by simp [sumP]
  | x :: r => by
    have := sumP_le f k h r
    have h1 := h x.val x.2
    simp only [sumP, List.map_cons, List.sum_cons, List.length_cons, Nat.add_mul, Nat.one_mul] at this ⊢
    omega
theorem sum_range (f : Nat → Nat) : ∀ n, ((List.range n).map f).sum = sumTo f n
  | 0 => rfl
  | n + 1 => by rw [List.range_succ, List.map_append, List.sum_append, sum_range f n]; simp [sumTo]
theorem sumP_all (f : Nat → Nat) {m : Nat} {xs : List (Fin m)} (h : xs.map (·.val) = List.range m) : sumP f xs = sumTo f m := by
  rw [← sum_range, ← h, List.map_map]; rfl

set_option maxHeartbeats 3200000 in
theorem cBits_yes (lo ao : Option Addr) (lcap cap : Nat) (l : List Int) (P : Int) (ks : List Int) (w : World) (hcap : l.length ≤ lcap) (hi : IntsAt w lo l) (hj : IntsAt w ao ks) (h : slideOk l P ks = true) :
    Calls Tryz.prog 82 #[.slice lo l.length lcap, .agg #[.int .i64 P, .slice ao ks.length cap]] w fun e w' => e = .returned (.int .i64 (slideLen l P ks)) ∧ Below w.heap.size w w' := by
  obtain ⟨p, rfl, h3, hk1, hk8, hk0, hl1, hl2, hs1, hs2, hsp, hks, hin⟩ := slide_parts h
  have HSE := Lib.hid (slide_len h)
  have HM := fun o => Lib.hid (cMayTell lo ao lcap cap l p ks (w.alloc o) (by omega) (by omega) (hi.below (box_below w o)) (hj.below (box_below w o)))
  rw [h] at HM
  obtain ⟨size, hsize⟩ : ∃ size, size = l.length / ks.length := ⟨_, rfl⟩
  rw [← hsize] at hs1 hs2 hsp HSE
  have HKS := Lib.hid hks
  have HIN := Lib.hid hin
  obtain ⟨g, off, rfl, hg0, _⟩ := hi 0 hl1
  obtain ⟨ga, offa, rfl, hga0, _⟩ := hj 0 hk0
  have HI := Lib.hid hi
  have HJ := Lib.hid hj
  have HB := fun o => Lib.hid (box_below w o)
  obtain ⟨len, hlen⟩ : ∃ len, len = l.length := ⟨_, rfl⟩
  obtain ⟨m, hm⟩ : ∃ m, m = ks.length := ⟨_, rfl⟩
  rw [← hlen] at hl1 hl2 hcap HM hsp ⊢
  rw [← hm] at hk8 hk0 HM HSE hsp hk1 ⊢
  have HST := fun c t W => Lib.hid (each1_stops (n := 4) g off len lcap p size m c t W (by omega) h3 hk1 hsp hs1 hl2 hcap)
  have HLEN := Lib.hid hlen
  have HML := Lib.hid hm
  have HPT := fun W => Lib.hid (cParts (some ⟨g, off, none⟩) len lcap p W h3)
  have HSP := Lib.hid hsp
  clear hsize hsp hks hin h hk1 hlen hm hi hj
  refine (callsIn_wide (n := 5)).1 ?_
  refine callsIn_of_wp_marks Tryz.func82 rfl trivial ?_ rfl
  simp only [Tryz.ntmps82, List.size_toArray, List.length_cons, List.length_nil, Nat.reduceAdd, Nat.reduceSub, Array.replicate_succ, Array.replicate_zero, List.push_toArray, List.append_toArray, List.nil_append, List.cons_append]
  gi_wp2_with fail
  refine ⟨trivial, (callsIn_wide.2 (HM _).out).mono ?_⟩
  rintro e w1 ⟨rfl, hb⟩
  have HB1 := Lib.hid ((HB _).out.trans (hb.mono (HB _).out.size))
  have c0 : w1.cell? ⟨w.heap.size, 0, none⟩ = some (.int .i64 p) := (hb.cell (p := ⟨w.heap.size, 0, none⟩) (by simp)).trans (by simp)
  have c1 : w1.cell? ⟨w.heap.size, 1, none⟩ = some (.slice (some ⟨ga, offa, none⟩) m cap) := (hb.cell (p := ⟨w.heap.size, 1, none⟩) (by simp)).trans (by simp)
  have hsz1 : w.heap.size + 1 ≤ w1.heap.size := by have := hb.size; simpa using this
  have d0 := cellA (.cells #[.int .i64 2] 3) c0
  have d1 := cellA (.cells #[.int .i64 2] 3) c1
  have d2 : (w1.alloc (.cells #[.int .i64 2] 3)).cell? ⟨w1.heap.size, 0, none⟩ = some (.int .i64 2) := by simp
  have d3 : (w1.alloc (.cells #[.int .i64 2] 3)).frozen? ⟨w1.heap.size, 0, none⟩ = false := by simp
  have HB2 := Lib.hid (HB1.out.alloc HB1.out.size (.cells #[.int .i64 2] 3))
  have hsz2 : w1.heap.size + 1 ≤ (w1.alloc (.cells #[.int .i64 2] 3)).heap.size := by simp
  clear hb HM HB c0 c1 HB1
  gi_wp2_with fail
  refine ⟨trivial, (callsIn_wide.2 (HPT _).out).mono ?_⟩
  generalize hWA : w1.alloc (.cells #[.int .i64 2] 3) = wa at d0 d1 d2 d3 HB2 hsz2 ⊢
  generalize hB5 : w1.heap.size = B5 at hsz1 d2 d3 hsz2 ⊢
  clear hWA hB5
  rintro e w2 ⟨c, t, rfl, hpa, hc1, ht1, hc2, ht2, hb2⟩
  unfold partsF
  gi_wp2_with fail
  have hbb := Lib.hid (HB2.out.trans (hb2.mono HB2.out.size))
  have hB5 : B5 < w2.heap.size := Nat.lt_of_lt_of_le hsz2 hb2.size
  have hne1 : w.heap.size ≠ B5 := by omega
  have hne2 : g ≠ B5 := by omega
  have hne3 : ga ≠ B5 := by omega
  have hne4 : c ≠ B5 := by omega
  have hne5 : t ≠ B5 := by omega
  have hws : w.heap.size < w2.heap.size := by omega
  have hgs : g < w2.heap.size := by omega
  have hgas : ga < w2.heap.size := by omega
  have e1 := (hb2.cell (p := ⟨w.heap.size, 1, none⟩) (by show w.heap.size < _; omega)).trans d1
  have e2 := (hb2.cell (p := ⟨B5, 0, none⟩) (by show B5 < _; omega)).trans d2
  have e3 := (hb2.frozen (p := ⟨B5, 0, none⟩) (by show B5 < _; omega)).trans d3
  have HI2 := Lib.hid (HI.out.below hbb.out)
  have HJ2 := Lib.hid (HJ.out.below hbb.out)
  have hseq := (HST c t w2).out hpa hc2 ht2
  clear d0 d1 d2 d3 HB2 hb2 hpa HST HI HJ HPT
  have hpl : ∀ j, j < m → partLen size ks l j ≤ 5 + 59 * 1024 := fun j hj => by
    have hjk : j < ks.length := by have := HML.out; omega
    have hg : ks.getD j 0 = ks[j] := by rw [List.getD, List.getElem?_eq_getElem hjk]; rfl
    have h1 := HKS.out ks[j] (List.getElem_mem hjk)
    have h2 := totalN_le (partNo size l j) (ks.getD j 0).toNat (by rw [hg]; omega)
    have h3 : (partNo size l j).length ≤ size := by unfold partNo; simp; omega
    unfold partLen
    omega
  refine wpIn_rangeFunc_ownG rfl (by omega) (gf := 112) (lb := #[.pointer (some ⟨c, 0, none⟩), .pointer (some ⟨t, 0, none⟩)]) rfl trivial (enters_of Tryz.func112 (by kernel_rfl) rfl)
    hseq kpB_t (kpB_b hc2 ht2) (Below.refl _ _) (fun _ => rfl)
    (fun pre W => (W.cell? ⟨B5, 0, none⟩ = some (.int .i64 ((2 + sumP (partLen size ks l) pre : Nat) : Int)) ∧ W.frozen? ⟨B5, 0, none⟩ = false) ∧ Keeps [B5] w2 W)
    (fun _ _ _ => False)
    ((own_cell ⟨B5, 0, none⟩ _).and own_keeps) (fun _ _ _ _ _ hs _ _ => hs.elim)
    ⟨⟨e2, e3⟩, Keeps.refl _ _⟩
    (fun x => { tmps := #[.slice (some ⟨g, off, none⟩) len lcap, .agg #[.int .i64 p, .slice (some ⟨ga, offa, none⟩) m cap], undef, .pointer (some ⟨w.heap.size, 0, none⟩), .int .i64 0, .pointer (some ⟨B5, 0, none⟩), .int .i64 ((x.val : Nat) : Int), partV g off size lcap x.val,
      .slice (some ⟨g, off, none⟩) len lcap, .agg #[.int .i64 p, .slice (some ⟨ga, offa, none⟩) m cap], .bool true, .bool false, .slice (some ⟨g, off, none⟩) len lcap, .pointer (some ⟨w.heap.size, 0, none⟩), .int .i64 p, .agg #[.slice (some ⟨g, off, none⟩) len lcap, .int .i64 p],
      .func (.func 112) #[] #[.pointer (some ⟨c, 0, none⟩), .pointer (some ⟨t, 0, none⟩)], .int .i64 ((x.val : Nat) : Int), partV g off size lcap x.val, undef, undef, undef, undef, undef, undef, undef, undef, undef, undef, undef], defers := [] }) ?assign ?body ?done ?stop
  case assign =>
    intro l' x W K hK
    unfold encP partV
    unfold partV at hK
    gi_wp2
    exact hK
  case body =>
    rintro l' pre ⟨x, hx⟩ W ⟨⟨hc, hf⟩, hK⟩ hpre
    have hmx : Tryz.prog.follows .mixedOrders = true := by kernel_rfl
    have hxk : x < ks.length := by have := HML.out; omega
    have hx1 : (x + 1) * size ≤ l.length := by
      rw [← HLEN.out, HSP.out, Nat.mul_comm size]
      exact Nat.mul_le_mul_right size hx
    have kcell : W.cell? ⟨ga, offa + x, none⟩ = some (.int .i64 ks[x]) := by
      obtain ⟨g', off', h1, h2, h3⟩ := HJ2.out x hxk
      cases h1
      exact (hK.cell (p := ⟨ga, offa + x, none⟩) h2 (by simp; exact hne3)).trans h3
    have k1 := (hK.cell (p := ⟨w.heap.size, 1, none⟩) hws (by simp; exact hne1)).trans e1
    have hkr := HKS.out ks[x] (List.getElem_mem hxk)
    have HIW := Lib.hid ((HI2.out.keeps hK (by intro g' off' hh; cases hh; simp; exact hne2)).part size x hx1)
    have HTT := fun W' (h : Below W.heap.size W W') => Lib.hid (cTotal (some ⟨g, off + x * size, none⟩) (lcap - x * size) (partNo size l x) ks[x].toNat W' (by rw [partNo_length hx1]; omega) (HIW.out.below h) (partNo_in HIN.out) (by omega))
    rw [partNo_length hx1] at HTT
    have hb1 := sumP_le (partLen size ks l) _ hpl pre
    have hb2 : pre.length * (5 + 59 * 1024) ≤ 8 * (5 + 59 * 1024) := Nat.mul_le_mul_right _ (by omega)
    have htl := hpl x hx
    have hpx : partLen size ks l x = 5 + totalN (partNo size l x) ks[x].toNat := by
      unfold partLen
      rw [show ks.getD x 0 = ks[x] by rw [List.getD, List.getElem?_eq_getElem hxk]; rfl]
    have HSN := Lib.hid (sumP_snoc (partLen size ks l) pre ⟨x, hx⟩)
    rw [hpx] at HSN htl
    generalize sumP (partLen size ks l) pre = sp at hb1 HSN hc
    generalize totalN (partNo size l x) ks[x].toNat = tt at HTT HSN htl
    generalize ks[x] = k at kcell hkr HTT
    obtain ⟨kn, rfl⟩ := Int.eq_ofNat_of_zero_le hkr.1
    rw [Int.toNat_natCast] at HTT
    have HK := Lib.hid hK
    have hBW : B5 < W.heap.size := Nat.lt_of_lt_of_le hB5 hK.size
    have hcW : c < W.heap.size := Nat.lt_of_lt_of_le hc2 hK.size
    have htW : t < W.heap.size := Nat.lt_of_lt_of_le ht2 hK.size
    clear hpx hxk hx1 hK hkr hb2
    have HEND : ∀ w3, Below W.drew.heap.size W.drew w3 → (fun W' => KeepsFrom w2.heap.size W W' ∧ KpB c t W W' ∧ ((W'.cell? ⟨B5, 0, none⟩ = some (.int .i64 ((2 + sumP (partLen size ks l) (pre ++ [⟨x, hx⟩]) : Nat) : Int)) ∧ W'.frozen? ⟨B5, 0, none⟩ = false) ∧ Keeps [B5] w2 W')) (w3.setCell ⟨B5, 0, none⟩ (.int .i64 (IntKind.i64.wrap (2 + (sp : Int) + IntKind.i64.wrap (5 + (tt : Int)))))) := by
      intro w3 hb3
      have hB3 : w3.cell? ⟨B5, 0, none⟩ = some (.int .i64 ((2 + sp : Nat) : Int)) := (hb3.cell (p := ⟨B5, 0, none⟩) hBW).trans hc
      have hF3 : w3.frozen? ⟨B5, 0, none⟩ = false := (hb3.frozen (p := ⟨B5, 0, none⟩) hBW).trans hf
      have kk : Keeps [B5] W (w3.setCell ⟨B5, 0, none⟩ (.int .i64 (IntKind.i64.wrap (2 + (sp : Int) + IntKind.i64.wrap (5 + (tt : Int)))))) := ((keeps_drew_b W [B5]).trans (keeps_of_below hb3 [B5])).trans (keeps_setCell w3 B5 0 _)
      refine ⟨keepsFrom_of kk (fun k hk => by simp at hk; subst hk; exact Or.inl hB5), kpB_keeps kk hcW htW (by simp; exact hne4) (by simp; exact hne5), ⟨?_, ?_⟩, HK.out.trans kk⟩
      · rw [World.cell?_setCell_same' _ _ _ (by rw [hB3]; rfl), HSN.out]
        congr 2
        rw [IntWalk.i64_in (5 + (tt : Int)) ⟨by omega, by omega⟩, IntWalk.i64_in _ ⟨by omega, by omega⟩]
        omega
      · rw [World.frozen?_setCell]; exact hF3
    unfold partV
    gi_wp2_with fail
    refine regionR hmx (by kernel_rfl) ?_
    refine wpAnyIn_take (i := 1) (v := ?_) rfl rfl (by kernel_rfl) (by kernel_rfl) (by kernel_rfl) (fun _ _ _ h => h) ⟨Or.inl ⟨by rfl, ?_⟩, fun _ => rfl⟩ ?_
    rotate_left
    · intro w9; go_simp; try with_reducible rfl
    refine wpAnyIn_take (i := 2) (v := ?_) rfl rfl (by kernel_rfl) (by kernel_rfl) (by kernel_rfl) (fun _ _ _ h => h) ⟨Or.inl ⟨by rfl, ?_⟩, fun _ => rfl⟩ ?_
    rotate_left
    · intro w9; go_simp; try with_reducible rfl
    refine wpAnyIn_take (i := 4) (v := ?_) rfl rfl (by kernel_rfl) (by kernel_rfl) (by kernel_rfl) (fun _ _ _ h => h) ⟨Or.inl ⟨by rfl, ?_⟩, fun _ => rfl⟩ ?_
    rotate_left
    · intro w9; go_simp; try with_reducible rfl
    refine wpAnyIn_ready (rs := [0, 3]) (by kernel_rfl) (by simp) ?_
    refine AllReadyIn.cons rfl (fun K hK => ?_) ?_
    · go_simp
      refine hK _ _ ?_
      clear hK K
      refine wpAnyIn_ready (rs := [3]) (by kernel_rfl) (by simp) ?_
      refine AllReadyIn.cons rfl (fun K hK => ?_) ?_
      · go_simp
        refine hK _ _ ?_
        clear hK K
        refine wpAnyIn_take (i := 5) (v := ?_) rfl rfl (by kernel_rfl) (by kernel_rfl) (by kernel_rfl) (fun _ _ _ h => h) ⟨Or.inl ⟨by rfl, ?_⟩, fun _ => rfl⟩ ?_
        rotate_left
        · intro w9; go_simp; try with_reducible rfl
        refine wpAnyIn_ready (rs := [6]) (by kernel_rfl) (by simp) ?_
        refine AllReadyIn.cons rfl (fun K hK => ?_) ?_
        · go_simp
          refine hK _ _ ?_
          clear hK K
          refine wpAnyIn_ready (rs := [7]) (by kernel_rfl) (by simp) ?_
          refine AllReadyIn.cons rfl (fun K hK => ?_) ?_
          · go_simp
            refine ⟨trivial, (callsIn_wide.2 (HTT _ ((keeps_drew W).below (Nat.le_refl _) (by simp))).out).mono ?_⟩
            rintro e w3 ⟨rfl, hb3⟩
            have b1 : w3.cell? ⟨B5, 0, none⟩ = some (.int .i64 ((2 + sp : Nat) : Int)) := (hb3.cell (p := ⟨B5, 0, none⟩) hBW).trans hc
            have b2 : w3.frozen? ⟨B5, 0, none⟩ = false := (hb3.frozen (p := ⟨B5, 0, none⟩) hBW).trans hf
            refine hK _ _ ?_
            clear hK K
            refine wpAnyIn_take (i := 8) (v := ?_) rfl rfl (by kernel_rfl) (by kernel_rfl) (by kernel_rfl) (fun _ _ _ h => h) ⟨Or.inl ⟨by rfl, ?_⟩, fun _ => rfl⟩ ?_
            rotate_left
            · intro w9; go_simp; try with_reducible rfl
            refine wpAnyIn_take (i := 9) (v := ?_) rfl rfl (by kernel_rfl) (by kernel_rfl) (by kernel_rfl) (fun _ _ _ h => h) ⟨Or.inl ⟨by rfl, ?_⟩, fun _ => rfl⟩ ?_
            rotate_left
            · intro w9; go_simp; try with_reducible rfl
            refine wpAnyIn_ready (rs := [10]) (by kernel_rfl) (by simp) ?_
            refine AllReadyIn.cons rfl (fun K hK => ?_) ?_
            · go_simp
              refine hK _ _ ?_
              clear hK K
              refine wpAnyIn_done (by kernel_rfl) ?_ _
              gi_wp2
              exact HEND w3 hb3
            exact AllReadyIn.nil
          exact AllReadyIn.nil
        exact AllReadyIn.nil
      exact AllReadyIn.nil
    refine AllReadyIn.cons rfl (fun K hK => ?_) ?_
    · go_simp
      refine hK _ _ ?_
      clear hK K
      refine wpAnyIn_take (i := 5) (v := ?_) rfl rfl (by kernel_rfl) (by kernel_rfl) (by kernel_rfl) (fun _ _ _ h => h) ⟨Or.inl ⟨by rfl, ?_⟩, fun _ => rfl⟩ ?_
      rotate_left
      · intro w9; go_simp; try with_reducible rfl
      refine wpAnyIn_ready (rs := [0, 6]) (by kernel_rfl) (by simp) ?_
      refine AllReadyIn.cons rfl (fun K hK => ?_) ?_
      · go_simp
        refine hK _ _ ?_
        clear hK K
        refine wpAnyIn_ready (rs := [6]) (by kernel_rfl) (by simp) ?_
        refine AllReadyIn.cons rfl (fun K hK => ?_) ?_
        · go_simp
          refine hK _ _ ?_
          clear hK K
          refine wpAnyIn_ready (rs := [7]) (by kernel_rfl) (by simp) ?_
          refine AllReadyIn.cons rfl (fun K hK => ?_) ?_
          · go_simp
            refine ⟨trivial, (callsIn_wide.2 (HTT _ ((keeps_drew W).below (Nat.le_refl _) (by simp))).out).mono ?_⟩
            rintro e w3 ⟨rfl, hb3⟩
            have b1 : w3.cell? ⟨B5, 0, none⟩ = some (.int .i64 ((2 + sp : Nat) : Int)) := (hb3.cell (p := ⟨B5, 0, none⟩) hBW).trans hc
            have b2 : w3.frozen? ⟨B5, 0, none⟩ = false := (hb3.frozen (p := ⟨B5, 0, none⟩) hBW).trans hf
            refine hK _ _ ?_
            clear hK K
            refine wpAnyIn_take (i := 8) (v := ?_) rfl rfl (by kernel_rfl) (by kernel_rfl) (by kernel_rfl) (fun _ _ _ h => h) ⟨Or.inl ⟨by rfl, ?_⟩, fun _ => rfl⟩ ?_
            rotate_left
            · intro w9; go_simp; try with_reducible rfl
            refine wpAnyIn_take (i := 9) (v := ?_) rfl rfl (by kernel_rfl) (by kernel_rfl) (by kernel_rfl) (fun _ _ _ h => h) ⟨Or.inl ⟨by rfl, ?_⟩, fun _ => rfl⟩ ?_
            rotate_left
            · intro w9; go_simp; try with_reducible rfl
            refine wpAnyIn_ready (rs := [10]) (by kernel_rfl) (by simp) ?_
            refine AllReadyIn.cons rfl (fun K hK => ?_) ?_
            · go_simp
              refine hK _ _ ?_
              clear hK K
              refine wpAnyIn_done (by kernel_rfl) ?_ _
              gi_wp2
              exact HEND w3 hb3
            exact AllReadyIn.nil
          exact AllReadyIn.nil
        exact AllReadyIn.nil
      refine AllReadyIn.cons rfl (fun K hK => ?_) ?_
      · go_simp
        refine hK _ _ ?_
        clear hK K
        refine wpAnyIn_ready (rs := [0, 7]) (by kernel_rfl) (by simp) ?_
        refine AllReadyIn.cons rfl (fun K hK => ?_) ?_
        · go_simp
          refine hK _ _ ?_
          clear hK K
          refine wpAnyIn_ready (rs := [7]) (by kernel_rfl) (by simp) ?_
          refine AllReadyIn.cons rfl (fun K hK => ?_) ?_
          · go_simp
            refine ⟨trivial, (callsIn_wide.2 (HTT _ ((keeps_drew W).below (Nat.le_refl _) (by simp))).out).mono ?_⟩
            rintro e w3 ⟨rfl, hb3⟩
            have b1 : w3.cell? ⟨B5, 0, none⟩ = some (.int .i64 ((2 + sp : Nat) : Int)) := (hb3.cell (p := ⟨B5, 0, none⟩) hBW).trans hc
            have b2 : w3.frozen? ⟨B5, 0, none⟩ = false := (hb3.frozen (p := ⟨B5, 0, none⟩) hBW).trans hf
            refine hK _ _ ?_
            clear hK K
            refine wpAnyIn_take (i := 8) (v := ?_) rfl rfl (by kernel_rfl) (by kernel_rfl) (by kernel_rfl) (fun _ _ _ h => h) ⟨Or.inl ⟨by rfl, ?_⟩, fun _ => rfl⟩ ?_
            rotate_left
            · intro w9; go_simp; try with_reducible rfl
            refine wpAnyIn_take (i := 9) (v := ?_) rfl rfl (by kernel_rfl) (by kernel_rfl) (by kernel_rfl) (fun _ _ _ h => h) ⟨Or.inl ⟨by rfl, ?_⟩, fun _ => rfl⟩ ?_
            rotate_left
            · intro w9; go_simp; try with_reducible rfl
            refine wpAnyIn_ready (rs := [10]) (by kernel_rfl) (by simp) ?_
            refine AllReadyIn.cons rfl (fun K hK => ?_) ?_
            · go_simp
              refine hK _ _ ?_
              clear hK K
              refine wpAnyIn_done (by kernel_rfl) ?_ _
              gi_wp2
              exact HEND w3 hb3
            exact AllReadyIn.nil
          exact AllReadyIn.nil
        refine AllReadyIn.cons rfl (fun K hK => ?_) ?_
        · go_simp
          refine ⟨trivial, (callsIn_wide.2 (HTT _ ((keeps_drew W).below (Nat.le_refl _) (by simp))).out).mono ?_⟩
          rintro e w3 ⟨rfl, hb3⟩
          have b1 : w3.cell? ⟨B5, 0, none⟩ = some (.int .i64 ((2 + sp : Nat) : Int)) := (hb3.cell (p := ⟨B5, 0, none⟩) hBW).trans hc
          have b2 : w3.frozen? ⟨B5, 0, none⟩ = false := (hb3.frozen (p := ⟨B5, 0, none⟩) hBW).trans hf
          refine hK _ _ ?_
          clear hK K
          refine wpAnyIn_take (i := 8) (v := ?_) rfl rfl (by kernel_rfl) (by kernel_rfl) (by kernel_rfl) (fun _ _ _ h => h) ⟨Or.inl ⟨by rfl, ?_⟩, fun _ => rfl⟩ ?_
          rotate_left
          · intro w9; go_simp; try with_reducible rfl
          refine wpAnyIn_ready (rs := [0]) (by kernel_rfl) (by simp) ?_
          refine AllReadyIn.cons rfl (fun K hK => ?_) ?_
          · go_simp
            refine hK _ _ ?_
            clear hK K
            refine wpAnyIn_take (i := 9) (v := ?_) rfl rfl (by kernel_rfl) (by kernel_rfl) (by kernel_rfl) (fun _ _ _ h => h) ⟨Or.inl ⟨by rfl, ?_⟩, fun _ => rfl⟩ ?_
            rotate_left
            · intro w9; go_simp; try with_reducible rfl
            refine wpAnyIn_ready (rs := [10]) (by kernel_rfl) (by simp) ?_
            refine AllReadyIn.cons rfl (fun K hK => ?_) ?_
            · go_simp
              refine hK _ _ ?_
              clear hK K
              refine wpAnyIn_done (by kernel_rfl) ?_ _
              gi_wp2
              exact HEND w3 hb3
            exact AllReadyIn.nil
          exact AllReadyIn.nil
        exact AllReadyIn.nil
      exact AllReadyIn.nil
    exact AllReadyIn.nil
  case done =>
    rintro D xs W hD hS ⟨⟨hc, hf⟩, hK⟩ hDW
    have HV : Hid (2 + sumP (partLen size ks l) xs = slideLen l p ks) := by
      show _ = _
      rw [HSE.out, sumP_all _ hS]; rfl
    have HK := Lib.hid hK
    rw [HV.out] at hc
    clear hK HV
    gi_wp2
    refine ⟨by simp, .inl ⟨_, _, rfl, run_takeDeferred hDW, ?_⟩⟩
    refine ⟨_, results_tmp rfl _ _ _, rfl, ?_⟩
    exact (hbb.out.trans (HK.out.below hbb.out.size (by simp; omega))).trans (belowK_b (w := w2) (by have := hbb.out.size; omega) W D _ _ hD hDW rfl rfl)
  case stop =>
    rintro D c pre W _ _ h _
    exact h.elim
end Go.Proofs.YtnfpkjnllkkngaaGreatDoor
