import Derived.Test.YtefbakhhlonafaaGreatSlideC4

namespace Go.Proofs.YtefbakhhlonafaaGreat
open Go.RowKit Go.Shelf Go.Proofs Go.Proofs.PipeM Go.Proofs.PipeA
set_option maxRecDepth 100000

/-- The writer's blocks are others than these. -/
def Off (b : Nat) (v : Value) (g : Nat) : Prop := g ∉ b :: v.ownBlock.toList

theorem Off.next {b : Nat} {v v3 : Value} {g n : Nat} (h : Off b v g) (hg : g < n) (ho : v3.ownBlock = v.ownBlock ∨ ∃ g', v3.ownBlock = some g' ∧ n ≤ g') : Off b v3 g := by
  rcases ho with e | ⟨g', e, hn⟩
  · unfold Off at h ⊢; rw [e]; exact h
  · unfold Off at h ⊢
    simp only [List.mem_cons, not_or] at h ⊢
    refine ⟨h.1, ?_⟩
    rw [e]; simp; omega
theorem Off.new {w : World} {b : Nat} {v : Value} {g : Nat} {l : List Bool} {zs : List Nat} (h : WrIs w b v l zs) (hg : w.heap.size ≤ g) : Off b v g := by
  unfold Off
  simp only [List.mem_cons, not_or]
  refine ⟨by have := h.lt; omega, fun hm => ?_⟩
  have := (own_block_lt h.own g (by simpa using hm)).2
  omega

set_option maxHeartbeats 800000 in
theorem cSPut_no (b : Nat) (v : Value) (l0 : List Bool) (zs : List Nat) (lo ao : Option Addr) (lcap cap : Nat) (l : List Int) (P : Int) (ks : List Int) (w : World) (hl : l.length ≤ 1000000) (hk : ks.length ≤ 1000000) (hw : WrIs w b v l0 zs) (hi : IntsAt w lo l) (hj : IntsAt w ao ks) (h : slideOk l P ks = false) :
    Calls Tryz.prog 66 #[.pointer (some ⟨b, 0, none⟩), .slice lo l.length lcap, .agg #[.int .i64 P, .slice ao ks.length cap]] w (Puts w b v (slideOk l P ks) (l0 ++ slideBits l P ks)) := by
  have HS : Hid (slideBits l P ks = []) := by show _ = _; unfold slideBits; rw [h]; rfl
  have HB := fun o o' => Lib.hid ((box_below w o).trans ((box_below (w.alloc o) o').mono (box_below w o).size))
  have HM := fun o o' => Lib.hid (cMayTell lo ao lcap cap l P ks ((w.alloc o).alloc o') hl hk (hi.below (HB o o').out) (hj.below (HB o o').out))
  rw [h] at HM ⊢
  have HW := Lib.hid hw
  have HE : Hid (∀ w', Below w.heap.size w w' → Puts w b v false (l0 ++ slideBits l P ks) (.returned (.bool false)) w') := by
    intro w' hb
    refine ⟨rfl, ?_⟩
    rw [HS.out, List.append_nil]
    exact Wrote.later (keeps_of_below hb []) (Wrote.refl (HW.out.keeps (keeps_of_below hb []) (by simp) (by simp)))
  clear hi hj h HS hw HW
  generalize ks.length = kl at HM hk ⊢
  generalize l.length = ll at HM hl ⊢
  go_enter Tryz.func66, Tryz.ntmps66
  go_wp2_with (go_at_call 81; refine (HM _ _).out.mono ?_; rintro e w1 ⟨rfl, hb⟩)
  go_ret
  exact HE.out _ ((HB _ _).out.trans (hb.mono (HB _ _).out.size))

attribute [local go_sem] Oper.semAt_some

def pbits (size : Nat) (ks l : List Int) (j : Nat) : List Bool := partBits (ks.getD j 0) (partNo size l j)
def flatP (f : Nat → List Bool) {m : Nat} (pre : List (Fin m)) : List Bool := pre.flatMap fun j => f j.val
theorem flatP_snoc (f : Nat → List Bool) {m : Nat} (pre : List (Fin m)) (x : Fin m) : flatP f (pre ++ [x]) = flatP f pre ++ f x.val := by simp [flatP]
theorem flatP_le (f : Nat → List Bool) (k : Nat) {m : Nat} (h : ∀ j, j < m → (f j).length ≤ k) : ∀ pre : List (Fin m), (flatP f pre).length ≤ pre.length * k
  | [] => by simp [flatP]
  | x :: r => by
    have := flatP_le f k h r
    have h1 := h x.val x.2
    simp only [flatP, List.flatMap_cons, List.length_append, List.length_cons, Nat.add_mul, Nat.one_mul] at this ⊢
    omega
theorem flatP_all (f : Nat → List Bool) {m : Nat} {xs : List (Fin m)} (h : xs.map (·.val) = List.range m) : flatP f xs = (List.range m).flatMap f := by
  rw [← h, List.flatMap_map]; rfl
theorem body_flat (size : Nat) : ∀ ks l : List Int, bodyBits size ks l = (List.range ks.length).flatMap (pbits size ks l)
  | [], _ => rfl
  | k :: ks, l => by
    rw [List.length_cons, List.range_succ_eq_map, List.flatMap_cons, List.flatMap_map, bodyBits, body_flat size ks (l.drop size)]
    congr 1
    · simp [pbits, partNo]
    · congr 1
      funext j
      simp only [pbits, partNo, List.getD_cons_succ, List.drop_drop]
      rw [show (j + 1) * size = size + j * size by rw [Nat.add_mul]; omega]
theorem pbits_len (size : Nat) (ks l : List Int) (j : Nat) : (pbits size ks l j).length ≤ 5 + 59 * size := by
  unfold pbits partBits
  rw [List.length_append, low_length]
  have : ∀ c : List Int, (c.flatMap (codeOf · (ks.getD j 0))).length ≤ 59 * c.length := by
    intro c
    induction c with
    | nil => simp
    | cons n c ih =>
      have := codeOf_len n (ks.getD j 0)
      rw [List.flatMap_cons, List.length_append, List.length_cons]
      omega
  have h1 := this (partNo size l j)
  have h3 : (partNo size l j).length ≤ size := by unfold partNo; simp; omega
  have h4 : 59 * (partNo size l j).length ≤ 59 * size := Nat.mul_le_mul_left 59 h3
  omega

theorem flat_code (k : Int) (hk : 0 ≤ k ∧ k ≤ 24) : ∀ c : List Int, (∀ n ∈ c, InR n) → c.flatMap (codeOf · k) = c.flatMap (codeBits · k.toNat)
  | [], _ => rfl
  | n :: c, h => by
    have hn := h n (List.mem_cons_self ..)
    rw [List.flatMap_cons, List.flatMap_cons, flat_code k hk c (fun x hx => h x (List.mem_cons_of_mem _ hx))]
    congr 1
    unfold codeOf
    rw [if_pos]
    unfold codeOk
    exact decide_eq_true ⟨hn.1, hn.2, hk.1, hk.2⟩
theorem codes_len (k : Nat) (c : List Int) (_ : k ≤ 24) : (c.flatMap (codeBits · k)).length = totalN c k := by
  induction c with
  | nil => rfl
  | cons n c ih => rw [List.flatMap_cons, List.length_append, ih, codeBits_length]; simp [totalN]

set_option maxHeartbeats 6400000 in
theorem cSPut_yes (b : Nat) (v : Value) (l0 : List Bool) (zs : List Nat) (lo ao : Option Addr) (lcap cap : Nat) (l : List Int) (P : Int) (ks : List Int) (w : World) (hl0 : l0.length ≤ 20000) (hcap : l.length ≤ lcap) (hw : WrIs w b v l0 zs) (hi : IntsAt w lo l) (hj : IntsAt w ao ks) (hog : ∀ g off, lo = some ⟨g, off, none⟩ → Off b v g) (hoa : ∀ g off, ao = some ⟨g, off, none⟩ → Off b v g) (h : slideOk l P ks = true) :
    Calls Tryz.prog 66 #[.pointer (some ⟨b, 0, none⟩), .slice lo l.length lcap, .agg #[.int .i64 P, .slice ao ks.length cap]] w (Puts w b v (slideOk l P ks) (l0 ++ slideBits l P ks)) := by
  obtain ⟨p, rfl, h3, hk1, hk8, hk0, hl1, hl2, hs1, hs2, hsp, hks, hin⟩ := slide_parts h
  have HB := fun o o' => Lib.hid ((box_below w o).trans ((box_below (w.alloc o) o').mono (box_below w o).size))
  have HM := fun o o' => Lib.hid (cMayTell lo ao lcap cap l p ks ((w.alloc o).alloc o') (by omega) (by omega) (hi.below (HB o o').out) (hj.below (HB o o').out))
  have hsb : slideBits l p ks = low p 2 ++ bodyBits (l.length / ks.length) ks l := by unfold slideBits listBits; rw [if_pos h]; simp
  rw [h] at HM ⊢
  obtain ⟨size, hsize⟩ : ∃ size, size = l.length / ks.length := ⟨_, rfl⟩
  rw [← hsize] at hs1 hs2 hsp hsb
  rw [body_flat] at hsb
  have HKS := Lib.hid hks
  have HIN := Lib.hid hin
  obtain ⟨g, off, rfl, hg0, _⟩ := hi 0 hl1
  obtain ⟨ga, offa, rfl, hga0, _⟩ := hj 0 hk0
  have HOG := Lib.hid (hog g off rfl)
  have HOA := Lib.hid (hoa ga offa rfl)
  have HI := Lib.hid hi
  have HJ := Lib.hid hj
  obtain ⟨len, hlen⟩ : ∃ len, len = l.length := ⟨_, rfl⟩
  obtain ⟨m, hm⟩ : ∃ m, m = ks.length := ⟨_, rfl⟩
  rw [← hlen] at hl1 hl2 hcap HM hsp ⊢
  rw [← hm] at hk8 hk0 HM hsp hk1 hsb ⊢
  have HSB := Lib.hid hsb
  have HST := fun c t W => Lib.hid (each1_stops (n := 4) g off len lcap p size m c t W (by omega) h3 hk1 hsp hs1 hl2 hcap)
  have HLEN := Lib.hid hlen
  have HML := Lib.hid hm
  have HPT := fun W => Lib.hid (cParts (some ⟨g, off, none⟩) len lcap p W h3)
  have HSP := Lib.hid hsp
  have HW := Lib.hid hw
  have hblt := hw.lt
  have hp4 : p < 2 ^ 2 := by omega
  have HP2 := fun W v1 zs1 (h : WrIs W b v1 l0 zs1) => Lib.hid (wPut_yes b v1 l0 zs1 p 2 W (by omega) hp4 (by omega) h)
  clear hsize hsp hks hin h hk1 hlen hm hi hj hw hsb hog hoa hp4
  refine (callsIn_wide (n := 5)).1 ?_
  refine callsIn_of_wp_marks Tryz.func66 rfl trivial ?_ rfl
  simp only [Tryz.ntmps66, List.size_toArray, List.length_cons, List.length_nil, Nat.reduceAdd, Nat.reduceSub, Array.replicate_succ, Array.replicate_zero, List.push_toArray, List.append_toArray, List.nil_append, List.cons_append]
  gi_wp2_with fail
  refine ⟨trivial, (callsIn_wide.2 (HM _ _).out).mono ?_⟩
  rintro e w1 ⟨rfl, hb⟩
  have HB1 := Lib.hid ((HB _ _).out.trans (hb.mono (HB _ _).out.size))
  have q0 : w1.cell? ⟨w.heap.size, 0, none⟩ = some (.pointer (some ⟨b, 0, none⟩)) := (hb.cell (p := ⟨w.heap.size, 0, none⟩) (by simp; omega)).trans (by simp)
  have c0 : w1.cell? ⟨w.heap.size + 1, 0, none⟩ = some (.int .i64 p) := (hb.cell (p := ⟨w.heap.size + 1, 0, none⟩) (by simp)).trans (by simp)
  have c1 : w1.cell? ⟨w.heap.size + 1, 1, none⟩ = some (.slice (some ⟨ga, offa, none⟩) m cap) := (hb.cell (p := ⟨w.heap.size + 1, 1, none⟩) (by simp)).trans (by simp)
  have hsz1 : w.heap.size + 2 ≤ w1.heap.size := by have := hb.size; simpa using this
  have HP3 := HP2 w1 v zs (HW.out.keeps (keeps_of_below HB1.out []) (by simp) (by simp))
  clear hb HM HB HP2
  gi_wp2_with fail
  refine ⟨trivial, (callsIn_wide.2 HP3.out).mono ?_⟩
  rintro e w3 ⟨rfl, v3, zs3, hw3, hk3, ho3⟩
  have hown := fun g hg => (own_block_lt HW.out.own g hg).2
  have HoffB : ∀ k, w.heap.size ≤ k → k ∉ b :: v.ownBlock.toList := fun k hk => Off.new HW.out hk
  have q0 := (hk3.cell (p := ⟨w.heap.size, 0, none⟩) (by show w.heap.size < _; omega) (HoffB _ (Nat.le_refl _))).trans q0
  have c0 := (hk3.cell (p := ⟨w.heap.size + 1, 0, none⟩) (by show w.heap.size + 1 < _; omega) (HoffB (w.heap.size + 1) (by omega))).trans c0
  have c1 := (hk3.cell (p := ⟨w.heap.size + 1, 1, none⟩) (by show w.heap.size + 1 < _; omega) (HoffB (w.heap.size + 1) (by omega))).trans c1
  have Hoff3 : ∀ k, k < w1.heap.size → Off b v k → Off b v3 k := fun k hk h => h.next hk ho3
  have HKK3 : Hid (Keeps (b :: v.ownBlock.toList) w w3) := (keeps_of_below HB1.out _).trans hk3
  have HO3 : Hid (v3.ownBlock = v.ownBlock ∨ ∃ g', v3.ownBlock = some g' ∧ w.heap.size ≤ g') := by
    rcases ho3 with h | ⟨g', h1, h2⟩
    · exact Or.inl h
    · exact Or.inr ⟨g', h1, by omega⟩
  have hsz3 := hk3.size
  have HW3 := Lib.hid hw3
  have Ho0 : Hid (Off b v3 w.heap.size) := Hoff3 _ (by omega) (HoffB _ (Nat.le_refl _))
  have Ho1 : Hid (Off b v3 (w.heap.size + 1)) := Hoff3 _ (by omega) (HoffB _ (by omega))
  have Hog : Hid (Off b v3 g) := Hoff3 _ (by omega) HOG.out
  have Hoa : Hid (Off b v3 ga) := Hoff3 _ (by omega) HOA.out
  clear hw3 hk3 ho3 HP3 hown HoffB Hoff3
  gi_wp2_with fail
  refine ⟨trivial, (callsIn_wide.2 (HPT _).out).mono ?_⟩
  rintro e w4 ⟨c, t, rfl, hpa, hc1, ht1, hc2, ht2, hb4⟩
  unfold partsF
  gi_wp2_with fail
  have q0 := (hb4.cell (p := ⟨w.heap.size, 0, none⟩) (by show w.heap.size < _; omega)).trans q0
  have c1 := (hb4.cell (p := ⟨w.heap.size + 1, 1, none⟩) (by show w.heap.size + 1 < _; omega)).trans c1
  have hsz4 := hb4.size
  have HK4 : Hid (Keeps (b :: v.ownBlock.toList) w w4) := HKK3.out.trans (keeps_of_below hb4 _)
  have HW4 := Lib.hid (HW3.out.keeps (keeps_of_below hb4 []) (by simp) (by simp))
  have HI4 := Lib.hid (HI.out.keeps HK4.out (by intro g' off' hh; cases hh; exact HOG.out))
  have HJ4 := Lib.hid (HJ.out.keeps HK4.out (by intro g' off' hh; cases hh; exact HOA.out))
  have Hoc : Hid (Off b v3 c) := Off.new HW3.out hc1
  have Hot : Hid (Off b v3 t) := Off.new HW3.out ht1
  have hseq := (HST c t w4).out hpa hc2 ht2
  have hl1' : (l0 ++ low p 2).length ≤ 20002 := by rw [List.length_append, low_length]; omega
  obtain ⟨l1, hl1e⟩ : ∃ l1, l1 = l0 ++ low p 2 := ⟨_, rfl⟩
  rw [← hl1e] at HW3 HW4 hl1'
  have HL1 := Lib.hid hl1e
  clear c0 hb4 hpa HST HPT HKK3 hl1e HI HJ HB1
  have hpl : ∀ j, j < m → (pbits size ks l j).length ≤ 5 + 59 * size := fun j _ => pbits_len size ks l j
  refine wpIn_rangeFunc_ownG rfl (by omega) (gf := 124) (lb := #[.pointer (some ⟨c, 0, none⟩), .pointer (some ⟨t, 0, none⟩)]) rfl trivial (enters_of Tryz.func124 (by kernel_rfl) rfl)
    hseq kpB_t (kpB_b hc2 ht2) (Below.refl _ _) (fun _ => rfl)
    (fun pre W => Wrote w4 b v3 (l1 ++ flatP (pbits size ks l) pre) W)
    (fun _ _ _ => False)
    (own_wrote _) (fun _ _ _ _ _ hs _ _ => hs.elim)
    (by have := Wrote.refl HW4.out; simpa [flatP] using this)
    (fun x => { tmps := #[.pointer (some ⟨b, 0, none⟩), .slice (some ⟨g, off, none⟩) len lcap, .agg #[.int .i64 p, .slice (some ⟨ga, offa, none⟩) m cap], .pointer (some ⟨w.heap.size, 0, none⟩), undef, .pointer (some ⟨w.heap.size + 1, 0, none⟩), .bool false, .int .i64 ((x.val : Nat) : Int), partV g off size lcap x.val, undef, undef,
      .slice (some ⟨g, off, none⟩) len lcap, .agg #[.int .i64 p, .slice (some ⟨ga, offa, none⟩) m cap], .bool true, .bool false, .pointer (some ⟨b, 0, none⟩), .pointer (some ⟨w.heap.size + 1, 0, none⟩), .int .i64 p, .int .u64 p, .bool true, .slice (some ⟨g, off, none⟩) len lcap, .pointer (some ⟨w.heap.size + 1, 0, none⟩), .int .i64 p, .agg #[.slice (some ⟨g, off, none⟩) len lcap, .int .i64 p],
      .func (.func 124) #[] #[.pointer (some ⟨c, 0, none⟩), .pointer (some ⟨t, 0, none⟩)], .int .i64 ((x.val : Nat) : Int), partV g off size lcap x.val, undef, undef, undef, undef, undef, undef, undef, undef, undef, undef, undef, undef, undef, undef, undef, undef, undef, undef, undef, undef, undef, undef, undef], defers := [] }) ?assign ?body ?done ?stop
  case assign =>
    intro l' x W K hK
    unfold encP partV
    unfold partV at hK
    gi_wp2
    exact hK
  case body =>
    rintro l' pre ⟨x, hx⟩ W hI hpre
    have hmx : Tryz.prog.follows .mixedOrders = true := by kernel_rfl
    have hxk : x < ks.length := by have := HML.out; omega
    have hx1 : (x + 1) * size ≤ l.length := by
      rw [← HLEN.out, HSP.out, Nat.mul_comm size]
      exact Nat.mul_le_mul_right size hx
    have hbl := flatP_le (pbits size ks l) _ hpl pre
    have hb2 : pre.length * (5 + 59 * size) + (5 + 59 * size) ≤ m * (5 + 59 * size) := by
      have := Nat.mul_le_mul_right (5 + 59 * size) (show pre.length + 1 ≤ m from hpre)
      rw [Nat.add_mul, Nat.one_mul] at this; exact this
    have hb3 : m * (5 + 59 * size) ≤ 40 + 59 * 1024 := by
      rw [Nat.mul_add, Nat.mul_left_comm]
      have := HSP.out
      rw [Nat.mul_comm] at this
      omega
    have hLl : (l1 ++ flatP (pbits size ks l) pre).length + 59 * size ≤ 81000 := by rw [List.length_append]; omega
    have HSN := Lib.hid (flatP_snoc (pbits size ks l) pre ⟨x, hx⟩)
    have hkr := HKS.out ks[x] (List.getElem_mem hxk)
    have hgd : ks.getD x 0 = ks[x] := by rw [List.getD, List.getElem?_eq_getElem hxk]; rfl
    have HPX : Hid (pbits size ks l x = low ks[x].toNat 5 ++ (partNo size l x).flatMap (codeBits · ks[x].toNat)) := by
      show _ = _
      unfold pbits partBits
      rw [hgd]
      congr 1
      exact flat_code ks[x] hkr _ (partNo_in HIN.out)
    have HPL := Lib.hid (partNo_length hx1)
    obtain ⟨vW, zW, hwW, hkW, hoW⟩ := hI
    have kcell : W.cell? ⟨ga, offa + x, none⟩ = some (.int .i64 ks[x]) := by
      obtain ⟨g', off', h1, h2, h3⟩ := HJ4.out x hxk
      cases h1
      exact (hkW.cell (p := ⟨ga, offa + x, none⟩) h2 Hoa.out).trans h3
    have q0W := (hkW.cell (p := ⟨w.heap.size, 0, none⟩) (by show w.heap.size < _; omega) Ho0.out).trans q0
    have c1W := (hkW.cell (p := ⟨w.heap.size + 1, 1, none⟩) (by show w.heap.size + 1 < _; omega) Ho1.out).trans c1
    have HIW := Lib.hid ((HI4.out.keeps hkW (by intro g' off' hh; cases hh; exact Hog.out)).part size x hx1)
    have hszW := hkW.size
    have HoW0 : Hid (Off b vW w.heap.size) := Ho0.out.next (by omega) hoW
    have HoW1 : Hid (Off b vW (w.heap.size + 1)) := Ho1.out.next (by omega) hoW
    have HoWg : Hid (Off b vW g) := Hog.out.next (by omega) hoW
    have HoWa : Hid (Off b vW ga) := Hoa.out.next (by omega) hoW
    have HoWc : Hid (Off b vW c) := Hoc.out.next (by omega) hoW
    have HoWt : Hid (Off b vW t) := Hot.out.next (by omega) hoW
    have hqW : w.heap.size < W.heap.size := by omega
    have hcW : w.heap.size + 1 < W.heap.size := by omega
    have hgaW : ga < W.heap.size := by omega
    generalize ks[x] = k at kcell hkr HPX
    obtain ⟨kn, rfl⟩ := Int.eq_ofNat_of_zero_le hkr.1
    rw [Int.toNat_natCast] at HPX
    have hkn : kn ≤ 24 := by omega
    have EW : Hid (IntKind.u64.wrap ((kn : Nat) : Int) = ((kn : Nat) : Int)) := IntWalk.u64_in _ ⟨by omega, by omega⟩
    have HEND : ∀ w9, Wrote W b vW ((l1 ++ flatP (pbits size ks l) pre) ++ (low kn 5 ++ (partNo size l x).flatMap (codeBits · kn))) w9 → KeepsFrom w4.heap.size W w9 ∧ KpB c t W w9 ∧ Wrote w4 b v3 (l1 ++ flatP (pbits size ks l) (pre ++ [⟨x, hx⟩])) w9 := by
      intro w9 h9
      have h10 := Wrote.next hkW hoW h9
      rw [← HPX.out, List.append_assoc, ← HSN.out] at h10
      obtain ⟨v9, z9, hw9, hk9, ho9⟩ := h9
      refine ⟨keepsFrom_of hk9 ?_, kpB_keeps hk9 (by omega) (by omega) HoWc.out HoWt.out, h10⟩
      intro k hk
      simp only [List.mem_cons, Option.mem_toList] at hk
      rcases hk with rfl | hk
      · exact Or.inr (cellsAt_of hwW.c0)
      · exact Or.inr (own_cells hwW.own k hk)
    have HP5 := Lib.hid (wPut_yes b vW (l1 ++ flatP (pbits size ks l) pre) zW kn 5 W.drew (by omega) (Nat.lt_of_le_of_lt hkn (by decide)) (by omega) (hwW.keeps (keeps_drew W) (by simp) (by simp)))
    generalize l1 ++ flatP (pbits size ks l) pre = L at HP5 HEND hLl
    clear hxk hx1 hkr hb2 hb3 hbl hgd hwW hkW hoW HPX
    unfold partV
    gi_wp2_with fail
    refine regionR hmx (by kernel_rfl) ?_
    refine wpAnyIn_take (i := 1) (v := ?_) rfl rfl (by kernel_rfl) (by kernel_rfl) (by kernel_rfl) (fun _ _ _ h => h) ⟨Or.inl ⟨by rfl, ?_⟩, fun _ => rfl⟩ ?_
    rotate_left
    · intro w9; go_simp; try with_reducible rfl
    refine wpAnyIn_take (i := 3) (v := ?_) rfl rfl (by kernel_rfl) (by kernel_rfl) (by kernel_rfl) (fun _ _ _ h => h) ⟨Or.inl ⟨by rfl, ?_⟩, fun _ => rfl⟩ ?_
    rotate_left
    · intro w9; go_simp; try with_reducible rfl
    refine wpAnyIn_ready (rs := [0, 2]) (by kernel_rfl) (by simp) ?_
    refine AllReadyIn.cons rfl (fun K hK => ?_) ?_
    · go_simp
      refine hK _ _ ?_
      clear hK K
      refine wpAnyIn_ready (rs := [2]) (by kernel_rfl) (by simp) ?_
      refine AllReadyIn.cons rfl (fun K hK => ?_) ?_
      · go_simp
        refine hK _ _ ?_
        clear hK K
        refine wpAnyIn_take (i := 4) (v := ?_) rfl rfl (by kernel_rfl) (by kernel_rfl) (by kernel_rfl) (fun _ _ _ h => h) ⟨Or.inl ⟨by rfl, ?_⟩, fun _ => rfl⟩ ?_
        rotate_left
        · intro w9; go_simp; try with_reducible rfl
        refine wpAnyIn_ready (rs := [5]) (by kernel_rfl) (by simp) ?_
        refine AllReadyIn.cons rfl (fun K hK => ?_) ?_
        · go_simp
          refine hK _ _ ?_
          clear hK K
          refine wpAnyIn_take (i := 6) (v := ?_) rfl rfl (by kernel_rfl) (by kernel_rfl) (by kernel_rfl) (fun _ _ _ h => h) ⟨Or.inl ⟨by rfl, ?_⟩, fun _ => rfl⟩ ?_
          rotate_left
          · intro w9; go_simp; try with_reducible rfl
          refine wpAnyIn_ready (rs := [7]) (by kernel_rfl) (by simp) ?_
          refine AllReadyIn.cons rfl (fun K hK => ?_) ?_
          · go_simp
            rw [EW.out]
            refine ⟨trivial, (callsIn_wide.2 HP5.out).mono ?_⟩
            rintro e w5 ⟨rfl, hw5⟩
            have HW5 : Hid (Wrote W b vW (L ++ low kn 5) w5) := Wrote.later (keeps_drew W) hw5
            clear hw5
            refine hK _ _ ?_
            clear hK K
            refine wpAnyIn_done (by kernel_rfl) ?_ _
            clear HP5
            gi_wp2_with fail
            gi_loopw [37] (fun iv wr => ∃ i : Nat, i ≤ size ∧ iv = .int .i64 i ∧ Hid (Wrote W b vW (L ++ (low kn 5 ++ ((partNo size l x).take i).flatMap (codeBits · kn))) wr))
              (fun iv _ => size - (intOf iv).toNat)
            case atStart => exact ⟨0, Nat.zero_le _, rfl, by have := HW5.out; simpa [Hid] using this⟩
            case round =>
              obtain ⟨i, hi, rfl, HWr⟩ := hrel
              by_cases hlt : i < size
              · obtain ⟨vr, zr, hwr, hkr, hor⟩ := HWr.out
                have r0 := (hkr.cell (p := ⟨w.heap.size, 0, none⟩) hqW HoW0.out).trans q0W
                have r1 := (hkr.cell (p := ⟨w.heap.size + 1, 1, none⟩) hcW HoW1.out).trans c1W
                have r2 := (hkr.cell (p := ⟨ga, offa + x, none⟩) hgaW HoWa.out).trans kcell
                have hip : i < (partNo size l x).length := by rw [HPL.out]; exact hlt
                have r3 : wr.cell? ⟨g, off + x * size + i, none⟩ = some (.int .i64 (partNo size l x)[i]) := by
                  obtain ⟨g', off', h1, h2, h3⟩ := HIW.out i hip
                  cases h1
                  exact (hkr.cell (p := ⟨g, off + x * size + i, none⟩) h2 HoWg.out).trans h3
                have hinr := partNo_in HIN.out (size := size) (j := x) (partNo size l x)[i] (List.getElem_mem hip)
                have HCX : Hid (((partNo size l x).take (i + 1)).flatMap (codeBits · kn) = ((partNo size l x).take i).flatMap (codeBits · kn) ++ codeBits (partNo size l x)[i] kn) := by
                  show _ = _
                  rw [List.take_succ_eq_append_getElem hip, List.flatMap_append]
                  simp only [List.flatMap_cons, List.flatMap_nil, List.append_nil]
                have hlr : (L ++ (low kn 5 ++ ((partNo size l x).take i).flatMap (codeBits · kn))).length ≤ 90000 := by
                  rw [List.length_append, List.length_append, low_length, codes_len kn _ hkn]
                  have h1 := totalN_le ((partNo size l x).take i) kn hkn
                  have h2 : ((partNo size l x).take i).length ≤ size := by rw [List.length_take]; omega
                  omega
                have HR := Lib.hid (cPut_yes b vr _ zr (partNo size l x)[i] kn wr.drew hinr hkn hlr (hwr.keeps (keeps_drew wr) (by simp) (by simp)))
                have HKr := Lib.hid hkr
                have HOr := Lib.hid hor
                generalize (partNo size l x)[i] = nn at r3 HR HCX hinr
                clear hwr hkr hor hip hlr hinr
                gi_wp2_with fail
                refine regionR hmx (by kernel_rfl) ?_
                refine wpAnyIn_take (i := 1) (v := ?_) rfl rfl (by kernel_rfl) (by kernel_rfl) (by kernel_rfl) (fun _ _ _ h => h) ⟨Or.inl ⟨by rfl, ?_⟩, fun _ => rfl⟩ ?_
                rotate_left
                · intro w9; go_simp; try with_reducible rfl
                refine wpAnyIn_take (i := 2) (v := ?_) rfl rfl (by kernel_rfl) (by kernel_rfl) (by kernel_rfl) (fun _ _ _ h => h) ⟨Or.inl ⟨by rfl, ?_⟩, fun _ => rfl⟩ ?_
                rotate_left
                · intro w9; go_simp; try with_reducible rfl
                refine wpAnyIn_take (i := 4) (v := ?_) rfl rfl (by kernel_rfl) (by kernel_rfl) (by kernel_rfl) (fun _ _ _ h => h) ⟨Or.inl ⟨by rfl, ?_⟩, fun _ => rfl⟩ ?_
                rotate_left
                · intro w9; go_simp; try with_reducible rfl
                refine wpAnyIn_ready (rs := [0, 3]) (by kernel_rfl) (by simp) ?_
                refine AllReadyIn.cons rfl (fun K hK => ?_) ?_
                · go_simp
                  refine hK _ _ ?_
                  clear hK K
                  refine wpAnyIn_ready (rs := [3]) (by kernel_rfl) (by simp) ?_
                  refine AllReadyIn.cons rfl (fun K hK => ?_) ?_
                  · go_simp
                    refine hK _ _ ?_
                    clear hK K
                    refine wpAnyIn_take (i := 5) (v := ?_) rfl rfl (by kernel_rfl) (by kernel_rfl) (by kernel_rfl) (fun _ _ _ h => h) ⟨Or.inl ⟨by rfl, ?_⟩, fun _ => rfl⟩ ?_
                    rotate_left
                    · intro w9; go_simp; try with_reducible rfl
                    refine wpAnyIn_ready (rs := [6]) (by kernel_rfl) (by simp) ?_
                    refine AllReadyIn.cons rfl (fun K hK => ?_) ?_
                    · go_simp
                      refine hK _ _ ?_
                      clear hK K
                      refine wpAnyIn_ready (rs := [7]) (by kernel_rfl) (by simp) ?_
                      refine AllReadyIn.cons rfl (fun K hK => ?_) ?_
                      · go_simp
                        refine ⟨trivial, (callsIn_wide.2 HR.out).mono ?_⟩
                        rintro e w6 ⟨rfl, hw6⟩
                        have HW6 := Lib.hid (Wrote.later (keeps_drew wr) hw6)
                        clear hw6
                        refine hK _ _ ?_
                        clear hK K
                        refine wpAnyIn_done (by kernel_rfl) ?_ _
                        gi_wp2
                        go_roundw
                        case rel => exact ⟨i + 1, by omega, by go_num, by have := Wrote.next HKr.out HOr.out HW6.out; rw [List.append_assoc, List.append_assoc, ← HCX.out] at this; exact this⟩
                        case measure => simp [intOf]; omega
                      exact AllReadyIn.nil
                    exact AllReadyIn.nil
                  exact AllReadyIn.nil
                refine AllReadyIn.cons rfl (fun K hK => ?_) ?_
                · go_simp
                  refine hK _ _ ?_
                  clear hK K
                  refine wpAnyIn_take (i := 5) (v := ?_) rfl rfl (by kernel_rfl) (by kernel_rfl) (by kernel_rfl) (fun _ _ _ h => h) ⟨Or.inl ⟨by rfl, ?_⟩, fun _ => rfl⟩ ?_
                  rotate_left
                  · intro w9; go_simp; try with_reducible rfl
                  refine wpAnyIn_ready (rs := [0, 6]) (by kernel_rfl) (by simp) ?_
                  refine AllReadyIn.cons rfl (fun K hK => ?_) ?_
                  · go_simp
                    refine hK _ _ ?_
                    clear hK K
                    refine wpAnyIn_ready (rs := [6]) (by kernel_rfl) (by simp) ?_
                    refine AllReadyIn.cons rfl (fun K hK => ?_) ?_
                    · go_simp
                      refine hK _ _ ?_
                      clear hK K
                      refine wpAnyIn_ready (rs := [7]) (by kernel_rfl) (by simp) ?_
                      refine AllReadyIn.cons rfl (fun K hK => ?_) ?_
                      · go_simp
                        refine ⟨trivial, (callsIn_wide.2 HR.out).mono ?_⟩
                        rintro e w6 ⟨rfl, hw6⟩
                        have HW6 := Lib.hid (Wrote.later (keeps_drew wr) hw6)
                        clear hw6
                        refine hK _ _ ?_
                        clear hK K
                        refine wpAnyIn_done (by kernel_rfl) ?_ _
                        gi_wp2
                        go_roundw
                        case rel => exact ⟨i + 1, by omega, by go_num, by have := Wrote.next HKr.out HOr.out HW6.out; rw [List.append_assoc, List.append_assoc, ← HCX.out] at this; exact this⟩
                        case measure => simp [intOf]; omega
                      exact AllReadyIn.nil
                    exact AllReadyIn.nil
                  refine AllReadyIn.cons rfl (fun K hK => ?_) ?_
                  · go_simp
                    refine hK _ _ ?_
                    clear hK K
                    refine wpAnyIn_ready (rs := [0]) (by kernel_rfl) (by simp) ?_
                    refine AllReadyIn.cons rfl (fun K hK => ?_) ?_
                    · go_simp
                      refine hK _ _ ?_
                      clear hK K
                      refine wpAnyIn_ready (rs := [7]) (by kernel_rfl) (by simp) ?_
                      refine AllReadyIn.cons rfl (fun K hK => ?_) ?_
                      · go_simp
                        refine ⟨trivial, (callsIn_wide.2 HR.out).mono ?_⟩
                        rintro e w6 ⟨rfl, hw6⟩
                        have HW6 := Lib.hid (Wrote.later (keeps_drew wr) hw6)
                        clear hw6
                        refine hK _ _ ?_
                        clear hK K
                        refine wpAnyIn_done (by kernel_rfl) ?_ _
                        gi_wp2
                        go_roundw
                        case rel => exact ⟨i + 1, by omega, by go_num, by have := Wrote.next HKr.out HOr.out HW6.out; rw [List.append_assoc, List.append_assoc, ← HCX.out] at this; exact this⟩
                        case measure => simp [intOf]; omega
                      exact AllReadyIn.nil
                    exact AllReadyIn.nil
                  exact AllReadyIn.nil
                exact AllReadyIn.nil
              · obtain rfl : i = size := by omega
                have HZ := Lib.hid HWr.out
                clear HWr
                rw [List.take_of_length_le (by rw [HPL.out]; exact Nat.le_refl _)] at HZ
                gi_wp2
                exact HEND _ HZ.out
          exact AllReadyIn.nil
        exact AllReadyIn.nil
      exact AllReadyIn.nil
    refine AllReadyIn.cons rfl (fun K hK => ?_) ?_
    · go_simp
      refine hK _ _ ?_
      clear hK K
      refine wpAnyIn_take (i := 4) (v := ?_) rfl rfl (by kernel_rfl) (by kernel_rfl) (by kernel_rfl) (fun _ _ _ h => h) ⟨Or.inl ⟨by rfl, ?_⟩, fun _ => rfl⟩ ?_
      rotate_left
      · intro w9; go_simp; try with_reducible rfl
      refine wpAnyIn_ready (rs := [0, 5]) (by kernel_rfl) (by simp) ?_
      refine AllReadyIn.cons rfl (fun K hK => ?_) ?_
      · go_simp
        refine hK _ _ ?_
        clear hK K
        refine wpAnyIn_ready (rs := [5]) (by kernel_rfl) (by simp) ?_
        refine AllReadyIn.cons rfl (fun K hK => ?_) ?_
        · go_simp
          refine hK _ _ ?_
          clear hK K
          refine wpAnyIn_take (i := 6) (v := ?_) rfl rfl (by kernel_rfl) (by kernel_rfl) (by kernel_rfl) (fun _ _ _ h => h) ⟨Or.inl ⟨by rfl, ?_⟩, fun _ => rfl⟩ ?_
          rotate_left
          · intro w9; go_simp; try with_reducible rfl
          refine wpAnyIn_ready (rs := [7]) (by kernel_rfl) (by simp) ?_
          refine AllReadyIn.cons rfl (fun K hK => ?_) ?_
          · go_simp
            rw [EW.out]
            refine ⟨trivial, (callsIn_wide.2 HP5.out).mono ?_⟩
            rintro e w5 ⟨rfl, hw5⟩
            have HW5 : Hid (Wrote W b vW (L ++ low kn 5) w5) := Wrote.later (keeps_drew W) hw5
            clear hw5
            refine hK _ _ ?_
            clear hK K
            refine wpAnyIn_done (by kernel_rfl) ?_ _
            clear HP5
            gi_wp2_with fail
            gi_loopw [37] (fun iv wr => ∃ i : Nat, i ≤ size ∧ iv = .int .i64 i ∧ Hid (Wrote W b vW (L ++ (low kn 5 ++ ((partNo size l x).take i).flatMap (codeBits · kn))) wr))
              (fun iv _ => size - (intOf iv).toNat)
            case atStart => exact ⟨0, Nat.zero_le _, rfl, by have := HW5.out; simpa [Hid] using this⟩
            case round =>
              obtain ⟨i, hi, rfl, HWr⟩ := hrel
              by_cases hlt : i < size
              · obtain ⟨vr, zr, hwr, hkr, hor⟩ := HWr.out
                have r0 := (hkr.cell (p := ⟨w.heap.size, 0, none⟩) hqW HoW0.out).trans q0W
                have r1 := (hkr.cell (p := ⟨w.heap.size + 1, 1, none⟩) hcW HoW1.out).trans c1W
                have r2 := (hkr.cell (p := ⟨ga, offa + x, none⟩) hgaW HoWa.out).trans kcell
                have hip : i < (partNo size l x).length := by rw [HPL.out]; exact hlt
                have r3 : wr.cell? ⟨g, off + x * size + i, none⟩ = some (.int .i64 (partNo size l x)[i]) := by
                  obtain ⟨g', off', h1, h2, h3⟩ := HIW.out i hip
                  cases h1
                  exact (hkr.cell (p := ⟨g, off + x * size + i, none⟩) h2 HoWg.out).trans h3
                have hinr := partNo_in HIN.out (size := size) (j := x) (partNo size l x)[i] (List.getElem_mem hip)
                have HCX : Hid (((partNo size l x).take (i + 1)).flatMap (codeBits · kn) = ((partNo size l x).take i).flatMap (codeBits · kn) ++ codeBits (partNo size l x)[i] kn) := by
                  show _ = _
                  rw [List.take_succ_eq_append_getElem hip, List.flatMap_append]
                  simp only [List.flatMap_cons, List.flatMap_nil, List.append_nil]
                have hlr : (L ++ (low kn 5 ++ ((partNo size l x).take i).flatMap (codeBits · kn))).length ≤ 90000 := by
                  rw [List.length_append, List.length_append, low_length, codes_len kn _ hkn]
                  have h1 := totalN_le ((partNo size l x).take i) kn hkn
                  have h2 : ((partNo size l x).take i).length ≤ size := by rw [List.length_take]; omega
                  omega
                have HR := Lib.hid (cPut_yes b vr _ zr (partNo size l x)[i] kn wr.drew hinr hkn hlr (hwr.keeps (keeps_drew wr) (by simp) (by simp)))
                have HKr := Lib.hid hkr
                have HOr := Lib.hid hor
                generalize (partNo size l x)[i] = nn at r3 HR HCX hinr
                clear hwr hkr hor hip hlr hinr
                gi_wp2_with fail
                refine regionR hmx (by kernel_rfl) ?_
                refine wpAnyIn_take (i := 1) (v := ?_) rfl rfl (by kernel_rfl) (by kernel_rfl) (by kernel_rfl) (fun _ _ _ h => h) ⟨Or.inl ⟨by rfl, ?_⟩, fun _ => rfl⟩ ?_
                rotate_left
                · intro w9; go_simp; try with_reducible rfl
                refine wpAnyIn_take (i := 2) (v := ?_) rfl rfl (by kernel_rfl) (by kernel_rfl) (by kernel_rfl) (fun _ _ _ h => h) ⟨Or.inl ⟨by rfl, ?_⟩, fun _ => rfl⟩ ?_
                rotate_left
                · intro w9; go_simp; try with_reducible rfl
                refine wpAnyIn_take (i := 4) (v := ?_) rfl rfl (by kernel_rfl) (by kernel_rfl) (by kernel_rfl) (fun _ _ _ h => h) ⟨Or.inl ⟨by rfl, ?_⟩, fun _ => rfl⟩ ?_
                rotate_left
                · intro w9; go_simp; try with_reducible rfl
                refine wpAnyIn_ready (rs := [0, 3]) (by kernel_rfl) (by simp) ?_
                refine AllReadyIn.cons rfl (fun K hK => ?_) ?_
                · go_simp
                  refine hK _ _ ?_
                  clear hK K
                  refine wpAnyIn_ready (rs := [3]) (by kernel_rfl) (by simp) ?_
                  refine AllReadyIn.cons rfl (fun K hK => ?_) ?_
                  · go_simp
                    refine hK _ _ ?_
                    clear hK K
                    refine wpAnyIn_take (i := 5) (v := ?_) rfl rfl (by kernel_rfl) (by kernel_rfl) (by kernel_rfl) (fun _ _ _ h => h) ⟨Or.inl ⟨by rfl, ?_⟩, fun _ => rfl⟩ ?_
                    rotate_left
                    · intro w9; go_simp; try with_reducible rfl
                    refine wpAnyIn_ready (rs := [6]) (by kernel_rfl) (by simp) ?_
                    refine AllReadyIn.cons rfl (fun K hK => ?_) ?_
                    · go_simp
                      refine hK _ _ ?_
                      clear hK K
                      refine wpAnyIn_ready (rs := [7]) (by kernel_rfl) (by simp) ?_
                      refine AllReadyIn.cons rfl (fun K hK => ?_) ?_
                      · go_simp
                        refine ⟨trivial, (callsIn_wide.2 HR.out).mono ?_⟩
                        rintro e w6 ⟨rfl, hw6⟩
                        have HW6 := Lib.hid (Wrote.later (keeps_drew wr) hw6)
                        clear hw6
                        refine hK _ _ ?_
                        clear hK K
                        refine wpAnyIn_done (by kernel_rfl) ?_ _
                        gi_wp2
                        go_roundw
                        case rel => exact ⟨i + 1, by omega, by go_num, by have := Wrote.next HKr.out HOr.out HW6.out; rw [List.append_assoc, List.append_assoc, ← HCX.out] at this; exact this⟩
                        case measure => simp [intOf]; omega
                      exact AllReadyIn.nil
                    exact AllReadyIn.nil
                  exact AllReadyIn.nil
                refine AllReadyIn.cons rfl (fun K hK => ?_) ?_
                · go_simp
                  refine hK _ _ ?_
                  clear hK K
                  refine wpAnyIn_take (i := 5) (v := ?_) rfl rfl (by kernel_rfl) (by kernel_rfl) (by kernel_rfl) (fun _ _ _ h => h) ⟨Or.inl ⟨by rfl, ?_⟩, fun _ => rfl⟩ ?_
                  rotate_left
                  · intro w9; go_simp; try with_reducible rfl
                  refine wpAnyIn_ready (rs := [0, 6]) (by kernel_rfl) (by simp) ?_
                  refine AllReadyIn.cons rfl (fun K hK => ?_) ?_
                  · go_simp
                    refine hK _ _ ?_
                    clear hK K
                    refine wpAnyIn_ready (rs := [6]) (by kernel_rfl) (by simp) ?_
                    refine AllReadyIn.cons rfl (fun K hK => ?_) ?_
                    · go_simp
                      refine hK _ _ ?_
                      clear hK K
                      refine wpAnyIn_ready (rs := [7]) (by kernel_rfl) (by simp) ?_
                      refine AllReadyIn.cons rfl (fun K hK => ?_) ?_
                      · go_simp
                        refine ⟨trivial, (callsIn_wide.2 HR.out).mono ?_⟩
                        rintro e w6 ⟨rfl, hw6⟩
                        have HW6 := Lib.hid (Wrote.later (keeps_drew wr) hw6)
                        clear hw6
                        refine hK _ _ ?_
                        clear hK K
                        refine wpAnyIn_done (by kernel_rfl) ?_ _
                        gi_wp2
                        go_roundw
                        case rel => exact ⟨i + 1, by omega, by go_num, by have := Wrote.next HKr.out HOr.out HW6.out; rw [List.append_assoc, List.append_assoc, ← HCX.out] at this; exact this⟩
                        case measure => simp [intOf]; omega
                      exact AllReadyIn.nil
                    exact AllReadyIn.nil
                  refine AllReadyIn.cons rfl (fun K hK => ?_) ?_
                  · go_simp
                    refine hK _ _ ?_
                    clear hK K
                    refine wpAnyIn_ready (rs := [0]) (by kernel_rfl) (by simp) ?_
                    refine AllReadyIn.cons rfl (fun K hK => ?_) ?_
                    · go_simp
                      refine hK _ _ ?_
                      clear hK K
                      refine wpAnyIn_ready (rs := [7]) (by kernel_rfl) (by simp) ?_
                      refine AllReadyIn.cons rfl (fun K hK => ?_) ?_
                      · go_simp
                        refine ⟨trivial, (callsIn_wide.2 HR.out).mono ?_⟩
                        rintro e w6 ⟨rfl, hw6⟩
                        have HW6 := Lib.hid (Wrote.later (keeps_drew wr) hw6)
                        clear hw6
                        refine hK _ _ ?_
                        clear hK K
                        refine wpAnyIn_done (by kernel_rfl) ?_ _
                        gi_wp2
                        go_roundw
                        case rel => exact ⟨i + 1, by omega, by go_num, by have := Wrote.next HKr.out HOr.out HW6.out; rw [List.append_assoc, List.append_assoc, ← HCX.out] at this; exact this⟩
                        case measure => simp [intOf]; omega
                      exact AllReadyIn.nil
                    exact AllReadyIn.nil
                  exact AllReadyIn.nil
                exact AllReadyIn.nil
              · obtain rfl : i = size := by omega
                have HZ := Lib.hid HWr.out
                clear HWr
                rw [List.take_of_length_le (by rw [HPL.out]; exact Nat.le_refl _)] at HZ
                gi_wp2
                exact HEND _ HZ.out
          exact AllReadyIn.nil
        exact AllReadyIn.nil
      refine AllReadyIn.cons rfl (fun K hK => ?_) ?_
      · go_simp
        refine hK _ _ ?_
        clear hK K
        refine wpAnyIn_take (i := 6) (v := ?_) rfl rfl (by kernel_rfl) (by kernel_rfl) (by kernel_rfl) (fun _ _ _ h => h) ⟨Or.inl ⟨by rfl, ?_⟩, fun _ => rfl⟩ ?_
        rotate_left
        · intro w9; go_simp; try with_reducible rfl
        refine wpAnyIn_ready (rs := [0]) (by kernel_rfl) (by simp) ?_
        refine AllReadyIn.cons rfl (fun K hK => ?_) ?_
        · go_simp
          refine hK _ _ ?_
          clear hK K
          refine wpAnyIn_ready (rs := [7]) (by kernel_rfl) (by simp) ?_
          refine AllReadyIn.cons rfl (fun K hK => ?_) ?_
          · go_simp
            rw [EW.out]
            refine ⟨trivial, (callsIn_wide.2 HP5.out).mono ?_⟩
            rintro e w5 ⟨rfl, hw5⟩
            have HW5 : Hid (Wrote W b vW (L ++ low kn 5) w5) := Wrote.later (keeps_drew W) hw5
            clear hw5
            refine hK _ _ ?_
            clear hK K
            refine wpAnyIn_done (by kernel_rfl) ?_ _
            clear HP5
            gi_wp2_with fail
            gi_loopw [37] (fun iv wr => ∃ i : Nat, i ≤ size ∧ iv = .int .i64 i ∧ Hid (Wrote W b vW (L ++ (low kn 5 ++ ((partNo size l x).take i).flatMap (codeBits · kn))) wr))
              (fun iv _ => size - (intOf iv).toNat)
            case atStart => exact ⟨0, Nat.zero_le _, rfl, by have := HW5.out; simpa [Hid] using this⟩
            case round =>
              obtain ⟨i, hi, rfl, HWr⟩ := hrel
              by_cases hlt : i < size
              · obtain ⟨vr, zr, hwr, hkr, hor⟩ := HWr.out
                have r0 := (hkr.cell (p := ⟨w.heap.size, 0, none⟩) hqW HoW0.out).trans q0W
                have r1 := (hkr.cell (p := ⟨w.heap.size + 1, 1, none⟩) hcW HoW1.out).trans c1W
                have r2 := (hkr.cell (p := ⟨ga, offa + x, none⟩) hgaW HoWa.out).trans kcell
                have hip : i < (partNo size l x).length := by rw [HPL.out]; exact hlt
                have r3 : wr.cell? ⟨g, off + x * size + i, none⟩ = some (.int .i64 (partNo size l x)[i]) := by
                  obtain ⟨g', off', h1, h2, h3⟩ := HIW.out i hip
                  cases h1
                  exact (hkr.cell (p := ⟨g, off + x * size + i, none⟩) h2 HoWg.out).trans h3
                have hinr := partNo_in HIN.out (size := size) (j := x) (partNo size l x)[i] (List.getElem_mem hip)
                have HCX : Hid (((partNo size l x).take (i + 1)).flatMap (codeBits · kn) = ((partNo size l x).take i).flatMap (codeBits · kn) ++ codeBits (partNo size l x)[i] kn) := by
                  show _ = _
                  rw [List.take_succ_eq_append_getElem hip, List.flatMap_append]
                  simp only [List.flatMap_cons, List.flatMap_nil, List.append_nil]
                have hlr : (L ++ (low kn 5 ++ ((partNo size l x).take i).flatMap (codeBits · kn))).length ≤ 90000 := by
                  rw [List.length_append, List.length_append, low_length, codes_len kn _ hkn]
                  have h1 := totalN_le ((partNo size l x).take i) kn hkn
                  have h2 : ((partNo size l x).take i).length ≤ size := by rw [List.length_take]; omega
                  omega
                have HR := Lib.hid (cPut_yes b vr _ zr (partNo size l x)[i] kn wr.drew hinr hkn hlr (hwr.keeps (keeps_drew wr) (by simp) (by simp)))
                have HKr := Lib.hid hkr
                have HOr := Lib.hid hor
                generalize (partNo size l x)[i] = nn at r3 HR HCX hinr
                clear hwr hkr hor hip hlr hinr
                gi_wp2_with fail
                refine regionR hmx (by kernel_rfl) ?_
                refine wpAnyIn_take (i := 1) (v := ?_) rfl rfl (by kernel_rfl) (by kernel_rfl) (by kernel_rfl) (fun _ _ _ h => h) ⟨Or.inl ⟨by rfl, ?_⟩, fun _ => rfl⟩ ?_
                rotate_left
                · intro w9; go_simp; try with_reducible rfl
                refine wpAnyIn_take (i := 2) (v := ?_) rfl rfl (by kernel_rfl) (by kernel_rfl) (by kernel_rfl) (fun _ _ _ h => h) ⟨Or.inl ⟨by rfl, ?_⟩, fun _ => rfl⟩ ?_
                rotate_left
                · intro w9; go_simp; try with_reducible rfl
                refine wpAnyIn_take (i := 4) (v := ?_) rfl rfl (by kernel_rfl) (by kernel_rfl) (by kernel_rfl) (fun _ _ _ h => h) ⟨Or.inl ⟨by rfl, ?_⟩, fun _ => rfl⟩ ?_
                rotate_left
                · intro w9; go_simp; try with_reducible rfl
                refine wpAnyIn_ready (rs := [0, 3]) (by kernel_rfl) (by simp) ?_
                refine AllReadyIn.cons rfl (fun K hK => ?_) ?_
                · go_simp
                  refine hK _ _ ?_
                  clear hK K
                  refine wpAnyIn_ready (rs := [3]) (by kernel_rfl) (by simp) ?_
                  refine AllReadyIn.cons rfl (fun K hK => ?_) ?_
                  · go_simp
                    refine hK _ _ ?_
                    clear hK K
                    refine wpAnyIn_take (i := 5) (v := ?_) rfl rfl (by kernel_rfl) (by kernel_rfl) (by kernel_rfl) (fun _ _ _ h => h) ⟨Or.inl ⟨by rfl, ?_⟩, fun _ => rfl⟩ ?_
                    rotate_left
                    · intro w9; go_simp; try with_reducible rfl
                    refine wpAnyIn_ready (rs := [6]) (by kernel_rfl) (by simp) ?_
                    refine AllReadyIn.cons rfl (fun K hK => ?_) ?_
                    · go_simp
                      refine hK _ _ ?_
                      clear hK K
                      refine wpAnyIn_ready (rs := [7]) (by kernel_rfl) (by simp) ?_
                      refine AllReadyIn.cons rfl (fun K hK => ?_) ?_
                      · go_simp
                        refine ⟨trivial, (callsIn_wide.2 HR.out).mono ?_⟩
                        rintro e w6 ⟨rfl, hw6⟩
                        have HW6 := Lib.hid (Wrote.later (keeps_drew wr) hw6)
                        clear hw6
                        refine hK _ _ ?_
                        clear hK K
                        refine wpAnyIn_done (by kernel_rfl) ?_ _
                        gi_wp2
                        go_roundw
                        case rel => exact ⟨i + 1, by omega, by go_num, by have := Wrote.next HKr.out HOr.out HW6.out; rw [List.append_assoc, List.append_assoc, ← HCX.out] at this; exact this⟩
                        case measure => simp [intOf]; omega
                      exact AllReadyIn.nil
                    exact AllReadyIn.nil
                  exact AllReadyIn.nil
                refine AllReadyIn.cons rfl (fun K hK => ?_) ?_
                · go_simp
                  refine hK _ _ ?_
                  clear hK K
                  refine wpAnyIn_take (i := 5) (v := ?_) rfl rfl (by kernel_rfl) (by kernel_rfl) (by kernel_rfl) (fun _ _ _ h => h) ⟨Or.inl ⟨by rfl, ?_⟩, fun _ => rfl⟩ ?_
                  rotate_left
                  · intro w9; go_simp; try with_reducible rfl
                  refine wpAnyIn_ready (rs := [0, 6]) (by kernel_rfl) (by simp) ?_
                  refine AllReadyIn.cons rfl (fun K hK => ?_) ?_
                  · go_simp
                    refine hK _ _ ?_
                    clear hK K
                    refine wpAnyIn_ready (rs := [6]) (by kernel_rfl) (by simp) ?_
                    refine AllReadyIn.cons rfl (fun K hK => ?_) ?_
                    · go_simp
                      refine hK _ _ ?_
                      clear hK K
                      refine wpAnyIn_ready (rs := [7]) (by kernel_rfl) (by simp) ?_
                      refine AllReadyIn.cons rfl (fun K hK => ?_) ?_
                      · go_simp
                        refine ⟨trivial, (callsIn_wide.2 HR.out).mono ?_⟩
                        rintro e w6 ⟨rfl, hw6⟩
                        have HW6 := Lib.hid (Wrote.later (keeps_drew wr) hw6)
                        clear hw6
                        refine hK _ _ ?_
                        clear hK K
                        refine wpAnyIn_done (by kernel_rfl) ?_ _
                        gi_wp2
                        go_roundw
                        case rel => exact ⟨i + 1, by omega, by go_num, by have := Wrote.next HKr.out HOr.out HW6.out; rw [List.append_assoc, List.append_assoc, ← HCX.out] at this; exact this⟩
                        case measure => simp [intOf]; omega
                      exact AllReadyIn.nil
                    exact AllReadyIn.nil
                  refine AllReadyIn.cons rfl (fun K hK => ?_) ?_
                  · go_simp
                    refine hK _ _ ?_
                    clear hK K
                    refine wpAnyIn_ready (rs := [0]) (by kernel_rfl) (by simp) ?_
                    refine AllReadyIn.cons rfl (fun K hK => ?_) ?_
                    · go_simp
                      refine hK _ _ ?_
                      clear hK K
                      refine wpAnyIn_ready (rs := [7]) (by kernel_rfl) (by simp) ?_
                      refine AllReadyIn.cons rfl (fun K hK => ?_) ?_
                      · go_simp
                        refine ⟨trivial, (callsIn_wide.2 HR.out).mono ?_⟩
                        rintro e w6 ⟨rfl, hw6⟩
                        have HW6 := Lib.hid (Wrote.later (keeps_drew wr) hw6)
                        clear hw6
                        refine hK _ _ ?_
                        clear hK K
                        refine wpAnyIn_done (by kernel_rfl) ?_ _
                        gi_wp2
                        go_roundw
                        case rel => exact ⟨i + 1, by omega, by go_num, by have := Wrote.next HKr.out HOr.out HW6.out; rw [List.append_assoc, List.append_assoc, ← HCX.out] at this; exact this⟩
                        case measure => simp [intOf]; omega
                      exact AllReadyIn.nil
                    exact AllReadyIn.nil
                  exact AllReadyIn.nil
                exact AllReadyIn.nil
              · obtain rfl : i = size := by omega
                have HZ := Lib.hid HWr.out
                clear HWr
                rw [List.take_of_length_le (by rw [HPL.out]; exact Nat.le_refl _)] at HZ
                gi_wp2
                exact HEND _ HZ.out
          exact AllReadyIn.nil
        exact AllReadyIn.nil
      exact AllReadyIn.nil
    exact AllReadyIn.nil
  case done =>
    rintro D xs W hD hS hI hDW
    have hI2 := (own_wrote (w0 := w4) (b := b) (v := v3) (fun xs : List (Fin m) => l1 ++ flatP (pbits size ks l) xs)).putObj (.deferred none) hI hD hDW rfl
    have HF : Hid (Puts w b v true (l0 ++ slideBits l p ks) (.returned (.bool true)) (W.putObj D (.deferred none))) := by
      refine ⟨rfl, ?_⟩
      have := Wrote.next HK4.out HO3.out hI2
      rw [HSB.out, ← flatP_all _ hS, ← List.append_assoc, ← HL1.out]
      exact this
    clear hI hI2
    gi_wp2
    refine ⟨by simp, .inl ⟨_, _, rfl, run_takeDeferred hDW, ?_⟩⟩
    refine ⟨_, results_tmp rfl _ _ _, ?_⟩
    exact HF.out
  case stop =>
    rintro D c pre W _ _ h _
    exact h.elim

theorem cSPut (b : Nat) (v : Value) (l0 : List Bool) (zs : List Nat) (lo ao : Option Addr) (lcap cap : Nat) (l : List Int) (P : Int) (ks : List Int) (w : World) (hl0 : l0.length ≤ 20000) (hcap : l.length ≤ lcap) (hl : l.length ≤ 1000000) (hk : ks.length ≤ 1000000) (hw : WrIs w b v l0 zs) (hi : IntsAt w lo l) (hj : IntsAt w ao ks) (hog : ∀ g off, lo = some ⟨g, off, none⟩ → Off b v g) (hoa : ∀ g off, ao = some ⟨g, off, none⟩ → Off b v g) :
    Calls Tryz.prog 66 #[.pointer (some ⟨b, 0, none⟩), .slice lo l.length lcap, .agg #[.int .i64 P, .slice ao ks.length cap]] w (Puts w b v (slideOk l P ks) (l0 ++ slideBits l P ks)) := by
  cases h : slideOk l P ks
  · rw [← h]; exact cSPut_no b v l0 zs lo ao lcap cap l P ks w hl hk hw hi hj h
  · rw [← h]; exact cSPut_yes b v l0 zs lo ao lcap cap l P ks w hl0 hcap hw hi hj hog hoa h

theorem cBits (lo ao : Option Addr) (lcap cap : Nat) (l : List Int) (P : Int) (ks : List Int) (w : World) (hcap : l.length ≤ lcap) (hl : l.length ≤ 1000000) (hk : ks.length ≤ 1000000) (hi : IntsAt w lo l) (hj : IntsAt w ao ks) :
    Calls Tryz.prog 68 #[.slice lo l.length lcap, .agg #[.int .i64 P, .slice ao ks.length cap]] w fun e w' => e = .returned (.int .i64 (slideLen l P ks)) ∧ Below w.heap.size w w' := by
  cases h : slideOk l P ks
  · exact cBits_no lo ao lcap cap l P ks w hl hk hi hj h
  · exact cBits_yes lo ao lcap cap l P ks w hcap hi hj h
end Go.Proofs.YtefbakhhlonafaaGreat
