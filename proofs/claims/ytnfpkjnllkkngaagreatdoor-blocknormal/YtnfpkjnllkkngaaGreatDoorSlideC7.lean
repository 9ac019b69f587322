import Derived.Test.YtnfpkjnllkkngaaGreatDoorSlideC6

namespace Go.Proofs.YtnfpkjnllkkngaaGreatDoor
open Go.RowKit Go.Shelf Go.Proofs Go.Proofs.PipeM Go.Proofs.PipeA
set_option maxRecDepth 100000

attribute [local go_sem] Oper.semAt_some

def BestOfIs (size : Nat) (l : List Int) (p m : Nat) (w : World) (e : Ending) (w' : World) : Prop :=
  ∃ H, e = .returned (.tuple #[.agg #[.int .i64 p, .slice (some ⟨H, 0, none⟩) m m], .int .i64 ((2 + bodyLen size (bestKs size l m) l m : Nat) : Int)]) ∧ IntsAt w' (some ⟨H, 0, none⟩) (bestKs size l m) ∧ w.heap.size ≤ H ∧ Below w.heap.size w w'

/-- What the keys are when these parts have come. -/
def keyAt (size : Nat) (l : List Int) {m : Nat} (pre : List (Fin m)) (j : Nat) : Int := if j ∈ pre.map (·.val) then ((bestN (partNo size l j) : Nat) : Int) else 0
theorem keyAt_new (size : Nat) (l : List Int) {m : Nat} (pre : List (Fin m)) (x : Fin m) : keyAt size l (pre ++ [x]) x.val = ((bestN (partNo size l x.val) : Nat) : Int) := by
  unfold keyAt; rw [if_pos (by simp)]
theorem keyAt_old (size : Nat) (l : List Int) {m : Nat} (pre : List (Fin m)) (x : Fin m) (j : Nat) (h : j ≠ x.val) : keyAt size l (pre ++ [x]) j = keyAt size l pre j := by
  unfold keyAt
  have : (j ∈ (pre ++ [x]).map (·.val)) ↔ j ∈ pre.map (·.val) := by simp [h]
  by_cases hj : j ∈ pre.map (·.val)
  · rw [if_pos hj, if_pos (this.2 hj)]
  · rw [if_neg hj, if_neg (fun h => hj (this.1 h))]
theorem keyAt_all (size : Nat) (l : List Int) {m : Nat} {xs : List (Fin m)} (h : xs.map (·.val) = List.range m) (j : Nat) (hj : j < m) : keyAt size l xs j = ((bestN (partNo size l j) : Nat) : Int) := by
  unfold keyAt; rw [h, if_pos (by simpa using hj)]

theorem alloc4 (w : World) (o1 o2 o3 o4 : Obj) : ((((w.alloc o1).alloc o2).alloc o3).alloc o4).heap[w.heap.size]? = some o1 ∧ ((((w.alloc o1).alloc o2).alloc o3).alloc o4).heap[w.heap.size + 1]? = some o2 ∧ ((((w.alloc o1).alloc o2).alloc o3).alloc o4).heap[w.heap.size + 1 + 1]? = some o3 ∧ ((((w.alloc o1).alloc o2).alloc o3).alloc o4).heap[w.heap.size + 1 + 1 + 1]? = some o4 ∧ ((((w.alloc o1).alloc o2).alloc o3).alloc o4).heap.size = w.heap.size + 4 ∧ Below w.heap.size w ((((w.alloc o1).alloc o2).alloc o3).alloc o4) := by
  have h1 := World.alloc_heap_new w o1
  have h2 := World.alloc_heap_new (w.alloc o1) o2
  have h3 := World.alloc_heap_new ((w.alloc o1).alloc o2) o3
  have h4 := World.alloc_heap_new (((w.alloc o1).alloc o2).alloc o3) o4
  have z1 : (w.alloc o1).heap.size = w.heap.size + 1 := by simp
  have z2 : ((w.alloc o1).alloc o2).heap.size = w.heap.size + 1 + 1 := by simp
  have z3 : (((w.alloc o1).alloc o2).alloc o3).heap.size = w.heap.size + 1 + 1 + 1 := by simp
  rw [z1] at h2
  rw [z2] at h3
  rw [z3] at h4
  refine ⟨?_, ?_, ?_, h4, by simp, ((((Below.refl _ w).alloc (Nat.le_refl _) _).alloc (by simp) _).alloc (by simp; omega) _).alloc (by simp; omega) _⟩
  · exact (Below.heap_alloc _ _ _ (by simp; omega)).trans ((Below.heap_alloc _ _ _ (by simp; omega)).trans ((Below.heap_alloc _ _ _ (by simp)).trans h1))
  · exact (Below.heap_alloc _ _ _ (by simp)).trans ((Below.heap_alloc _ _ _ (by simp)).trans h2)
  · exact (Below.heap_alloc _ _ _ (by simp)).trans h3
theorem cell_of_heap {W : World} {b : Nat} {cs : Array Value} {t : TypeId} (h : W.heap[b]? = some (.cells cs t)) (j : Nat) : W.cell? ⟨b, j, none⟩ = cs[j]? := by simp [World.cell?, h]
theorem frozen_of_heap {W : World} {b : Nat} {cs : Array Value} {t : TypeId} (h : W.heap[b]? = some (.cells cs t)) (j : Nat) : W.frozen? ⟨b, j, none⟩ = false := by simp [World.frozen?, h]

def bestLen (size : Nat) (l : List Int) (j : Nat) : Nat := 5 + totalN (partNo size l j) (bestN (partNo size l j))
theorem bestLen_le (size : Nat) (l : List Int) (j : Nat) (hs : size ≤ 1024) : bestLen size l j ≤ 5 + 59 * 1024 := by
  have h2 := totalN_le (partNo size l j) (bestN (partNo size l j)) (bestN_is _).1
  have h3 : (partNo size l j).length ≤ size := by unfold partNo; simp; omega
  unfold bestLen
  omega
theorem sumTo_congr {f g : Nat → Nat} : ∀ n, (∀ j, j < n → f j = g j) → sumTo f n = sumTo g n
  | 0, _ => rfl
  | n + 1, h => by
    show sumTo f n + f n = sumTo g n + g n
    rw [sumTo_congr n (fun j hj => h j (by omega)), h n (by omega)]
theorem best_sum (size : Nat) (l : List Int) (m : Nat) : sumTo (bestLen size l) m = bodyLen size (bestKs size l m) l m := by
  unfold bodyLen
  refine sumTo_congr m (fun j hj => ?_)
  unfold bestLen partLen
  rw [show (bestKs size l m).getD j 0 = ((bestN (partNo size l j) : Nat) : Int) by rw [List.getD, List.getElem?_eq_getElem (by rw [bestKs_length]; exact hj), bestKs_get]; rfl, Int.toNat_natCast]
def KeysAt (W : World) (H m : Nat) (f : Nat → Int) : Prop := ∀ j, j < m → W.cell? ⟨H, j, none⟩ = some (.int .i64 (f j)) ∧ W.frozen? ⟨H, j, none⟩ = false
theorem own_keys {β : Type} {B H m : Nat} (f : β → Nat → Int) : OwnFrom B (fun s W => KeysAt W H m (f s)) :=
  fun s X Y row hs hg hr j hj => own_cell (B := B) ⟨H, j, none⟩ (fun (s : β) => .int .i64 (f s j)) s X Y row (hs j hj) hg hr

set_option maxHeartbeats 3200000 in
theorem cBestOf (lo : Option Addr) (lcap : Nat) (l : List Int) (p size m : Nat) (w : World) (hp : p ≤ 3) (hm : m = 2 ^ p) (hsp : l.length = size * m) (hs : 1 ≤ size) (hl : l.length ≤ 1024) (hcap : l.length ≤ lcap) (hi : IntsAt w lo l) (hr : ∀ n ∈ l, InR n) :
    Calls Tryz.prog 48 #[.slice lo l.length lcap, .int .i64 p] w (BestOfIs size l p m w) := by
  have hm8 : m ≤ 8 := by rw [hm]; exact Nat.le_trans (Nat.pow_le_pow_right (by decide) hp) (by decide)
  have hm1 : 1 ≤ m := by rw [hm]; exact Nat.two_pow_pos p
  have hl1 : 1 ≤ l.length := by rw [hsp]; exact Nat.mul_pos hs hm1
  have hs2 : size ≤ 1024 := by
    have : size * 1 ≤ size * m := Nat.mul_le_mul_left size hm1
    omega
  obtain ⟨g, off, rfl, hg0, _⟩ := hi 0 hl1
  obtain ⟨cs, hcs, hmk⟩ := makeInts m (by omega)
  have HST := fun c t W => Lib.hid (each1_stops (n := 4) g off l.length lcap p size m c t W (by omega) hp hm hsp hs hl hcap)
  have HPT := fun W => Lib.hid (cParts (some ⟨g, off, none⟩) l.length lcap p W hp)
  have E4 : IntKind.i64.wrap ((2 : Int) ^ p) = (m : Int) := by
    have : ((2 : Int) ^ p) = ((2 ^ p : Nat) : Int) := by rw [Int.natCast_pow]; rfl
    rw [this, ← hm]
    exact IntWalk.i64_in _ ⟨by omega, by omega⟩
  have E5 : wrap64 ((2 : Int) ^ p) = (m : Int) := by
    have : ((2 : Int) ^ p) = ((2 ^ p : Nat) : Int) := by rw [Int.natCast_pow]; rfl
    rw [this, ← hm]
    exact IntWalk.wrap64_in _ ⟨by omega, by omega⟩
  have HI := Lib.hid hi
  have HR := Lib.hid hr
  have HCS := Lib.hid hcs
  have HSP := Lib.hid hsp
  obtain ⟨len, hlen⟩ : ∃ len, len = l.length := ⟨_, rfl⟩
  rw [← hlen] at hl hl1 HST HPT hcap HSP ⊢
  have HLEN := Lib.hid hlen
  clear hlen hsp hm hi hr hcs
  refine (callsIn_wide (n := 5)).1 ?_
  refine callsIn_of_wp_marks Tryz.func48 rfl trivial ?_ rfl
  simp only [Tryz.ntmps48, List.size_toArray, List.length_cons, List.length_nil, Nat.reduceAdd, Nat.reduceSub, Array.replicate_succ, Array.replicate_zero, List.push_toArray, List.append_toArray, List.nil_append, List.cons_append]
  gi_wp2_with fail
  obtain ⟨h1, h2, h3, h4, hszA, hBA⟩ := alloc4 w (.cells #[.int .i64 0, .slice none 0 0] 54) (.cells cs 3) (.cells #[.slice (some ⟨w.heap.size + 1, 0, none⟩) m m] 22) (.cells #[.int .i64 2] 3)
  refine ⟨trivial, (callsIn_wide.2 (HPT _).out).mono ?_⟩
  generalize ((((w.alloc (.cells #[.int .i64 0, .slice none 0 0] 54)).alloc (.cells cs 3)).alloc (.cells #[.slice (some ⟨w.heap.size + 1, 0, none⟩) m m] 22)).alloc (.cells #[.int .i64 2] 3)) = wa at h1 h2 h3 h4 hszA hBA ⊢
  have k0 : ∀ j, j < m → wa.cell? ⟨w.heap.size + 1, j, none⟩ = some (.int .i64 0) := fun j hj => (cell_of_heap h2 j).trans (HCS.out j hj)
  have k1 : ∀ j, wa.frozen? ⟨w.heap.size + 1, j, none⟩ = false := fun j => frozen_of_heap h2 j
  have r0 : wa.cell? ⟨w.heap.size, 0, none⟩ = some (.int .i64 0) := cell_of_heap h1 0
  have r1 : wa.cell? ⟨w.heap.size, 1, none⟩ = some (.slice none 0 0) := cell_of_heap h1 1
  have r2 := fun j => frozen_of_heap h1 j
  have b0 : wa.cell? ⟨w.heap.size + 1 + 1, 0, none⟩ = some (.slice (some ⟨w.heap.size + 1, 0, none⟩) m m) := cell_of_heap h3 0
  have n0 : wa.cell? ⟨w.heap.size + 1 + 1 + 1, 0, none⟩ = some (.int .i64 2) := cell_of_heap h4 0
  have n1 := frozen_of_heap h4 0
  have HBA := Lib.hid hBA
  clear h1 h2 h3 h4 hBA HCS hmk E4 E5 HPT
  generalize hB7 : w.heap.size + 1 + 1 + 1 = B7 at n0 n1 ⊢
  generalize hB6 : w.heap.size + 1 + 1 = B6 at b0 ⊢
  generalize hH : w.heap.size + 1 = H at k0 k1 b0 ⊢
  have hBH : w.heap.size < H := by omega
  have hHB : H < B6 := by omega
  have hB67 : B6 < B7 := by omega
  have hB7a : B7 < wa.heap.size := by omega
  clear hB7 hB6 hH hszA
  rintro e w4 ⟨c, t, rfl, hpa, hc1, ht1, hc2, ht2, hb4⟩
  unfold partsF
  gi_wp2_with fail
  have hsz4 := hb4.size
  have k0 : ∀ j, j < m → w4.cell? ⟨H, j, none⟩ = some (.int .i64 0) := fun j hj => (hb4.cell (p := ⟨H, j, none⟩) (by show H < _; omega)).trans (k0 j hj)
  have k1 : ∀ j, w4.frozen? ⟨H, j, none⟩ = false := fun j => (hb4.frozen (p := ⟨H, j, none⟩) (by show H < _; omega)).trans (k1 j)
  have r0 := (hb4.cell (p := ⟨w.heap.size, 0, none⟩) (by show w.heap.size < _; omega)).trans r0
  have r1 := (hb4.cell (p := ⟨w.heap.size, 1, none⟩) (by show w.heap.size < _; omega)).trans r1
  have r2 : ∀ j, w4.frozen? ⟨w.heap.size, j, none⟩ = false := fun j => (hb4.frozen (p := ⟨w.heap.size, j, none⟩) (by show w.heap.size < _; omega)).trans (r2 j)
  have b0 := (hb4.cell (p := ⟨B6, 0, none⟩) (by show B6 < _; omega)).trans b0
  have n0 := (hb4.cell (p := ⟨B7, 0, none⟩) (by show B7 < _; omega)).trans n0
  have n1 := (hb4.frozen (p := ⟨B7, 0, none⟩) (by show B7 < _; omega)).trans n1
  have HB4 := Lib.hid (HBA.out.trans (hb4.mono HBA.out.size))
  have HI4 := Lib.hid (HI.out.below HB4.out)
  have hseq := (HST c t w4).out hpa hc2 ht2
  have hgH : g ≠ H := by omega
  have hgB : g ≠ B7 := by omega
  have hcH : c ≠ H := by omega
  have hcB : c ≠ B7 := by omega
  have htH : t ≠ H := by omega
  have htB : t ≠ B7 := by omega
  have hB6H : B6 ≠ H := by omega
  have hB6B : B6 ≠ B7 := by omega
  have hwH : w.heap.size ≠ H := by omega
  have hwB : w.heap.size ≠ B7 := by omega
  have hB64 : B6 < w4.heap.size := by omega
  have hH4 : H < w4.heap.size := by omega
  have hB74 : B7 < w4.heap.size := by omega
  have hg4 : g < w4.heap.size := by omega
  have hw4 : w.heap.size < w4.heap.size := by omega
  clear hpa hb4 HST HI HBA
  refine wpIn_rangeFunc_ownG rfl (by omega) (gf := 112) (lb := #[.pointer (some ⟨c, 0, none⟩), .pointer (some ⟨t, 0, none⟩)]) rfl trivial (enters_of Tryz.func112 (by kernel_rfl) rfl)
    hseq kpB_t (kpB_b hc2 ht2) (Below.refl _ _) (fun _ => rfl)
    (fun pre W => ((W.cell? ⟨B7, 0, none⟩ = some (.int .i64 ((2 + sumP (bestLen size l) pre : Nat) : Int)) ∧ W.frozen? ⟨B7, 0, none⟩ = false) ∧ Keeps [H, B7] w4 W) ∧ KeysAt W H m (keyAt size l pre))
    (fun _ _ _ => False)
    (((own_cell ⟨B7, 0, none⟩ _).and own_keeps).and (own_keys _)) (fun _ _ _ _ _ hs _ _ => hs.elim)
    ⟨⟨⟨n0, n1⟩, Keeps.refl _ _⟩, fun j hj => ⟨by rw [k0 j hj]; rfl, k1 j⟩⟩
    (fun x => { tmps := #[.slice (some ⟨g, off, none⟩) len lcap, .int .i64 p, undef, undef, .pointer (some ⟨w.heap.size, 0, none⟩), .int .i64 0, .pointer (some ⟨B6, 0, none⟩), .pointer (some ⟨B7, 0, none⟩), .int .i64 ((x.val : Nat) : Int), partV g off size lcap x.val, undef, undef, .int .i64 p, .int .i64 m, .slice (some ⟨H, 0, none⟩) m m, .slice (some ⟨g, off, none⟩) len lcap, .int .i64 p, .agg #[.slice (some ⟨g, off, none⟩) len lcap, .int .i64 p],
      .func (.func 112) #[] #[.pointer (some ⟨c, 0, none⟩), .pointer (some ⟨t, 0, none⟩)], .int .i64 ((x.val : Nat) : Int), partV g off size lcap x.val, undef, undef, undef, undef, undef, undef, undef, undef, undef, undef, undef, undef, undef, undef, undef, undef, undef], defers := [] }) ?assign ?body ?done ?stop
  case assign =>
    intro l' x W K hK
    unfold encP partV
    unfold partV at hK
    gi_wp2
    exact hK
  case body =>
    rintro l' pre ⟨x, hx⟩ W ⟨⟨⟨hc, hf⟩, hK⟩, hkeys⟩ hpre
    have hx1 : (x + 1) * size ≤ l.length := by
      rw [← HLEN.out, HSP.out, Nat.mul_comm size]
      exact Nat.mul_le_mul_right size hx
    have hbl := sumP_le (bestLen size l) _ (fun j (_ : j < m) => bestLen_le size l j hs2) pre
    have hb2 : pre.length * (5 + 59 * 1024) ≤ 8 * (5 + 59 * 1024) := Nat.mul_le_mul_right _ (by omega)
    have htl := bestLen_le size l x hs2
    have HSN := Lib.hid (sumP_snoc (bestLen size l) pre ⟨x, hx⟩)
    have HIW := Lib.hid ((HI4.out.keeps hK (by intro g' off' hh; cases hh; simp; exact ⟨hgH, hgB⟩)).part size x hx1)
    have b0W := (hK.cell (p := ⟨B6, 0, none⟩) hB64 (by simp; exact ⟨hB6H, hB6B⟩)).trans b0
    have HCB := Lib.hid (cBest (some ⟨g, off + x * size, none⟩) (lcap - x * size) (partNo size l x) W (by rw [partNo_length hx1]; omega) HIW.out (partNo_in HR.out))
    rw [partNo_length hx1] at HCB
    have hszW := hK.size
    have HK := Lib.hid hK
    have HKEYS := Lib.hid hkeys
    generalize hsp0 : sumP (bestLen size l) pre = sp at hbl HSN hc
    have hex : bestLen size l x = 5 + totalN (partNo size l x) (bestN (partNo size l x)) := rfl
    clear hK hkeys hx1 hsp0
    unfold partV
    gi_wp2_with fail
    refine ⟨trivial, (CallsIn.inRound l' (callsIn_wide.2 HCB.out)).mono ?_⟩
    rintro e w5 ⟨k, rfl, hk, hb5⟩
    obtain rfl := isBest_eq hk
    have s0 := (hb5.cell (p := ⟨B6, 0, none⟩) (by show B6 < _; omega)).trans b0W
    have s1 : w5.cell? ⟨H, x, none⟩ = some (.int .i64 (keyAt size l pre x)) := (hb5.cell (p := ⟨H, x, none⟩) (by show H < _; omega)).trans (HKEYS.out x hx).1
    have s2 : w5.frozen? ⟨H, x, none⟩ = false := (hb5.frozen (p := ⟨H, x, none⟩) (by show H < _; omega)).trans (HKEYS.out x hx).2
    have s3 : ∀ u, (w5.setCell ⟨H, x, none⟩ u).cell? ⟨B7, 0, none⟩ = some (.int .i64 ((2 + sp : Nat) : Int)) := fun u => by
      rw [World.cell?_setCell_other _ _ _ _ (by intro e; cases e; omega)]
      exact (hb5.cell (p := ⟨B7, 0, none⟩) (by show B7 < _; omega)).trans hc
    have s4 : w5.frozen? ⟨B7, 0, none⟩ = false := (hb5.frozen (p := ⟨B7, 0, none⟩) (by show B7 < _; omega)).trans hf
    have HB5 := Lib.hid hb5
    generalize hkb : bestN (partNo size l x) = kb at hex ⊢
    generalize totalN (partNo size l x) kb = tt at hex ⊢
    rw [hex] at HSN htl
    clear hex hb5 hk
    gi_wp2_with fail
    have kk : Keeps [H, B7] W ((w5.setCell ⟨H, x, none⟩ (.int .i64 ((kb : Nat) : Int))).setCell ⟨B7, 0, none⟩ (.int .i64 (2 + (sp : Int) + (5 + (tt : Int))))) :=
      ((keeps_of_below HB5.out [H, B7]).trans_new (keeps_setCell w5 H x _) (by simp)).trans_new (keeps_setCell _ B7 0 _) (by simp)
    refine ⟨keepsFrom_of kk (fun k hk => ?_), kpB_keeps kk (by omega) (by omega) (by simp; exact ⟨hcH, hcB⟩) (by simp; exact ⟨htH, htB⟩), ⟨⟨⟨?_, ?_⟩, HK.out.trans kk⟩, ?_⟩⟩
    · simp at hk; rcases hk with rfl | rfl
      · exact Or.inl hH4
      · exact Or.inl hB74
    · rw [World.cell?_setCell_same' _ _ _ (by rw [s3]; rfl), HSN.out]
      congr 2
      omega
    · rw [World.frozen?_setCell, World.frozen?_setCell]; exact s4
    · intro j hj
      rw [World.frozen?_setCell, World.frozen?_setCell, World.cell?_setCell_other _ _ _ _ (by intro e; cases e; omega)]
      have hfj := (HB5.out.frozen (p := ⟨H, j, none⟩) (by show H < _; omega)).trans (HKEYS.out j hj).2
      by_cases e : j = x
      · subst e
        have := keyAt_new size l pre ⟨j, hx⟩
        rw [World.cell?_setCell_same' _ _ _ (by rw [s1]; rfl), this, hkb]
        exact ⟨rfl, hfj⟩
      · rw [World.cell?_setCell_other _ _ _ _ (by intro e2; cases e2; exact e rfl), keyAt_old size l pre ⟨x, hx⟩ j e]
        exact ⟨(HB5.out.cell (p := ⟨H, j, none⟩) (by show H < _; omega)).trans (HKEYS.out j hj).1, hfj⟩
  case done =>
    rintro D xs W hD hS ⟨⟨⟨hc, hf⟩, hK⟩, hkeys⟩ hDW
    have HV : Hid (2 + sumP (bestLen size l) xs = 2 + bodyLen size (bestKs size l m) l m) := by
      show _ = _
      rw [sumP_all _ hS, best_sum]
    rw [HV.out] at hc
    have HKI : Hid (IntsAt W (some ⟨H, 0, none⟩) (bestKs size l m)) := by
      intro j hj
      have hjm : j < m := by rw [bestKs_length] at hj; exact hj
      refine ⟨H, 0, rfl, Nat.lt_of_lt_of_le hH4 hK.size, ?_⟩
      rw [Nat.zero_add, (hkeys j hjm).1, keyAt_all size l hS j hjm, bestKs_get]
    have hmx : Tryz.prog.follows .mixedOrders = true := by kernel_rfl
    have u0 := (hK.cell (p := ⟨w.heap.size, 0, none⟩) hw4 (by simp; exact ⟨hwH, hwB⟩)).trans r0
    have u1 := (hK.cell (p := ⟨w.heap.size, 1, none⟩) hw4 (by simp; exact ⟨hwH, hwB⟩)).trans r1
    have u2 : W.frozen? ⟨w.heap.size, 0, none⟩ = false := (hK.frozen (p := ⟨w.heap.size, 0, none⟩) hw4 (by simp; exact ⟨hwH, hwB⟩)).trans (r2 0)
    have u3 : W.frozen? ⟨w.heap.size, 1, none⟩ = false := (hK.frozen (p := ⟨w.heap.size, 1, none⟩) hw4 (by simp; exact ⟨hwH, hwB⟩)).trans (r2 1)
    have u4 := (hK.cell (p := ⟨B6, 0, none⟩) hB64 (by simp; exact ⟨hB6H, hB6B⟩)).trans b0
    have HBW := Lib.hid (HB4.out.trans (hK.below HB4.out.size (by simp; omega)))
    have hszW := hK.size
    obtain ⟨bb, hbb⟩ : ∃ bb, bb = 2 + bodyLen size (bestKs size l m) l m := ⟨_, rfl⟩
    rw [← hbb] at hc
    have HBB := Lib.hid hbb
    clear hbb HV
    clear hK hkeys hf
    have hDw : D ≠ w.heap.size := by omega
    have W2c : Hid (∀ W2, W2 = ((W.setCell ⟨w.heap.size, 0, none⟩ (.int .i64 (p : Int))).setCell ⟨w.heap.size, 1, none⟩ (.slice (some ⟨H, 0, none⟩) m m)).drew → Keeps [w.heap.size] W W2 ∧ W2.heap[D]? = some (.deferred (some [])) ∧ W2.cell? ⟨w.heap.size, 0, none⟩ = some (.int .i64 (p : Int)) ∧ W2.cell? ⟨w.heap.size, 1, none⟩ = some (.slice (some ⟨H, 0, none⟩) m m)) := by
      rintro W2 rfl
      have kk : Keeps [w.heap.size] W ((W.setCell ⟨w.heap.size, 0, none⟩ (.int .i64 (p : Int))).setCell ⟨w.heap.size, 1, none⟩ (.slice (some ⟨H, 0, none⟩) m m)).drew := ((keeps_setCell W w.heap.size 0 _).trans (keeps_setCell _ w.heap.size 1 _)).trans (keeps_drew_b _ _)
      refine ⟨kk, (kk.block D (Array.getElem?_eq_some_iff.1 hDW).1 (by simpa using hDw)).trans hDW, ?_, ?_⟩
      · exact (World.cell?_setCell_other _ _ _ _ (by simp)).trans (World.cell?_setCell_same' _ _ _ (by rw [u0]; rfl))
      · exact World.cell?_setCell_same' _ _ _ (by rw [World.cell?_setCell_other _ _ _ _ (by simp), u1]; rfl)
    gi_wp2_with fail
    gi_region
    obtain ⟨W2, hW2⟩ : ∃ W2, W2 = ((W.setCell ⟨w.heap.size, 0, none⟩ (.int .i64 (p : Int))).setCell ⟨w.heap.size, 1, none⟩ (.slice (some ⟨H, 0, none⟩) m m)).drew := ⟨_, rfl⟩
    rw [← hW2]
    obtain ⟨kk, hD2, y0, y1⟩ := W2c.out W2 hW2
    have z0 : (W2.putObj D (.deferred none)).cell? ⟨w.heap.size, 0, none⟩ = some (.int .i64 (p : Int)) := (World.cell?_of_block (World.putObj_heap_other hDw.symm)).trans y0
    have z1 : (W2.putObj D (.deferred none)).cell? ⟨w.heap.size, 1, none⟩ = some (.slice (some ⟨H, 0, none⟩) m m) := (World.cell?_of_block (World.putObj_heap_other hDw.symm)).trans y1
    have HF : Hid (BestOfIs size l p m w (.returned (.tuple #[.agg #[.int .i64 (p : Int), .slice (some ⟨H, 0, none⟩) m m], .int .i64 (bb : Int)])) (W2.putObj D (.deferred none))) := by
      have hHD : H ≠ D := by omega
      have kD : Keeps [D] W2 (W2.putObj D (.deferred none)) := ⟨rfl, rfl, rfl, by simp [World.putObj], fun k _ hk => World.putObj_heap_other (by simpa using hk)⟩
      refine ⟨H, by rw [HBB.out], ?_, by omega, ?_⟩
      · exact (HKI.out.keeps kk (by intro g' off' hh; cases hh; simpa using hwH.symm)).keeps kD (by intro g' off' hh; cases hh; simpa using hHD)
      · exact (HBW.out.trans (kk.below HBW.out.size (by simp))).trans (kD.below (Nat.le_trans HBW.out.size kk.size) (by simp; omega))
    clear hW2 kk y0 y1 W2c
    gi_wp2
    refine ⟨by simp, .inl ⟨_, _, rfl, run_takeDeferred hD2, ?_⟩⟩
    refine ⟨.tuple #[.agg #[.int .i64 (p : Int), .slice (some ⟨H, 0, none⟩) m m], .int .i64 (bb : Int)], ?_, HF.out⟩
    clear HF
    simp [results, Tryz.results48, go_sem, z0, z1]
  case stop =>
    rintro D c pre W _ _ h _
    exact h.elim
end Go.Proofs.YtnfpkjnllkkngaaGreatDoor
