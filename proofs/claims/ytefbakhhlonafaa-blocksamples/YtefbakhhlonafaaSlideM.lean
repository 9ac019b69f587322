import Derived.Test.YtefbakhhlonafaaSlideC7

section
namespace Go.Proofs.Ytefbakhhlonafaa
open Go.RowKit Go.Shelf Go.Proofs Go.Proofs.PipeM Go.Proofs.PipeA
set_option maxRecDepth 100000

/-- How many bits a list has in so many parts, each with its best parameter; the best of the first powers; the greatest power. -/
def lenAt (l : List Int) (p : Nat) : Nat := 2 + bodyLen (l.length / 2 ^ p) (bestKs (l.length / 2 ^ p) l (2 ^ p)) l (2 ^ p)
def ksAt (l : List Int) (p : Nat) : List Int := bestKs (l.length / 2 ^ p) l (2 ^ p)
def pickP (l : List Int) : Nat → Nat
  | 0 => 0
  | k + 1 => if lenAt l (k + 1) < lenAt l (pickP l k) then k + 1 else pickP l k
def topP (n : Nat) : Nat := if n % 8 = 0 then 3 else if n % 4 = 0 then 2 else if n % 2 = 0 then 1 else 0
theorem pickP_le (l : List Int) : ∀ k, pickP l k ≤ k
  | 0 => Nat.le_refl _
  | k + 1 => by unfold pickP; have := pickP_le l k; split <;> omega
theorem topP_le (n : Nat) : topP n ≤ 3 := by unfold topP; split <;> (try split) <;> (try split) <;> omega
theorem topP_pow (n c : Nat) (h : c ≤ topP n) : n % 2 ^ c = 0 ∧ c ≤ 3 := by
  have h3 := topP_le n
  refine ⟨?_, by omega⟩
  have hc : c = 0 ∨ c = 1 ∨ c = 2 ∨ c = 3 := by omega
  unfold topP at h
  rcases hc with rfl | rfl | rfl | rfl
  · simp [Nat.mod_one]
  · simp only [Nat.reducePow]; split at h <;> (try split at h) <;> (try split at h) <;> omega
  · simp only [Nat.reducePow]; split at h <;> (try split at h) <;> (try split at h) <;> omega
  · simp only [Nat.reducePow]; split at h <;> (try split at h) <;> (try split at h) <;> omega
theorem topP_next (n : Nat) : powOk n ((topP n + 1 : Nat) : Int) = false := by
  unfold powOk
  refine decide_eq_false ?_
  rintro ⟨_, h1, h2⟩
  rw [Int.toNat_natCast] at h2
  unfold topP at h1 h2
  split at h1
  · omega
  · rename_i a
    rw [if_neg a] at h2
    split at h1
    · rename_i b
      rw [if_pos b] at h2
      simp only [Nat.reduceAdd, Nat.reducePow] at h2
      omega
    · rename_i b
      rw [if_neg b] at h2
      split at h1
      · rename_i c
        rw [if_pos c] at h2
        simp only [Nat.reduceAdd, Nat.reducePow] at h2
        omega
      · rename_i c
        rw [if_neg c] at h2
        simp only [Nat.reduceAdd, Nat.reducePow] at h2
        omega
theorem topP_ok (n c : Nat) (h : c ≤ topP n) : powOk n (c : Int) = true := by
  obtain ⟨h1, h2⟩ := topP_pow n c h
  unfold powOk
  exact decide_eq_true ⟨by omega, by omega, by rw [Int.toNat_natCast]; exact h1⟩

def bestP (l : List Int) : Nat := pickP l (topP l.length)

/-- What Best answers of a list that may be. -/
def SBestIs (l : List Int) (w : World) (e : Ending) (w' : World) : Prop :=
  ∃ H, e = .returned (.tuple #[.agg #[.int .i64 (bestP l : Nat), .slice (some ⟨H, 0, none⟩) (2 ^ bestP l) (2 ^ bestP l)], .int .i64 (lenAt l (bestP l) : Nat)]) ∧ IntsAt w' (some ⟨H, 0, none⟩) (ksAt l (bestP l)) ∧ w.heap.size ≤ H ∧ Below w.heap.size w w'

def PowIs (l : List Int) (p : Nat) (w : World) (e : Ending) (w' : World) : Prop :=
  ∃ H m, Hid (m = 2 ^ p) ∧ e = .returned (.tuple #[.agg #[.int .i64 (p : Nat), .slice (some ⟨H, 0, none⟩) m m], .int .i64 (lenAt l p : Nat)]) ∧ IntsAt w' (some ⟨H, 0, none⟩) (ksAt l p) ∧ w.heap.size ≤ H ∧ Below w.heap.size w w'

/-- Between two rounds. -/
def SBRel (l : List Int) (w : World) (B2 B4 c : Nat) (wr : World) : Prop :=
  ∃ H m, Hid (m = 2 ^ pickP l c) ∧ wr.cell? ⟨B4, 0, none⟩ = some (.int .i64 (pickP l c : Nat)) ∧ wr.cell? ⟨B4, 1, none⟩ = some (.slice (some ⟨H, 0, none⟩) m m) ∧ wr.frozen? ⟨B4, 0, none⟩ = false ∧ wr.frozen? ⟨B4, 1, none⟩ = false ∧
    wr.cell? ⟨B2, 0, none⟩ = some (.int .i64 0) ∧ wr.cell? ⟨B2, 1, none⟩ = some (.slice none 0 0) ∧ wr.frozen? ⟨B2, 0, none⟩ = false ∧ wr.frozen? ⟨B2, 1, none⟩ = false ∧
    IntsAt wr (some ⟨H, 0, none⟩) (ksAt l (pickP l c)) ∧ w.heap.size < H ∧ H ≠ B4 ∧ B2 = w.heap.size ∧ w.heap.size < B4 ∧ B4 < wr.heap.size ∧ Below w.heap.size w wr

theorem SBRel.no {l : List Int} {w : World} {B2 B4 c c' : Nat} {wr w6 : World} (h : SBRel l w B2 B4 c wr) (hb : Below wr.heap.size wr w6) (hp : pickP l c' = pickP l c) : SBRel l w B2 B4 c' w6 := by
  obtain ⟨H, m, HM, h1, h2, h3, h4, h5, h6, h7, h8, h9, h10, h11, rfl, h13, h14, h15⟩ := h
  have hz := h15.size
  have hw : w.heap.size < wr.heap.size := by omega
  refine ⟨H, m, by rw [hp]; exact HM, ?_, (hb.cell (p := ⟨B4, 1, none⟩) h14).trans h2, (hb.frozen (p := ⟨B4, 0, none⟩) h14).trans h3, (hb.frozen (p := ⟨B4, 1, none⟩) h14).trans h4, (hb.cell (p := ⟨w.heap.size, 0, none⟩) hw).trans h5, (hb.cell (p := ⟨w.heap.size, 1, none⟩) hw).trans h6, (hb.frozen (p := ⟨w.heap.size, 0, none⟩) hw).trans h7, (hb.frozen (p := ⟨w.heap.size, 1, none⟩) hw).trans h8,
    by rw [hp]; exact h9.below hb, h10, h11, rfl, h13, Nat.lt_of_lt_of_le h14 hb.size, h15.trans (hb.mono hz)⟩
  rw [hp]; exact (hb.cell (p := ⟨B4, 0, none⟩) h14).trans h1

theorem SBRel.yes {l : List Int} {w : World} {B2 B4 c c' : Nat} {wr w5 w6 : World} {H5 m5 : Nat} (h : SBRel l w B2 B4 c wr) (hb : Below wr.heap.size wr w5) (hb6 : Below w5.heap.size w5 w6) (hI : IntsAt w5 (some ⟨H5, 0, none⟩) (ksAt l c')) (hH : wr.heap.size ≤ H5) (hm : Hid (m5 = 2 ^ c')) (hp : pickP l c' = c') :
    SBRel l w B2 B4 c' ((w6.setCell ⟨B4, 0, none⟩ (.int .i64 (c' : Nat))).setCell ⟨B4, 1, none⟩ (.slice (some ⟨H5, 0, none⟩) m5 m5)) := by
  obtain ⟨H, m, HM, h1, h2, h3, h4, h5, h6, h7, h8, h9, h10, h11, rfl, h13, h14, h15⟩ := h
  have hz := h15.size
  have hw : w.heap.size < wr.heap.size := by omega
  have hbb : Below wr.heap.size wr w6 := hb.trans (hb6.mono hb.size)
  have j0 := (hbb.cell (p := ⟨B4, 0, none⟩) h14).trans h1
  have j1 := (hbb.cell (p := ⟨B4, 1, none⟩) h14).trans h2
  have kk : Keeps [B4] w6 ((w6.setCell ⟨B4, 0, none⟩ (.int .i64 (c' : Nat))).setCell ⟨B4, 1, none⟩ (.slice (some ⟨H5, 0, none⟩) m5 m5)) := (keeps_setCell w6 B4 0 _).trans (keeps_setCell _ B4 1 _)
  have hw6 : w.heap.size < w6.heap.size := Nat.lt_of_lt_of_le hw hbb.size
  have hn : w.heap.size ∉ [B4] := by simp; omega
  refine ⟨H5, m5, by rw [hp]; exact hm, ?_, ?_, ?_, ?_, ?_, ?_, ?_, ?_, ?_, by omega, by omega, rfl, h13, ?_, ?_⟩
  · rw [hp]; exact (World.cell?_setCell_other _ _ _ _ (by simp)).trans (World.cell?_setCell_same' _ _ _ (by rw [j0]; rfl))
  · exact World.cell?_setCell_same' _ _ _ (by rw [World.cell?_setCell_other _ _ _ _ (by simp), j1]; rfl)
  · rw [World.frozen?_setCell, World.frozen?_setCell]; exact (hbb.frozen (p := ⟨B4, 0, none⟩) h14).trans h3
  · rw [World.frozen?_setCell, World.frozen?_setCell]; exact (hbb.frozen (p := ⟨B4, 1, none⟩) h14).trans h4
  · exact (kk.cell (p := ⟨w.heap.size, 0, none⟩) hw6 hn).trans ((hbb.cell (p := ⟨w.heap.size, 0, none⟩) hw).trans h5)
  · exact (kk.cell (p := ⟨w.heap.size, 1, none⟩) hw6 hn).trans ((hbb.cell (p := ⟨w.heap.size, 1, none⟩) hw).trans h6)
  · exact (kk.frozen (p := ⟨w.heap.size, 0, none⟩) hw6 hn).trans ((hbb.frozen (p := ⟨w.heap.size, 0, none⟩) hw).trans h7)
  · exact (kk.frozen (p := ⟨w.heap.size, 1, none⟩) hw6 hn).trans ((hbb.frozen (p := ⟨w.heap.size, 1, none⟩) hw).trans h8)
  · rw [hp]; exact (hI.below hb6).keeps kk (by intro g' off' hh; cases hh; simp; omega)
  · have := kk.size; have := hbb.size; omega
  · exact (h15.trans (hbb.mono hz)).trans (kk.below (Nat.le_of_lt hw6) (by simp; omega))

end Go.Proofs.Ytefbakhhlonafaa
end

section
namespace Go.Proofs.Ytefbakhhlonafaa
open Go.RowKit Go.Proofs Go.Proofs.PipeM Go.Proofs.PipeA

theorem ksAt_length (l : List Int) (p : Nat) : (ksAt l p).length = 2 ^ p := bestKs_length _ _ _

theorem list_len {l : List Int} (h : listOk l = true) : 1 ≤ l.length ∧ l.length ≤ 1024 := by
  unfold listOk at h; simp only [Bool.and_eq_true, decide_eq_true_eq] at h; exact h.2

theorem bestP_le (l : List Int) : bestP l ≤ topP l.length := pickP_le l _

theorem powAt_ok {l : List Int} (h : listOk l = true) {p : Nat} (hp : p ≤ topP l.length) : slideOk l (p : Int) (ksAt l p) = true := by
  obtain ⟨h1, h2⟩ := topP_pow l.length p hp
  have hl := list_len h
  unfold slideOk
  rw [h, Bool.and_true]
  unfold partsOk
  rw [Bool.and_eq_true]
  refine ⟨decide_eq_true ⟨hl.1, hl.2, by omega, by omega, by rw [Int.toNat_natCast]; exact h1, by rw [Int.toNat_natCast, ksAt_length]⟩, List.all_eq_true.2 (fun k hk => ?_)⟩
  exact decide_eq_true (bestKs_ok _ _ _ k hk)
theorem powAt_len {l : List Int} (h : listOk l = true) {p : Nat} (hp : p ≤ topP l.length) : slideLen l (p : Int) (ksAt l p) = lenAt l p := by
  rw [slide_len (powAt_ok h hp), ksAt_length]; rfl

theorem totalN_ge (l : List Int) (k : Nat) : l.length ≤ totalN l k := by
  induction l with
  | nil => simp
  | cons n l ih =>
    have := costN_pos n k
    simp [totalN] at ih ⊢
    omega

theorem bodyLen_ge (size : Nat) (ks l : List Int) : ∀ n, n * size ≤ l.length → n * (5 + size) ≤ bodyLen size ks l n
  | 0, _ => by simp
  | n + 1, h => by
    have h0 : n * size ≤ l.length := by rw [Nat.add_mul, Nat.one_mul] at h; omega
    have ih := bodyLen_ge size ks l n h0
    show _ ≤ bodyLen size ks l n + partLen size ks l n
    have h1 := totalN_ge (partNo size l n) (ks.getD n 0).toNat
    rw [partNo_length h] at h1
    unfold partLen
    rw [Nat.add_mul, Nat.one_mul]
    omega

/-- A list that may be has at least so many bits. -/
theorem slide_ge {l ks : List Int} {P : Int} (h : slideOk l P ks = true) : 2 + 5 * ks.length + l.length ≤ slideLen l P ks := by
  obtain ⟨p, hP, h3, hk1, hk8, hk0, hl1, hl2, hs1, hs2, hsp, hks, hin⟩ := slide_parts h
  rw [slide_len h]
  have := bodyLen_ge (l.length / ks.length) ks l ks.length (by rw [Nat.mul_comm]; exact Nat.le_of_eq hsp.symm)
  rw [Nat.mul_add, Nat.mul_comm ks.length (l.length / ks.length), ← hsp] at this
  omega

theorem pick_min (l : List Int) : ∀ k p, p ≤ k → lenAt l (pickP l k) ≤ lenAt l p
  | 0, p, h => by
    obtain rfl : p = 0 := by omega
    exact Nat.le_refl _
  | k + 1, p, h => by
    unfold pickP
    split
    · rename_i hc
      by_cases e : p = k + 1
      · subst e; exact Nat.le_refl _
      · exact Nat.le_trans (Nat.le_of_lt hc) (pick_min l k p (by omega))
    · rename_i hc
      by_cases e : p = k + 1
      · subst e; omega
      · exact pick_min l k p (by omega)

theorem pow_top {n p : Nat} (hp : p ≤ 3) (h : n % 2 ^ p = 0) : p ≤ topP n := by
  have hc : p = 0 ∨ p = 1 ∨ p = 2 ∨ p = 3 := by omega
  unfold topP
  rcases hc with rfl | rfl | rfl | rfl
  · exact Nat.zero_le _
  · simp only [Nat.reducePow] at h; split <;> (try split) <;> (try split) <;> omega
  · simp only [Nat.reducePow] at h; split <;> (try split) <;> (try split) <;> omega
  · simp only [Nat.reducePow] at h; rw [if_pos h]; exact Nat.le_refl _

theorem sumTo_le {f g : Nat → Nat} : ∀ n, (∀ j, j < n → f j ≤ g j) → sumTo f n ≤ sumTo g n
  | 0, _ => Nat.le_refl _
  | n + 1, h => by
    have h1 := sumTo_le n (fun j hj => h j (by omega))
    have h2 := h n (by omega)
    show sumTo f n + f n ≤ sumTo g n + g n
    omega

/-- No parts are shorter than the best ones. -/
theorem best_least {l ks : List Int} {P : Int} (h : slideOk l P ks = true) : lenAt l (bestP l) ≤ slideLen l P ks := by
  obtain ⟨p, hP, h3, hk1, hk8, hk0, hl1, hl2, hs1, hs2, hsp, hks, hin⟩ := slide_parts h
  have htop : p ≤ topP l.length := by
    refine pow_top h3 ?_
    rw [← hk1, hsp]
    exact Nat.mul_mod_left _ _
  refine Nat.le_trans (pick_min l _ p htop) ?_
  rw [slide_len h]
  unfold lenAt
  rw [hk1]
  refine Nat.add_le_add_left ?_ 2
  rw [← best_sum]
  unfold bodyLen
  refine sumTo_le _ (fun j hj => ?_)
  unfold bestLen partLen
  have hjk : j < ks.length := by omega
  have hg : ks.getD j 0 = ks[j] := by rw [List.getD, List.getElem?_eq_getElem hjk]; rfl
  have hk := hks ks[j] (List.getElem_mem hjk)
  have := ((bestN_is (partNo (l.length / 2 ^ p) l j)).2 (ks.getD j 0).toNat (by rw [hg]; omega)).1
  omega

/-- A list of one number again and again is best in one part. -/
theorem totalN_rep (n : Int) (k : Nat) : ∀ c, totalN (List.replicate c n) k = c * costN n k
  | 0 => by simp [totalN]
  | c + 1 => by rw [List.replicate_succ, totalN, List.map_cons, List.sum_cons, ← totalN, totalN_rep n k c, Nat.add_mul]; omega
theorem part_rep (n : Int) (c size j : Nat) (h : (j + 1) * size ≤ c) : partNo size (List.replicate c n) j = List.replicate size n := by
  unfold partNo
  rw [List.drop_replicate, List.take_replicate, Nat.min_eq_left]
  rw [Nat.add_mul] at h; omega
theorem best_rep (n : Int) (c : Nat) (hc : 1 ≤ c) : costN n (bestN (List.replicate c n)) = costN n (bestN (List.replicate 1 n)) := by
  have h1 := (bestN_is (List.replicate c n)).2 (bestN (List.replicate 1 n)) (bestN_is _).1
  have h2 := (bestN_is (List.replicate 1 n)).2 (bestN (List.replicate c n)) (bestN_is _).1
  rw [totalN_rep, totalN_rep] at h1 h2
  have h3 := Nat.le_of_mul_le_mul_left h1.1 (by omega)
  omega
theorem sumTo_const (k : Nat) : ∀ n, sumTo (fun _ => k) n = n * k
  | 0 => by simp [sumTo]
  | n + 1 => by show sumTo _ n + k = _; rw [sumTo_const k n, Nat.add_mul]; omega
theorem len_rep (n : Int) (c : Nat) (hc : 1 ≤ c) (p : Nat) (hp : p ≤ topP c) : lenAt (List.replicate c n) p = 2 + 5 * 2 ^ p + c * costN n (bestN (List.replicate 1 n)) := by
  obtain ⟨h1, h2⟩ := topP_pow c p hp
  have hd := div_parts h1
  have hs : 1 ≤ c / 2 ^ p := by
    rcases Nat.eq_zero_or_pos (c / 2 ^ p) with h | h
    · rw [h] at hd; omega
    · exact h
  unfold lenAt
  rw [← best_sum, List.length_replicate]
  rw [sumTo_congr (g := fun _ => 5 + (c / 2 ^ p) * costN n (bestN (List.replicate 1 n))) (2 ^ p) (fun j hj => by
    have hle : (j + 1) * (c / 2 ^ p) ≤ c := by
      have : (j + 1) * (c / 2 ^ p) ≤ 2 ^ p * (c / 2 ^ p) := Nat.mul_le_mul_right _ hj
      rw [Nat.mul_comm (2 ^ p)] at this
      omega
    unfold bestLen
    rw [part_rep n c _ j hle, totalN_rep, best_rep n _ hs]), sumTo_const, Nat.mul_add]
  have : 2 ^ p * (c / 2 ^ p * costN n (bestN (List.replicate 1 n))) = c * costN n (bestN (List.replicate 1 n)) := by
    rw [← Nat.mul_assoc, Nat.mul_comm (2 ^ p), ← hd]
  omega
theorem pick_rep (n : Int) (c : Nat) (hc : 1 ≤ c) : ∀ k, k ≤ topP c → pickP (List.replicate c n) k = 0
  | 0, _ => rfl
  | k + 1, h => by
    unfold pickP
    rw [pick_rep n c hc k (by omega), if_neg]
    rw [len_rep n c hc (k + 1) h, len_rep n c hc 0 (Nat.zero_le _)]
    have : 2 ^ 0 ≤ 2 ^ (k + 1) := Nat.pow_le_pow_right (by decide) (by omega)
    omega
theorem bestP_rep (n : Int) (c : Nat) (hc : 1 ≤ c) : bestP (List.replicate c n) = 0 := by
  unfold bestP
  rw [List.length_replicate]
  exact pick_rep n c hc _ (Nat.le_refl _)
theorem lenP_rep (n : Int) (c : Nat) (hc : 1 ≤ c) : lenAt (List.replicate c n) 0 ≤ 7 + c * 59 := by
  rw [len_rep n c hc 0 (Nat.zero_le _)]
  have := costN_le n (bestN (List.replicate 1 n)) (bestN_is _).1
  have h2 := Nat.mul_le_mul_left c this
  simp only [Nat.pow_zero]
  omega
end Go.Proofs.Ytefbakhhlonafaa
end
