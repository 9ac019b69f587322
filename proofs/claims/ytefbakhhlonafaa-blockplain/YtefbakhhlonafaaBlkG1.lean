import Derived.Test.YtefbakhhlonafaaBlkF6
import Derived.Test.YtefbakhhlonafaaRef3g

namespace Go.Proofs.Ytefbakhhlonafaa
open Go.RowKit Go.Proofs Go.Proofs.PipeM Go.Proofs.PipeA Go.Proofs.BlkM
open Go.Proofs.LatM (goodL)
open Go.Proofs.LagM (goodT)
set_option maxRecDepth 100000

/-- What a right block is. -/
theorem right_of {b : Blk} {n d : Int} (h : codeB b n d = 0) : ∃ k m : Nat, n = k ∧ d = m ∧ 1 ≤ k ∧ k ≤ 1024 ∧ 8 ≤ m ∧ m ≤ 26 ∧ formB b k m = 0 ∧ wrongOut b m = false ∧ (outB b k).all (hasP (halfOf m)) = true := by
  cases hs : sizeN n && depthB d with
  | false => rw [codeB_size hs] at h; omega
  | true =>
    have hs' := hs
    rw [Bool.and_eq_true] at hs'
    obtain ⟨k, rfl, hn1, hn⟩ := sizeN_of hs'.1
    obtain ⟨m, rfl, hm1, hm2⟩ := depthB_of hs'.2
    by_cases hf : formB b k m = 0
    rotate_left
    · have := codeB_form hs hf
      exact absurd h (by rw [this]; exact hf)
    cases hw : wrongOut b m with
    | true => have := codeB_out hs hf hw; omega
    | false =>
      have := codeB_all hs hf hw
      cases ha : (outB b k).all (hasP (halfOf m)) with
      | false => rw [show (k : Int).toNat = k from rfl, ha] at this; rw [this] at h; simp at h
      | true => exact ⟨k, m, rfl, rfl, hn1, hn, hm1, hm2, hf, hw, ha⟩
inductive Shape (k m : Nat) : Blk → Prop
  | zero : Shape k m ⟨0, 0, 0, [], 0, 0, 0, [], []⟩
  | const (v : Int) : Shape k m ⟨1, v, 0, [], 0, 0, 0, [], []⟩
  | raw (data : List Int) (h : data.length = k) : Shape k m ⟨3, 0, 0, [], 0, 0, 0, [], data⟩
  | normal (s a g : Nat) (part : Int) (index rice data : List Int) (h : data.length = k) (hs : s < m) (ha : a ≤ 255) (hg : g ≤ 15) (hz : a = 0 → g = 0) (hi : goodL index = true) (ht : goodT a g = true) (hp : slideOk data part rice = true) : Shape k m ⟨2, 0, s, index, a, g, part, rice, data⟩
/-- The four shapes. -/
theorem shape_of {b : Blk} {k m : Nat} (hf : formB b k m = 0) : Shape k m b := by
  obtain ⟨kind, value, shift, index, lag, gain, part, rice, data⟩ := b
  have hk : wrongKind ⟨kind, value, shift, index, lag, gain, part, rice, data⟩ = false := by
    cases h : wrongKind ⟨kind, value, shift, index, lag, gain, part, rice, data⟩ with
    | false => rfl
    | true => unfold formB at hf; rw [h, if_pos rfl] at hf; omega
  have hk3 : 0 ≤ kind ∧ kind ≤ 3 := by
    unfold wrongKind at hk
    simp at hk
    omega
  have hm : wrongMore ⟨kind, value, shift, index, lag, gain, part, rice, data⟩ = false := by
    cases h : wrongMore ⟨kind, value, shift, index, lag, gain, part, rice, data⟩ with
    | false => rfl
    | true => unfold formB at hf; rw [hk, h, if_neg (by simp), if_pos rfl] at hf; omega
  by_cases hk2 : kind = 2
  · subst hk2
    obtain ⟨rfl, hdn, hs0, hs1, hgl, hgt, hpo, hlo⟩ := two_facts hf
    obtain ⟨s, rfl⟩ : ∃ s : Nat, shift = s := ⟨shift.toNat, by omega⟩
    obtain ⟨a, rfl, ha, hg0, hg1, hza, _⟩ := LagM.goodT_of hgt
    obtain ⟨g, rfl⟩ : ∃ g : Nat, gain = g := ⟨gain.toNat, by omega⟩
    exact .normal s a g part index rice data hdn (by omega) ha (by omega) (fun h => by have := hza h; omega) hgl hgt (by unfold slideOk; rw [hdn, hpo, hlo]; rfl)
  · rcases more_no hm with h2 | ⟨h1, h2, h3, h4, h5, h6⟩
    · exact absurd h2 hk2
    · obtain rfl : shift = 0 := h1
      obtain rfl : index = [] := h2
      obtain rfl : lag = 0 := h3
      obtain rfl : gain = 0 := h4
      obtain rfl : part = 0 := h5
      obtain rfl : rice = [] := h6
      have hK : kind = 0 ∨ kind = 1 ∨ kind = 3 := by omega
      obtain ⟨a3, a1, a0⟩ := few_facts hK hf
      rcases hK with rfl | rfl | rfl
      · obtain ⟨rfl, rfl⟩ := a0 rfl
        exact .zero
      · obtain rfl := a1 rfl
        exact .const value
      · obtain ⟨rfl, h⟩ := a3 rfl
        exact .raw data h

theorem sg_length (d : Nat) (v : Int) : (sg d v).length = d := low_length _ _
theorem flat_sg (d : Nat) (l : List Int) : (l.flatMap (sg d)).length = l.length * d := by
  induction l with
  | nil => simp
  | cons x l ih => rw [List.flatMap_cons, List.length_append, sg_length, ih, List.length_cons, Nat.add_mul]; omega
theorem bits_zero (d : Nat) : (bitsB ⟨0, 0, 0, [], 0, 0, 0, [], []⟩ d).length = 2 := by simp [bitsB, low_length]
theorem bits_const (v : Int) (d : Nat) : (bitsB ⟨1, v, 0, [], 0, 0, 0, [], []⟩ d).length = 2 + d := by simp [bitsB, low_length, sg_length]
theorem bits_raw (data : List Int) (d : Nat) : (bitsB ⟨3, 0, 0, [], 0, 0, 0, [], data⟩ d).length = 2 + data.length * d := by
  unfold bitsB
  rw [if_neg (by simp), if_pos rfl, List.length_append, low_length, flat_sg]
theorem bits_normal (s a g : Nat) (part : Int) (index rice data : List Int) (d : Nat) : (bitsB ⟨2, 0, s, index, a, g, part, rice, data⟩ d).length = 13 + 7 * index.length + slideLen data part rice + (if a = 0 then 0 else 12) := by
  unfold bitsB slideLen
  rw [if_neg (by simp), if_neg (by simp), if_pos rfl]
  simp only [List.length_append, low_length, flat_sg]
  by_cases h : a = 0
  · subst h; simp; omega
  · rw [if_neg (show ¬ ((a : Int) = 0) by omega), if_neg h]; simp [low_length]; omega

set_option maxHeartbeats 1600000 in
theorem rBits_few (b : Blk) (ia ra da : Option Addr) (ic rc dc : Nat) (k m : Nat) (w : World) (hm2 : m ≤ 26) (hk : k ≤ 1024) (h : Shape k m b) (h2 : b.kind ≠ 2) :
    Calls Try.prog 15 #[blkV b ia ra da ic rc dc, .int .i64 m] w fun e w' => e = .returned (.int .i64 ((bitsB b m).length : Nat)) ∧ Below w.heap.size w w' := by
  have HB := fun o => Lib.hid (box_below w o)
  cases h with
  | zero =>
    rw [bits_zero]
    unfold blkV
    dsimp only [List.length_nil]
    clear h2
    go_enter Try.func15, Try.ntmps15
    go_wp2
    go_ret
    exact ⟨rfl, (HB _).out⟩
  | const v =>
    have HN : Hid (((bitsB ⟨1, v, 0, [], 0, 0, 0, [], []⟩ m).length : Int) = 2 + (m : Int)) := by show _ = _; rw [bits_const]; omega
    generalize (bitsB ⟨1, v, 0, [], 0, 0, 0, [], []⟩ m).length = L at *
    unfold blkV
    dsimp only [List.length_nil]
    clear h2
    go_enter Try.func15, Try.ntmps15
    go_wp2
    go_ret
    exact ⟨by rw [HN.out]; rfl, (HB _).out⟩
  | raw data h =>
    have HN : Hid (((bitsB ⟨3, 0, 0, [], 0, 0, 0, [], data⟩ m).length : Int) = 2 + ((m * k : Nat) : Int)) := by show _ = _; rw [bits_raw, h, Nat.mul_comm]; omega
    have hmk : m * k ≤ 26 * 1024 := Nat.mul_le_mul hm2 hk
    generalize (bitsB ⟨3, 0, 0, [], 0, 0, 0, [], data⟩ m).length = L at *
    have hw : IntKind.i64.wrap ((m : Int) * (k : Int)) = ((m * k : Nat) : Int) := by rw [IntWalk.i64_in _ (by rw [← Int.natCast_mul]; omega)]; simp
    obtain ⟨p, hp⟩ : ∃ p, p = m * k := ⟨_, rfl⟩
    rw [← hp] at hw HN hmk
    unfold blkV
    dsimp only [List.length_nil]
    rw [h]
    clear h2 hp h
    go_enter Try.func15, Try.ntmps15
    go_wp2
    go_ret
    exact ⟨by rw [HN.out]; rfl, (HB _).out⟩
  | normal => exact absurd rfl h2

set_option maxHeartbeats 3200000 in
theorem rBits_normal (s a g : Nat) (part : Int) (index rice data : List Int) (ia ra da : Option Addr) (ic rc dc : Nat) (m : Nat) (w : World) (ha : a ≤ 255) (hix : index.length ≤ 1000) (hp : slideOk data part rice = true) (hI : BlkIn w ⟨2, 0, s, index, a, g, part, rice, data⟩ ia ra da ic rc dc) :
    Calls Try.prog 15 #[blkV ⟨2, 0, s, index, a, g, part, rice, data⟩ ia ra da ic rc dc, .int .i64 m] w fun e w' => e = .returned (.int .i64 ((bitsB ⟨2, 0, s, index, a, g, part, rice, data⟩ m).length : Nat)) ∧ Below w.heap.size w w' := by
  have HN : Hid (((bitsB ⟨2, 0, s, index, a, g, part, rice, data⟩ m).length : Int) = (13 + 7 * index.length + slideLen data part rice : Nat) + (if a = 0 then 0 else 12)) := by
    show _ = _
    rw [bits_normal]
    by_cases h : a = 0
    · rw [if_pos h, if_pos h]; omega
    · rw [if_neg h, if_neg h]; omega
  have hbx := box_below w (.cells #[.int .i64 2, .int .i64 0, .int .i64 s, .slice ia index.length ic, .int .i64 a, .int .i64 g, .int .i64 part, .slice ra rice.length rc, .slice da data.length dc] 24)
  have HB := Lib.hid hbx
  obtain ⟨w0, hw0⟩ : ∃ w0, w0 = w.alloc (.cells #[.int .i64 2, .int .i64 0, .int .i64 s, .slice ia index.length ic, .int .i64 a, .int .i64 g, .int .i64 part, .slice ra rice.length rc, .slice da data.length dc] 24) := ⟨_, rfl⟩
  have hnw := World.alloc_heap_new w (.cells #[.int .i64 2, .int .i64 0, .int .i64 s, .slice ia index.length ic, .int .i64 a, .int .i64 g, .int .i64 part, .slice ra rice.length rc, .slice da data.length dc] 24)
  rw [← hw0] at HB hnw
  have hI0 := hI.below HB.out
  have K : Hid (∀ W, Below w0.heap.size w0 W → ∀ j v, (#[.int .i64 2, .int .i64 0, .int .i64 s, .slice ia index.length ic, .int .i64 a, .int .i64 g, .int .i64 part, .slice ra rice.length rc, .slice da data.length dc] : Array Value)[j]? = some v → W.cell? ⟨w.heap.size, j, none⟩ = some v) := fun W hW j v hj => by
    rw [hW.cell (p := ⟨w.heap.size, j, none⟩) (Array.getElem?_eq_some_iff.1 hnw).1, cell_of_heap hnw]
    exact hj
  have HPA : Hid (∀ W, Calls Try.prog 32 #[blkV ⟨2, 0, s, index, a, g, part, rice, data⟩ ia ra da ic rc dc] W fun e w' => e = .returned (.agg #[.int .i64 part, .slice ra rice.length rc]) ∧ Below W.heap.size W w') := fun W => rParts ⟨2, 0, s, index, a, g, part, rice, data⟩ ia ra da ic rc dc W
  have HSL : Hid (∀ W, Below w0.heap.size w0 W → Calls Try.prog 31 #[.slice da data.length dc, .agg #[.int .i64 part, .slice ra rice.length rc]] W fun e w' => e = .returned (.int .i64 (slideLen data part rice)) ∧ Below W.heap.size W w') := fun W hW => refSBits da ra dc rc data part rice W hI.dc (hI0.d.below hW) (hI0.r.below hW) hp
  have hsl : slideLen data part rice ≤ 1000000 := by
    obtain ⟨p, rfl, h3, hk1, hk8, hk0, hl1, hl2, hs1, hs2, hsp, hks, hin⟩ := slide_parts hp
    have := elemBits_len (data.length / rice.length) rice data data.length
    unfold slideLen slideBits
    rw [if_pos hp, listBits, ← elem_body _ (by omega) rice data hsp, List.length_append, low_length]
    omega
  generalize (bitsB ⟨2, 0, s, index, a, g, part, rice, data⟩ m).length = L at *
  generalize slideLen data part rice = sl at *
  unfold blkV at HPA ⊢
  dsimp only at HPA ⊢
  have HW0 := Lib.hid hw0
  generalize index.length = il at *
  generalize rice.length = rl at *
  generalize data.length = dl at *
  have HBF := fun W (h : Below w0.heap.size w0 W) => Lib.hid (HB.out.trans (h.mono HB.out.size))
  clear hbx hw0 hnw hI hI0 hp
  obtain ⟨x1, hx1⟩ : ∃ x1 : Nat, x1 = 7 * il := ⟨_, rfl⟩
  have hw1 : IntKind.i64.wrap (7 * (il : Int)) = (x1 : Int) := by rw [IntWalk.i64_in _ (by omega)]; omega
  obtain ⟨x2, hx2⟩ : ∃ x2 : Nat, x2 = 13 + x1 := ⟨_, rfl⟩
  have hw2 : IntKind.i64.wrap (13 + (x1 : Int)) = (x2 : Int) := by rw [IntWalk.i64_in _ (by omega)]; omega
  obtain ⟨x3, hx3⟩ : ∃ x3 : Nat, x3 = x2 + sl := ⟨_, rfl⟩
  have hw3 : IntKind.i64.wrap ((x2 : Int) + (sl : Int)) = (x3 : Int) := by rw [IntWalk.i64_in _ (by omega)]; omega
  have hx3b : x3 ≤ 2000000 := by omega
  rw [← hx1, ← hx2, ← hx3] at HN
  clear hx1 hx2 hx3
  go_enter Try.func15, Try.ntmps15
  go_wp2_with fail
  rw [← HW0.out]
  go_region_held3 (fun w' => w'.cell? ⟨w.heap.size, 0, none⟩ = some (.int .i64 2) ∧ w'.cell? ⟨w.heap.size, 1, none⟩ = some (.int .i64 0) ∧ w'.cell? ⟨w.heap.size, 2, none⟩ = some (.int .i64 s) ∧ w'.cell? ⟨w.heap.size, 3, none⟩ = some (.slice ia il ic) ∧ w'.cell? ⟨w.heap.size, 4, none⟩ = some (.int .i64 a) ∧ w'.cell? ⟨w.heap.size, 5, none⟩ = some (.int .i64 g) ∧ w'.cell? ⟨w.heap.size, 6, none⟩ = some (.int .i64 part) ∧ w'.cell? ⟨w.heap.size, 7, none⟩ = some (.slice ra rl rc) ∧ w'.cell? ⟨w.heap.size, 8, none⟩ = some (.slice da dl dc))
    (first
      | exact ⟨K.out _ (Below.refl _ _) 0 _ rfl, K.out _ (Below.refl _ _) 1 _ rfl, K.out _ (Below.refl _ _) 2 _ rfl, K.out _ (Below.refl _ _) 3 _ rfl, K.out _ (Below.refl _ _) 4 _ rfl, K.out _ (Below.refl _ _) 5 _ rfl, K.out _ (Below.refl _ _) 6 _ rfl, K.out _ (Below.refl _ _) 7 _ rfl, K.out _ (Below.refl _ _) 8 _ rfl⟩
      | exact ⟨K.out _ hq6.out 0 _ rfl, K.out _ hq6.out 1 _ rfl, K.out _ hq6.out 2 _ rfl, K.out _ hq6.out 3 _ rfl, K.out _ hq6.out 4 _ rfl, K.out _ hq6.out 5 _ rfl, K.out _ hq6.out 6 _ rfl, K.out _ hq6.out 7 _ rfl, K.out _ hq6.out 8 _ rfl⟩
      | exact ⟨K.out _ hq5.out 0 _ rfl, K.out _ hq5.out 1 _ rfl, K.out _ hq5.out 2 _ rfl, K.out _ hq5.out 3 _ rfl, K.out _ hq5.out 4 _ rfl, K.out _ hq5.out 5 _ rfl, K.out _ hq5.out 6 _ rfl, K.out _ hq5.out 7 _ rfl, K.out _ hq5.out 8 _ rfl⟩
      | fail)
    (first
      | (go_at_call 32; refine (HPA.out _).mono ?_; rintro e w5 ⟨rfl, hb5⟩; have hq5 := Lib.hid (((keeps_drew_b w0 []).below (Nat.le_refl _) (by simp)).trans hb5); clear hb5)
      | (go_at_call 31; refine (HSL.out _ hq5.out).mono ?_; rintro e w6 ⟨rfl, hb6⟩; have hq6 := Lib.hid (hq5.out.trans (hb6.mono hq5.out.size)); clear hb6)
      | fail)
  have HF := HBF _ hq6.out
  by_cases h0 : a = 0
  · rw [if_pos h0] at HN
    subst h0
    go_wp2
    go_ret
    exact ⟨by rw [HN.out]; simp [go_sem], HF.out⟩
  · rw [if_neg h0] at HN
    have t0 : ((a : Int) != 0) = true := bne_iff_ne.2 (by omega)
    clear h0
    go_wp2
    go_ret
    exact ⟨by rw [HN.out]; simp [go_sem], HF.out⟩
end Go.Proofs.Ytefbakhhlonafaa
