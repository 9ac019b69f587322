import Derived.Test.YtnfpkjnllkkngaaGreatDoorBlkC3
import Derived.Test.YtnfpkjnllkkngaaGreatDoorBlkF6
import Derived.Test.YtnfpkjnllkkngaaGreatDoorBlkC1
import Derived.Test.YtnfpkjnllkkngaaGreatDoorSlideC7
import Derived.Laws.CopyOwn
import Derived.Deep.RegionLaw

section
namespace Go.Proofs.YtnfpkjnllkkngaaGreatDoor
open Go.RowKit Go.Proofs Go.Proofs.PipeM Go.Proofs.PipeA Go.Proofs.BlkM Go.Proofs.BlkB
open Go.Proofs.LatM (goodL)
open Go.Proofs.LagM (goodT)
set_option maxRecDepth 100000

theorem slideLen_pos {l ks : List Int} {P : Int} : decide (0 < slideLen l P ks) = slideOk l P ks := by
  cases h : slideOk l P ks with
  | true =>
    have := slide_ge h
    exact decide_eq_true (by omega)
  | false =>
    have : slideLen l P ks = 0 := by unfold slideLen slideBits; rw [h]; rfl
    exact decide_eq_false (by omega)
theorem bne_dec (x : Int) : (x != 0) = decide (x ≠ 0) := by
  by_cases h : x = 0
  · subst h; rfl
  · rw [decide_eq_true h]; exact bne_iff_ne.2 h
theorem moreN_eq {v s a g p : Int} {n : Nat} (hv : In64 v) (hs : In64 s) (ha : In64 a) (hg : In64 g) (hp : In64 p) : moreN v s a g p n = true ↔ (v ≠ 0 ∨ s ≠ 0 ∨ a ≠ 0 ∨ g ≠ 0 ∨ p ≠ 0 ∨ 0 < n) := by
  unfold moreN
  rw [bne_dec, Bool.or_eq_true, decide_eq_true_eq, decide_eq_true_eq]
  have := or5 hv hs ha hg hp
  constructor
  · rintro (h | h)
    · by_cases h1 : v = 0
      · by_cases h2 : s = 0
        · by_cases h3 : a = 0
          · by_cases h4 : g = 0
            · by_cases h5 : p = 0
              · exact absurd (this.2 ⟨h1, h2, h3, h4, h5⟩) h
              · exact .inr (.inr (.inr (.inr (.inl h5))))
            · exact .inr (.inr (.inr (.inl h4)))
          · exact .inr (.inr (.inl h3))
        · exact .inr (.inl h2)
      · exact .inl h1
    · exact .inr (.inr (.inr (.inr (.inr h))))
  · rintro h
    by_cases h0 : orI (orI (orI (orI v s) a) g) p = 0
    · obtain ⟨h1, h2, h3, h4, h5⟩ := this.1 h0
      right
      omega
    · exact .inl h0
theorem form_eq {b : Blk} {n m : Nat} (hw : Wf9 b) (hk : b.kind = 0 ∨ b.kind = 1 ∨ b.kind = 2 ∨ b.kind = 3) : formB b n m = if moreB b || !formedB b n m then 2 else 0 := by
  obtain ⟨kind, value, shift, index, lag, gain, part, rice, data⟩ := b
  have hv := hw.v; have hs := hw.s; have ha := hw.l; have hg := hw.g; have hp := hw.p
  dsimp only at hv hs ha hg hp hk
  clear hw
  have hkn : wrongKind ⟨kind, value, shift, index, lag, gain, part, rice, data⟩ = false := by
    unfold wrongKind
    dsimp only
    rw [decide_eq_false (by omega), decide_eq_false (by omega)]; rfl
  unfold formB
  rw [hkn, if_neg (by simp)]
  by_cases h2 : kind = 2
  · subst h2
    have e1 : wrongMore ⟨2, value, shift, index, lag, gain, part, rice, data⟩ = false := by simp [wrongMore]
    have e2 : wrongData ⟨2, value, shift, index, lag, gain, part, rice, data⟩ n = (decide (value ≠ 0) || decide ((data.length : Int) ≠ n)) := by simp [wrongData]
    have e3 : wrongNormal ⟨2, value, shift, index, lag, gain, part, rice, data⟩ n m = (decide (shift < 0) || decide ((m : Int) ≤ shift) || !goodL index || !goodT lag gain || !partsOk n part rice || !listOk data) := by simp [wrongNormal]
    have e4 : moreB ⟨2, value, shift, index, lag, gain, part, rice, data⟩ = decide (value ≠ 0) := by unfold moreB; rw [if_neg (by show ¬ (2 : Int) = 1; decide), if_pos rfl]
    have e5 : formedB ⟨2, value, shift, index, lag, gain, part, rice, data⟩ n m = (shiftB m shift && goodL index && goodT lag gain && decide (data.length = n) && slideOk data part rice) := by unfold formedB; rw [if_pos rfl, ← slideLen_pos]
    have e6 : shiftB m shift = !(decide (shift < 0) || decide ((m : Int) ≤ shift)) := by
      unfold shiftB
      by_cases a : shift < 0
      · rw [decide_eq_true a, decide_eq_false (by omega)]; rfl
      · by_cases c : (m : Int) ≤ shift
        · rw [decide_eq_true c, decide_eq_false (by omega), Bool.or_true]; rfl
        · rw [decide_eq_false a, decide_eq_false c, decide_eq_true (by omega)]; rfl
    rw [e1, e2, e3, e4, e5, e6, if_neg (by simp)]
    by_cases hv0 : value = 0
    · by_cases hl : data.length = n
      · rw [decide_eq_false (by simp; exact hv0), decide_eq_false (by simp; omega), decide_eq_true hl]
        subst hl
        unfold slideOk
        generalize decide (shift < 0) = b1
        generalize decide ((m : Int) ≤ shift) = b2
        generalize goodL index = b3
        generalize goodT lag gain = b4
        generalize partsOk data.length part rice = b5
        generalize listOk data = b6
        cases b1 <;> cases b2 <;> cases b3 <;> cases b4 <;> cases b5 <;> cases b6 <;> rfl
      · rw [decide_eq_true (by omega : (data.length : Int) ≠ n), decide_eq_false hl]
        simp
    · rw [decide_eq_true hv0]
      simp
  · have e3 : wrongNormal ⟨kind, value, shift, index, lag, gain, part, rice, data⟩ n m = false := by unfold wrongNormal; dsimp only; rw [decide_eq_false h2]; rfl
    rw [e3]
    have hmm : ∀ (A B : Bool) (X : Bool), ((A = true ∨ B = true) ↔ X = true) → (if A then (2 : Int) else if B then 2 else if false then 2 else 0) = if X then 2 else 0 := by
      intro A B X h
      cases A <;> cases B <;> cases X <;> simp_all
    refine hmm _ _ _ ?_
    have w1 : wrongMore ⟨kind, value, shift, index, lag, gain, part, rice, data⟩ = true ↔ (shift ≠ 0 ∨ 0 < index.length ∨ lag ≠ 0 ∨ gain ≠ 0 ∨ part ≠ 0 ∨ 0 < rice.length) := by
      unfold wrongMore
      dsimp only
      rw [decide_eq_true h2, Bool.true_and]
      simp only [Bool.or_eq_true, decide_eq_true_eq]
      omega
    rcases hk with rfl | rfl | rfl | rfl
    · have w2 : wrongData ⟨0, value, shift, index, lag, gain, part, rice, data⟩ n = true ↔ (value ≠ 0 ∨ 0 < data.length) := by
        unfold wrongData
        dsimp only
        simp only [Bool.or_eq_true, Bool.and_eq_true, decide_eq_true_eq]
        omega
      have w3 : (moreB ⟨0, value, shift, index, lag, gain, part, rice, data⟩ || !formedB ⟨0, value, shift, index, lag, gain, part, rice, data⟩ n m) = moreN value shift lag gain part (index.length + rice.length + data.length) := by
        unfold moreB formedB
        simp
      rw [w1, w2, w3, moreN_eq hv hs ha hg hp]
      omega
    · have w2 : wrongData ⟨1, value, shift, index, lag, gain, part, rice, data⟩ n = true ↔ 0 < data.length := by
        unfold wrongData
        dsimp only
        simp only [Bool.or_eq_true, Bool.and_eq_true, decide_eq_true_eq]
        omega
      have w3 : (moreB ⟨1, value, shift, index, lag, gain, part, rice, data⟩ || !formedB ⟨1, value, shift, index, lag, gain, part, rice, data⟩ n m) = moreN 0 shift lag gain part (index.length + rice.length + data.length) := by
        unfold moreB formedB
        simp
      rw [w1, w2, w3, moreN_eq in64_zero hs ha hg hp]
      omega
    · exact absurd rfl h2
    · have w2 : wrongData ⟨3, value, shift, index, lag, gain, part, rice, data⟩ n = true ↔ (value ≠ 0 ∨ data.length ≠ n) := by
        unfold wrongData
        dsimp only
        simp only [Bool.or_eq_true, Bool.and_eq_true, decide_eq_true_eq]
        omega
      have w3 : (moreB ⟨3, value, shift, index, lag, gain, part, rice, data⟩ || !formedB ⟨3, value, shift, index, lag, gain, part, rice, data⟩ n m) = true ↔ (moreN value shift lag gain part (index.length + rice.length) = true ∨ data.length ≠ n) := by
        unfold moreB formedB
        simp
      rw [w1, w2, w3, moreN_eq hv hs ha hg hp]
      omega
end Go.Proofs.YtnfpkjnllkkngaaGreatDoor
end

section
namespace Go.Proofs.YtnfpkjnllkkngaaGreatDoor
open Go.RowKit Go.Proofs Go.Proofs.PipeA Go.Proofs.BlkM
set_option maxRecDepth 100000

theorem size_int_b : (Tryz.prog.info? 3).map (·.size) = some 1 := by kernel_rfl
def cutAb (a : Option Addr) (cap lo : Nat) : Option Addr := if cap = lo then a else a.map (fun x => x.add lo)
theorem cut_right_b (a : Option Addr) (len cap lo : Nat) (h1 : lo ≤ len) (W : World) :
    (Instr.slice 22 (.slice a len cap) (some (.int .i64 (lo : Int))) none none).run Tryz.prog W = .ok (.slice (cutAb a cap lo) (len - lo) (cap - lo)) W := by
  simp [Instr.slice, run_underlying Tryz.underlying22, Instr.sliceBounds, Instr.sliceBound, asIntOf, h1, cutAb]
set_option maxHeartbeats 3200000 in
theorem bMul64 (c : Nat) (hc : c ≤ 1024) (w : World) :
    Calls Tryz.prog 103 #[.int .u64 1, .int .u64 (c : Int)] w fun e w' => e = .returned (.tuple #[.int .u64 0, .int .u64 (c : Int)]) ∧ w = w' := by
  have h1 : bits BinOp.and IntKind.u64 1 4294967295 = 1 := by decide
  have h2 : bits BinOp.and IntKind.u64 (c : Int) 4294967295 = (c : Int) := by
    have := bits_and_u64_nat c 4294967295 (by omega) (by omega)
    rw [show c &&& 4294967295 = c from by rw [show 4294967295 = 2 ^ 32 - 1 from rfl, Nat.and_two_pow_sub_one_eq_mod]; exact Nat.mod_eq_of_lt (by omega)] at this
    exact this
  have h3 : bits BinOp.and IntKind.u64 0 4294967295 = 0 := by decide
  have h4 : (c : Int) / 4294967296 = 0 := by omega
  have hc16 : c ≤ 1024 := hc
  clear hc
  go_enter Tryz.func103, Tryz.ntmps103
  go_wp2
  refine bodyPost_ret (v := .tuple #[.int .u64 0, .int .u64 (c : Int)]) (by simp [results, Tryz.results103, go_sem]) rfl ?_
  exact ⟨rfl, rfl⟩

set_option maxHeartbeats 1600000 in
theorem bMul (c : Nat) (hc : c ≤ 1024) (w : World) :
    Calls Tryz.prog 85 #[.int .u64 1, .int .u64 (c : Int)] w fun e w' => e = .returned (.tuple #[.int .u64 0, .int .u64 (c : Int)]) ∧ w = w' := by
  have H := Lib.hid (bMul64 c hc w)
  have hc16 : c ≤ 1024 := hc
  clear hc
  go_enter Tryz.func85, Tryz.ntmps85
  go_wp2_with fail
  refine H.out.mono ?_
  rintro e w1 ⟨rfl, rfl⟩
  go_wp2
  refine bodyPost_ret (v := .tuple #[.int .u64 0, .int .u64 (c : Int)]) (by simp [results, Tryz.results85, go_sem]) rfl ?_
  exact ⟨rfl, rfl⟩

/-- A row whose first cells are one number. -/
structure FilledB (W : World) (H c n : Nat) (x : Int) : Prop where
  row : ∃ cur : List Value, W.heap[H]? = some (.cells cur.toArray 3 (0, 0)) ∧ c ≤ cur.length ∧ ∀ j, j < n → cur[j]? = some (.int .i64 x)

set_option maxHeartbeats 3200000 in
theorem cRepeatN (X cap c : Nat) (x : Int) (w : World) (hc1 : 1 ≤ c) (hc16 : c ≤ 1024) (hx : w.cell? ⟨X, 0, none⟩ = some (.int .i64 x)) (hX : X < w.heap.size) :
    Calls Tryz.prog 59 #[.slice (some ⟨X, 0, none⟩) 1 cap, .int .i64 (c : Int)] w fun e w' => ∃ H, e = .returned (.slice (some ⟨H, 0, none⟩) c c) ∧ IntsAt w' (some ⟨H, 0, none⟩) (List.replicate c x) ∧ w.heap.size ≤ H ∧ Writable w' (some ⟨H, 0, none⟩) c ∧ Below w.heap.size w w' := by
  have HM := Lib.hid (bMul c hc16 w)
  obtain ⟨cs, hcs, hmk⟩ := makeInts c (by omega)
  have hcl : c ≤ cs.size := by
    have := hcs (c - 1) (by omega)
    have := (Array.getElem?_eq_some_iff.1 this).1
    omega
  have HCL := Lib.hid hcl
  clear hcs hcl
  go_enter Tryz.func59, Tryz.ntmps59
  go_wp2_with fail
  refine HM.out.mono ?_
  rintro e w1 ⟨rfl, rfl⟩
  have hb1 := box_below w (.cells cs 3)
  have hn1 := World.alloc_heap_new w (.cells cs 3)
  have hsrc : ∀ j v, ([Value.int .i64 x])[j]? = some v → (w.alloc (.cells cs 3)).cell? ((⟨X, 0, none⟩ : Addr).add j) = some v := by
    intro j v hj
    match j, hj with
    | 0, hj => simp at hj; subst hj; rw [show (⟨X, 0, none⟩ : Addr).add 0 = ⟨X, 0, none⟩ from rfl, hb1.cell (p := ⟨X, 0, none⟩) hX]; exact hx
  have HB1 := Lib.hid hb1
  have HN1 : Hid ((w.alloc (.cells cs 3)).heap[w.heap.size]? = some (.cells cs.toList.toArray 3 (0, 0))) := by show _ = _; rw [hn1, Array.toArray_toList]
  have HSRC := Lib.hid hsrc
  obtain ⟨W1, hW1⟩ : ∃ W1, W1 = w.alloc (.cells cs 3) := ⟨_, rfl⟩
  have HW1 := Lib.hid hW1
  rw [← hW1] at HB1 HN1 HSRC
  clear hb1 hn1 hsrc hW1
  go_wp2_with (with_reducible refine wpList_copy_splice rfl (.tmp 31) (.tmp 32) 22 22 rfl 3 Tryz.underlying22 size_int_b _ _ _ _ _ _ rfl rfl w.heap.size 0 cs.toList 3 (HW1.out ▸ HN1.out) [.int .i64 x] ?k1 ?k2 ?k3 ?k4 w.heap.size w (HW1.out ▸ HB1.out) (Nat.le_refl _) ?_)
  case k1 => simp [hc1]
  case k2 =>
    intro j v hj
    match j, hj with
    | 0, hj => simp at hj; subst hj; exact hx
  case k3 => simp; have := HCL.out; omega
  case k4 => intro u hu; simp at hu; subst hu; rfl
  intro w2 HR hb2
  have HF1 : Hid (FilledB w2 w.heap.size c 1 x) := by
    refine ⟨_, HR.out, ?_, fun j hj => ?_⟩
    · rw [length_splice _ _ _ (by simp; have := HCL.out; omega)]
      simpa using HCL.out
    · obtain rfl : j = 0 := by omega
      simp [splice]
  have HB2 := Lib.hid hb2
  have HT1 : Hid (1 ≤ 1) := Nat.le_refl 1
  clear HR hb2 HSRC HN1 HB1 HW1 hmk
  go_wp2
  go_loopg [8] c (fun gk n wr => ∃ k : Nat, k ≤ c ∧ gk + k = c + 1 ∧ n = .int .i64 k ∧ Hid (1 ≤ k) ∧ Hid (FilledB wr w.heap.size c k x) ∧ Hid (Below w.heap.size w wr))
  case atStart => exact ⟨1, hc1, by omega, rfl, HT1, HF1, HB2⟩
  case round =>
    obtain ⟨k, hk, hgk, rfl, HTK, HFK, HBK⟩ := hrel
    have HGK := Lib.hid hgk
    clear hgk
    by_cases hlt : k < c
    · have hk0 := HTK.out
      obtain ⟨q, hq⟩ : ∃ q, q = c - k := ⟨_, rfl⟩
      obtain ⟨r, hr⟩ : ∃ r, r = Nat.min k q := ⟨_, rfl⟩
      have hr1 : 1 ≤ r ∧ r ≤ k ∧ k + r ≤ c := by
        rw [show Nat.min k q = min k q from rfl] at hr
        omega
      have HR1 := Lib.hid hr1
      have hrc := hr1.2.2
      have hcut1 := fun W => cut_right_b (some ⟨w.heap.size, 0, none⟩) c c k (by omega) W
      rw [← hq, show cutAb (some ⟨w.heap.size, 0, none⟩) c k = some ⟨w.heap.size, k, none⟩ by rw [cutAb, if_neg (by omega)]; simp [Addr.add_lit]] at hcut1
      have hcut2 : ∀ W, (Instr.slice 22 (.slice (some ⟨w.heap.size, 0, none⟩) c c) none (some (.int .i64 (k : Int))) none).run Tryz.prog W = .ok (.slice (some ⟨w.heap.size, 0, none⟩) k c) W := fun W => by
        simp [Instr.slice, run_underlying Tryz.underlying22, Instr.sliceBounds, Instr.sliceBound, asIntOf, hk, Addr.add]
      obtain ⟨cur, hrow, hcl, hcur⟩ := HFK.out.row
      have hcopy := run_copy_row (P := Tryz.prog) wr.drew 22 22 3 3 w.heap.size k q q ⟨w.heap.size, 0, none⟩ k c cur.toArray 3 (List.replicate r (.int .i64 x)) Tryz.underlying22 size_int_b hrow (by rw [List.length_replicate]; exact hr) (fun j v hj => by
        have hjr : j < r := by simpa using (List.getElem?_eq_some_iff.1 hj).1
        have hjk : j < k := by omega
        rw [List.getElem?_replicate, if_pos hjr] at hj
        cases hj
        rw [show (⟨w.heap.size, 0, none⟩ : Addr).add j = ⟨w.heap.size, j, none⟩ by simp [Addr.add_lit], cell_of_heap (W := wr.drew) hrow]
        simpa using hcur j hjk) (by simp; omega) (by intro u hu; rw [List.mem_replicate] at hu; rw [hu.2]; rfl)
      rw [List.length_replicate] at hcopy
      have HROW := Lib.hid hrow
      have HCL2 := Lib.hid hcl
      have HCUR := Lib.hid hcur
      obtain ⟨w4, hw4⟩ : ∃ w4, w4 = wr.drew.setRow w.heap.size (cur.toArray.toList.take k ++ List.replicate r (Value.int .i64 x) ++ cur.toArray.toList.drop (k + r)).toArray := ⟨_, rfl⟩
      rw [← hw4, show goInt (r : Int) = .int .i64 (r : Int) from rfl] at hcopy
      have HW4 := Lib.hid hw4
      have hkk : IntKind.i64.wrap ((k : Int) + (r : Int)) = ((k + r : Nat) : Int) := by rw [IntWalk.i64_in _ (by omega)]; omega
      clear hrow hcl hcur hw4 hq hr hr1
      go_wp2
      go_region_with (fail)
      have HF4 : Hid (FilledB w4 w.heap.size c (k + r) x) := by
        refine ⟨⟨cur.take k ++ List.replicate r (Value.int .i64 x) ++ cur.drop (k + r), ?_, ?_, fun j hj => ?_⟩⟩
        · rw [HW4.out, setRow_heap wr.drew w.heap.size cur.toArray _ 3 _ HROW.out]
        · have := HCL2.out
          simp; omega
        · have h1 := HCL2.out
          by_cases hjk : j < k
          · rw [List.append_assoc, List.getElem?_append_left (by simp; omega), List.getElem?_take, if_pos hjk]
            simpa using HCUR.out j hjk
          · rw [List.append_assoc, List.getElem?_append_right (by simp; omega), List.getElem?_append_left (by simp; omega), List.getElem?_replicate, if_pos (by simp; omega)]
      have HB4 : Hid (Below w.heap.size w w4) := by
        show Below _ _ _
        rw [HW4.out]
        exact below_setRow (HBK.out.trans ((keeps_drew_b wr []).below HBK.out.size (by simp))) (Nat.le_refl _) _
      clear HW4 HROW hcopy
      go_wp2
      go_roundg (c + 1 - (k + r))
      case rel => exact ⟨k + r, hrc, by omega, by go_num, by show _ ≤ _; omega, HF4, HB4⟩
      case measure => have := HGK.out; have := HR1.out; omega
    · obtain rfl : k = c := by omega
      have HFI : Hid (IntsAt wr (some ⟨w.heap.size, 0, none⟩) (List.replicate k x)) := by
        intro j hj
        rw [List.length_replicate] at hj
        obtain ⟨cur, hrow, hcl, hcur⟩ := HFK.out.row
        refine ⟨w.heap.size, 0, rfl, (Array.getElem?_eq_some_iff.1 hrow).1, ?_⟩
        rw [Nat.zero_add, cell_of_heap hrow, List.getElem_replicate]
        simpa using hcur j hj
      have HWR : Hid (Writable wr (some ⟨w.heap.size, 0, none⟩) k) := fun b' off' e j _ => by
        obtain ⟨cur, hrow, _⟩ := HFK.out.row
        cases e
        exact frozen_of_heap hrow _
      go_wp2
      go_ret
      exact ⟨_, rfl, HFI.out, Nat.le_refl _, HWR.out, HBK.out⟩
end Go.Proofs.YtnfpkjnllkkngaaGreatDoor
end
