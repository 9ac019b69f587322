import Derived.Test.YtefbakhhlonafaaGreatBlkC3
import Derived.Test.YtefbakhhlonafaaGreatSlideT
import Derived.Test.YtefbakhhlonafaaGreatRef3a
import Derived.Test.YtefbakhhlonafaaGreatBlkC2
import Derived.Laws.CopyOwn
import Derived.Deep.RegionLaw
import Derived.Test.YtefbakhhlonafaaGreatBlkC4

section
namespace Go.Proofs.YtefbakhhlonafaaGreat
open Go.RowKit Go.Proofs Go.Proofs.PipeM Go.Proofs.PipeA Go.Proofs.BlkM Go.Proofs.BlkB
open Go.Proofs.LatM (goodL)
open Go.Proofs.LagM (goodT)
set_option maxRecDepth 100000

theorem slideLen_pos {l ks : List Int} {P : Int} : decide (0 < slideLen l P ks) = slideOk l P ks := by
  cases h : slideOk l P ks with
  | true =>
    have := slide_ge h
    exact decide_eq_true (by omega)
  | false =>
    have : slideLen l P ks = 0 := by unfold slideLen slideBits; rw [h]; rfl
    exact decide_eq_false (by omega)
theorem bne_dec (x : Int) : (x != 0) = decide (x ≠ 0) := by
  by_cases h : x = 0
  · subst h; rfl
  · rw [decide_eq_true h]; exact bne_iff_ne.2 h
theorem moreN_eq {v s a g p : Int} {n : Nat} (hv : In64 v) (hs : In64 s) (ha : In64 a) (hg : In64 g) (hp : In64 p) : moreN v s a g p n = true ↔ (v ≠ 0 ∨ s ≠ 0 ∨ a ≠ 0 ∨ g ≠ 0 ∨ p ≠ 0 ∨ 0 < n) := by
  unfold moreN
  rw [bne_dec, Bool.or_eq_true, decide_eq_true_eq, decide_eq_true_eq]
  have := or5 hv hs ha hg hp
  constructor
  · rintro (h | h)
    · by_cases h1 : v = 0
      · by_cases h2 : s = 0
        · by_cases h3 : a = 0
          · by_cases h4 : g = 0
            · by_cases h5 : p = 0
              · exact absurd (this.2 ⟨h1, h2, h3, h4, h5⟩) h
              · exact .inr (.inr (.inr (.inr (.inl h5))))
            · exact .inr (.inr (.inr (.inl h4)))
          · exact .inr (.inr (.inl h3))
        · exact .inr (.inl h2)
      · exact .inl h1
    · exact .inr (.inr (.inr (.inr (.inr h))))
  · rintro h
    by_cases h0 : orI (orI (orI (orI v s) a) g) p = 0
    · obtain ⟨h1, h2, h3, h4, h5⟩ := this.1 h0
      right
      omega
    · exact .inl h0
theorem form_eq {b : Blk} {n m : Nat} (hw : Wf9 b) (hk : b.kind = 0 ∨ b.kind = 1 ∨ b.kind = 2 ∨ b.kind = 3) : formB b n m = if moreB b || !formedB b n m then 2 else 0 := by
  obtain ⟨kind, value, shift, index, lag, gain, part, rice, data⟩ := b
  have hv := hw.v; have hs := hw.s; have ha := hw.l; have hg := hw.g; have hp := hw.p
  dsimp only at hv hs ha hg hp hk
  clear hw
  have hkn : wrongKind ⟨kind, value, shift, index, lag, gain, part, rice, data⟩ = false := by
    unfold wrongKind
    dsimp only
    rw [decide_eq_false (by omega), decide_eq_false (by omega)]; rfl
  unfold formB
  rw [hkn, if_neg (by simp)]
  by_cases h2 : kind = 2
  · subst h2
    have e1 : wrongMore ⟨2, value, shift, index, lag, gain, part, rice, data⟩ = false := by simp [wrongMore]
    have e2 : wrongData ⟨2, value, shift, index, lag, gain, part, rice, data⟩ n = (decide (value ≠ 0) || decide ((data.length : Int) ≠ n)) := by simp [wrongData]
    have e3 : wrongNormal ⟨2, value, shift, index, lag, gain, part, rice, data⟩ n m = (decide (shift < 0) || decide ((m : Int) ≤ shift) || !goodL index || !goodT lag gain || !partsOk n part rice || !listOk data) := by simp [wrongNormal]
    have e4 : moreB ⟨2, value, shift, index, lag, gain, part, rice, data⟩ = decide (value ≠ 0) := by unfold moreB; rw [if_neg (by show ¬ (2 : Int) = 1; decide), if_pos rfl]
    have e5 : formedB ⟨2, value, shift, index, lag, gain, part, rice, data⟩ n m = (shiftB m shift && goodL index && goodT lag gain && decide (data.length = n) && slideOk data part rice) := by unfold formedB; rw [if_pos rfl, ← slideLen_pos]
    have e6 : shiftB m shift = !(decide (shift < 0) || decide ((m : Int) ≤ shift)) := by
      unfold shiftB
      by_cases a : shift < 0
      · rw [decide_eq_true a, decide_eq_false (by omega)]; rfl
      · by_cases c : (m : Int) ≤ shift
        · rw [decide_eq_true c, decide_eq_false (by omega), Bool.or_true]; rfl
        · rw [decide_eq_false a, decide_eq_false c, decide_eq_true (by omega)]; rfl
    rw [e1, e2, e3, e4, e5, e6, if_neg (by simp)]
    by_cases hv0 : value = 0
    · by_cases hl : data.length = n
      · rw [decide_eq_false (by simp; exact hv0), decide_eq_false (by simp; omega), decide_eq_true hl]
        subst hl
        unfold slideOk
        generalize decide (shift < 0) = b1
        generalize decide ((m : Int) ≤ shift) = b2
        generalize goodL index = b3
        generalize goodT lag gain = b4
        generalize partsOk data.length part rice = b5
        generalize listOk data = b6
        cases b1 <;> cases b2 <;> cases b3 <;> cases b4 <;> cases b5 <;> cases b6 <;> rfl
      · rw [decide_eq_true (by omega : (data.length : Int) ≠ n), decide_eq_false hl]
        simp
    · rw [decide_eq_true hv0]
      simp
  · have e3 : wrongNormal ⟨kind, value, shift, index, lag, gain, part, rice, data⟩ n m = false := by unfold wrongNormal; dsimp only; rw [decide_eq_false h2]; rfl
    rw [e3]
    have hmm : ∀ (A B : Bool) (X : Bool), ((A = true ∨ B = true) ↔ X = true) → (if A then (2 : Int) else if B then 2 else if false then 2 else 0) = if X then 2 else 0 := by
      intro A B X h
      cases A <;> cases B <;> cases X <;> simp_all
    refine hmm _ _ _ ?_
    have w1 : wrongMore ⟨kind, value, shift, index, lag, gain, part, rice, data⟩ = true ↔ (shift ≠ 0 ∨ 0 < index.length ∨ lag ≠ 0 ∨ gain ≠ 0 ∨ part ≠ 0 ∨ 0 < rice.length) := by
      unfold wrongMore
      dsimp only
      rw [decide_eq_true h2, Bool.true_and]
      simp only [Bool.or_eq_true, decide_eq_true_eq]
      omega
    rcases hk with rfl | rfl | rfl | rfl
    · have w2 : wrongData ⟨0, value, shift, index, lag, gain, part, rice, data⟩ n = true ↔ (value ≠ 0 ∨ 0 < data.length) := by
        unfold wrongData
        dsimp only
        simp only [Bool.or_eq_true, Bool.and_eq_true, decide_eq_true_eq]
        omega
      have w3 : (moreB ⟨0, value, shift, index, lag, gain, part, rice, data⟩ || !formedB ⟨0, value, shift, index, lag, gain, part, rice, data⟩ n m) = moreN value shift lag gain part (index.length + rice.length + data.length) := by
        unfold moreB formedB
        simp
      rw [w1, w2, w3, moreN_eq hv hs ha hg hp]
      omega
    · have w2 : wrongData ⟨1, value, shift, index, lag, gain, part, rice, data⟩ n = true ↔ 0 < data.length := by
        unfold wrongData
        dsimp only
        simp only [Bool.or_eq_true, Bool.and_eq_true, decide_eq_true_eq]
        omega
      have w3 : (moreB ⟨1, value, shift, index, lag, gain, part, rice, data⟩ || !formedB ⟨1, value, shift, index, lag, gain, part, rice, data⟩ n m) = moreN 0 shift lag gain part (index.length + rice.length + data.length) := by
        unfold moreB formedB
        simp
      rw [w1, w2, w3, moreN_eq in64_zero hs ha hg hp]
      omega
    · exact absurd rfl h2
    · have w2 : wrongData ⟨3, value, shift, index, lag, gain, part, rice, data⟩ n = true ↔ (value ≠ 0 ∨ data.length ≠ n) := by
        unfold wrongData
        dsimp only
        simp only [Bool.or_eq_true, Bool.and_eq_true, decide_eq_true_eq]
        omega
      have w3 : (moreB ⟨3, value, shift, index, lag, gain, part, rice, data⟩ || !formedB ⟨3, value, shift, index, lag, gain, part, rice, data⟩ n m) = true ↔ (moreN value shift lag gain part (index.length + rice.length) = true ∨ data.length ≠ n) := by
        unfold moreB formedB
        simp
      rw [w1, w2, w3, moreN_eq hv hs ha hg hp]
      omega
end Go.Proofs.YtefbakhhlonafaaGreat
end

section
namespace Go.Proofs.YtefbakhhlonafaaGreat
open Go.RowKit Go.Proofs Go.Proofs.PipeA Go.Proofs.BlkM
set_option maxRecDepth 100000

theorem size_int_b : (Tryz.prog.info? 3).map (·.size) = some 1 := by kernel_rfl
def cutAb (a : Option Addr) (cap lo : Nat) : Option Addr := if cap = lo then a else a.map (fun x => x.add lo)
theorem cut_right_b (a : Option Addr) (len cap lo : Nat) (h1 : lo ≤ len) (W : World) :
    (Instr.slice 22 (.slice a len cap) (some (.int .i64 (lo : Int))) none none).run Tryz.prog W = .ok (.slice (cutAb a cap lo) (len - lo) (cap - lo)) W := by
  simp [Instr.slice, run_underlying Tryz.underlying22, Instr.sliceBounds, Instr.sliceBound, asIntOf, h1, cutAb]
set_option maxHeartbeats 3200000 in
theorem bMul64 (c : Nat) (hc : c ≤ 1024) (w : World) :
    Calls Tryz.prog 137 #[.int .u64 1, .int .u64 (c : Int)] w fun e w' => e = .returned (.tuple #[.int .u64 0, .int .u64 (c : Int)]) ∧ w = w' := by
  have h1 : bits BinOp.and IntKind.u64 1 4294967295 = 1 := by decide
  have h2 : bits BinOp.and IntKind.u64 (c : Int) 4294967295 = (c : Int) := by
    have := bits_and_u64_nat c 4294967295 (by omega) (by omega)
    rw [show c &&& 4294967295 = c from by rw [show 4294967295 = 2 ^ 32 - 1 from rfl, Nat.and_two_pow_sub_one_eq_mod]; exact Nat.mod_eq_of_lt (by omega)] at this
    exact this
  have h3 : bits BinOp.and IntKind.u64 0 4294967295 = 0 := by decide
  have h4 : (c : Int) / 4294967296 = 0 := by omega
  have hc16 : c ≤ 1024 := hc
  clear hc
  go_enter Tryz.func137, Tryz.ntmps137
  go_wp2
  refine bodyPost_ret (v := .tuple #[.int .u64 0, .int .u64 (c : Int)]) (by simp [results, Tryz.results137, go_sem]) rfl ?_
  exact ⟨rfl, rfl⟩

set_option maxHeartbeats 1600000 in
theorem bMul (c : Nat) (hc : c ≤ 1024) (w : World) :
    Calls Tryz.prog 119 #[.int .u64 1, .int .u64 (c : Int)] w fun e w' => e = .returned (.tuple #[.int .u64 0, .int .u64 (c : Int)]) ∧ w = w' := by
  have H := Lib.hid (bMul64 c hc w)
  have hc16 : c ≤ 1024 := hc
  clear hc
  go_enter Tryz.func119, Tryz.ntmps119
  go_wp2_with fail
  refine H.out.mono ?_
  rintro e w1 ⟨rfl, rfl⟩
  go_wp2
  refine bodyPost_ret (v := .tuple #[.int .u64 0, .int .u64 (c : Int)]) (by simp [results, Tryz.results119, go_sem]) rfl ?_
  exact ⟨rfl, rfl⟩

/-- A row whose first cells are one number. -/
structure FilledB (W : World) (H c n : Nat) (x : Int) : Prop where
  row : ∃ cur : List Value, W.heap[H]? = some (.cells cur.toArray 3 (0, 0)) ∧ c ≤ cur.length ∧ ∀ j, j < n → cur[j]? = some (.int .i64 x)

set_option maxHeartbeats 3200000 in
theorem cRepeatN (X cap c : Nat) (x : Int) (w : World) (hc1 : 1 ≤ c) (hc16 : c ≤ 1024) (hx : w.cell? ⟨X, 0, none⟩ = some (.int .i64 x)) (hX : X < w.heap.size) :
    Calls Tryz.prog 97 #[.slice (some ⟨X, 0, none⟩) 1 cap, .int .i64 (c : Int)] w fun e w' => ∃ H, e = .returned (.slice (some ⟨H, 0, none⟩) c c) ∧ IntsAt w' (some ⟨H, 0, none⟩) (List.replicate c x) ∧ w.heap.size ≤ H ∧ Writable w' (some ⟨H, 0, none⟩) c ∧ Below w.heap.size w w' := by
  have HM := Lib.hid (bMul c hc16 w)
  obtain ⟨cs, hcs, hmk⟩ := makeInts c (by omega)
  have hcl : c ≤ cs.size := by
    have := hcs (c - 1) (by omega)
    have := (Array.getElem?_eq_some_iff.1 this).1
    omega
  have HCL := Lib.hid hcl
  clear hcs hcl
  go_enter Tryz.func97, Tryz.ntmps97
  go_wp2_with fail
  refine HM.out.mono ?_
  rintro e w1 ⟨rfl, rfl⟩
  have hb1 := box_below w (.cells cs 3)
  have hn1 := World.alloc_heap_new w (.cells cs 3)
  have hsrc : ∀ j v, ([Value.int .i64 x])[j]? = some v → (w.alloc (.cells cs 3)).cell? ((⟨X, 0, none⟩ : Addr).add j) = some v := by
    intro j v hj
    match j, hj with
    | 0, hj => simp at hj; subst hj; rw [show (⟨X, 0, none⟩ : Addr).add 0 = ⟨X, 0, none⟩ from rfl, hb1.cell (p := ⟨X, 0, none⟩) hX]; exact hx
  have HB1 := Lib.hid hb1
  have HN1 : Hid ((w.alloc (.cells cs 3)).heap[w.heap.size]? = some (.cells cs.toList.toArray 3 (0, 0))) := by show _ = _; rw [hn1, Array.toArray_toList]
  have HSRC := Lib.hid hsrc
  obtain ⟨W1, hW1⟩ : ∃ W1, W1 = w.alloc (.cells cs 3) := ⟨_, rfl⟩
  have HW1 := Lib.hid hW1
  rw [← hW1] at HB1 HN1 HSRC
  clear hb1 hn1 hsrc hW1
  go_wp2_with (with_reducible refine wpList_copy_splice rfl (.tmp 31) (.tmp 32) 22 22 rfl 3 Tryz.underlying22 size_int_b _ _ _ _ _ _ rfl rfl w.heap.size 0 cs.toList 3 (HW1.out ▸ HN1.out) [.int .i64 x] ?k1 ?k2 ?k3 ?k4 w.heap.size w (HW1.out ▸ HB1.out) (Nat.le_refl _) ?_)
  case k1 => simp [hc1]
  case k2 =>
    intro j v hj
    match j, hj with
    | 0, hj => simp at hj; subst hj; exact hx
  case k3 => simp; have := HCL.out; omega
  case k4 => intro u hu; simp at hu; subst hu; rfl
  intro w2 HR hb2
  have HF1 : Hid (FilledB w2 w.heap.size c 1 x) := by
    refine ⟨_, HR.out, ?_, fun j hj => ?_⟩
    · rw [length_splice _ _ _ (by simp; have := HCL.out; omega)]
      simpa using HCL.out
    · obtain rfl : j = 0 := by omega
      simp [splice]
  have HB2 := Lib.hid hb2
  have HT1 : Hid (1 ≤ 1) := Nat.le_refl 1
  clear HR hb2 HSRC HN1 HB1 HW1 hmk
  go_wp2
  go_loopg [8] c (fun gk n wr => ∃ k : Nat, k ≤ c ∧ gk + k = c + 1 ∧ n = .int .i64 k ∧ Hid (1 ≤ k) ∧ Hid (FilledB wr w.heap.size c k x) ∧ Hid (Below w.heap.size w wr))
  case atStart => exact ⟨1, hc1, by omega, rfl, HT1, HF1, HB2⟩
  case round =>
    obtain ⟨k, hk, hgk, rfl, HTK, HFK, HBK⟩ := hrel
    have HGK := Lib.hid hgk
    clear hgk
    by_cases hlt : k < c
    · have hk0 := HTK.out
      obtain ⟨q, hq⟩ : ∃ q, q = c - k := ⟨_, rfl⟩
      obtain ⟨r, hr⟩ : ∃ r, r = Nat.min k q := ⟨_, rfl⟩
      have hr1 : 1 ≤ r ∧ r ≤ k ∧ k + r ≤ c := by
        rw [show Nat.min k q = min k q from rfl] at hr
        omega
      have HR1 := Lib.hid hr1
      have hrc := hr1.2.2
      have hcut1 := fun W => cut_right_b (some ⟨w.heap.size, 0, none⟩) c c k (by omega) W
      rw [← hq, show cutAb (some ⟨w.heap.size, 0, none⟩) c k = some ⟨w.heap.size, k, none⟩ by rw [cutAb, if_neg (by omega)]; simp [Addr.add_lit]] at hcut1
      have hcut2 : ∀ W, (Instr.slice 22 (.slice (some ⟨w.heap.size, 0, none⟩) c c) none (some (.int .i64 (k : Int))) none).run Tryz.prog W = .ok (.slice (some ⟨w.heap.size, 0, none⟩) k c) W := fun W => by
        simp [Instr.slice, run_underlying Tryz.underlying22, Instr.sliceBounds, Instr.sliceBound, asIntOf, hk, Addr.add]
      obtain ⟨cur, hrow, hcl, hcur⟩ := HFK.out.row
      have hcopy := run_copy_row (P := Tryz.prog) wr.drew 22 22 3 3 w.heap.size k q q ⟨w.heap.size, 0, none⟩ k c cur.toArray 3 (List.replicate r (.int .i64 x)) Tryz.underlying22 size_int_b hrow (by rw [List.length_replicate]; exact hr) (fun j v hj => by
        have hjr : j < r := by simpa using (List.getElem?_eq_some_iff.1 hj).1
        have hjk : j < k := by omega
        rw [List.getElem?_replicate, if_pos hjr] at hj
        cases hj
        rw [show (⟨w.heap.size, 0, none⟩ : Addr).add j = ⟨w.heap.size, j, none⟩ by simp [Addr.add_lit], cell_of_heap (W := wr.drew) hrow]
        simpa using hcur j hjk) (by simp; omega) (by intro u hu; rw [List.mem_replicate] at hu; rw [hu.2]; rfl)
      rw [List.length_replicate] at hcopy
      have HROW := Lib.hid hrow
      have HCL2 := Lib.hid hcl
      have HCUR := Lib.hid hcur
      obtain ⟨w4, hw4⟩ : ∃ w4, w4 = wr.drew.setRow w.heap.size (cur.toArray.toList.take k ++ List.replicate r (Value.int .i64 x) ++ cur.toArray.toList.drop (k + r)).toArray := ⟨_, rfl⟩
      rw [← hw4, show goInt (r : Int) = .int .i64 (r : Int) from rfl] at hcopy
      have HW4 := Lib.hid hw4
      have hkk : IntKind.i64.wrap ((k : Int) + (r : Int)) = ((k + r : Nat) : Int) := by rw [IntWalk.i64_in _ (by omega)]; omega
      clear hrow hcl hcur hw4 hq hr hr1
      go_wp2
      go_region_with (fail)
      have HF4 : Hid (FilledB w4 w.heap.size c (k + r) x) := by
        refine ⟨⟨cur.take k ++ List.replicate r (Value.int .i64 x) ++ cur.drop (k + r), ?_, ?_, fun j hj => ?_⟩⟩
        · rw [HW4.out, setRow_heap wr.drew w.heap.size cur.toArray _ 3 _ HROW.out]
        · have := HCL2.out
          simp; omega
        · have h1 := HCL2.out
          by_cases hjk : j < k
          · rw [List.append_assoc, List.getElem?_append_left (by simp; omega), List.getElem?_take, if_pos hjk]
            simpa using HCUR.out j hjk
          · rw [List.append_assoc, List.getElem?_append_right (by simp; omega), List.getElem?_append_left (by simp; omega), List.getElem?_replicate, if_pos (by simp; omega)]
      have HB4 : Hid (Below w.heap.size w w4) := by
        show Below _ _ _
        rw [HW4.out]
        exact below_setRow (HBK.out.trans ((keeps_drew_b wr []).below HBK.out.size (by simp))) (Nat.le_refl _) _
      clear HW4 HROW hcopy
      go_wp2
      go_roundg (c + 1 - (k + r))
      case rel => exact ⟨k + r, hrc, by omega, by go_num, by show _ ≤ _; omega, HF4, HB4⟩
      case measure => have := HGK.out; have := HR1.out; omega
    · obtain rfl : k = c := by omega
      have HFI : Hid (IntsAt wr (some ⟨w.heap.size, 0, none⟩) (List.replicate k x)) := by
        intro j hj
        rw [List.length_replicate] at hj
        obtain ⟨cur, hrow, hcl, hcur⟩ := HFK.out.row
        refine ⟨w.heap.size, 0, rfl, (Array.getElem?_eq_some_iff.1 hrow).1, ?_⟩
        rw [Nat.zero_add, cell_of_heap hrow, List.getElem_replicate]
        simpa using hcur j hj
      have HWR : Hid (Writable wr (some ⟨w.heap.size, 0, none⟩) k) := fun b' off' e j _ => by
        obtain ⟨cur, hrow, _⟩ := HFK.out.row
        cases e
        exact frozen_of_heap hrow _
      go_wp2
      go_ret
      exact ⟨_, rfl, HFI.out, Nat.le_refl _, HWR.out, HBK.out⟩
end Go.Proofs.YtefbakhhlonafaaGreat
end

section
namespace Go.Proofs.YtefbakhhlonafaaGreat
open Go.RowKit Go.Proofs Go.Proofs.PipeM Go.Proofs.PipeA Go.Proofs.BlkM Go.Proofs.BlkB
open Go.Proofs.LatM (goodL)
open Go.Proofs.FilM (smp codeS)
open Go.Proofs.LagM (goodT codeT codeO onL)
set_option maxRecDepth 100000

/-- isFormed, of all Kinds. -/
theorem cIsFormed (b : Blk) (ia ra da : Option Addr) (ic rc dc : Nat) (n : Nat) (d : Int) (w : World) (hI : BlkIn w b ia ra da ic rc dc) (hn : n ≤ 1024) :
    Calls Tryz.prog 94 #[blkV b ia ra da ic rc dc, .int .i64 n, .int .i64 d] w fun e w' => e = .returned (.bool (formedB b n d)) ∧ Below w.heap.size w w' := by
  obtain ⟨kind, value, shift, index, lag, gain, part, rice, data⟩ := b
  by_cases h2 : kind = 2
  · subst h2; exact cFormed_one value shift lag gain part index rice data ia ra da ic rc dc n d w hI hn
  have HB : Hid (∀ o, Below w.heap.size w (w.alloc o)) := fun o => box_below w o
  have t2 : (kind == 2) = false := beq_eq_false_iff_ne.2 h2
  unfold blkV formedB
  dsimp only
  have hdl := hI.dl
  dsimp only at hdl
  generalize index.length = il at *
  generalize rice.length = rl at *
  generalize data.length = dl at *
  rw [if_neg h2]
  by_cases h3 : kind = 3
  · rw [if_pos h3]
    subst h3
    have HT : Hid ((((dl : Int)) == (n : Int)) = decide (dl = n)) := by
      show _ = _
      by_cases h : dl = n
      · rw [decide_eq_true h]; exact beq_iff_eq.2 (by omega)
      · rw [decide_eq_false h]; exact beq_eq_false_iff_ne.2 (by omega)
    clear h2 hI hdl
    obtain ⟨t, ht⟩ : ∃ t, (((dl : Int)) == (n : Int)) = t := ⟨_, rfl⟩
    rw [ht] at HT
    go_enter Tryz.func94, Tryz.ntmps94
    go_wp2
    go_ret
    exact ⟨by rw [← HT.out]; rfl, HB.out _⟩
  · rw [if_neg h3]
    have t3 : (kind == 3) = false := beq_eq_false_iff_ne.2 h3
    clear h2 h3 hI hdl
    go_enter Tryz.func94, Tryz.ntmps94
    go_wp2
    go_ret
    exact ⟨rfl, HB.out _⟩

/-- What is wrong with a block ahead of its samples. -/
def chkF (b : Blk) (n d : Int) : Int := if !(sizeN n && depthB d) then 1 else formB b n.toNat d
set_option maxHeartbeats 3200000 in
theorem cCheckForm (b : Blk) (ia ra da : Option Addr) (ic rc dc : Nat) (n d : Int) (w : World) (hI : BlkIn w b ia ra da ic rc dc) (hw : Wf9 b) :
    Calls Tryz.prog 74 #[blkV b ia ra da ic rc dc, .int .i64 n, .int .i64 d] w fun e w' => e = .returned (.int .i64 (chkF b n d)) ∧ Below w.heap.size w w' := by
  have HE : Hid (chkF b n d = if !(sizeN n && depthB d) then 1 else formB b n.toNat d) := rfl
  have HS := fun W => Lib.hid (cIsCount n W)
  have HG := fun W => Lib.hid (cIsGood d W)
  have HK := fun W => Lib.hid (cIsKind b.kind W)
  have HF : Hid (∀ m : Nat, n = m → m ≤ 1024 → ∀ W, Below w.heap.size w W → Calls Tryz.prog 94 #[blkV b ia ra da ic rc dc, .int .i64 n, .int .i64 d] W fun e w' => e = .returned (.bool (formedB b m d)) ∧ Below W.heap.size W w') := fun m hm hm2 W hW => by rw [hm]; exact cIsFormed b ia ra da ic rc dc m d W (hI.below hW) hm2
  have HM : Hid (kindB b.kind = true → ∀ W, Calls Tryz.prog 93 #[blkV b ia ra da ic rc dc] W fun e w' => e = .returned (.bool (moreB b)) ∧ Below W.heap.size W w') := fun hk W => cHasMore b ia ra da ic rc dc W hw hI.il hI.rl hI.dl (by have := of_decide_eq_true hk; omega)
  have HEQ : Hid (kindB b.kind = true → ∀ (m k : Nat), formB b m k = if moreB b || !formedB b m k then 2 else 0) := fun hk m k => form_eq hw (by have := of_decide_eq_true hk; omega)
  have HBK : Hid (kindB b.kind = false → ∀ (m : Nat) (k : Int), formB b m k = 16) := fun hk m k => by
    unfold formB wrongKind
    have := of_decide_eq_false hk
    rw [if_pos (by rw [Bool.or_eq_true, decide_eq_true_eq, decide_eq_true_eq]; omega)]
  have HBX : Hid (∀ o, Below w.heap.size w (w.alloc o)) := fun o => box_below w o
  clear hI hw
  generalize chkF b n d = r at *
  cases hs : sizeN n with
  | false =>
    rw [hs, if_pos (by rfl)] at HE
    rw [hs] at HS
    clear hs HF HM HEQ HBK HK
    obtain ⟨kind, value, shift, index, lag, gain, part, rice, data⟩ := b
    unfold blkV
    dsimp only
    generalize index.length = il at *
    generalize rice.length = rl at *
    generalize data.length = dl at *
    go_enter Tryz.func74, Tryz.ntmps74
    go_wp2_with fail
    refine (HS _).out.mono ?_
    rintro e w1 ⟨rfl, rfl⟩
    go_wp2
    go_ret
    exact ⟨by rw [HE.out]; rfl, HBX.out _⟩
  | true =>
    cases hd : depthB d with
    | false =>
      rw [hs, hd, if_pos (by rfl)] at HE
      rw [hs] at HS
      rw [hd] at HG
      clear hs hd HF HM HEQ HBK HK
      obtain ⟨kind, value, shift, index, lag, gain, part, rice, data⟩ := b
      unfold blkV
      dsimp only
      generalize index.length = il at *
      generalize rice.length = rl at *
      generalize data.length = dl at *
      go_enter Tryz.func74, Tryz.ntmps74
      go_wp2_with fail
      refine (HS _).out.mono ?_
      rintro e w1 ⟨rfl, rfl⟩
      go_wp2_with fail
      refine (HG _).out.mono ?_
      rintro e w1 ⟨rfl, rfl⟩
      go_wp2
      go_ret
      exact ⟨by rw [HE.out]; rfl, HBX.out _⟩
    | true =>
      rw [hs, hd, if_neg (by simp)] at HE
      rw [hs] at HS
      rw [hd] at HG
      obtain ⟨m, rfl, hm1, hm2⟩ := sizeN_of hs
      obtain ⟨k, rfl, hk1, hk2⟩ := depthB_of hd
      have HF2 := Lib.hid (HF.out m rfl hm2)
      rw [show ((m : Int)).toNat = m from rfl] at HE
      clear hs hd HF hk1 hk2 hm1
      cases hkd : kindB b.kind with
      | false =>
        have HE2 := Lib.hid (HE.out.trans (HBK.out hkd m k))
        rw [hkd] at HK
        clear hkd HE HEQ HBK HM HF2
        obtain ⟨kind, value, shift, index, lag, gain, part, rice, data⟩ := b
        unfold blkV
        dsimp only at *
        generalize index.length = il at *
        generalize rice.length = rl at *
        generalize data.length = dl at *
        go_enter Tryz.func74, Tryz.ntmps74
        go_wp2_with fail
        refine (HS _).out.mono ?_
        rintro e w1 ⟨rfl, rfl⟩
        go_wp2_with fail
        refine (HG _).out.mono ?_
        rintro e w1 ⟨rfl, rfl⟩
        go_wp2_with fail
        refine (HK _).out.mono ?_
        rintro e w1 ⟨rfl, rfl⟩
        go_wp2
        go_ret
        exact ⟨by rw [HE2.out]; rfl, HBX.out _⟩
      | true =>
        have HE2 := Lib.hid (HE.out.trans (HEQ.out hkd m k))
        have HM2 := Lib.hid (HM.out hkd)
        rw [hkd] at HK
        clear hkd HE HEQ HBK HM
        generalize moreB b = mo at *
        generalize formedB b m k = fo at *
        obtain ⟨kind, value, shift, index, lag, gain, part, rice, data⟩ := b
        unfold blkV at *
        dsimp only at *
        generalize index.length = il at *
        generalize rice.length = rl at *
        generalize data.length = dl at *
        have K : Hid (∀ W, Below (w.heap.size + 1) (w.alloc (.cells #[.int .i64 kind, .int .i64 value, .int .i64 shift, .slice ia il ic, .int .i64 lag, .int .i64 gain, .int .i64 part, .slice ra rl rc, .slice da dl dc] 24)) W → ∀ j v, (#[.int .i64 kind, .int .i64 value, .int .i64 shift, .slice ia il ic, .int .i64 lag, .int .i64 gain, .int .i64 part, .slice ra rl rc, .slice da dl dc] : Array Value)[j]? = some v → W.cell? ⟨w.heap.size, j, none⟩ = some v) := fun W hW j v hj => by
          rw [hW.cell (p := ⟨w.heap.size, j, none⟩) (by simp), cell_of_heap (World.alloc_heap_new w _)]
          exact hj
        cases mo with
        | true =>
          go_enter Tryz.func74, Tryz.ntmps74
          go_wp2_with fail
          refine (HS _).out.mono ?_
          rintro e w1 ⟨rfl, rfl⟩
          go_wp2_with fail
          refine (HG _).out.mono ?_
          rintro e w1 ⟨rfl, rfl⟩
          go_wp2_with fail
          refine (HK _).out.mono ?_
          rintro e w1 ⟨rfl, rfl⟩
          go_wp2_with fail
          refine (HM2.out _).mono ?_
          rintro e w2 ⟨rfl, hb2⟩
          have HB2 : Hid (Below w.heap.size w w2) := (HBX.out _).trans (hb2.mono (by simp))
          clear hb2
          go_wp2
          go_ret
          exact ⟨by rw [HE2.out]; rfl, HB2.out⟩
        | false =>
          go_enter Tryz.func74, Tryz.ntmps74
          go_wp2_with fail
          refine (HS _).out.mono ?_
          rintro e w1 ⟨rfl, rfl⟩
          go_wp2_with fail
          refine (HG _).out.mono ?_
          rintro e w1 ⟨rfl, rfl⟩
          go_wp2_with fail
          refine (HK _).out.mono ?_
          rintro e w1 ⟨rfl, rfl⟩
          go_wp2_with fail
          refine (HM2.out _).mono ?_
          rintro e w2 ⟨rfl, hb2⟩
          have hb2' := hb2.mono (show w.heap.size + 1 ≤ _ by simp)
          have k0 := K.out w2 hb2' 0 (.int .i64 kind) rfl
          have k1 := K.out w2 hb2' 1 (.int .i64 value) rfl
          have k2 := K.out w2 hb2' 2 (.int .i64 shift) rfl
          have k3 := K.out w2 hb2' 3 (.slice ia il ic) rfl
          have k4 := K.out w2 hb2' 4 (.int .i64 lag) rfl
          have k5 := K.out w2 hb2' 5 (.int .i64 gain) rfl
          have k6 := K.out w2 hb2' 6 (.int .i64 part) rfl
          have k7 := K.out w2 hb2' 7 (.slice ra rl rc) rfl
          have k8 := K.out w2 hb2' 8 (.slice da dl dc) rfl
          have HB2 : Hid (Below w.heap.size w w2) := (HBX.out _).trans (hb2.mono (by simp))
          clear hb2 hb2'
          go_wp2_with fail
          refine (HF2.out _ HB2.out).mono ?_
          rintro e w3 ⟨rfl, hb3⟩
          have HB3 : Hid (Below w.heap.size w w3) := HB2.out.trans (hb3.mono HB2.out.size)
          clear hb3 k0 k1 k2 k3 k4 k5 k6 k7 k8
          cases fo with
          | true =>
            go_wp2
            go_ret
            exact ⟨by rw [HE2.out]; rfl, HB3.out⟩
          | false =>
            go_wp2
            go_ret
            exact ⟨by rw [HE2.out]; rfl, HB3.out⟩
end Go.Proofs.YtefbakhhlonafaaGreat
end

section
namespace Go.Proofs.YtefbakhhlonafaaGreat
open Go.RowKit Go.Proofs Go.Proofs.PipeM Go.Proofs.PipeA Go.Proofs.BlkM Go.Proofs.BlkB
open Go.Proofs.LatM (goodL)
open Go.Proofs.FilM (smp codeS)
open Go.Proofs.LagM (goodT codeT codeO onL)
set_option maxRecDepth 100000

theorem cRepeatH (x : Int) (c : Nat) (w : World) (hc1 : 1 ≤ c) (hc16 : c ≤ 1024) :
    Calls Tryz.prog 97 #[.slice (some ⟨w.heap.size, 0, none⟩) 1 1, .int .i64 (c : Int)] (w.alloc (.cells #[.int .i64 x] 3)) fun e w' => ∃ H, e = .returned (.slice (some ⟨H, 0, none⟩) c c) ∧ IntsAt w' (some ⟨H, 0, none⟩) (List.replicate c x) ∧ w.heap.size ≤ H ∧ Writable w' (some ⟨H, 0, none⟩) c ∧ Below w.heap.size w w' := by
  have hn := World.alloc_heap_new w (.cells #[.int .i64 x] 3)
  refine (cRepeatN w.heap.size 1 c x _ hc1 hc16 (cell_of_heap hn 0) (by simp)).mono ?_
  rintro e w' ⟨H, h1, h2, h3, h5, h4⟩
  exact ⟨H, h1, h2, Nat.le_trans (by simp) h3, h5, (box_below w _).trans (h4.mono (by simp))⟩

/-- Samples that came out, in memory that is new and may be written, or what is wrong. -/
def SampW (code : Int) (m : List Int) (w : World) (e : Ending) (w' : World) : Prop :=
  (code ≠ 0 ∧ e = .returned (.tuple #[.slice none 0 0, .int .i64 code]) ∧ Below w.heap.size w w') ∨
  (code = 0 ∧ ∃ ao cap, e = .returned (.tuple #[.slice ao m.length cap, .int .i64 0]) ∧ IntsAt w' ao m ∧ m.length ≤ cap ∧ Below w.heap.size w w' ∧ FreshOf w ao ∧ Writable w' ao m.length)
theorem SampW.is {c : Int} {m : List Int} {w w' : World} {e : Ending} (h : SampW c m w e w') : SampIs c m w e w' := by
  rcases h with h | ⟨h0, ao, cap, h1, h2, h3, h4, h5, _⟩
  · exact .inl h
  · exact .inr ⟨h0, ao, cap, h1, h2, h3, h4, h5⟩
theorem SampW.bad {c : Int} {m : List Int} {w w' : World} {k : Int} (h : c = k) (hk : k ≠ 0) (hb : Below w.heap.size w w') : SampW c m w (.returned (.tuple #[.slice none 0 0, .int .i64 k])) w' := by
  subst h
  exact .inl ⟨hk, rfl, hb⟩

/-- What is wrong with what comes of a block. -/
theorem wrongOut_two {value shift gain part : Int} {a : Nat} {index rice data : List Int} {n m : Nat} (hm1 : 8 ≤ m) (hm2 : m ≤ 26) (hf : formB ⟨2, value, shift, index, a, gain, part, rice, data⟩ n m = 0) :
    (codeO a gain data ≠ 0 → codeO a gain data = 9) ∧ (codeS index (onL a gain data) (halfOf m - 1) ≠ 0 → codeS index (onL a gain data) (halfOf m - 1) = 9) := by
  obtain ⟨_, _, _, _, hgl, hgt, _, hlo⟩ := two_facts hf
  have hpb := hp_bound hm1 hm2
  constructor
  · intro h
    have h0 := LagM.codeT_of hgt (nOk_in hlo)
    cases hal : (onL a gain data).all LagM.inB with
    | true => exact absurd (LagM.codeO_ok h0 hal) h
    | false => exact LagM.codeO_bad h0 hal
  · intro h
    unfold codeS at h ⊢
    rw [hgl, decide_eq_true (by omega), decide_eq_true (by omega)] at h ⊢
    rw [if_pos (by rfl)] at h ⊢
    split at h
    · rename_i h1
      rw [if_pos h1]
      split at h
      · exact absurd rfl h
      · rename_i h2
        rw [if_neg h2]
    · rename_i h1
      rw [if_neg h1]

theorem formB_data {value shift lag gain part : Int} {index rice data : List Int} {n m : Nat} (hf : formB ⟨3, value, shift, index, lag, gain, part, rice, data⟩ n m = 0) : data.length = n := by
  have h : wrongData ⟨3, value, shift, index, lag, gain, part, rice, data⟩ n = false := by
    cases hwd : wrongData ⟨3, value, shift, index, lag, gain, part, rice, data⟩ n with
    | false => rfl
    | true =>
      unfold formB at hf
      rw [hwd] at hf
      split at hf
      · omega
      · split at hf
        · omega
        · rw [if_pos rfl] at hf
          omega
  unfold wrongData at h
  simp at h
  omega

set_option maxHeartbeats 3200000 in
theorem cTold (b : Blk) (ia ra da : Option Addr) (ic rc dc : Nat) (n m : Nat) (w : World) (hn1 : 1 ≤ n) (hn : n ≤ 1024) (hm1 : 8 ≤ m) (hm2 : m ≤ 26) (hI : BlkIn w b ia ra da ic rc dc) (hf : formB b n m = 0) :
    Calls Tryz.prog 75 #[blkV b ia ra da ic rc dc, .int .i64 n, .int .i64 m] w (SampW (if wrongOut b m then 9 else 0) (outB b n) w) := by
  have HBX : Hid (∀ o, Below w.heap.size w (w.alloc o)) := fun o => box_below w o
  obtain ⟨kind, value, shift, index, lag, gain, part, rice, data⟩ := b
  by_cases h2 : kind = 2
  · subst h2
    obtain ⟨rfl, hdn, hs0, hs1, hgl, hgt, _, hlo⟩ := two_facts hf
    obtain ⟨s, rfl⟩ : ∃ s : Nat, shift = s := ⟨shift.toNat, by omega⟩
    obtain ⟨a, rfl, ha, _⟩ := LagM.goodT_of hgt
    obtain ⟨ho, hso⟩ := wrongOut_two hm1 hm2 hf
    have hOm : outB ⟨2, 0, s, index, a, gain, part, rice, data⟩ n = (smp index (onL a gain data) n).map (· * ((2 ^ s : Nat) : Int)) := by
      unfold outB lowB
      rw [if_pos rfl]
      dsimp only
      rw [show (a : Int).toNat = a from rfl, show (s : Int).toNat = s from rfl, LagM.onL_length, hdn]
      simp
    have hwo : wrongOut ⟨2, 0, s, index, a, gain, part, rice, data⟩ m = (decide (codeO a gain data ≠ 0) || decide (codeS index (onL a gain data) (halfOf m - 1) ≠ 0)) := by simp [wrongOut]
    have HBK : Hid (∀ W, Below w.heap.size w W → Calls Tryz.prog 95 #[blkV ⟨2, 0, s, index, a, gain, part, rice, data⟩ ia ra da ic rc dc, .int .i64 m] W (BackIs (codeO a gain data) (codeS index (onL a gain data) (halfOf m - 1)) ((smp index (onL a gain data) n).map (· * ((2 ^ s : Nat) : Int))) W)) := fun W hW => cBack s a gain part index rice data ia ra da ic rc dc n m W hn1 hn hm1 hm2 (by omega) hdn (hI.below hW)
    rw [hwo, hOm]
    have HO := Lib.hid ho
    have HSO := Lib.hid hso
    generalize codeO a gain data = co at *
    generalize codeS index (onL a gain data) (halfOf m - 1) = cs at *
    generalize (smp index (onL a gain data) n).map (· * ((2 ^ s : Nat) : Int)) = O at *
    obtain ⟨tc, htc⟩ : ∃ tc : Int, tc = if (decide (co ≠ 0) || decide (cs ≠ 0)) then 9 else 0 := ⟨_, rfl⟩
    rw [← htc]
    have HTC := Lib.hid htc
    clear hI hf hdn hs0 hs1 hgl hgt hlo hOm hwo ho hso htc
    unfold blkV at *
    dsimp only at *
    generalize index.length = il at *
    generalize rice.length = rl at *
    generalize data.length = dl at *
    go_enter Tryz.func75, Tryz.ntmps75
    go_wp2_with fail
    refine (HBK.out _ (HBX.out _)).mono ?_
    rintro e w2 (⟨h1, rfl, hb⟩ | ⟨rfl, h1, rfl, hb⟩ | ⟨rfl, rfl, ao, cap, rfl, hi, hcp, hb, hfr, hwr⟩)
    · have HB : Hid (Below w.heap.size w w2) := (HBX.out _).trans (hb.mono (by simp))
      have HN := Lib.hid h1
      clear hb h1
      go_wp2
      refine bodyPost_ret (v := .tuple #[.slice none 0 0, .int .i64 co]) (by simp [results, Tryz.results75, go_sem]) rfl ?_
      have h9 := HTC.out
      rw [decide_eq_true HN.out, Bool.true_or, if_pos rfl] at h9
      rw [h9, HO.out HN.out]
      exact .inl ⟨by omega, rfl, HB.out⟩
    · have HB : Hid (Below w.heap.size w w2) := (HBX.out _).trans (hb.mono (by simp))
      have HN := Lib.hid h1
      clear hb h1
      go_wp2
      refine bodyPost_ret (v := .tuple #[.slice none 0 0, .int .i64 cs]) (by simp [results, Tryz.results75, go_sem]) rfl ?_
      have h9 := HTC.out
      rw [decide_eq_true HN.out, Bool.or_true, if_pos rfl] at h9
      rw [h9, HSO.out HN.out]
      exact .inl ⟨by omega, rfl, HB.out⟩
    · have HB : Hid (Below w.heap.size w w2) := (HBX.out _).trans (hb.mono (by simp))
      have HI := Lib.hid hi
      have HC := Lib.hid hcp
      have HWR := Lib.hid hwr
      have HFR : Hid (FreshOf w ao) := fun g off hh => by
        have := hfr g off hh
        simp at this
        omega
      clear hb hi hcp hfr hwr
      generalize hol : O.length = ol at *
      have HOL := Lib.hid hol
      clear hol
      go_wp2
      refine bodyPost_ret (v := .tuple #[.slice ao ol cap, .int .i64 0]) (by simp [results, Tryz.results75, go_sem]) rfl ?_
      exact .inr ⟨HTC.out, ao, cap, by rw [HOL.out], HI.out, by rw [HOL.out]; exact HC.out, HB.out, HFR.out, by rw [HOL.out]; exact HWR.out⟩
  · have hwo : wrongOut ⟨kind, value, shift, index, lag, gain, part, rice, data⟩ m = false := by unfold wrongOut; dsimp only; rw [decide_eq_false h2]; rfl
    have t2 : (kind == 2) = false := beq_eq_false_iff_ne.2 h2
    rw [hwo, if_neg (by simp)]
    by_cases h3 : kind = 3
    · subst h3
      have hk := formB_data hf
      have hO : outB ⟨3, value, shift, index, lag, gain, part, rice, data⟩ n = data := by unfold outB; rw [if_neg (by show ¬ (3 : Int) = 2; decide), if_pos rfl]
      rw [hO]
      obtain ⟨a0, rfl⟩ : ∃ a0, da = some a0 := by
        obtain ⟨b, off, h, _⟩ := hI.d 0 (by show 0 < data.length; omega)
        exact ⟨_, h⟩
      have HCL : Hid (∀ W, Below w.heap.size w W → Calls Tryz.prog 96 #[.slice (some a0) data.length dc] W (Gx.CopyIs data W)) := fun W hW => Gx.cClone a0 dc data W (by omega) (hI.d.below hW)
      clear hI hf hwo h2 hO hk
      unfold blkV
      dsimp only
      generalize index.length = il at *
      generalize rice.length = rl at *
      generalize hdl : data.length = dl at *
      have HDL := Lib.hid hdl
      clear hdl
      go_enter Tryz.func75, Tryz.ntmps75
      go_wp2_with fail
      refine (HCL.out _ (HBX.out _)).mono ?_
      rintro e w2 ⟨H, hcap, he, hi, ⟨cur, hcur⟩, hcp, hH, _, hb⟩
      rw [HDL.out] at he hcp
      subst he
      have HB : Hid (Below w.heap.size w w2) := (HBX.out _).trans (hb.mono (by simp))
      have HI := Lib.hid hi
      have HC := Lib.hid hcp
      have HWR : Hid (Writable w2 (some ⟨H, 0, none⟩) dl) := fun b' off' e j _ => by cases e; exact frozen_of_heap hcur _
      have HFR : Hid (FreshOf w (some ⟨H, 0, none⟩)) := fun g off hh => by
        cases hh
        simp at hH
        omega
      clear hb hi hcp hH hcur
      go_wp2
      refine bodyPost_ret (v := .tuple #[.slice (some ⟨H, 0, none⟩) dl hcap, .int .i64 0]) (by simp [results, Tryz.results75, go_sem]) rfl ?_
      exact .inr ⟨rfl, some ⟨H, 0, none⟩, hcap, by rw [HDL.out], HI.out, by rw [HDL.out]; exact HC.out, HB.out, HFR.out, by rw [HDL.out]; exact HWR.out⟩
    · have t3 : (kind == 3) = false := beq_eq_false_iff_ne.2 h3
      have hO : outB ⟨kind, value, shift, index, lag, gain, part, rice, data⟩ n = List.replicate n value := by unfold outB; dsimp only; rw [if_neg h2, if_neg h3]
      rw [hO]
      have HR : Hid (∀ o, Calls Tryz.prog 97 #[.slice (some ⟨w.heap.size + 1, 0, none⟩) 1 1, .int .i64 (n : Int)] ((w.alloc o).alloc (.cells #[.int .i64 value] 3)) fun e w' => ∃ H, e = .returned (.slice (some ⟨H, 0, none⟩) n n) ∧ IntsAt w' (some ⟨H, 0, none⟩) (List.replicate n value) ∧ w.heap.size ≤ H ∧ Writable w' (some ⟨H, 0, none⟩) n ∧ Below w.heap.size w w') := fun o => by
        have h := cRepeatH value n (w.alloc o) hn1 hn
        rw [show (w.alloc o).heap.size = w.heap.size + 1 from by simp] at h
        refine h.mono ?_
        rintro e w' ⟨H, h1, h2, h3, h5, h4⟩
        exact ⟨H, h1, h2, by omega, h5, (HBX.out o).trans (h4.mono (by omega))⟩
      clear hI hf hwo h2 h3 hO
      unfold blkV
      dsimp only
      generalize index.length = il at *
      generalize rice.length = rl at *
      generalize data.length = dl at *
      go_enter Tryz.func75, Tryz.ntmps75
      go_wp2_with fail
      refine (HR.out _).mono ?_
      rintro e w2 ⟨H, rfl, hi, hH, hwr, hb⟩
      have HB := Lib.hid hb
      have HWR := Lib.hid hwr
      have HI := Lib.hid hi
      have HFR : Hid (FreshOf w (some ⟨H, 0, none⟩)) := fun g off hh => by
        cases hh
        exact hH
      clear hb hi hH hwr
      go_wp2
      refine bodyPost_ret (v := .tuple #[.slice (some ⟨H, 0, none⟩) n n, .int .i64 0]) (by simp [results, Tryz.results75, go_sem]) rfl ?_
      exact .inr ⟨rfl, some ⟨H, 0, none⟩, n, by rw [List.length_replicate], HI.out, by rw [List.length_replicate]; exact Nat.le_refl _, HB.out, HFR.out, by rw [List.length_replicate]; exact HWR.out⟩
end Go.Proofs.YtefbakhhlonafaaGreat
end
