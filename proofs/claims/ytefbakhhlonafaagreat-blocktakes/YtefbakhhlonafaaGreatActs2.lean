import Derived.Test.YtefbakhhlonafaaGreatBlkC8
import Derived.Test.YtefbakhhlonafaaGreatBlkC4
import Derived.Test.YtefbakhhlonafaaGreatRef3g
import Derived.Test.YtefbakhhlonafaaGreatRef3a

section
namespace Go.Proofs.YtefbakhhlonafaaGreat
open Go.RowKit Go.Proofs Go.Proofs.PipeM Go.Proofs.PipeA Go.Proofs.BlkM Go.Proofs.BlkB
open Go.Proofs.LatM (goodL)
open Go.Proofs.FilM (smp codeS)
open Go.Proofs.LagM (goodT codeT codeO onL)
set_option maxRecDepth 100000

theorem outB_len {b : Blk} {n m : Nat} (hf : formB b n m = 0) : (outB b n).length = n := by
  obtain ⟨kind, value, shift, index, lag, gain, part, rice, data⟩ := b
  unfold outB
  dsimp only
  by_cases h2 : kind = 2
  · subst h2
    obtain ⟨_, hdn, _⟩ := two_facts hf
    rw [if_pos rfl, List.length_map]
    unfold lowB
    rw [FilM.smp_length]
    dsimp only
    rw [LagM.onL_length]
    exact hdn
  · rw [if_neg h2]
    by_cases h3 : kind = 3
    · subst h3
      rw [if_pos rfl]
      exact formB_data hf
    · rw [if_neg h3, List.length_replicate]

set_option maxHeartbeats 3200000 in
theorem cSamplesW (b : Blk) (ia ra da : Option Addr) (ic rc dc : Nat) (n d : Int) (w : World) (hI : BlkIn w b ia ra da ic rc dc) (hw : Wf9 b) :
    Calls Tryz.prog 48 #[blkV b ia ra da ic rc dc, .int .i64 n, .int .i64 d] w (SampW (codeB b n d) (outB b n.toNat) w) := by
  have HBX : Hid (∀ o, Below w.heap.size w (w.alloc o)) := fun o => box_below w o
  have HCF : Hid (∀ W, Below w.heap.size w W → Calls Tryz.prog 74 #[blkV b ia ra da ic rc dc, .int .i64 n, .int .i64 d] W fun e w' => e = .returned (.int .i64 (chkF b n d)) ∧ Below W.heap.size W w') := fun W hW => cCheckForm b ia ra da ic rc dc n d W (hI.below hW) hw
  by_cases hc : chkF b n d = 0
  rotate_left
  · have HE : Hid (codeB b n d = chkF b n d) := by
      show _ = _
      unfold chkF at hc ⊢
      cases hs : (sizeN n && depthB d) with
      | false => rw [codeB_size hs]; rfl
      | true =>
        rw [hs, if_neg (by simp)] at hc
        rw [codeB_form hs hc, if_neg (by simp)]
    rw [HE.out]
    generalize outB b n.toNat = O at *
    generalize chkF b n d = r at *
    have u1 : (r != 0) = true := bne_iff_ne.2 hc
    have HN := Lib.hid hc
    clear hI hw hc HE
    obtain ⟨kind, value, shift, index, lag, gain, part, rice, data⟩ := b
    unfold blkV at *
    dsimp only at *
    generalize index.length = il at *
    generalize rice.length = rl at *
    generalize data.length = dl at *
    go_enter Tryz.func48, Tryz.ntmps48
    go_wp2_with fail
    refine (HCF.out _ (HBX.out _)).mono ?_
    rintro e w1 ⟨rfl, hb⟩
    have HB : Hid (Below w.heap.size w w1) := (HBX.out _).trans (hb.mono (by simp))
    clear hb
    go_wp2
    refine bodyPost_ret (v := .tuple #[.slice none 0 0, .int .i64 r]) (by simp [results, Tryz.results48, go_sem]) rfl ?_
    exact .inl ⟨HN.out, rfl, HB.out⟩
  obtain ⟨hs, hf⟩ : (sizeN n && depthB d) = true ∧ formB b n.toNat d = 0 := by
    unfold chkF at hc
    cases hs : (sizeN n && depthB d) with
    | false => rw [hs] at hc; exact absurd hc (by simp)
    | true => rw [hs, if_neg (by simp)] at hc; exact ⟨rfl, hc⟩
  have hs2 := hs
  rw [Bool.and_eq_true] at hs2
  obtain ⟨k, rfl, hk1, hk2⟩ := sizeN_of hs2.1
  obtain ⟨m, rfl, hm1, hm2⟩ := depthB_of hs2.2
  rw [show ((k : Int)).toNat = k from rfl] at hf ⊢
  have HTO : Hid (∀ W, Below w.heap.size w W → Calls Tryz.prog 75 #[blkV b ia ra da ic rc dc, .int .i64 k, .int .i64 m] W (SampW (if wrongOut b m then 9 else 0) (outB b k) W)) := fun W hW => cTold b ia ra da ic rc dc k m W hk1 hk2 hm1 hm2 (hI.below hW) hf
  have hol := outB_len hf
  have HC1 : Hid (wrongOut b m = true → codeB b k m = 9) := fun h => codeB_out hs hf h
  have HC2 : Hid (wrongOut b m = false → codeB b k m = if (outB b k).all (hasP (halfOf m)) then 0 else 9) := fun h => codeB_all hs hf h
  have HCK : Hid (∀ W ao cap, IntsAt W ao (outB b k) → Calls Tryz.prog 76 #[.int .i64 m, .slice ao k cap] W fun e w' => e = .returned (.int .i64 (if (outB b k).all (hasP (halfOf m)) then 0 else 9)) ∧ W = w') := fun W ao cap hi => by
    have h := cCheck ao cap (outB b k) m W (by omega) hi
    unfold chkB at h
    rw [hol, hs, if_neg (by simp)] at h
    exact h
  rw [hc] at HCF
  have K : Hid (∀ (W : World) (o : Array Value), Below (w.heap.size + 1) (w.alloc (.cells o 24)) W → ∀ j v, o[j]? = some v → W.cell? ⟨w.heap.size, j, none⟩ = some v) := fun W o hW j v hj => by
    rw [hW.cell (p := ⟨w.heap.size, j, none⟩) (by simp), cell_of_heap (World.alloc_heap_new w _)]
    exact hj
  have HOL := Lib.hid hol
  generalize outB b k = O at *
  generalize O.all (hasP (halfOf m)) = al at *
  generalize codeB b k m = cb at *
  generalize wrongOut b m = wo at *
  clear hI hw hc hs hf hs2 hol
  obtain ⟨kind, value, shift, index, lag, gain, part, rice, data⟩ := b
  unfold blkV at *
  dsimp only at *
  generalize index.length = il at *
  generalize rice.length = rl at *
  generalize data.length = dl at *
  cases wo with
  | true =>
    rw [if_pos rfl] at HTO
    have HE := Lib.hid (HC1.out rfl)
    clear HC1 HC2
    go_enter Tryz.func48, Tryz.ntmps48
    go_wp2_with fail
    refine (HCF.out _ (HBX.out _)).mono ?_
    rintro e w1 ⟨rfl, hb⟩
    have hb' := hb.mono (show w.heap.size + 1 ≤ _ by simp)
    have k0 := K.out w1 _ hb' 0 (.int .i64 kind) rfl
    have k1 := K.out w1 _ hb' 1 (.int .i64 value) rfl
    have k2 := K.out w1 _ hb' 2 (.int .i64 shift) rfl
    have k3 := K.out w1 _ hb' 3 (.slice ia il ic) rfl
    have k4 := K.out w1 _ hb' 4 (.int .i64 lag) rfl
    have k5 := K.out w1 _ hb' 5 (.int .i64 gain) rfl
    have k6 := K.out w1 _ hb' 6 (.int .i64 part) rfl
    have k7 := K.out w1 _ hb' 7 (.slice ra rl rc) rfl
    have k8 := K.out w1 _ hb' 8 (.slice da dl dc) rfl
    have HB : Hid (Below w.heap.size w w1) := (HBX.out _).trans (hb.mono (by simp))
    clear hb hb'
    go_wp2_with fail
    refine (HTO.out _ HB.out).mono ?_
    rintro e w2 h2
    obtain ⟨rfl, hb2⟩ : e = .returned (.tuple #[.slice none 0 0, .int .i64 9]) ∧ Below w1.heap.size w1 w2 := h2.elim (fun h => h.2) (fun h => absurd h.1 (by omega))
    have HB2 : Hid (Below w.heap.size w w2) := HB.out.trans (hb2.mono HB.out.size)
    clear h2 hb2 k0 k1 k2 k3 k4 k5 k6 k7 k8
    go_wp2
    refine bodyPost_ret (v := .tuple #[.slice none 0 0, .int .i64 9]) (by simp [results, Tryz.results48, go_sem]) rfl ?_
    exact SampW.bad HE.out (by omega) HB2.out
  | false =>
    rw [if_neg (by simp)] at HTO
    have HE := Lib.hid (HC2.out rfl)
    clear HC1 HC2
    go_enter Tryz.func48, Tryz.ntmps48
    go_wp2_with fail
    refine (HCF.out _ (HBX.out _)).mono ?_
    rintro e w1 ⟨rfl, hb⟩
    have hb' := hb.mono (show w.heap.size + 1 ≤ _ by simp)
    have k0 := K.out w1 _ hb' 0 (.int .i64 kind) rfl
    have k1 := K.out w1 _ hb' 1 (.int .i64 value) rfl
    have k2 := K.out w1 _ hb' 2 (.int .i64 shift) rfl
    have k3 := K.out w1 _ hb' 3 (.slice ia il ic) rfl
    have k4 := K.out w1 _ hb' 4 (.int .i64 lag) rfl
    have k5 := K.out w1 _ hb' 5 (.int .i64 gain) rfl
    have k6 := K.out w1 _ hb' 6 (.int .i64 part) rfl
    have k7 := K.out w1 _ hb' 7 (.slice ra rl rc) rfl
    have k8 := K.out w1 _ hb' 8 (.slice da dl dc) rfl
    have HB : Hid (Below w.heap.size w w1) := (HBX.out _).trans (hb.mono (by simp))
    clear hb hb'
    go_wp2_with fail
    refine (HTO.out _ HB.out).mono ?_
    rintro e w2 h2
    obtain ⟨ao, cap, he, hi, hcp, hb2, hfr, hwr⟩ := h2.elim (fun h => absurd rfl h.1) (fun h => h.2)
    rw [HOL.out] at he hcp hwr
    subst he
    have HB2 : Hid (Below w.heap.size w w2) := HB.out.trans (hb2.mono HB.out.size)
    have HI := Lib.hid hi
    have HCP := Lib.hid hcp
    have HWR := Lib.hid hwr
    have HFR : Hid (FreshOf w ao) := fun g off hh => Nat.le_trans HB.out.size (hfr g off hh)
    have HC2 := Lib.hid (HCK.out w2 ao cap hi)
    clear h2 hb2 hi hcp hfr hwr HCK k0 k1 k2 k3 k4 k5 k6 k7 k8
    cases al with
    | false =>
      rw [if_neg (by simp)] at HE HC2
      go_wp2_with fail
      refine HC2.out.mono ?_
      rintro e w3 ⟨rfl, rfl⟩
      go_wp2
      refine bodyPost_ret (v := .tuple #[.slice none 0 0, .int .i64 9]) (by simp [results, Tryz.results48, go_sem]) rfl ?_
      exact SampW.bad HE.out (by omega) HB2.out
    | true =>
      rw [if_pos rfl] at HE HC2
      go_wp2_with fail
      refine HC2.out.mono ?_
      rintro e w3 ⟨rfl, rfl⟩
      go_wp2
      refine bodyPost_ret (v := .tuple #[.slice ao k cap, .int .i64 0]) (by simp [results, Tryz.results48, go_sem]) rfl ?_
      exact .inr ⟨HE.out, ao, cap, by rw [HOL.out], HI.out, by rw [HOL.out]; exact HCP.out, HB2.out, HFR.out, by rw [HOL.out]; exact HWR.out⟩

theorem cSamples10 (b : Blk) (ia ra da : Option Addr) (ic rc dc : Nat) (n d : Int) (w : World) (hI : BlkIn w b ia ra da ic rc dc) (hw : Wf9 b) :
    Calls Tryz.prog 48 #[blkV b ia ra da ic rc dc, .int .i64 n, .int .i64 d] w (SampIs (codeB b n d) (outB b n.toNat) w) := (cSamplesW b ia ra da ic rc dc n d w hI hw).mono fun _ _ h => h.is

set_option maxHeartbeats 1600000 in
theorem cIsRight (b : Blk) (ia ra da : Option Addr) (ic rc dc : Nat) (n d : Int) (w : World) (hI : BlkIn w b ia ra da ic rc dc) (hw : Wf9 b) :
    Calls Tryz.prog 31 #[blkV b ia ra da ic rc dc, .int .i64 n, .int .i64 d] w fun e w' => e = .returned (.bool (decide (codeB b n d = 0))) ∧ Below w.heap.size w w' := by
  have HBX : Hid (∀ o, Below w.heap.size w (w.alloc o)) := fun o => box_below w o
  have HSA : Hid (∀ W, Below w.heap.size w W → Calls Tryz.prog 48 #[blkV b ia ra da ic rc dc, .int .i64 n, .int .i64 d] W (SampIs (codeB b n d) (outB b n.toNat) W)) := fun W hW => cSamples10 b ia ra da ic rc dc n d W (hI.below hW) hw
  generalize outB b n.toNat = O at *
  generalize codeB b n d = cb at *
  clear hI hw
  obtain ⟨kind, value, shift, index, lag, gain, part, rice, data⟩ := b
  unfold blkV at *
  dsimp only at *
  generalize index.length = il at *
  generalize rice.length = rl at *
  generalize data.length = dl at *
  generalize hol : O.length = ol at *
  have HOL := Lib.hid hol
  clear hol
  by_cases hc : cb = 0
  · subst hc
    go_enter Tryz.func31, Tryz.ntmps31
    go_wp2_with fail
    refine (HSA.out _ (HBX.out _)).mono ?_
    rintro e w1 h1
    obtain ⟨ao, cap, he, _, _, hb, _⟩ := h1.elim (fun h => absurd rfl h.1) (fun h => h.2)
    rw [HOL.out] at he
    subst he
    have HB : Hid (Below w.heap.size w w1) := (HBX.out _).trans (hb.mono (by simp))
    clear h1 hb
    go_wp2
    go_ret
    exact ⟨rfl, HB.out⟩
  · have u1 : (cb == 0) = false := beq_eq_false_iff_ne.2 hc
    rw [decide_eq_false hc]
    have HN := Lib.hid hc
    clear hc
    go_enter Tryz.func31, Tryz.ntmps31
    go_wp2_with fail
    refine (HSA.out _ (HBX.out _)).mono ?_
    rintro e w1 h1
    obtain ⟨rfl, hb⟩ : e = .returned (.tuple #[.slice none 0 0, .int .i64 cb]) ∧ Below _ _ w1 := h1.elim (fun h => h.2) (fun h => absurd h.1 HN.out)
    have HB : Hid (Below w.heap.size w w1) := (HBX.out _).trans (hb.mono (by simp))
    clear h1 hb
    go_wp2
    go_ret
    exact ⟨rfl, HB.out⟩
end Go.Proofs.YtefbakhhlonafaaGreat
end

section
namespace Go.Proofs.YtefbakhhlonafaaGreat
open Go.RowKit Go.Proofs Go.Proofs.PipeM Go.Proofs.PipeA Go.Proofs.BlkM
open Go.Proofs.LatM (goodL)
open Go.Proofs.LagM (goodT)
set_option maxRecDepth 100000

/-- What a right block is. -/
theorem right_of {b : Blk} {n d : Int} (h : codeB b n d = 0) : ∃ k m : Nat, n = k ∧ d = m ∧ 1 ≤ k ∧ k ≤ 1024 ∧ 8 ≤ m ∧ m ≤ 26 ∧ formB b k m = 0 ∧ wrongOut b m = false ∧ (outB b k).all (hasP (halfOf m)) = true := by
  cases hs : sizeN n && depthB d with
  | false => rw [codeB_size hs] at h; omega
  | true =>
    have hs' := hs
    rw [Bool.and_eq_true] at hs'
    obtain ⟨k, rfl, hn1, hn⟩ := sizeN_of hs'.1
    obtain ⟨m, rfl, hm1, hm2⟩ := depthB_of hs'.2
    by_cases hf : formB b k m = 0
    rotate_left
    · have := codeB_form hs hf
      exact absurd h (by rw [this]; exact hf)
    cases hw : wrongOut b m with
    | true => have := codeB_out hs hf hw; omega
    | false =>
      have := codeB_all hs hf hw
      cases ha : (outB b k).all (hasP (halfOf m)) with
      | false => rw [show (k : Int).toNat = k from rfl, ha] at this; rw [this] at h; simp at h
      | true => exact ⟨k, m, rfl, rfl, hn1, hn, hm1, hm2, hf, hw, ha⟩
inductive Shape (k m : Nat) : Blk → Prop
  | zero : Shape k m ⟨0, 0, 0, [], 0, 0, 0, [], []⟩
  | const (v : Int) : Shape k m ⟨1, v, 0, [], 0, 0, 0, [], []⟩
  | raw (data : List Int) (h : data.length = k) : Shape k m ⟨3, 0, 0, [], 0, 0, 0, [], data⟩
  | normal (s a g : Nat) (part : Int) (index rice data : List Int) (h : data.length = k) (hs : s < m) (ha : a ≤ 255) (hg : g ≤ 15) (hz : a = 0 → g = 0) (hi : goodL index = true) (ht : goodT a g = true) (hp : slideOk data part rice = true) : Shape k m ⟨2, 0, s, index, a, g, part, rice, data⟩
/-- The four shapes. -/
theorem shape_of {b : Blk} {k m : Nat} (hf : formB b k m = 0) : Shape k m b := by
  obtain ⟨kind, value, shift, index, lag, gain, part, rice, data⟩ := b
  have hk : wrongKind ⟨kind, value, shift, index, lag, gain, part, rice, data⟩ = false := by
    cases h : wrongKind ⟨kind, value, shift, index, lag, gain, part, rice, data⟩ with
    | false => rfl
    | true => unfold formB at hf; rw [h, if_pos rfl] at hf; omega
  have hk3 : 0 ≤ kind ∧ kind ≤ 3 := by
    unfold wrongKind at hk
    simp at hk
    omega
  have hm : wrongMore ⟨kind, value, shift, index, lag, gain, part, rice, data⟩ = false := by
    cases h : wrongMore ⟨kind, value, shift, index, lag, gain, part, rice, data⟩ with
    | false => rfl
    | true => unfold formB at hf; rw [hk, h, if_neg (by simp), if_pos rfl] at hf; omega
  by_cases hk2 : kind = 2
  · subst hk2
    obtain ⟨rfl, hdn, hs0, hs1, hgl, hgt, hpo, hlo⟩ := two_facts hf
    obtain ⟨s, rfl⟩ : ∃ s : Nat, shift = s := ⟨shift.toNat, by omega⟩
    obtain ⟨a, rfl, ha, hg0, hg1, hza, _⟩ := LagM.goodT_of hgt
    obtain ⟨g, rfl⟩ : ∃ g : Nat, gain = g := ⟨gain.toNat, by omega⟩
    exact .normal s a g part index rice data hdn (by omega) ha (by omega) (fun h => by have := hza h; omega) hgl hgt (by unfold slideOk; rw [hdn, hpo, hlo]; rfl)
  · rcases more_no hm with h2 | ⟨h1, h2, h3, h4, h5, h6⟩
    · exact absurd h2 hk2
    · obtain rfl : shift = 0 := h1
      obtain rfl : index = [] := h2
      obtain rfl : lag = 0 := h3
      obtain rfl : gain = 0 := h4
      obtain rfl : part = 0 := h5
      obtain rfl : rice = [] := h6
      have hK : kind = 0 ∨ kind = 1 ∨ kind = 3 := by omega
      obtain ⟨a3, a1, a0⟩ := few_facts hK hf
      rcases hK with rfl | rfl | rfl
      · obtain ⟨rfl, rfl⟩ := a0 rfl
        exact .zero
      · obtain rfl := a1 rfl
        exact .const value
      · obtain ⟨rfl, h⟩ := a3 rfl
        exact .raw data h

theorem sg_length (d : Nat) (v : Int) : (sg d v).length = d := low_length _ _
theorem flat_sg (d : Nat) (l : List Int) : (l.flatMap (sg d)).length = l.length * d := by
  induction l with
  | nil => simp
  | cons x l ih => rw [List.flatMap_cons, List.length_append, sg_length, ih, List.length_cons, Nat.add_mul]; omega
end Go.Proofs.YtefbakhhlonafaaGreat
end

section
namespace Go.Proofs.YtefbakhhlonafaaGreat
open Go.RowKit Go.Proofs Go.Proofs.PipeM Go.Proofs.PipeA

/-- Could an act be? -/
def actOk (k v n : Int) : Bool :=
  if k = 1 then decide (0 ≤ n ∧ n ≤ 48 ∧ 0 ≤ v ∧ v < 2 ^ n.toNat)
  else if k = 2 then decide (1 ≤ n ∧ n ≤ 48 ∧ -(2 ^ (n.toNat - 1)) ≤ v ∧ v < 2 ^ (n.toNat - 1))
  else if k = 3 then decide (0 ≤ n ∧ n ≤ 1000)
  else true

/-- The bits behind an act. -/
def actBits (l : List Bool) (k v n : Int) : List Bool :=
  if actOk k v n = false then l
  else if k = 1 then l ++ low v.toNat n.toNat
  else if k = 2 then l ++ low (v % 2 ^ n.toNat).toNat n.toNat
  else if k = 3 then l ++ (List.replicate n.toNat false ++ [true])
  else if k = 4 then pad l
  else l

end Go.Proofs.YtefbakhhlonafaaGreat
end

section
namespace Go.Proofs.YtefbakhhlonafaaGreat
open Go.RowKit Go.Proofs Go.Proofs.PipeM Go.Proofs.PipeA

/-- What the document's act answers. -/
def PutOf (l : List Bool) (k x n : Int) (w : World) (e : Ending) (w' : World) : Prop :=
  e = .returned (.tuple #[.string (str (actBits l k x n)), .bool (actOk k x n)]) ∧ Below w.heap.size w w'

theorem PutOf.no {l : List Bool} {k x n : Int} {w w' : World} (h : actOk k x n = false) (hb : Below w.heap.size w w') : PutOf l k x n w (.returned (.tuple #[.string (str l), .bool false])) w' := by
  have : actBits l k x n = l := by unfold actBits; rw [h]; simp
  exact ⟨by rw [this, h], hb⟩

theorem pow_castA (m : Nat) : ((2 ^ m : Nat) : Int) = (2 : Int) ^ m := by rw [Int.natCast_pow]; rfl

theorem mod_pow (x : Int) (m : Nat) (h0 : -(2 ^ m) ≤ x) (h1 : x < 2 ^ m) : (x % 2 ^ m).toNat = if x < 0 then (x + 2 ^ m).toNat else x.toNat := by
  have hp := pow_castA m
  have hp2 := Nat.two_pow_pos m
  generalize (2 : Int) ^ m = P at *
  split
  · rename_i h
    have : x % P = x + P := by
      rw [← Int.add_emod_right, Int.emod_eq_of_lt (by omega) (by omega)]
    rw [this]
  · rw [Int.emod_eq_of_lt (by omega) (by omega)]

set_option maxHeartbeats 1000000 in
theorem refSigned (x : Int) (n : Nat) (w : World) (hn0 : 1 ≤ n) (hn : n ≤ 48) (h0 : -(2 ^ (n - 1)) ≤ x) (h1 : x < 2 ^ (n - 1)) :
    Calls Tryz.prog 38 #[.int .i64 x, .int .i64 n] w fun e w' => e = .returned (.string (str (low (x % 2 ^ n).toNat n))) ∧ Below w.heap.size w w' := by
  have hpc := pow_castA n
  have hpc1 := pow_castA (n - 1)
  have hdbl : 2 ^ n = 2 * 2 ^ (n - 1) := by
    have e : n = (n - 1) + 1 := by omega
    rw [e, Nat.pow_succ]; simp; omega
  have hq48 : 2 ^ n ≤ 2 ^ 48 := Nat.pow_le_pow_right (by decide) hn
  have hmp := mod_pow x n (by omega) (by omega)
  rw [hmp]
  have HP := fun W => Lib.hid (refPower n W (by omega))
  rw [← hpc]
  rw [← hpc1] at h0 h1
  obtain ⟨q, hq⟩ : ∃ q, q = 2 ^ n := ⟨_, rfl⟩
  obtain ⟨r, hr⟩ : ∃ r, r = 2 ^ (n - 1) := ⟨_, rfl⟩
  rw [← hq] at HP hq48 ⊢
  rw [← hr] at h0 h1
  have hq1 : q ≤ 2 * r := by omega
  have hq2 : 2 * r ≤ q := by omega
  clear hpc hpc1 hdbl hmp hq hr
  by_cases hx : x < 0
  · rw [if_pos hx]
    have e1 : x + (q : Int) = (((x + (q : Int)).toNat : Nat) : Int) := by omega
    have HE := Lib.hid e1
    have HR := fun W => Lib.hid (refPut (x + (q : Int)).toNat n W (by omega) (by omega))
    clear e1
    go_enter Tryz.func38, Tryz.ntmps38
    go_wp2_with fail
    refine (HP _).out.mono ?_
    rintro e w1 ⟨rfl, rfl⟩
    go_wp2_with fail
    rw [HE.out]
    refine (HR _).out.mono ?_
    rintro e w1 ⟨rfl, hb1⟩
    have HB1 := Lib.hid hb1
    clear hb1
    go_wp2
    go_ret
    exact ⟨rfl, HB1.out⟩
  · rw [if_neg hx]
    obtain ⟨y, rfl⟩ := Int.eq_ofNat_of_zero_le (show 0 ≤ x by omega)
    rw [Int.toNat_natCast]
    have HR := fun W => Lib.hid (refPut y n W (by omega) (by omega))
    go_enter Tryz.func38, Tryz.ntmps38
    go_wp2_with fail
    refine (HR _).out.mono ?_
    rintro e w1 ⟨rfl, hb1⟩
    have HB1 := Lib.hid hb1
    clear hb1
    go_wp2
    go_ret
    exact ⟨rfl, HB1.out⟩

end Go.Proofs.YtefbakhhlonafaaGreat
end
