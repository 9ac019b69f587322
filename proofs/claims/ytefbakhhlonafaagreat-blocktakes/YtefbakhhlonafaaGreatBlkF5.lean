import Derived.Test.YtefbakhhlonafaaGreatBlkC2
import Derived.Test.YtefbakhhlonafaaGreatSlideT
import Derived.Test.YtefbakhhlonafaaGreatRef3i
import Derived.Test.YtefbakhhlonafaaGreatSlideC4

section
namespace Go.Proofs.YtefbakhhlonafaaGreat
open Go.RowKit Go.Proofs Go.Proofs.PipeM Go.Proofs.PipeA Go.Proofs.BlkM
open Go.Proofs.LatM (goodL)
open Go.Proofs.FilM (smp codeS)
open Go.Proofs.LagM (goodT codeT codeO onL)
set_option maxRecDepth 100000

theorem blk_take {l : List Int} {c : Nat} (h : c < l.length) : intsOf (l.take (c + 1)) = intsOf (l.take c) ++ [.int .i64 l[c]] := by
  rw [List.take_succ_eq_append_getElem h]; unfold intsOf; rw [List.map_append]; rfl
theorem samp_ok {n m : Nat} (h1 : 1 ≤ n) (h2 : n ≤ 1024) (h3 : 8 ≤ m) (h4 : m ≤ 26) : (sizeN (n : Int) && depthB (m : Int)) = true := by
  unfold sizeN depthB
  rw [decide_eq_true (by omega), decide_eq_true (by omega)]; rfl
/-- Samples that came out, in memory that is new, or what is wrong. -/
def SampIs (code : Int) (m : List Int) (w : World) (e : Ending) (w' : World) : Prop :=
  (code ≠ 0 ∧ e = .returned (.tuple #[.slice none 0 0, .int .i64 code]) ∧ Below w.heap.size w w') ∨
  (code = 0 ∧ ∃ ao cap, e = .returned (.tuple #[.slice ao m.length cap, .int .i64 0]) ∧ IntsAt w' ao m ∧ m.length ≤ cap ∧ Below w.heap.size w w' ∧ FreshOf w ao)
theorem SampIs.bad {c : Int} {m : List Int} {w w' : World} {k : Int} (h : c = k) (hk : k ≠ 0) (hb : Below w.heap.size w w') : SampIs c m w (.returned (.tuple #[.slice none 0 0, .int .i64 k])) w' := by
  subst h
  exact .inl ⟨hk, rfl, hb⟩

set_option maxHeartbeats 1600000 in
theorem rSamp_size (b : Blk) (ia ra da : Option Addr) (ic rc dc : Nat) (n d : Int) (w : World) (h : (sizeN n && depthB d) = false) :
    Calls Tryz.prog 7 #[blkV b ia ra da ic rc dc, .int .i64 n, .int .i64 d] w (SampIs (codeB b n d) (outB b n.toNat) w) := by
  have HF : Hid (∀ W, Below w.heap.size w W → SampIs (codeB b n d) (outB b n.toNat) w (.returned (.tuple #[.slice none 0 0, .int .i64 1])) W) := fun W hW => SampIs.bad (codeB_size h) (by omega) hW
  have HB := fun o => Lib.hid (box_below w o)
  have HD := fun W => Lib.hid (rDepth d W)
  generalize codeB b n d = cb at HF ⊢
  generalize outB b n.toNat = ob at HF ⊢
  obtain ⟨kind, value, shift, index, lag, gain, part, rice, data⟩ := b
  unfold blkV
  dsimp only
  generalize index.length = il
  generalize rice.length = rl
  generalize data.length = dl
  by_cases h1 : n < 1
  · have t1 : decide (n < 1) = true := decide_eq_true h1
    clear h h1
    go_enter Tryz.func7, Tryz.ntmps7
    go_wp2
    refine bodyPost_ret (v := .tuple #[.slice none 0 0, .int .i64 1]) (by simp [results, Tryz.results7, go_sem]) rfl ?_
    exact HF.out _ (HB _).out
  · have t1 : decide (n < 1) = false := decide_eq_false h1
    by_cases h2 : 1024 < n
    · have t2 : decide (1024 < n) = true := decide_eq_true h2
      clear h h1 h2
      go_enter Tryz.func7, Tryz.ntmps7
      go_wp2
      refine bodyPost_ret (v := .tuple #[.slice none 0 0, .int .i64 1]) (by simp [results, Tryz.results7, go_sem]) rfl ?_
      exact HF.out _ (HB _).out
    · have t2 : decide (1024 < n) = false := decide_eq_false h2
      have hd : depthB d = false := by
        have : sizeN n = true := decide_eq_true (by omega)
        rw [this] at h
        simpa using h
      rw [hd] at HD
      clear h h1 h2 hd
      go_enter Tryz.func7, Tryz.ntmps7
      go_wp2_with fail
      refine (HD _).out.mono ?_
      rintro e w1 ⟨rfl, rfl⟩
      go_wp2
      refine bodyPost_ret (v := .tuple #[.slice none 0 0, .int .i64 1]) (by simp [results, Tryz.results7, go_sem]) rfl ?_
      exact HF.out _ (HB _).out

set_option maxHeartbeats 1600000 in
theorem rSamp_form (b : Blk) (ia ra da : Option Addr) (ic rc dc : Nat) (n m : Nat) (w : World) (hn1 : 1 ≤ n) (hn : n ≤ 1024) (hm1 : 8 ≤ m) (hm2 : m ≤ 26) (hI : BlkIn w b ia ra da ic rc dc) (h : formB b n m ≠ 0) :
    Calls Tryz.prog 7 #[blkV b ia ra da ic rc dc, .int .i64 n, .int .i64 m] w (SampIs (codeB b n m) (outB b n) w) := by
  have hcd : codeB b n m = formB b n m := codeB_form (samp_ok hn1 hn hm1 hm2) h
  have HB := fun o => Lib.hid (box_below w o)
  have HFO : Hid (∀ o, Calls Tryz.prog 26 #[blkV b ia ra da ic rc dc, .int .i64 n, .int .i64 m] (w.alloc o) fun e w' => e = .returned (.int .i64 (formB b n m)) ∧ Below (w.alloc o).heap.size (w.alloc o) w') := fun o => rForm b ia ra da ic rc dc n m (w.alloc o) hn1 hn (hI.below (HB o).out)
  rw [hcd]
  have HD := fun W => Lib.hid (rDepth m W)
  have hdep : depthB m = true := decide_eq_true (by omega)
  rw [hdep] at HD
  generalize formB b n m = cb at *
  generalize outB b n = ob at *
  have tc : (cb != 0) = true := bne_iff_ne.2 h
  have HC := Lib.hid h
  obtain ⟨kind, value, shift, index, lag, gain, part, rice, data⟩ := b
  unfold blkV at HFO ⊢
  dsimp only at HFO ⊢
  generalize index.length = il at HFO ⊢
  generalize rice.length = rl at HFO ⊢
  generalize data.length = dl at HFO ⊢
  clear h hcd hdep hI
  go_enter Tryz.func7, Tryz.ntmps7
  go_wp2_with fail
  refine (HD _).out.mono ?_
  rintro e w1 ⟨rfl, rfl⟩
  go_wp2_with fail
  refine (HFO.out _).mono ?_
  rintro e w1 ⟨rfl, hb1⟩
  have HB1 := Lib.hid ((HB _).out.trans (hb1.mono (HB _).out.size))
  clear hb1
  go_wp2
  refine bodyPost_ret (v := .tuple #[.slice none 0 0, .int .i64 cb]) (by simp [results, Tryz.results7, go_sem]) rfl ?_
  exact SampIs.bad rfl HC.out HB1.out
end Go.Proofs.YtefbakhhlonafaaGreat
end

section
namespace Go.Proofs.YtefbakhhlonafaaGreat
open Go.RowKit Go.Proofs Go.Proofs.PipeM Go.Proofs.PipeA Go.Proofs.BlkM
open Go.Proofs.LatM (goodL)
open Go.Proofs.FilM (smp codeS inM)
open Go.Proofs.LagM (goodT codeT codeO onL)
set_option maxRecDepth 100000

theorem nOk_in {l : List Int} (h : listOk l = true) : l.all LagM.inB = true := by
  unfold listOk at h
  rw [Bool.and_eq_true] at h
  rw [List.all_eq_true]
  intro x hx
  have := of_decide_eq_true (List.all_eq_true.1 h.1 x hx)
  exact decide_eq_true (by omega)
theorem two_facts {value shift lag gain part : Int} {index rice data : List Int} {n m : Nat} (hf : formB ⟨2, value, shift, index, lag, gain, part, rice, data⟩ n m = 0) :
    value = 0 ∧ data.length = n ∧ 0 ≤ shift ∧ shift < m ∧ goodL index = true ∧ goodT lag gain = true ∧ partsOk n part rice = true ∧ listOk data = true := by
  unfold formB at hf
  have h0 : wrongKind ⟨2, value, shift, index, lag, gain, part, rice, data⟩ = false := by simp [wrongKind]
  have h1 : wrongMore ⟨2, value, shift, index, lag, gain, part, rice, data⟩ = false := by simp [wrongMore]
  rw [h0, h1, if_neg (by simp), if_neg (by simp)] at hf
  cases hwd : wrongData ⟨2, value, shift, index, lag, gain, part, rice, data⟩ n with
  | true => rw [hwd, if_pos rfl] at hf; omega
  | false =>
    obtain ⟨a1, a2⟩ := two_zero hwd
    rw [hwd, if_neg (by simp)] at hf
    cases hwn : wrongNormal ⟨2, value, shift, index, lag, gain, part, rice, data⟩ n m with
    | true => rw [hwn, if_pos rfl] at hf; omega
    | false =>
      unfold wrongNormal at hwn
      simp only [decide_true, Bool.true_and, Bool.or_eq_false_iff, decide_eq_false_iff_not, Bool.not_eq_false'] at hwn
      obtain ⟨⟨⟨⟨⟨b1, b2⟩, b3⟩, b4⟩, b5⟩, b6⟩ := hwn
      exact ⟨a1, by omega, by omega, by omega, b3, b4, b5, b6⟩
theorem pow_small {s : Nat} (h : s ≤ 25) : 1 ≤ ((2 ^ s : Nat) : Int) ∧ ((2 ^ s : Nat) : Int) ≤ 33554432 := by
  have b2 : 2 ^ s ≤ 2 ^ 25 := Nat.pow_le_pow_right (by decide) h
  have b1 : 1 ≤ 2 ^ s := Nat.one_le_two_pow
  omega

set_option maxHeartbeats 6400000 in
theorem rSamp_two (value shift lag gain part : Int) (index rice data : List Int) (ia ra da : Option Addr) (ic rc dc : Nat) (n m : Nat) (w : World) (hn1 : 1 ≤ n) (hn : n ≤ 1024) (hm1 : 8 ≤ m) (hm2 : m ≤ 26) (hI : BlkIn w ⟨2, value, shift, index, lag, gain, part, rice, data⟩ ia ra da ic rc dc) (hf : formB ⟨2, value, shift, index, lag, gain, part, rice, data⟩ n m = 0) :
    Calls Tryz.prog 7 #[blkV ⟨2, value, shift, index, lag, gain, part, rice, data⟩ ia ra da ic rc dc, .int .i64 n, .int .i64 m] w (SampIs (codeB ⟨2, value, shift, index, lag, gain, part, rice, data⟩ n m) (outB ⟨2, value, shift, index, lag, gain, part, rice, data⟩ n) w) := by
  obtain ⟨i0, hii, hz0, hz1, hz2⟩ := info_parts info_int
  obtain ⟨rfl, hdn, hs0, hs1, hgl, hgt, _, hlo⟩ := two_facts hf
  obtain ⟨s, rfl⟩ : ∃ s : Nat, shift = s := ⟨shift.toNat, by omega⟩
  obtain ⟨a, rfl, ha, hg0, hg1, hza, _⟩ := LagM.goodT_of hgt
  have hct : codeT a gain data = 0 := LagM.codeT_of hgt (nOk_in hlo)
  have hok := samp_ok hn1 hn hm1 hm2
  have hHF : halfOf (m : Int) = ((2 ^ (m - 1) : Nat) : Int) := (hp_pow m (by omega)).symm
  have hpb := hp_bound hm1 hm2
  have hsp := pow_small (s := s) (by omega)
  -- the answer's code
  have hwo : wrongOut ⟨2, 0, s, index, a, gain, part, rice, data⟩ m = (decide (codeO a gain data ≠ 0) || decide (codeS index (onL a gain data) (halfOf m - 1) ≠ 0)) := by simp [wrongOut]
  have HC1 : Hid (codeO a gain data ≠ 0 → codeB ⟨2, 0, s, index, a, gain, part, rice, data⟩ n m = 9) := fun h => codeB_out hok hf (by rw [hwo, decide_eq_true h]; rfl)
  have HC2 : Hid (codeS index (onL a gain data) (halfOf m - 1) ≠ 0 → codeB ⟨2, 0, s, index, a, gain, part, rice, data⟩ n m = 9) := fun h => codeB_out hok hf (by rw [hwo, decide_eq_true h, Bool.or_true])
  obtain ⟨O, hO⟩ : ∃ O, O = outB ⟨2, 0, s, index, a, gain, part, rice, data⟩ n := ⟨_, rfl⟩
  have HC3 : Hid (codeO a gain data = 0 → codeS index (onL a gain data) (halfOf m - 1) = 0 → codeB ⟨2, 0, s, index, a, gain, part, rice, data⟩ n m = if O.all (hasP (halfOf m)) then 0 else 9) := fun h1 h2 => by
    have := codeB_all hok hf (by rw [hwo, h1, h2]; rfl)
    rw [this, hO]; rfl
  -- the contracts
  have hbx := box_below w (.cells #[.int .i64 2, .int .i64 0, .int .i64 s, .slice ia index.length ic, .int .i64 a, .int .i64 gain, .int .i64 part, .slice ra rice.length rc, .slice da data.length dc] 24)
  have HB := Lib.hid hbx
  obtain ⟨w0, hw0⟩ : ∃ w0, w0 = w.alloc (.cells #[.int .i64 2, .int .i64 0, .int .i64 s, .slice ia index.length ic, .int .i64 a, .int .i64 gain, .int .i64 part, .slice ra rice.length rc, .slice da data.length dc] 24) := ⟨_, rfl⟩
  have hnw := World.alloc_heap_new w (.cells #[.int .i64 2, .int .i64 0, .int .i64 s, .slice ia index.length ic, .int .i64 a, .int .i64 gain, .int .i64 part, .slice ra rice.length rc, .slice da data.length dc] 24)
  rw [← hw0] at HB hnw
  have HWL : Hid (w.heap.size < w0.heap.size) := (Array.getElem?_eq_some_iff.1 hnw).1
  have hI0 := hI.below HB.out
  have HFO : Hid (Calls Tryz.prog 26 #[blkV ⟨2, 0, s, index, a, gain, part, rice, data⟩ ia ra da ic rc dc, .int .i64 n, .int .i64 m] w0 fun e w' => e = .returned (.int .i64 0) ∧ Below w0.heap.size w0 w') := by
    have := rForm ⟨2, 0, s, index, a, gain, part, rice, data⟩ ia ra da ic rc dc n m w0 hn1 hn hI0
    rw [hf] at this
    exact this
  have HON : Hid (∀ W, Below w0.heap.size w0 W → Calls Tryz.prog 27 #[.int .i64 a, .int .i64 gain, .slice da n dc] W (Gx.OutIs (codeO a gain data) (onL a gain data) W)) := fun W hW => by
    have := Gx.rOn a gain da dc data W hct (by omega) (hI0.d.below hW)
    rw [hdn] at this
    exact this
  have hll := LagM.onL_length a gain data
  have HSA : Hid (∀ W ao cap, Below w0.heap.size w0 W → IntsAt W ao (onL a gain data) → Calls Tryz.prog 28 #[.slice ia index.length ic, .slice ao n cap, .int .i64 (halfOf m - 1)] W (Fx.SmpIs index (onL a gain data) (halfOf m - 1) W)) := fun W ao cap hW hi => by
    have := Fx.rSamples ia ao ic cap index (onL a gain data) (halfOf m - 1) W (by omega) (by have := hI.il; simp only at this; omega) hI.ic (by omega) (hI0.i.below hW) hi
    rw [hll, hdn] at this
    exact this
  have HPW := fun W => Lib.hid (refPower (m - 1) W (by omega))
  rw [← hHF] at HPW
  obtain ⟨e1, he1⟩ : ∃ e1, e1 = m - 1 := ⟨_, rfl⟩
  rw [← he1] at HPW
  have hwm : IntKind.i64.wrap ((m : Int) - 1) = (e1 : Int) := by rw [IntWalk.i64_in _ (by omega)]; omega
  have HPS := fun W => Lib.hid (refPower s W (by omega))
  have HD := fun W => Lib.hid (rDepth m W)
  have hdep : depthB m = true := decide_eq_true (by omega)
  rw [hdep] at HD
  have hOm : O = (smp index (onL a gain data) n).map (· * ((2 ^ s : Nat) : Int)) := by
    rw [hO]
    unfold outB lowB
    rw [if_pos rfl]
    dsimp only
    rw [show (a : Int).toNat = a from rfl, show (s : Int).toNat = s from rfl, hll, hdn]
    simp
  have hOl : O.length = n := by rw [hOm, List.length_map, FilM.smp_length]
  have HAL : Hid (∀ W ao cap, IntsAt W ao O → Calls Tryz.prog 30 #[.slice ao n cap, .int .i64 m] W fun e w' => e = .returned (.bool (O.all (hasP (halfOf (m : Int))))) ∧ W = w') := fun W ao cap hi => by
    have := rAll ao cap O m W hm1 hm2 (by omega) hi
    rw [hOl] at this
    exact this
  have K : Hid (∀ W, Below w0.heap.size w0 W → ∀ j v, (#[.int .i64 2, .int .i64 0, .int .i64 s, .slice ia index.length ic, .int .i64 a, .int .i64 gain, .int .i64 part, .slice ra rice.length rc, .slice da n dc] : Array Value)[j]? = some v → W.cell? ⟨w.heap.size, j, none⟩ = some v) := fun W hW j v hj => by
    rw [hW.cell (p := ⟨w.heap.size, j, none⟩) (Array.getElem?_eq_some_iff.1 hnw).1, cell_of_heap hnw, hdn]
    exact hj
  rw [← hO]
  have HSM : Hid (codeS index (onL a gain data) (halfOf m - 1) = 0 → ∀ x ∈ smp index (onL a gain data) n, -67108865 ≤ x ∧ x ≤ 67108864) := fun h => by
    unfold codeS at h
    split at h
    · split at h
      · split at h
        · rename_i h3
          rw [hll, hdn] at h3
          exact FilM.all_M (by omega) h3
        · omega
      · omega
    · omega
  generalize codeB ⟨2, 0, s, index, a, gain, part, rice, data⟩ n m = cb at *
  obtain ⟨P1, hP1⟩ : ∃ P1, P1 = halfOf (m : Int) - 1 := ⟨_, rfl⟩
  rw [← hP1] at HC2 HC3 HSA HSM
  generalize halfOf (m : Int) = P at *
  have hwP : IntKind.i64.wrap (P - 1) = P1 := by rw [IntWalk.i64_in _ (by omega)]; exact hP1.symm
  obtain ⟨M, hM⟩ : ∃ M, M = smp index (onL a gain data) n := ⟨_, rfl⟩
  have hMl : M.length = n := by rw [hM, FilM.smp_length]
  have hX : ∀ W, Fx.SmpIs index (onL a gain data) P1 W = fun e w' => (codeS index (onL a gain data) P1 ≠ 0 ∧ e = .returned (.tuple #[.slice none 0 0, .int .i64 (codeS index (onL a gain data) P1)]) ∧ Below W.heap.size W w') ∨ (codeS index (onL a gain data) P1 = 0 ∧ ∃ ao cap, e = .returned (.tuple #[.slice ao n cap, .int .i64 0]) ∧ IntsAt w' ao M ∧ n ≤ cap ∧ Below W.heap.size W w') := fun W => by
    funext e w'
    unfold Fx.SmpIs
    rw [hll, hdn, ← hM]
    rfl
  have hX2 : ∀ W, Gx.OutIs (codeO a gain data) (onL a gain data) W = fun e w' => (codeO a gain data ≠ 0 ∧ e = .returned (.tuple #[.slice none 0 0, .int .i64 (codeO a gain data)]) ∧ Below W.heap.size W w') ∨ (codeO a gain data = 0 ∧ ∃ ao cap, e = .returned (.tuple #[.slice ao n cap, .int .i64 0]) ∧ IntsAt w' ao (onL a gain data) ∧ n ≤ cap ∧ Below W.heap.size W w') := fun W => by
    funext e w'
    unfold Gx.OutIs
    rw [hll, hdn]
    rfl
  have HSA2 : Hid (∀ W ao cap, Below w0.heap.size w0 W → IntsAt W ao (onL a gain data) → Calls Tryz.prog 28 #[.slice ia index.length ic, .slice ao n cap, .int .i64 P1] W fun e w' => (codeS index (onL a gain data) P1 ≠ 0 ∧ e = .returned (.tuple #[.slice none 0 0, .int .i64 (codeS index (onL a gain data) P1)]) ∧ Below W.heap.size W w') ∨ (codeS index (onL a gain data) P1 = 0 ∧ ∃ ao cap, e = .returned (.tuple #[.slice ao n cap, .int .i64 0]) ∧ IntsAt w' ao M ∧ n ≤ cap ∧ Below W.heap.size W w')) := fun W ao cap h1 h2 => by rw [← hX]; exact HSA.out W ao cap h1 h2
  have HON2 : Hid (∀ W, Below w0.heap.size w0 W → Calls Tryz.prog 27 #[.int .i64 a, .int .i64 gain, .slice da n dc] W fun e w' => (codeO a gain data ≠ 0 ∧ e = .returned (.tuple #[.slice none 0 0, .int .i64 (codeO a gain data)]) ∧ Below W.heap.size W w') ∨ (codeO a gain data = 0 ∧ ∃ ao cap, e = .returned (.tuple #[.slice ao n cap, .int .i64 0]) ∧ IntsAt w' ao (onL a gain data) ∧ n ≤ cap ∧ Below W.heap.size W w')) := fun W h1 => by rw [← hX2]; exact HON.out W h1
  rw [← hM] at hOm HSM
  have HMl := Lib.hid hMl
  have HOl := Lib.hid hOl
  unfold blkV at HFO ⊢
  dsimp only at HFO ⊢
  rw [hdn] at HFO hw0 ⊢
  have HW0 := Lib.hid hw0
  generalize codeO a gain data = co at *
  generalize codeS index (onL a gain data) P1 = cs at *
  generalize onL a gain data = L at *
  generalize index.length = il at *
  generalize rice.length = rl at *
  have HOm := Lib.hid hOm
  clear HON HSA hX hX2 hbx hw0 hnw hI hI0 hf hok hwo hct hgl hgt hlo hll hHF hP1 hM hMl hOl hO hdn hza hdep hOm hs0 he1
  by_cases c1 : co = 0
  rotate_left
  · have u1 : (co != 0) = true := bne_iff_ne.2 c1
    have HE := Lib.hid (HC1.out c1)
    have HN := Lib.hid c1
    clear c1 HC1 HC2 HC3
    go_enter Tryz.func7, Tryz.ntmps7
    go_wp2_with fail
    refine (HD _).out.mono ?_
    rintro e w1 ⟨rfl, rfl⟩
    go_wp2_with fail
    rw [← HW0.out]
    refine HFO.out.mono ?_
    rintro e w1 ⟨rfl, hb1⟩
    have k0 := K.out w1 hb1 0 _ rfl
    have k4 := K.out w1 hb1 4 _ rfl
    have k5 := K.out w1 hb1 5 _ rfl
    have k8 := K.out w1 hb1 8 _ rfl
    have HO1 := Lib.hid (HON2.out w1 hb1)
    have HB1 := Lib.hid hb1
    clear hb1
    go_wp2_with fail
    refine HO1.out.mono ?_
    rintro e w2 h2
    obtain ⟨rfl, hb2⟩ : e = .returned (.tuple #[.slice none 0 0, .int .i64 co]) ∧ Below w1.heap.size w1 w2 := h2.elim (fun h => h.2) (fun h => absurd h.1 HN.out)
    have HB2 := Lib.hid (HB.out.trans ((HB1.out.trans (hb2.mono HB1.out.size)).mono HB.out.size))
    clear h2 hb2 k0 k4 k5 k8
    go_wp2
    refine bodyPost_ret (v := .tuple #[.slice none 0 0, .int .i64 9]) (by simp [results, Tryz.results7, go_sem]) rfl ?_
    exact SampIs.bad HE.out (by omega) HB2.out
  subst c1
  by_cases c2 : cs = 0
  rotate_left
  · have u2 : (cs != 0) = true := bne_iff_ne.2 c2
    have HE := Lib.hid (HC2.out c2)
    have HN := Lib.hid c2
    clear c2 HC1 HC2 HC3
    go_enter Tryz.func7, Tryz.ntmps7
    go_wp2_with fail
    refine (HD _).out.mono ?_
    rintro e w1 ⟨rfl, rfl⟩
    go_wp2_with fail
    rw [← HW0.out]
    refine HFO.out.mono ?_
    rintro e w1 ⟨rfl, hb1⟩
    have k0 := K.out w1 hb1 0 _ rfl
    have k4 := K.out w1 hb1 4 _ rfl
    have k5 := K.out w1 hb1 5 _ rfl
    have k8 := K.out w1 hb1 8 _ rfl
    have HO1 := Lib.hid (HON2.out w1 hb1)
    have HB1 := Lib.hid hb1
    clear hb1
    go_wp2_with fail
    refine HO1.out.mono ?_
    rintro e w2 h2
    obtain ⟨ao2, cap2, rfl, hi2, _, hb2⟩ := h2.elim (fun h => absurd rfl h.1) (fun h => h.2)
    have hb02 := HB1.out.trans (hb2.mono HB1.out.size)
    have HB02 := Lib.hid hb02
    have HI2 := Lib.hid hi2
    have k3 := K.out w2 hb02 3 _ rfl
    clear h2 hb2 hb02 hi2 k0 k4 k5 k8
    go_wp2_with fail
    go_region_held3 (fun w' => w'.cell? ⟨w.heap.size, 3, none⟩ = some (.slice ia il ic))
      (first | exact k3 | exact p0 | fail)
      (first
        | (go_at_call 29; refine (HPW _).out.mono ?_; rintro e w5 ⟨rfl, rfl⟩)
        | (go_at_call 28; refine (HSA2.out _ _ _ (HB02.out.trans ((keeps_drew_b w2 []).below HB02.out.size (by simp))) (HI2.out.below ((keeps_drew_b w2 []).below (Nat.le_refl _) (by simp)))).mono ?_; rintro e w6 h6; obtain ⟨rfl, hb6⟩ : e = .returned (.tuple #[.slice none 0 0, .int .i64 cs]) ∧ Below w2.heap.size w2 w6 := h6.elim (fun h => ⟨h.2.1, ((keeps_drew_b w2 []).below (Nat.le_refl _) (by simp)).trans h.2.2⟩) (fun h => absurd h.1 HN.out); have p0 := K.out w6 (HB02.out.trans (hb6.mono HB02.out.size)) 3 _ rfl; have HB6 := Lib.hid (HB.out.trans ((HB02.out.trans (hb6.mono HB02.out.size)).mono HB.out.size)); clear h6 hb6)
        | fail)
    go_wp2
    refine bodyPost_ret (v := .tuple #[.slice none 0 0, .int .i64 9]) (by simp [results, Tryz.results7, go_sem]) rfl ?_
    exact SampIs.bad HE.out (by omega) HB6.out
  subst c2
  have HE := Lib.hid (HC3.out rfl rfl)
  have HSM2 := Lib.hid (HSM.out rfl)
  clear HC1 HC2 HC3 HSM
  go_enter Tryz.func7, Tryz.ntmps7
  go_wp2_with fail
  refine (HD _).out.mono ?_
  rintro e w1 ⟨rfl, rfl⟩
  go_wp2_with fail
  rw [← HW0.out]
  refine HFO.out.mono ?_
  rintro e w1 ⟨rfl, hb1⟩
  have k0 := K.out w1 hb1 0 _ rfl
  have k4 := K.out w1 hb1 4 _ rfl
  have k5 := K.out w1 hb1 5 _ rfl
  have k8 := K.out w1 hb1 8 _ rfl
  have HO1 := Lib.hid (HON2.out w1 hb1)
  have HB1 := Lib.hid hb1
  clear hb1
  go_wp2_with fail
  refine HO1.out.mono ?_
  rintro e w2 h2
  obtain ⟨ao2, cap2, rfl, hi2, _, hb2⟩ := h2.elim (fun h => absurd rfl h.1) (fun h => h.2)
  have hb02 := HB1.out.trans (hb2.mono HB1.out.size)
  have HB02 := Lib.hid hb02
  have HI2 := Lib.hid hi2
  have k3 := K.out w2 hb02 3 _ rfl
  clear h2 hb2 hb02 hi2 k0 k4 k5 k8
  go_wp2_with fail
  go_region_held3 (fun w' => w'.cell? ⟨w.heap.size, 3, none⟩ = some (.slice ia il ic))
    (first | exact k3 | exact p0 | fail)
    (first
      | (go_at_call 29; refine (HPW _).out.mono ?_; rintro e w5 ⟨rfl, rfl⟩)
      | (go_at_call 28; refine (HSA2.out _ _ _ (HB02.out.trans ((keeps_drew_b w2 []).below HB02.out.size (by simp))) (HI2.out.below ((keeps_drew_b w2 []).below (Nat.le_refl _) (by simp)))).mono ?_; rintro e w6 h6; obtain ⟨ao3, cap3, rfl, hi3, _, hb3⟩ := h6.elim (fun h => absurd rfl h.1) (fun h => h.2); have hb6 := ((keeps_drew_b w2 []).below (Nat.le_refl _) (by simp)).trans hb3; have p0 := K.out w6 (HB02.out.trans (hb6.mono HB02.out.size)) 3 _ rfl; have HB6 := Lib.hid (HB02.out.trans (hb6.mono HB02.out.size)); have HI3 := Lib.hid hi3; clear h6 hb6 hb3 hi3)
      | fail)
  have HOC : Hid (∀ c, c < n → ∃ x, -67108865 ≤ x ∧ x ≤ 67108864 ∧ (∀ W, IntsAt W ao3 M → ∃ b off, ao3 = some ⟨b, off, none⟩ ∧ b < W.heap.size ∧ W.cell? ⟨b, off + c, none⟩ = some (.int .i64 x)) ∧ intsOf (O.take (c + 1)) = intsOf (O.take c) ++ [.int .i64 (x * ((2 ^ s : Nat) : Int))]) := fun c hc => by
    have hcm : c < M.length := by rw [HMl.out]; exact hc
    have hx := HSM2.out _ (List.getElem_mem hcm)
    refine ⟨M[c], hx.1, hx.2, fun W hW => ?_, ?_⟩
    · obtain ⟨b, off, h1, h2, h3⟩ := hW c hcm
      exact ⟨b, off, h1, h2, h3⟩
    · rw [blk_take (by rw [HOl.out]; exact hc)]
      congr 3
      simp [HOm.out]
  generalize ((2 ^ s : Nat) : Int) = SP at *
  clear HSM2 HOm HI2 HON2 HSA2 HO1 p0 k3 hwP hpb
  go_wp2
  go_loopg [9, 14, 64] n (fun gk va q1 i wr => ∃ c : Nat, c ≤ n ∧ gk + c = n ∧ i = .int .i64 c ∧ wr.ownsRow w6.heap.size 3 1 va c (intsOf (O.take c)) ∧ Hid (Below w6.heap.size w6 wr))
  case atStart => exact ⟨0, Nat.zero_le _, by omega, rfl, World.ownsRow_nil _ _ _ _, Below.refl _ _⟩
  case round =>
    obtain ⟨c, hc, hgk, rfl, hown, HW⟩ := hrel
    have HGK := Lib.hid hgk
    clear hgk
    obtain ⟨aao, acap, rfl, _⟩ := Fx.own_slice hown
    have hszw := HW.out.size
    by_cases hlt : c < n
    · obtain ⟨x, hx1, hx2, hcel, hnew⟩ := HOC.out c hlt
      obtain ⟨b, off, rfl, hb, hcell⟩ := hcel wr (HI3.out.below HW.out)
      obtain ⟨b6, off6, he6, hb6, _⟩ := hcel w6 HI3.out
      cases he6
      have HNEW := Lib.hid hnew
      have k2 := K.out wr (HB6.out.trans (HW.out.mono HB6.out.size)) 2 _ rfl
      have hprod : -2251799851925504 ≤ x * SP ∧ x * SP ≤ 2251799851925504 := by
        have h1 : x.natAbs ≤ 67108865 := by omega
        have h2 : SP.natAbs ≤ 33554432 := by omega
        have h3 := Nat.mul_le_mul h1 h2
        rw [← Int.natAbs_mul] at h3
        omega
      obtain ⟨xr, hxr⟩ : ∃ xr, xr = x * SP := ⟨_, rfl⟩
      have w4 : IntKind.i64.wrap (x * SP) = xr := by rw [hxr]; exact IntWalk.i64_in _ (by omega)
      rw [← hxr] at HNEW
      have hw6 : w.heap.size < w6.heap.size := Nat.lt_of_lt_of_le HWL.out HB6.out.size
      have hwr : w.heap.size < wr.heap.size := Nat.lt_of_lt_of_le hw6 hszw
      have HFAR := Lib.hid (Fx.own_far hown hb6)
      have HFAR2 := Lib.hid (Fx.own_far hown hw6)
      have hbr : b < wr.heap.size := hb
      clear hxr hprod hb hnew hcel hx1 hx2
      go_wp2_with fail
      go_region_held3 (fun w' => w'.cell? ⟨b, off + c, none⟩ = some (.int .i64 x) ∧ w'.cell? ⟨w.heap.size, 2, none⟩ = some (.int .i64 s))
        (first
          | exact ⟨hcell, k2⟩
          | exact ⟨Fx.cellA (a := ⟨b, off + c, none⟩) _ hbr hcell, Fx.cellA (a := ⟨w.heap.size, 2, none⟩) _ hwr k2⟩
          | exact ⟨(hgrow.cell_far ⟨b, off + c, none⟩ (by simp; omega) HFAR.out).trans (Fx.cellA (a := ⟨b, off + c, none⟩) _ hbr hcell), (hgrow.cell_far ⟨w.heap.size, 2, none⟩ (by simp; omega) HFAR2.out).trans (Fx.cellA (a := ⟨w.heap.size, 2, none⟩) _ hwr k2)⟩
          | fail)
        (first
          | (go_at_call 29; refine (HPS _).out.mono ?_; rintro e w5 ⟨rfl, rfl⟩)
          | (refine step_append_lies _ (by rfl) _ _ 22 (by rfl) w6.heap.size 3 i0 (.int .i64 0) 1 8 Tryz.underlying22 hii hz0 hz1 hz2 rfl (by decide) _ c (intsOf (O.take c)) (by rfl) (hown.alloc (.cells #[.int .i64 xr] 3)) ⟨wr.heap.size, 0, none⟩ 1 1 [.int .i64 xr] (by rfl) (by rfl) (World.news_of_block (cs := #[.int .i64 xr]) (t := 3) (fr := (0, 0)) (World.alloc_heap_new _ _)) (by intro u hu; simp at hu; subst hu; rfl) (by omega) (by unfold maxLen; omega) (by omega) (by simp; omega) _ rfl ?_; intro g6 cap6 w7 hown7 hgrow hat hlt7)
          | fail)
      rw [← HNEW.out] at hown7
      have HW7 : Hid (Below w6.heap.size w6 w7) := (((HW.out.trans ((keeps_drew_b wr []).below HW.out.size (by simp))).trans ((box_below wr.drew (.cells #[.int .i64 xr] 3)).mono (show w6.heap.size ≤ wr.drew.heap.size from hszw)))).grown hgrow (by simp; omega) (by intro x hx; exact (own_block_lt hown x hx).1)
      clear hgrow hat hlt7 hown
      go_wp2
      go_roundg (gk - 1)
      case rel => exact ⟨c + 1, by omega, by have := HGK.out; omega, by go_num, hown7, HW7⟩
      case measure => have := HGK.out; omega
    · obtain rfl : c = n := by omega
      obtain ⟨W1, rfl⟩ : ∃ W1, W1 = wr := ⟨_, rfl⟩
      have hIO : IntsAt W1 aao O := by
        have h := hown
        rw [List.take_of_length_le (by rw [HOl.out]; exact Nat.le_refl _)] at h
        exact Fx.ints_own (cap := acap) (by rw [HOl.out]; exact h)
      have HIO := Lib.hid hIO
      have HCAP := Lib.hid (Fx.own_cap hown)
      have HBW : Hid (Below w0.heap.size w0 W1) := HB6.out.trans (HW.out.mono HB6.out.size)
      have k0 := K.out W1 HBW.out 0 _ rfl
      have HA := Lib.hid (HAL.out W1 aao acap hIO)
      have HBF : Hid (Below w.heap.size w W1) := HB.out.trans (HBW.out.mono HB.out.size)
      have HFR : Hid (FreshOf w aao) := fun g off hh => by
        subst hh
        have h1 := (own_block_lt hown g rfl).1
        have h2 := HWL.out
        have h3 := HB6.out.size
        omega
      have t0 : decide (0 < c) = true := decide_eq_true hn1
      clear hown hIO hszw HW HGK hlt hc
      go_wp2
      go_loopg [9, 15] 0 (fun gk va i wr => va = .slice aao c acap ∧ i = .int .i64 0 ∧ W1 = wr)
      case atStart => exact ⟨rfl, rfl, rfl⟩
      case round =>
        obtain ⟨rfl, rfl, rfl⟩ := hrel
        cases hall : O.all (hasP P) with
        | false =>
          rw [hall] at HA HE
          go_wp2_with fail
          refine HA.out.mono ?_
          rintro e w8 ⟨rfl, rfl⟩
          go_wp2
          refine bodyPost_ret (v := .tuple #[.slice none 0 0, .int .i64 9]) (by simp [results, Tryz.results7, go_sem]) rfl ?_
          exact SampIs.bad (by rw [HE.out]; rfl) (by omega) HBF.out
        | true =>
          rw [hall] at HA HE
          go_wp2_with fail
          refine HA.out.mono ?_
          rintro e w8 ⟨rfl, rfl⟩
          go_wp2
          refine bodyPost_ret (v := .tuple #[.slice aao c acap, .int .i64 0]) (by simp [results, Tryz.results7, go_sem]) rfl ?_
          exact .inr ⟨by rw [HE.out]; rfl, aao, acap, by rw [HOl.out], HIO.out, by rw [HOl.out]; exact HCAP.out, HBF.out, HFR.out⟩
end Go.Proofs.YtefbakhhlonafaaGreat
end
