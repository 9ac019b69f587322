import Derived.Test.YtefbakhhlonafaaBlkF5

namespace Go.Proofs.Ytefbakhhlonafaa
open Go.RowKit Go.Proofs Go.Proofs.PipeM Go.Proofs.PipeA Go.Proofs.BlkM
set_option maxRecDepth 100000

theorem few_facts {K value : Int} {data : List Int} {n m : Nat} (hK : K = 0 ∨ K = 1 ∨ K = 3) (hf : formB ⟨K, value, 0, [], 0, 0, 0, [], data⟩ n m = 0) :
    (K = 3 → value = 0 ∧ data.length = n) ∧ (K = 1 → data = []) ∧ (K = 0 → value = 0 ∧ data = []) := by
  have h : wrongData ⟨K, value, 0, [], 0, 0, 0, [], data⟩ n = false := by
    cases hwd : wrongData ⟨K, value, 0, [], 0, 0, 0, [], data⟩ n with
    | false => rfl
    | true =>
      unfold formB at hf
      rw [hwd] at hf
      have : wrongKind ⟨K, value, 0, [], 0, 0, 0, [], data⟩ = false := by unfold wrongKind; simp; omega
      rw [this] at hf
      simp only [Bool.false_eq_true, if_false, if_true] at hf
      split at hf <;> omega
  unfold wrongData at h
  refine ⟨?_, ?_, ?_⟩
  · rintro rfl; simp at h; omega
  · rintro rfl; simp at h; exact h
  · rintro rfl; simp at h; exact h

/-- What stands before the loop of those that are no Normal. -/
theorem few_code {K value : Int} {data : List Int} {n m : Nat} (hK : K = 0 ∨ K = 1 ∨ K = 3) (hok : (sizeN (n : Int) && depthB (m : Int)) = true) (hf : formB ⟨K, value, 0, [], 0, 0, 0, [], data⟩ n m = 0) :
    codeB ⟨K, value, 0, [], 0, 0, 0, [], data⟩ n m = if (outB ⟨K, value, 0, [], 0, 0, 0, [], data⟩ n).all (hasP (halfOf m)) then 0 else 9 := by
  have := codeB_all (b := ⟨K, value, 0, [], 0, 0, 0, [], data⟩) hok hf (by unfold wrongOut; rw [decide_eq_false (by simp only; omega)]; rfl)
  exact this

set_option maxHeartbeats 6400000 in
theorem rSamp_few (K value : Int) (data : List Int) (ia ra da : Option Addr) (ic rc dc : Nat) (n m : Nat) (w : World) (hn1 : 1 ≤ n) (hn : n ≤ 1024) (hm1 : 8 ≤ m) (hm2 : m ≤ 26) (hK : K = 0 ∨ K = 1 ∨ K = 3) (hI : BlkIn w ⟨K, value, 0, [], 0, 0, 0, [], data⟩ ia ra da ic rc dc) (hf : formB ⟨K, value, 0, [], 0, 0, 0, [], data⟩ n m = 0) :
    Calls Try.prog 8 #[blkV ⟨K, value, 0, [], 0, 0, 0, [], data⟩ ia ra da ic rc dc, .int .i64 n, .int .i64 m] w (SampIs (codeB ⟨K, value, 0, [], 0, 0, 0, [], data⟩ n m) (outB ⟨K, value, 0, [], 0, 0, 0, [], data⟩ n) w) := by
  obtain ⟨i0, hii, hz0, hz1, hz2⟩ := info_parts info_int
  have hok := samp_ok hn1 hn hm1 hm2
  have HE := Lib.hid (few_code hK hok hf)
  obtain ⟨hd3, hd1, hd0⟩ := few_facts hK hf
  have hbx := box_below w (.cells #[.int .i64 K, .int .i64 value, .int .i64 0, .slice ia 0 ic, .int .i64 0, .int .i64 0, .int .i64 0, .slice ra 0 rc, .slice da data.length dc] 24)
  have HB := Lib.hid hbx
  obtain ⟨w0, hw0⟩ : ∃ w0, w0 = w.alloc (.cells #[.int .i64 K, .int .i64 value, .int .i64 0, .slice ia 0 ic, .int .i64 0, .int .i64 0, .int .i64 0, .slice ra 0 rc, .slice da data.length dc] 24) := ⟨_, rfl⟩
  have hnw := World.alloc_heap_new w (.cells #[.int .i64 K, .int .i64 value, .int .i64 0, .slice ia 0 ic, .int .i64 0, .int .i64 0, .int .i64 0, .slice ra 0 rc, .slice da data.length dc] 24)
  rw [← hw0] at HB hnw
  have hI0 := hI.below HB.out
  have HFO : Hid (Calls Try.prog 22 #[blkV ⟨K, value, 0, [], 0, 0, 0, [], data⟩ ia ra da ic rc dc, .int .i64 n, .int .i64 m] w0 fun e w' => e = .returned (.int .i64 0) ∧ Below w0.heap.size w0 w') := by
    have := rForm ⟨K, value, 0, [], 0, 0, 0, [], data⟩ ia ra da ic rc dc n m w0 hn1 hn hI0
    rw [hf] at this
    exact this
  have HD := fun W => Lib.hid (rDepth m W)
  have hdep : depthB m = true := decide_eq_true (by omega)
  rw [hdep] at HD
  obtain ⟨O, hO⟩ : ∃ O, O = outB ⟨K, value, 0, [], 0, 0, 0, [], data⟩ n := ⟨_, rfl⟩
  rw [← hO] at HE ⊢
  have hO3 : K = 3 → O = data := fun h => by rw [hO]; unfold outB; rw [if_neg (by simp only; omega), if_pos h]
  have hO1 : K ≠ 3 → O = List.replicate n value := fun h => by rw [hO]; unfold outB; rw [if_neg (by simp only; omega), if_neg h]
  have hOl : O.length = n := by
    by_cases h : K = 3
    · rw [hO3 h]; exact (hd3 h).2
    · rw [hO1 h, List.length_replicate]
  have HAL : Hid (∀ W ao cap, IntsAt W ao O → Calls Try.prog 26 #[.slice ao n cap, .int .i64 m] W fun e w' => e = .returned (.bool (O.all (hasP (halfOf (m : Int))))) ∧ W = w') := fun W ao cap hi => by
    have := rAll ao cap O m W hm1 hm2 (by omega) hi
    rw [hOl] at this
    exact this
  have K0 : Hid (∀ W, Below w0.heap.size w0 W → ∀ j v, (#[.int .i64 K, .int .i64 value, .int .i64 0, .slice ia 0 ic, .int .i64 0, .int .i64 0, .int .i64 0, .slice ra 0 rc, .slice da data.length dc] : Array Value)[j]? = some v → W.cell? ⟨w.heap.size, j, none⟩ = some v) := fun W hW j v hj => by
    rw [hW.cell (p := ⟨w.heap.size, j, none⟩) (Array.getElem?_eq_some_iff.1 hnw).1, cell_of_heap hnw]
    exact hj
  have HNEW : Hid (∀ c, c < n → ∃ x, intsOf (O.take (c + 1)) = intsOf (O.take c) ++ [.int .i64 x] ∧ (K ≠ 3 → x = value) ∧ (K = 3 → ∀ W, IntsAt W da data → ∃ b off, da = some ⟨b, off, none⟩ ∧ W.cell? ⟨b, off + c, none⟩ = some (.int .i64 x))) := fun c hc => by
    refine ⟨O[c]'(by omega), blk_take (by omega), fun h => ?_, fun h W hW => ?_⟩
    · have := hO1 h
      subst this
      simp
    · have := hO3 h
      subst this
      obtain ⟨b, off, h1, _, h3⟩ := hW c (by omega)
      exact ⟨b, off, h1, h3⟩
  have HI0 := Lib.hid hI0.d
  have HOl := Lib.hid hOl
  generalize codeB ⟨K, value, 0, [], 0, 0, 0, [], data⟩ n m = cb at *
  generalize halfOf (m : Int) = P at *
  unfold blkV at HFO ⊢
  dsimp only at HFO ⊢
  rw [show ([] : List Int).length = 0 from rfl] at HFO ⊢
  have HW0 := Lib.hid hw0
  have hdl3 : K = 3 → data.length = n := fun h => (hd3 h).2
  generalize hdl : data.length = dl at HFO HW0 K0 hdl3 ⊢
  have t2 : (K == 2) = false := beq_eq_false_iff_ne.2 (by omega)
  have t3 : (K != 2) = true := bne_iff_ne.2 (by omega)
  clear hd3 hd1 hd0 hbx hw0 hnw hI hI0 hO hO3 hO1 hOl hok hf hdep hdl
  go_enter Try.func8, Try.ntmps8
  go_wp2_with fail
  refine (HD _).out.mono ?_
  rintro e w1 ⟨rfl, rfl⟩
  go_wp2_with fail
  rw [← HW0.out]
  refine HFO.out.mono ?_
  rintro e w1 ⟨rfl, hb1⟩
  have k0 := K0.out w1 hb1 0 _ rfl
  have HB1 := Lib.hid hb1
  clear hb1
  go_wp2
  clear k0
  go_loopg [9, 15] n (fun gk va i wr => ∃ c : Nat, c ≤ n ∧ gk + c = n ∧ i = .int .i64 c ∧ wr.ownsRow w1.heap.size 3 1 va c (intsOf (O.take c)) ∧ Hid (Below w1.heap.size w1 wr))
  case atStart => exact ⟨0, Nat.zero_le _, by omega, rfl, World.ownsRow_nil _ _ _ _, Below.refl _ _⟩
  case round =>
    obtain ⟨c, hc, hgk, rfl, hown, HW⟩ := hrel
    have HGK := Lib.hid hgk
    clear hgk
    obtain ⟨aao, acap, rfl, _⟩ := Fx.own_slice hown
    have hszw := HW.out.size
    have HBR : Hid (Below w0.heap.size w0 wr) := HB1.out.trans (HW.out.mono HB1.out.size)
    have k0 := K0.out wr HBR.out 0 _ rfl
    by_cases hlt : c < n
    · obtain ⟨x, hnew, hxv, hx3⟩ := HNEW.out c hlt
      have HNX := Lib.hid hnew
      clear hnew
      have k1 := K0.out wr HBR.out 1 _ rfl
      have k8 := K0.out wr HBR.out 8 _ rfl
      by_cases h3 : K = 3
      · subst h3
        obtain ⟨b, off, rfl, hcell⟩ := hx3 rfl wr (HI0.out.below HBR.out)
        obtain rfl : dl = n := hdl3 rfl
        clear hxv hx3 hK hdl3
        go_wp2_with (at_builtin; refine wpList_append_own2 _ rfl _ _ 22 rfl w1.heap.size 3 i0 (.int .i64 0) 1 8 Try.underlying22 hii hz0 hz1 hz2 rfl (by decide) _ _ _ rfl (hown.alloc _) ⟨wr.heap.size, 0, none⟩ 1 1 [.int .i64 x] rfl rfl (World.news_of_block (cs := #[.int .i64 x]) (t := 3) (fr := (0, 0)) (World.alloc_heap_new _ _)) (by intro u hu; simp at hu; subst hu; rfl) (by unfold maxLen; omega) (by omega) (by simp; omega) ?_)
        intro v' w4 hown' hgrow hat
        rw [← HNX.out] at hown'
        have HW4 : Hid (Below w1.heap.size w1 w4) := (HW.out.trans ((box_below wr (.cells #[.int .i64 x] 3)).mono hszw)).grown hgrow (by simp; omega) (by intro g hg; exact (own_block_lt hown g hg).1)
        clear hgrow hat hown
        go_wp2
        go_roundg (gk - 1)
        case rel => exact ⟨c + 1, by omega, by have := HGK.out; omega, by go_num, hown', HW4⟩
        case measure => have := HGK.out; omega
      · obtain rfl : x = value := hxv h3
        have t4 : (K == 3) = false := beq_eq_false_iff_ne.2 h3
        clear hxv hx3 hK hdl3 h3
        go_wp2_with (at_builtin; refine wpList_append_own2 _ rfl _ _ 22 rfl w1.heap.size 3 i0 (.int .i64 0) 1 8 Try.underlying22 hii hz0 hz1 hz2 rfl (by decide) _ _ _ rfl (hown.alloc _) ⟨wr.heap.size, 0, none⟩ 1 1 [.int .i64 x] rfl rfl (World.news_of_block (cs := #[.int .i64 x]) (t := 3) (fr := (0, 0)) (World.alloc_heap_new _ _)) (by intro u hu; simp at hu; subst hu; rfl) (by unfold maxLen; omega) (by omega) (by simp; omega) ?_)
        intro v' w4 hown' hgrow hat
        rw [← HNX.out] at hown'
        have HW4 : Hid (Below w1.heap.size w1 w4) := (HW.out.trans ((box_below wr (.cells #[.int .i64 x] 3)).mono hszw)).grown hgrow (by simp; omega) (by intro g hg; exact (own_block_lt hown g hg).1)
        clear hgrow hat hown
        go_wp2
        go_roundg (gk - 1)
        case rel => exact ⟨c + 1, by omega, by have := HGK.out; omega, by go_num, hown', HW4⟩
        case measure => have := HGK.out; omega
    · obtain rfl : c = n := by omega
      have hIO : IntsAt wr aao O := by
        have h := hown
        rw [List.take_of_length_le (by rw [HOl.out]; exact Nat.le_refl _)] at h
        exact Fx.ints_own (cap := acap) (by rw [HOl.out]; exact h)
      have HIO := Lib.hid hIO
      have HCAP := Lib.hid (Fx.own_cap hown)
      have HA := Lib.hid (HAL.out wr aao acap hIO)
      have HBF : Hid (Below w.heap.size w wr) := HB.out.trans (HBR.out.mono HB.out.size)
      have HFR : Hid (FreshOf w aao) := fun g off hh => by
        subst hh
        have h1 := (own_block_lt hown g rfl).1
        have h2 := HB.out.size
        have h3 := HB1.out.size
        omega
      clear hown hIO hszw HW HGK hlt hc
      cases hall : O.all (hasP P) with
      | false =>
        rw [hall] at HA HE
        go_wp2_with fail
        refine HA.out.mono ?_
        rintro e w8 ⟨rfl, rfl⟩
        go_wp2
        refine bodyPost_ret (v := .tuple #[.slice none 0 0, .int .i64 9]) (by simp [results, Try.results8, go_sem]) rfl ?_
        exact SampIs.bad (by rw [HE.out]; rfl) (by omega) HBF.out
      | true =>
        rw [hall] at HA HE
        go_wp2_with fail
        refine HA.out.mono ?_
        rintro e w8 ⟨rfl, rfl⟩
        go_wp2
        refine bodyPost_ret (v := .tuple #[.slice aao c acap, .int .i64 0]) (by simp [results, Try.results8, go_sem]) rfl ?_
        exact .inr ⟨by rw [HE.out]; rfl, aao, acap, by rw [HOl.out], HIO.out, by rw [HOl.out]; exact HCAP.out, HBF.out, HFR.out⟩

/-- The samples of a block, or what is wrong: the document's. -/
theorem rSamples10 (b : Blk) (ia ra da : Option Addr) (ic rc dc : Nat) (n d : Int) (w : World) (hI : BlkIn w b ia ra da ic rc dc) :
    Calls Try.prog 8 #[blkV b ia ra da ic rc dc, .int .i64 n, .int .i64 d] w (SampIs (codeB b n d) (outB b n.toNat) w) := by
  cases hs : sizeN n && depthB d with
  | false => exact rSamp_size b ia ra da ic rc dc n d w hs
  | true =>
    rw [Bool.and_eq_true] at hs
    obtain ⟨k, rfl, hn1, hn⟩ := sizeN_of hs.1
    obtain ⟨m, rfl, hm1, hm2⟩ := depthB_of hs.2
    rw [show (k : Int).toNat = k from rfl]
    by_cases hf : formB b k m = 0
    rotate_left
    · exact rSamp_form b ia ra da ic rc dc k m w hn1 hn hm1 hm2 hI hf
    · obtain ⟨kind, value, shift, index, lag, gain, part, rice, data⟩ := b
      have hk : wrongKind ⟨kind, value, shift, index, lag, gain, part, rice, data⟩ = false := by
        cases h : wrongKind ⟨kind, value, shift, index, lag, gain, part, rice, data⟩ with
        | false => rfl
        | true => unfold formB at hf; rw [h, if_pos rfl] at hf; omega
      have hk3 : 0 ≤ kind ∧ kind ≤ 3 := by
        unfold wrongKind at hk
        simp at hk
        omega
      have hm : wrongMore ⟨kind, value, shift, index, lag, gain, part, rice, data⟩ = false := by
        cases h : wrongMore ⟨kind, value, shift, index, lag, gain, part, rice, data⟩ with
        | false => rfl
        | true => unfold formB at hf; rw [hk, h, if_neg (by simp), if_pos rfl] at hf; omega
      by_cases hk2 : kind = 2
      · subst hk2
        exact rSamp_two value shift lag gain part index rice data ia ra da ic rc dc k m w hn1 hn hm1 hm2 hI hf
      · rcases more_no hm with h2 | ⟨h1, h2, h3, h4, h5, h6⟩
        · exact absurd h2 hk2
        · obtain rfl : shift = 0 := h1
          obtain rfl : index = [] := h2
          obtain rfl : lag = 0 := h3
          obtain rfl : gain = 0 := h4
          obtain rfl : part = 0 := h5
          obtain rfl : rice = [] := h6
          exact rSamp_few kind value data ia ra da ic rc dc k m w hn1 hn hm1 hm2 (by omega) hI hf
end Go.Proofs.Ytefbakhhlonafaa
