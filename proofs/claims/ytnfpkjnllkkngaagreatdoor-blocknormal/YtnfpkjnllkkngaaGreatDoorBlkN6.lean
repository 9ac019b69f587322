import Derived.Test.YtnfpkjnllkkngaaGreatDoorBlkN5

namespace Go.Proofs.YtnfpkjnllkkngaaGreatDoor
open Go.RowKit Go.Proofs Go.Proofs.PipeM Go.Proofs.PipeA Go.Proofs.BlkM Go.Proofs.BlkB Go.Proofs.LatM Go.Proofs.FilM Go.Proofs.LagM
set_option maxRecDepth 100000

theorem intsOf_takeN {l : List Int} {j : Nat} (h : j < l.length) : intsOf (l.take (j + 1)) = intsOf (l.take j) ++ [.int .i64 l[j]] := by
  unfold intsOf
  rw [List.take_succ_eq_append_getElem h, List.map_append]; rfl
theorem take_all_s {l : List Int} {f : Int → Bool} {c : Nat} (h : c < l.length) : (l.take (c + 1)).all f = ((l.take c).all f && f l[c]) := by
  rw [List.take_succ_eq_append_getElem h, List.all_append]
  simp

set_option maxHeartbeats 6400000 in
theorem rNormal_good (lo io : Option Addr) (lcap icap : Nat) (l index : List Int) (d a g sh : Int) (w : World) (hl : l.length ≤ 1000) (hil : index.length ≤ 1000) (hi : IntsAt w lo l) (hj : IntsAt w io index) (hicap : index.length ≤ icap) (hc : chkB l d = 0) (hf : (shiftB d sh && goodL index && goodT a g) = true) :
    Calls Tryz.prog 6 #[.slice lo l.length lcap, .int .i64 d, .slice io index.length icap, .int .i64 a, .int .i64 g, .int .i64 sh] w (NormR l d index a g sh w) := by
  have hb1 := box_below w (.cells #[.int .i64 0, .int .i64 0, .int .i64 0, .slice none 0 0, .int .i64 0, .int .i64 0, .int .i64 0, .slice none 0 0, .slice none 0 0] 27)
  have hB0 := box9_new w (.int .i64 0) (.int .i64 0) (.int .i64 0) (.slice none 0 0) (.int .i64 0) (.int .i64 0) (.int .i64 0) (.slice none 0 0) (.slice none 0 0) 27
  obtain ⟨W0, hW0⟩ : ∃ W0, W0 = w.alloc (.cells #[.int .i64 0, .int .i64 0, .int .i64 0, .slice none 0 0, .int .i64 0, .int .i64 0, .int .i64 0, .slice none 0 0, .slice none 0 0] 27) := ⟨_, rfl⟩
  rw [← hW0] at hb1 hB0
  have hlt1 : w.heap.size < W0.heap.size := hB0.lt
  have HBX := Lib.hid hb1
  have HW0 := Lib.hid hW0
  have HX := Lib.hid hB0
  have hr := Below.refl W0.heap.size W0
  have hs := chk_sizes (l := l) (d := d) (by omega)
  have hsz := hs
  rw [Bool.and_eq_true] at hs
  obtain ⟨m, rfl, hm1, hm2⟩ := depthB_of hs.2
  obtain ⟨k, hk, hk1, hk2⟩ := sizeN_of hs.1
  have ha : l.all (hasP (halfOf (m : Int))) = true := by
    cases ha : l.all (hasP (halfOf (m : Int))) with
    | true => rfl
    | false => unfold chkB at hc; rw [hsz, ha, if_neg (by simp)] at hc; exact absurd hc (by decide)
  have HRD := Lib.hid (rDepth m W0)
  rw [hs.2] at HRD
  have HAL := Lib.hid (rAll lo lcap l m W0 hm1 hm2 (by omega) (hi.below hb1))
  rw [ha] at HAL
  have HLG := Lib.hid (Fx.rGood io icap index W0 (by omega) (hj.below hb1))
  have HTG := Lib.hid (Gx.rGood a g W0)
  have t2 : decide ((1024 : Int) < (l.length : Int)) = false := decide_eq_false (by omega)
  have t2n : decide (1024 < l.length) = false := decide_eq_false (by omega)
  have t1 : decide ((l.length : Int) < 1) = false := decide_eq_false (by omega)
  have t1n : decide (l.length < 1) = false := decide_eq_false (by omega)
  obtain ⟨i0, hii, hz0, hz1, hz2⟩ := info_parts info_int
  have hf' := hf
  simp only [Bool.and_eq_true] at hf'
  obtain ⟨⟨h1, h3⟩, h4⟩ := hf'
  obtain ⟨hs0, hs1⟩ : 0 ≤ sh ∧ sh < m := of_decide_eq_true h1
  obtain ⟨s, rfl⟩ : ∃ s : Nat, sh = s := ⟨sh.toNat, by omega⟩
  rw [h3] at HLG
  rw [h4] at HTG
  have t3 : decide ((s : Int) < 0) = false := decide_eq_false (by omega)
  have t4 : decide ((m : Int) ≤ (s : Int)) = false := decide_eq_false (by omega)
  have t4n : decide (m ≤ s) = false := decide_eq_false (by omega)
  obtain ⟨n, hn, hn1, hg0, hg1, hzg, _⟩ := goodT_of h4
  have HPW := fun W => Lib.hid (refPower s W (by omega))
  have HPB : Hid (∀ W, Calls Tryz.prog 26 #[.int .i64 s] W fun e w' => e = .returned (.int .i64 ((2 ^ s : Nat) : Int)) ∧ Below W.heap.size W w') := fun W => (HPW W).out.mono (by rintro e w' ⟨rfl, rfl⟩; exact ⟨rfl, Below.refl _ _⟩)
  obtain ⟨cn, hcn⟩ : ∃ cn, cn = codeN l m index a g s := ⟨_, rfl⟩
  have HC2 : Hid (divs s l = false → cn = 2) := fun hd => by
    rw [hcn]; unfold codeN; rw [hc, if_neg (by simp), hf, Int.toNat_natCast, hd]; rfl
  have HC0 : Hid (divs s l = true → cn = if codeT a g (rsdN index s l) ≠ 0 then 9 else if listOk (dataN a g index s l) then 0 else 9) := fun hd => by
    rw [hcn]; unfold codeN; rw [hc, if_neg (by simp), hf, Int.toNat_natCast, hd]; rfl
  have hP1 : 1 ≤ 2 ^ s := Nat.one_le_two_pow
  have hP2 : 2 ^ s ≤ 33554432 := Nat.le_trans (Nat.pow_le_pow_right (by decide) (show s ≤ 25 by omega)) (by decide)
  have HTM := Lib.hid (⟨n, hn, hn1, ⟨hg0, hg1⟩, hzg⟩ : ∃ n : Nat, a = n ∧ n ≤ 255 ∧ (0 ≤ g ∧ g ≤ 15) ∧ (n = 0 → g = 0))
  have HDV : Hid (∀ x : Int, (((2 ^ s : Nat) : Int) ∣ x) ↔ (x % 2 ^ s == 0) = true) := fun x => by
    rw [beq_iff_eq]
    constructor
    · intro h; have h1 : (2 : Int) ^ s ∣ x := by simpa using h
      exact Int.emod_eq_zero_of_dvd h1
    · intro h; have := Int.dvd_of_emod_eq_zero h
      simpa using this
  have HLW : Hid (∀ j (hj : j < l.length), (lowS s l)[j]'(by rw [lowS_length]; exact hj) = l[j] / ((2 ^ s : Nat) : Int)) := fun j hj => by
    rw [lowS_at hj, getD_lt hj]; simp
  have HAB : Hid (∀ x ∈ l, -33554432 ≤ x ∧ x ≤ 33554432) := fun x hx => by
    have h0 := of_decide_eq_true (List.all_eq_true.1 ha x hx)
    have hb := hp_bound hm1 hm2
    omega
  have hcr := low_codeR s h3 hm1 hm2 ha
  have HCR := Lib.hid hcr
  have HIX : Hid (∀ W, Below W0.heap.size W0 W → IntsAt W io index) := fun W hb => (hj.below hb1).below hb
  have HIL : Hid (∀ W, Below W0.heap.size W0 W → IntsAt W lo l) := fun W hb => (hi.below hb1).below hb
  have HFX : Hid (∀ W W', Below W0.heap.size W0 W → Keeps [w.heap.size] W W' → IntsAt W' io index) := fun W W' hb hk j hjl => by
    obtain ⟨b, off, e, h1, _⟩ := hj j hjl
    obtain ⟨b', off', e', h2, h3⟩ := HIX.out W hb j hjl
    cases e.symm.trans e'
    exact ⟨b, off, e, Nat.lt_of_lt_of_le h2 hk.size, by rw [hk.cell (p := ⟨b, off + j, none⟩) h2 (by simp; omega), h3]⟩
  have hdl := dataN_length a g index s l
  have HRX : Hid (∀ c W, cn = c → c ≠ 0 → Below w.heap.size w W → NormR l m index a g s w (.returned (.tuple #[.agg #[.int .i64 0, .int .i64 0, .int .i64 0, .slice none 0 0, .int .i64 0, .int .i64 0, .int .i64 0, .slice none 0 0, .slice none 0 0], .int .i64 c])) W) := fun c W h1 h2 hb => by
    subst h1
    rw [hcn] at h2 ⊢
    exact .inl ⟨h2, rfl, hb⟩
  have HRET : Hid (∀ W ko kc da dc, cn = 0 → IntsAt W io index → IntsAt W ko (ksAt (dataN a g index s l) (bestP (dataN a g index s l))) → IntsAt W da (dataN a g index s l) → Below w.heap.size w W → NormR l m index a g s w (.returned (.tuple #[.agg #[.int .i64 2, .int .i64 0, .int .i64 s, .slice io index.length icap, .int .i64 a, .int .i64 g, .int .i64 (bestP (dataN a g index s l) : Nat), .slice ko (2 ^ bestP (dataN a g index s l)) kc, .slice da l.length dc], .int .i64 0])) W) := fun W ko kc da dc h1 h2 h3 h4 hb => by
    refine .inr ⟨hcn.symm.trans h1, io, ko, da, icap, kc, dc, ?_, h2, h3, h4, hb⟩
    unfold blkV normN
    dsimp only
    rw [Int.toNat_natCast, ksAt_length, hdl]
  have HRS : Hid (∀ W ao cap, Below W0.heap.size W0 W → IntsAt W ao (lowS s l) → l.length ≤ cap → Calls Tryz.prog 27 #[.slice io index.length icap, .slice ao l.length cap] W fun e w' => ∃ ro rc, e = .returned (.tuple #[.slice ro l.length rc, .int .i64 0]) ∧ IntsAt w' ro (rsdN index s l) ∧ Below W.heap.size W w') := fun W ao cap hb h1 h2 => by
    have := Fx.rResiduals io ao icap cap index (lowS s l) W (by omega) hicap (by rw [lowS_length]; omega) (by rw [lowS_length]; exact h2) (HIX.out W hb) h1
    unfold Fx.ResR at this
    rw [lowS_length] at this
    refine this.mono ?_
    rintro e w' (⟨hne, _⟩ | ⟨_, ro, rc, rfl, h3, h4⟩)
    · exact absurd hcr hne
    · exact ⟨ro, rc, rfl, h3, h4⟩
  have HWR : Hid (∀ W ao cap, IntsAt W ao (rsdN index s l) → Calls Tryz.prog 28 #[.int .i64 a, .int .i64 g, .slice ao l.length cap] W fun e w' => e = .returned (.int .i64 (codeT a g (rsdN index s l))) ∧ W = w') := fun W ao cap h1 => by
    have := Gx.rWrong a g ao cap (rsdN index s l) W (by rw [rsdN_length]; omega) h1
    rwa [rsdN_length] at this
  have HOF : Hid (∀ W ao cap, codeT a g (rsdN index s l) = 0 → IntsAt W ao (rsdN index s l) → Calls Tryz.prog 29 #[.int .i64 a, .int .i64 g, .slice ao l.length cap] W fun e w' => ∃ da dc, e = .returned (.slice da l.length dc) ∧ IntsAt w' da (dataN a g index s l) ∧ l.length ≤ dc ∧ (∀ g off, da = some ⟨g, off, none⟩ → W.heap.size ≤ g) ∧ Below W.heap.size W w') := fun W ao cap h0 h1 => by
    have := Gx.rOffF n g ao cap (rsdN index s l) W hn1 ⟨hg0, hg1⟩ hzg (by rw [rsdN_length]; omega) (codeT_zero h0).2 h1
    rw [rsdN_length] at this
    rw [hn] at hdl ⊢
    refine this.mono ?_
    rintro e w' ⟨da, dc, rfl, h3, h4, h5, h6⟩
    rw [offL_length, rsdN_length] at h4 ⊢
    exact ⟨da, dc, rfl, h3, h4, h5, h6⟩
  have HLI : Hid (∀ W ao cap, IntsAt W ao (dataN a g index s l) → Calls Tryz.prog 30 #[.slice ao l.length cap] W fun e w' => e = .returned (.bool (listOk (dataN a g index s l))) ∧ W = w') := fun W ao cap h1 => by
    have := refList ao cap (dataN a g index s l) W (by omega) h1
    rwa [hdl] at this
  have HBE : Hid (∀ W ao cap, l.length ≤ cap → listOk (dataN a g index s l) = true → IntsAt W ao (dataN a g index s l) → Calls Tryz.prog 31 #[.slice ao l.length cap] W fun e w' => ∃ ko kc, e = .returned (.agg #[.int .i64 (bestP (dataN a g index s l) : Nat), .slice ko (2 ^ bestP (dataN a g index s l)) kc]) ∧ IntsAt w' ko (ksAt (dataN a g index s l) (bestP (dataN a g index s l))) ∧ (∀ g off, ko = some ⟨g, off, none⟩ → W.heap.size ≤ g) ∧ Below W.heap.size W w') := fun W ao cap h1 h2 h3 => by
    have := refSBestF ao cap (dataN a g index s l) W (by omega) h3 h2
    rwa [hdl] at this
  have HLT : Hid (∀ b off, lo = some ⟨b, off, none⟩ → b < W0.heap.size) := fun b off e => by
    obtain ⟨b', off', e', hb', _⟩ := (hi.below hb1) 0 (by omega)
    rw [e] at e'
    cases e'
    exact hb'
  have HDVS : Hid (divs s l = l.all (fun x => x % 2 ^ s == 0)) := rfl
  obtain ⟨P, hP⟩ : ∃ P : Nat, P = 2 ^ s := ⟨_, rfl⟩
  rw [← hP] at HPW HPB hP1 hP2 HDV HLW
  generalize hDV : divs s l = dv at *
  clear hDV
  have hbp : bestP (dataN a g index s l) ≤ 3 := Nat.le_trans (bestP_le _) (topP_le _)
  have hmp8 : 2 ^ bestP (dataN a g index s l) ≤ 8 := Nat.le_trans (Nat.pow_le_pow_right (by decide) hbp) (by decide)
  generalize hm2p : 2 ^ bestP (dataN a g index s l) = mp at *
  generalize hb2p : ((bestP (dataN a g index s l) : Nat) : Int) = bp at *
  generalize hk2 : ksAt (dataN a g index s l) (bestP (dataN a g index s l)) = KS at *
  generalize hd2 : dataN a g index s l = DA at *
  generalize hr2 : rsdN index s l = RS at *
  generalize hl2 : listOk DA = lk at *
  generalize hc2 : codeT a g RS = ct at *
  clear hm2p hb2p hk2 hd2 hr2 hl2 hc2 hbp
  clear hi hj hb1 hB0 hW0 hc hf hcn hs hsz hk hk1 hk2 hm1 hm2 ha h1 h3 h4 hs0 hs1 hcr hdl hP hn hn1 hg0 hg1 hzg
  go_enter Tryz.func6, Tryz.ntmps6
  go_wp2_with fail
  rw [← HW0.out]
  refine HRD.out.mono ?_
  rintro e w1 ⟨rfl, rfl⟩
  go_wp2_with fail
  refine HAL.out.mono ?_
  rintro e w1 ⟨rfl, rfl⟩
  go_wp2_with fail
  refine HLG.out.mono ?_
  rintro e w1 ⟨rfl, rfl⟩
  go_wp2_with fail
  refine HTG.out.mono ?_
  rintro e w1 ⟨rfl, rfl⟩
  go_wp2
  go_loopg [14, 15, 60] l.length (fun gk va q i wr => ∃ c : Nat, c ≤ l.length ∧ gk + c = l.length ∧ i = .int .i64 c ∧ Hid ((l.take c).all (fun x => x % 2 ^ s == 0) = true) ∧ wr.ownsRow W0.heap.size 3 1 va c (intsOf ((lowS s l).take c)) ∧ Hid (Below W0.heap.size W0 wr))
  case atStart => exact ⟨0, Nat.zero_le _, by omega, rfl, by simp [Hid], World.ownsRow_nil _ _ _ _, Below.refl _ _⟩
  case round =>
    obtain ⟨c, hc, hgk, rfl, HT, hown, HW⟩ := hrel
    have HGK := Lib.hid hgk
    clear hgk
    by_cases hlt : c < l.length
    · obtain ⟨b, off, rfl, hbr, hcell⟩ := HIL.out wr HW.out c hlt
      have hxb := HAB.out _ (List.getElem_mem hlt)
      have HSU := Lib.hid (take_all_s (f := fun x => x % 2 ^ s == 0) hlt)
      have HME : Hid ((l[c] % 2 ^ s == 0) = false → l.all (fun x => x % 2 ^ s == 0) = false) := fun h => by
        cases ha : l.all (fun x => x % 2 ^ s == 0) with
        | false => rfl
        | true => exact absurd ((List.all_eq_true.1 ha _ (List.getElem_mem hlt)).symm.trans h) (by decide)
      have HNEW : Hid (intsOf ((lowS s l).take (c + 1)) = intsOf ((lowS s l).take c) ++ [.int .i64 (l[c] / (P : Int))]) := by
        show _ = _
        rw [intsOf_takeN (by rw [lowS_length]; exact hlt), HLW.out c hlt]
      have HDX := Lib.hid (HDV.out l[c])
      generalize l[c] = x at hcell hxb HSU HME HNEW HDX
      have hPn : ¬ (P = 0) := by omega
      by_cases hd : (P : Int) ∣ x
      · have hm0 : x.tmod (P : Int) = 0 := Int.tmod_eq_zero_of_dvd hd
        have HT2 : Hid ((l.take (c + 1)).all (fun x => x % 2 ^ s == 0) = true) := by show _ = _; rw [HSU.out, HT.out, HDX.out.1 hd]; rfl
        obtain ⟨xr, hxr⟩ : ∃ xr, xr = x / (P : Int) := ⟨_, rfl⟩
        have hq0 : x.tdiv (P : Int) = xr := by rw [hxr]; exact Int.tdiv_eq_ediv_of_dvd hd
        have hxr2 : -33554432 ≤ xr ∧ xr ≤ 33554432 := by
          have h5 : xr * (P : Int) = x := by rw [hxr]; exact Int.ediv_mul_cancel hd
          have hPi : (1 : Int) ≤ P := by omega
          constructor
          · by_cases h6 : 0 ≤ xr
            · omega
            · have : xr * (P : Int) ≤ xr * 1 := Int.mul_le_mul_of_nonpos_left (by omega) hPi
              omega
          · by_cases h6 : 0 ≤ xr
            · have : xr * 1 ≤ xr * (P : Int) := Int.mul_le_mul_of_nonneg_left hPi h6
              omega
            · omega
        have hwq : IntKind.i64.wrap xr = xr := IntWalk.i64_in _ (by omega)
        rw [← hxr] at HNEW
        have HOW := Lib.hid hown
        clear hxr hd HSU HME HDX hown
        go_wp2
        go_quiet ((go_at_call 26; exact quiet_left (HPW _).out))
        obtain ⟨w5, hw5⟩ : ∃ w5, w5 = wr.drewN nq := ⟨_, rfl⟩
        rw [← hw5]
        have hb5 : Below wr.heap.size wr w5 := by rw [hw5]; exact (keeps_drewN wr nq []).below (Nat.le_refl _) (by simp)
        clear hw5
        have hown := ownsRow_below HOW.out hb5
        have hb5w : Below W0.heap.size W0 w5 := HW.out.trans (hb5.mono HW.out.size)
        have HW5 := Lib.hid hb5w
        have y0 : w5.cell? ⟨b, off + c, none⟩ = some (.int .i64 x) := (hb5.cell (p := ⟨b, off + c, none⟩) hbr).trans hcell
        have hbW : b < W0.heap.size := HLT.out b off rfl
        have HFAR := Lib.hid (Fx.own_far hown hbW)
        have hszr := hb5w.size
        have hbr5 : b < w5.heap.size := by omega
        clear hb5 hcell HOW hb5w hxb
        go_wp2_with fail
        go_region_held3 (fun w' => w'.cell? ⟨b, off + c, none⟩ = some (.int .i64 x))
          (first
            | exact y0
            | exact p0
            | exact cellA (a := ⟨b, off + c, none⟩) _ p0
            | exact (hgrow.cell_far ⟨b, off + c, none⟩ (by simp; omega) HFAR.out).trans (cellA (a := ⟨b, off + c, none⟩) _ p0)
            | fail)
          (first
            | (go_at_call 26; refine (HPB.out _).mono ?_; rintro e w6 ⟨rfl, hbl6⟩; have hbl6' : Below w5.heap.size w5 w6 := ((keeps_drew_b w5 []).below (Nat.le_refl _) (by simp)).trans hbl6; have p0 := (hbl6'.cell (p := ⟨b, off + c, none⟩) hbr5).trans y0; have hb6 : b < w6.heap.size := Nat.lt_of_lt_of_le hbr5 hbl6'.size; have hs6 := hbl6'.size; have HB6 := Lib.hid hbl6'; have hown' := ownsRow_below hown hbl6'; clear hbl6 hbl6')
            | (refine step_append_lies _ (by rfl) _ _ 22 (by rfl) W0.heap.size 3 i0 (.int .i64 0) 1 8 Tryz.underlying22 hii hz0 hz1 hz2 rfl (by decide) _ c (intsOf ((lowS s l).take c)) (by rfl) (hown'.alloc (.cells #[.int .i64 xr] 3)) ⟨w6.heap.size, 0, none⟩ 1 1 [.int .i64 xr] (by rfl) (by rfl) (World.news_of_block (cs := #[.int .i64 xr]) (t := 3) (fr := (0, 0)) (World.alloc_heap_new _ _)) (by intro u hu; simp at hu; subst hu; rfl) (by omega) (by unfold maxLen; omega) (by omega) (by simp; omega) _ rfl ?_; intro g7 cap7 w7 hown7 hgrow hat hlt7)
            | fail)
        rw [← HNEW.out] at hown7
        have HW7 : Hid (Below W0.heap.size W0 w7) := ((HW5.out.trans (HB6.out.mono HW5.out.size)).trans ((box_below w6 (.cells #[.int .i64 xr] 3)).mono (by omega))).grown hgrow (by simp; omega) (by intro x hx; exact (own_block_lt hown x hx).1)
        clear hgrow hat hlt7 hown hown'
        go_wp2
        go_roundg (gk - 1)
        case rel => exact ⟨c + 1, by omega, by have := HGK.out; omega, by go_num, HT2, hown7, HW7⟩
        case measure => have := HGK.out; omega
      · have hm0 : ¬ (x.tmod (P : Int) = 0) := fun h => hd (Int.dvd_of_tmod_eq_zero h)
        have hx0 : (x % 2 ^ s == 0) = false := by
          cases h : (x % 2 ^ s == 0) with
          | false => rfl
          | true => exact absurd (HDX.out.2 h) hd
        have h2 : Hid (cn = 2) := HC2.out (by rw [HDVS.out]; exact HME.out hx0)
        have htb : -33554432 ≤ x.tmod (P : Int) ∧ x.tmod (P : Int) ≤ 33554432 := by
          have h1 := Int.tmod_lt_of_pos x (show (0 : Int) < P by omega)
          have h2 := Int.lt_tmod_of_pos x (show (0 : Int) < P by omega)
          omega
        obtain ⟨y, hy⟩ : ∃ y, x.tmod (P : Int) = y := ⟨_, rfl⟩
        rw [hy] at hm0 htb
        clear hd HSU HME HDX hown hx0 HC2 HC0 HNEW HRS HWR HOF HLI HBE HRET
        go_wp2
        go_quiet ((go_at_call 26; exact quiet_left (HPW _).out))
        obtain ⟨w5, hw5⟩ : ∃ w5, w5 = wr.drewN nq := ⟨_, rfl⟩
        rw [← hw5]
        have hb5 : Below wr.heap.size wr w5 := by rw [hw5]; exact (keeps_drewN wr nq []).below (Nat.le_refl _) (by simp)
        clear hw5
        have hr5 := HW.out.trans (hb5.mono HW.out.size)
        clear hb5
        have hx1 := HX.out.keeps (keeps_of_below hr5 []) (by simp)
        have c0 := hx1.c 0 (.int .i64 0) rfl
        have c1 := hx1.c 1 (.int .i64 0) rfl
        have c2 := hx1.c 2 (.int .i64 0) rfl
        have c3 := hx1.c 3 (.slice none 0 0) rfl
        have c4 := hx1.c 4 (.int .i64 0) rfl
        have c5 := hx1.c 5 (.int .i64 0) rfl
        have c6 := hx1.c 6 (.int .i64 0) rfl
        have c7 := hx1.c 7 (.slice none 0 0) rfl
        have c8 := hx1.c 8 (.slice none 0 0) rfl
        have f0 := hx1.f 0 (by decide)
        have f1 := hx1.f 1 (by decide)
        have f2 := hx1.f 2 (by decide)
        have f3 := hx1.f 3 (by decide)
        have f4 := hx1.f 4 (by decide)
        have f5 := hx1.f 5 (by decide)
        have f6 := hx1.f 6 (by decide)
        have f7 := hx1.f 7 (by decide)
        have f8 := hx1.f 8 (by decide)
        go_wp2
        obtain ⟨hX8, hk8⟩ := hx1.set9 (.int .i64 0) (.int .i64 0) (.int .i64 0) (.slice none 0 0) (.int .i64 0) (.int .i64 0) (.int .i64 0) (.slice none 0 0) (.slice none 0 0)
        unfold Go.Proofs.YtnfpkjnllkkngaaGreatDoor.set9 at hX8 hk8
        have R0 := hX8.c 0 (.int .i64 0) rfl
        have R1 := hX8.c 1 (.int .i64 0) rfl
        have R2 := hX8.c 2 (.int .i64 0) rfl
        have R3 := hX8.c 3 (.slice none 0 0) rfl
        have R4 := hX8.c 4 (.int .i64 0) rfl
        have R5 := hX8.c 5 (.int .i64 0) rfl
        have R6 := hX8.c 6 (.int .i64 0) rfl
        have R7 := hX8.c 7 (.slice none 0 0) rfl
        have R8 := hX8.c 8 (.slice none 0 0) rfl
        have HE8 := Lib.hid ((HBX.out.trans (hr5.mono (Nat.le_of_lt hlt1))).trans (hk8.below (by have := hr5.size; omega) (by simp)))
        refine bodyPost_ret (v := .tuple #[.agg #[.int .i64 0, .int .i64 0, .int .i64 0, .slice none 0 0, .int .i64 0, .int .i64 0, .int .i64 0, .slice none 0 0, .slice none 0 0], .int .i64 2]) (by simp [results, Tryz.results6, go_sem, R0, R1, R2, R3, R4, R5, R6, R7, R8]) rfl ?_
        exact HRX.out 2 _ h2.out (by decide) HE8.out
    · obtain rfl : c = l.length := by omega
      have hdt : dv = true := by rw [HDVS.out]; have := HT.out; rwa [List.take_of_length_le (Nat.le_refl _)] at this
      obtain ⟨ao, cap, rfl⟩ := own_slice hown
      have hcap := own_cap hown
      have hlo : IntsAt wr ao (lowS s l) := by
        have h := hown
        rw [List.take_of_length_le (by rw [lowS_length]; exact Nat.le_refl _)] at h
        have e := lowS_length s l
        exact ints_own_any (cap := cap) (by rw [e]; exact h)
      have HCN := Lib.hid (HC0.out hdt)
      have HR1 := Lib.hid (HRS.out wr ao cap HW.out hlo hcap)
      clear hdt hown hlo HC2 HC0 hlt HRS HPW HPB HDV HLW HAB HT HIL HLT hcap
      go_wp2_with fail
      refine HR1.out.mono ?_
      rintro e w1 ⟨ro, rc, rfl, hi1, hb1⟩
      have hr1 := HW.out.trans (hb1.mono HW.out.size)
      have HR2 := Lib.hid (HWR.out w1 ro rc hi1)
      have HI1 := Lib.hid hi1
      have HB1 := Lib.hid hr1
      clear hb1 hi1 hr1 HR1
      go_wp2_with fail
      refine HR2.out.mono ?_
      rintro e w2 ⟨rfl, rfl⟩
      by_cases hct : ct = 0
      · have hct2 : (ct != 0) = false := by rw [hct]; rfl
        have HR3 := Lib.hid (HOF.out w1 ro rc hct HI1.out)
        have HN2 : Hid (cn = if lk then 0 else 9) := by show _ = _; rw [HCN.out, if_neg (by omega)]
        clear hct HCN HR2 HOF HWR
        go_wp2_with fail
        refine HR3.out.mono ?_
        rintro e w3 ⟨da, dc, rfl, hi3, hdc, hf3, hb3⟩
        have hr3 := HB1.out.trans (hb3.mono HB1.out.size)
        have HR4 := Lib.hid (HLI.out w3 da dc hi3)
        have HI3 := Lib.hid hi3
        have HB3 := Lib.hid hr3
        have HDC : Hid (l.length ≤ dc) := hdc
        have HFD : Hid (∀ g off, da = some ⟨g, off, none⟩ → g ∉ [w.heap.size]) := fun g off e => by have := hf3 g off e; have := HB1.out.size; simp; omega
        clear hb3 hi3 hr3 HR3 HLI HI1 HB1 hdc hf3
        go_wp2_with fail
        refine HR4.out.mono ?_
        rintro e w4 ⟨rfl, rfl⟩
        cases hlk : lk with
        | false =>
          have h9 : Hid (cn = 9) := by show _ = _; rw [HN2.out, hlk]; rfl
          have hr5 := HB3.out
          clear HBE HRET HR4 hlk HN2
          have hx1 := HX.out.keeps (keeps_of_below hr5 []) (by simp)
          have c0 := hx1.c 0 (.int .i64 0) rfl
          have c1 := hx1.c 1 (.int .i64 0) rfl
          have c2 := hx1.c 2 (.int .i64 0) rfl
          have c3 := hx1.c 3 (.slice none 0 0) rfl
          have c4 := hx1.c 4 (.int .i64 0) rfl
          have c5 := hx1.c 5 (.int .i64 0) rfl
          have c6 := hx1.c 6 (.int .i64 0) rfl
          have c7 := hx1.c 7 (.slice none 0 0) rfl
          have c8 := hx1.c 8 (.slice none 0 0) rfl
          have f0 := hx1.f 0 (by decide)
          have f1 := hx1.f 1 (by decide)
          have f2 := hx1.f 2 (by decide)
          have f3 := hx1.f 3 (by decide)
          have f4 := hx1.f 4 (by decide)
          have f5 := hx1.f 5 (by decide)
          have f6 := hx1.f 6 (by decide)
          have f7 := hx1.f 7 (by decide)
          have f8 := hx1.f 8 (by decide)
          go_wp2
          obtain ⟨hX8, hk8⟩ := hx1.set9 (.int .i64 0) (.int .i64 0) (.int .i64 0) (.slice none 0 0) (.int .i64 0) (.int .i64 0) (.int .i64 0) (.slice none 0 0) (.slice none 0 0)
          unfold Go.Proofs.YtnfpkjnllkkngaaGreatDoor.set9 at hX8 hk8
          have R0 := hX8.c 0 (.int .i64 0) rfl
          have R1 := hX8.c 1 (.int .i64 0) rfl
          have R2 := hX8.c 2 (.int .i64 0) rfl
          have R3 := hX8.c 3 (.slice none 0 0) rfl
          have R4 := hX8.c 4 (.int .i64 0) rfl
          have R5 := hX8.c 5 (.int .i64 0) rfl
          have R6 := hX8.c 6 (.int .i64 0) rfl
          have R7 := hX8.c 7 (.slice none 0 0) rfl
          have R8 := hX8.c 8 (.slice none 0 0) rfl
          have HE8 := Lib.hid ((HBX.out.trans (hr5.mono (Nat.le_of_lt hlt1))).trans (hk8.below (by have := hr5.size; omega) (by simp)))
          refine bodyPost_ret (v := .tuple #[.agg #[.int .i64 0, .int .i64 0, .int .i64 0, .slice none 0 0, .int .i64 0, .int .i64 0, .int .i64 0, .slice none 0 0, .slice none 0 0], .int .i64 9]) (by simp [results, Tryz.results6, go_sem, R0, R1, R2, R3, R4, R5, R6, R7, R8]) rfl ?_
          exact HRX.out 9 _ h9.out (by decide) HE8.out
        | true =>
          have h0 : Hid (cn = 0) := by show _ = _; rw [HN2.out, hlk]; rfl
          have HR5 := Lib.hid (HBE.out w3 da dc HDC.out hlk HI3.out)
          clear HBE HR4 hlk HN2
          go_wp2_with fail
          refine HR5.out.mono ?_
          rintro e w5 ⟨ko, kc, rfl, hi5, hf5, hb5⟩
          have hr5 := HB3.out.trans (hb5.mono HB3.out.size)
          have hb6 := box_below w5 (.cells #[.int .i64 bp, .slice ko mp kc] 66)
          have hn6 := World.alloc_heap_new w5 (.cells #[.int .i64 bp, .slice ko mp kc] 66)
          have HI5 := Lib.hid (HI3.out.below hb5)
          have HK5 := Lib.hid hi5
          have HFK : Hid (∀ g off, ko = some ⟨g, off, none⟩ → g ∉ [w.heap.size]) := fun g off e => by have := hf5 g off e; have := HB3.out.size; simp; omega
          clear hi5 hb5 HR5 hf5
          have hr6 := hr5.trans (hb6.mono hr5.size)
          have q0 : (w5.alloc (.cells #[.int .i64 bp, .slice ko mp kc] 66)).cell? ⟨w5.heap.size, 0, none⟩ = some (.int .i64 bp) := cell_of_heap hn6 0
          have q1 : (w5.alloc (.cells #[.int .i64 bp, .slice ko mp kc] 66)).cell? ⟨w5.heap.size, 1, none⟩ = some (.slice ko mp kc) := cell_of_heap hn6 1
          have HI6 : Hid (IntsAt (w5.alloc (.cells #[.int .i64 bp, .slice ko mp kc] 66)) da DA) := HI5.out.below hb6
          have HK6 : Hid (IntsAt (w5.alloc (.cells #[.int .i64 bp, .slice ko mp kc] 66)) ko KS) := HK5.out.below hb6
          clear hb6 hn6 hr5 HI5 HK5
          have hx1 := HX.out.keeps (keeps_of_below hr6 []) (by simp)
          have c0 := hx1.c 0 (.int .i64 0) rfl
          have c1 := hx1.c 1 (.int .i64 0) rfl
          have c2 := hx1.c 2 (.int .i64 0) rfl
          have c3 := hx1.c 3 (.slice none 0 0) rfl
          have c4 := hx1.c 4 (.int .i64 0) rfl
          have c5 := hx1.c 5 (.int .i64 0) rfl
          have c6 := hx1.c 6 (.int .i64 0) rfl
          have c7 := hx1.c 7 (.slice none 0 0) rfl
          have c8 := hx1.c 8 (.slice none 0 0) rfl
          have f0 := hx1.f 0 (by decide)
          have f1 := hx1.f 1 (by decide)
          have f2 := hx1.f 2 (by decide)
          have f3 := hx1.f 3 (by decide)
          have f4 := hx1.f 4 (by decide)
          have f5 := hx1.f 5 (by decide)
          have f6 := hx1.f 6 (by decide)
          have f7 := hx1.f 7 (by decide)
          have f8 := hx1.f 8 (by decide)
          go_wp2
          obtain ⟨hX8, hk8⟩ := hx1.set9 (.int .i64 2) (.int .i64 0) (.int .i64 s) (.slice io index.length icap) (.int .i64 a) (.int .i64 g) (.int .i64 bp) (.slice ko mp kc) (.slice da l.length dc)
          unfold Go.Proofs.YtnfpkjnllkkngaaGreatDoor.set9 at hX8 hk8
          have R0 := hX8.c 0 (.int .i64 2) rfl
          have R1 := hX8.c 1 (.int .i64 0) rfl
          have R2 := hX8.c 2 (.int .i64 s) rfl
          have R3 := hX8.c 3 (.slice io index.length icap) rfl
          have R4 := hX8.c 4 (.int .i64 a) rfl
          have R5 := hX8.c 5 (.int .i64 g) rfl
          have R6 := hX8.c 6 (.int .i64 bp) rfl
          have R7 := hX8.c 7 (.slice ko mp kc) rfl
          have R8 := hX8.c 8 (.slice da l.length dc) rfl
          have HE8 := Lib.hid ((HBX.out.trans (hr6.mono (Nat.le_of_lt hlt1))).trans (hk8.below (by have := hr6.size; omega) (by simp)))
          refine bodyPost_ret (v := .tuple #[.agg #[.int .i64 2, .int .i64 0, .int .i64 s, .slice io index.length icap, .int .i64 a, .int .i64 g, .int .i64 bp, .slice ko mp kc, .slice da l.length dc], .int .i64 0]) (by simp [results, Tryz.results6, go_sem, R0, R1, R2, R3, R4, R5, R6, R7, R8]) rfl ?_
          exact HRET.out _ ko kc da dc h0.out (HFX.out _ _ hr6 hk8) (HK6.out.keeps hk8 HFK.out) (HI6.out.keeps hk8 HFD.out) HE8.out
      · have hct2 : (ct != 0) = true := bne_iff_ne.2 hct
        have h9 : Hid (cn = 9) := by show _ = _; rw [HCN.out, if_pos hct]
        have hr5 := HB1.out
        clear hct HCN HR2 HOF HWR HRET HBE HLI
        have hx1 := HX.out.keeps (keeps_of_below hr5 []) (by simp)
        have c0 := hx1.c 0 (.int .i64 0) rfl
        have c1 := hx1.c 1 (.int .i64 0) rfl
        have c2 := hx1.c 2 (.int .i64 0) rfl
        have c3 := hx1.c 3 (.slice none 0 0) rfl
        have c4 := hx1.c 4 (.int .i64 0) rfl
        have c5 := hx1.c 5 (.int .i64 0) rfl
        have c6 := hx1.c 6 (.int .i64 0) rfl
        have c7 := hx1.c 7 (.slice none 0 0) rfl
        have c8 := hx1.c 8 (.slice none 0 0) rfl
        have f0 := hx1.f 0 (by decide)
        have f1 := hx1.f 1 (by decide)
        have f2 := hx1.f 2 (by decide)
        have f3 := hx1.f 3 (by decide)
        have f4 := hx1.f 4 (by decide)
        have f5 := hx1.f 5 (by decide)
        have f6 := hx1.f 6 (by decide)
        have f7 := hx1.f 7 (by decide)
        have f8 := hx1.f 8 (by decide)
        go_wp2
        obtain ⟨hX8, hk8⟩ := hx1.set9 (.int .i64 0) (.int .i64 0) (.int .i64 0) (.slice none 0 0) (.int .i64 0) (.int .i64 0) (.int .i64 0) (.slice none 0 0) (.slice none 0 0)
        unfold Go.Proofs.YtnfpkjnllkkngaaGreatDoor.set9 at hX8 hk8
        have R0 := hX8.c 0 (.int .i64 0) rfl
        have R1 := hX8.c 1 (.int .i64 0) rfl
        have R2 := hX8.c 2 (.int .i64 0) rfl
        have R3 := hX8.c 3 (.slice none 0 0) rfl
        have R4 := hX8.c 4 (.int .i64 0) rfl
        have R5 := hX8.c 5 (.int .i64 0) rfl
        have R6 := hX8.c 6 (.int .i64 0) rfl
        have R7 := hX8.c 7 (.slice none 0 0) rfl
        have R8 := hX8.c 8 (.slice none 0 0) rfl
        have HE8 := Lib.hid ((HBX.out.trans (hr5.mono (Nat.le_of_lt hlt1))).trans (hk8.below (by have := hr5.size; omega) (by simp)))
        refine bodyPost_ret (v := .tuple #[.agg #[.int .i64 0, .int .i64 0, .int .i64 0, .slice none 0 0, .int .i64 0, .int .i64 0, .int .i64 0, .slice none 0 0, .slice none 0 0], .int .i64 9]) (by simp [results, Tryz.results6, go_sem, R0, R1, R2, R3, R4, R5, R6, R7, R8]) rfl ?_
        exact HRX.out 9 _ h9.out (by decide) HE8.out
end Go.Proofs.YtnfpkjnllkkngaaGreatDoor
