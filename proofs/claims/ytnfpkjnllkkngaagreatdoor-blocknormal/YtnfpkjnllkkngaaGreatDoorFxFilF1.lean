import Derived.Test.YtnfpkjnllkkngaaGreatDoorFxFilC3

section
namespace Go.Proofs.YtnfpkjnllkkngaaGreatDoor.Fx
open Go.RowKit Go.Proofs Go.Proofs.PipeA Go.Proofs.LatM Go.Proofs.FilM
set_option maxRecDepth 100000

/-- A course's way to tell a residual, bound. -/
def tellV (cv : Value) : Value := .func (.func 71) #[cv] #[]

set_option maxHeartbeats 1600000 in
theorem cAll (cv : Value) (m : List Int) (w : World) (hm : m.length ≤ 100000)
    (ht : ∀ i (h : i < m.length) W, Below w.heap.size w W → Calls Tryz.prog 71 #[cv, .int .i64 (i : Int)] W fun e W' => e = .returned (.int .i64 m[i]) ∧ Below W.heap.size W W') :
    Calls Tryz.prog 69 #[.int .i64 (m.length : Int), tellV cv] w (NewIs m w) := by
  obtain ⟨cs, hcs, hmk⟩ := makeInts m.length (by omega)
  have HT := Lib.hid ht
  have HK := Lib.hid (keys_new (w := w) m hcs)
  have HB := Lib.hid (box_below w (.cells cs 3))
  clear ht hcs
  unfold tellV
  go_enter Tryz.func69, Tryz.ntmps69
  go_wp2
  go_loopg [6, 11] m.length (fun gk q1 i wr => ∃ j : Nat, j ≤ m.length ∧ gk + j = m.length ∧ i = .int .i64 j ∧ Hid (KeysAt wr w.heap.size m.length (fillV m j)) ∧ Hid (Below w.heap.size w wr) ∧ w.heap.size < wr.heap.size)
  case atStart => exact ⟨0, Nat.zero_le _, by omega, rfl, HK, HB, by simp⟩
  case round =>
    obtain ⟨j, hjc, hgk, rfl, HKA, HW, hsz⟩ := hrel
    have HGK := Lib.hid hgk
    clear hgk
    by_cases hlt : j < m.length
    · have HC := Lib.hid (HT.out j hlt wr HW.out)
      have HS : Hid (m.getD j 0 = m[j]) := getD_at hlt
      generalize m[j] = x at HC HS
      obtain ⟨kc, kf⟩ := HKA.out j hlt
      clear kc kf
      go_wp2_with fail
      refine HC.out.mono ?_
      rintro e w1 ⟨rfl, hb1⟩
      have HKA1 := Lib.hid (HKA.out.keeps (keeps_of_below hb1 []) (by simp) hsz)
      have HW1 := Lib.hid (HW.out.trans (hb1.mono HW.out.size))
      have hsz1 : w.heap.size < w1.heap.size := Nat.lt_of_lt_of_le hsz hb1.size
      obtain ⟨kc, kf⟩ := HKA1.out j hlt
      clear hb1 HC HKA HW
      go_wp2
      go_roundg (gk - 1)
      case rel => exact ⟨j + 1, by omega, by have := HGK.out; omega, by go_num, keys_step HKA1.out hlt HS.out.symm, HW1.out.setCell (p := ⟨w.heap.size, j, none⟩) (Nat.le_refl _) _, by simpa using hsz1⟩
      case measure => have := HGK.out; omega
    · obtain rfl : j = m.length := by omega
      have HF : Hid (NewIs m w (.returned (.slice (some ⟨w.heap.size, 0, none⟩) m.length m.length)) wr) :=
        ⟨w.heap.size, rfl, keys_ints HKA.out rfl rfl hsz, Nat.le_refl _, hsz, HW.out⟩
      go_wp2
      go_ret
      exact HF.out

/-- What Residuals leaves. -/
def ResIs (l xs : List Int) (w : World) (e : Ending) (w' : World) : Prop :=
  (codeR l xs ≠ 0 ∧ e = .returned (.tuple #[.slice none 0 0, .int .i64 (codeR l xs)]) ∧ Below w.heap.size w w') ∨
  (codeR l xs = 0 ∧ ∃ H, e = .returned (.tuple #[.slice (some ⟨H, 0, none⟩) xs.length xs.length, .int .i64 0]) ∧ IntsAt w' (some ⟨H, 0, none⟩) (res l xs) ∧ w.heap.size ≤ H ∧ H < w'.heap.size ∧ Below w.heap.size w w')

set_option maxHeartbeats 1600000 in
theorem cResiduals (ao bo : Option Addr) (cap cap2 : Nat) (l xs : List Int) (w : World) (hll : l.length ≤ 9223372036854775807) (hxl : xs.length ≤ 100000) (hcap : xs.length ≤ cap2) (hi : IntsAt w ao l) (hj : IntsAt w bo xs) :
    Calls Tryz.prog 45 #[.slice ao l.length cap, .slice bo xs.length cap2] w (ResIs l xs w) := by
  have HG := Lib.hid (cGood ao cap l w hll hi)
  have HC := Lib.hid (cContainsNoSample bo cap2 xs w (by omega) hj)
  rw [any_not] at HC
  have hmf : ∀ (fn : Fn) (first cap : Array Value) (w : World), (Instr.makeFunc fn first cap).run Tryz.prog w = .ok (.func fn first cap) w := fun _ _ _ _ => rfl
  cases hgd : goodL l with
  | false =>
    have hcd : codeR l xs = 1 := by unfold codeR; rw [hgd]; rfl
    rw [hgd] at HG
    have HF := fun W (h : Below w.heap.size w W) => (Or.inl ⟨by omega, by rw [hcd], h⟩ : ResIs l xs w (.returned (.tuple #[.slice none 0 0, .int .i64 1])) W)
    have HFH := Lib.hid HF
    clear hi hj hcd HF
    go_enter Tryz.func45, Tryz.ntmps45
    go_wp2_with fail
    refine HG.out.mono ?_
    rintro e w1 ⟨rfl, rfl⟩
    go_wp2
    refine bodyPost_ret (v := .tuple #[.slice none 0 0, .int .i64 1]) (by simp [results, Tryz.results45, go_sem]) rfl ?_
    exact HFH.out _ (Below.refl _ _)
  | true =>
    rw [hgd] at HG
    cases hs : xs.all isS with
    | false =>
      have hcd : codeR l xs = 9 := by unfold codeR; rw [hgd, hs]; rfl
      rw [hs] at HC
      have HF := fun W (h : Below w.heap.size w W) => (Or.inl ⟨by omega, by rw [hcd], h⟩ : ResIs l xs w (.returned (.tuple #[.slice none 0 0, .int .i64 9])) W)
      have HFH := Lib.hid HF
      clear hi hj hcd HF
      go_enter Tryz.func45, Tryz.ntmps45
      go_wp2_with fail
      refine HG.out.mono ?_
      rintro e w1 ⟨rfl, rfl⟩
      go_wp2_with fail
      refine HC.out.mono ?_
      rintro e w1 ⟨rfl, rfl⟩
      go_wp2
      refine bodyPost_ret (v := .tuple #[.slice none 0 0, .int .i64 9]) (by simp [results, Tryz.results45, go_sem]) rfl ?_
      exact HFH.out _ (Below.refl _ _)
    | true =>
      have HCD : Hid (codeR l xs = 0) := by show _ = _; unfold codeR; rw [hgd, hs]; rfl
      rw [hs] at HC
      have HP := Lib.hid (cPredictorOf ao cap l w hgd hi)
      have hl16 := good_len hgd
      have HJ := Lib.hid hj
      have HGD := Lib.hid hgd
      have HSS := Lib.hid hs
      clear hi hj hgd hs
      go_enter Tryz.func45, Tryz.ntmps45
      go_wp2_with fail
      refine HG.out.mono ?_
      rintro e w1 ⟨rfl, rfl⟩
      go_wp2_with fail
      refine HC.out.mono ?_
      rintro e w1 ⟨rfl, rfl⟩
      go_wp2_with fail
      refine HP.out.mono ?_
      rintro e w2 ⟨G, pcap, rfl, hP, hG, hpc, hb2⟩
      have HAL : Hid (Calls Tryz.prog 69 #[.int .i64 (xs.length : Int), tellV (courseV G pcap l.length bo xs.length cap2)] w2 (NewIs (res l xs) w2)) := by
        have := cAll (courseV G pcap l.length bo xs.length cap2) (res l xs) w2 (by rw [res_length]; omega) (fun i h W hW => by
          rw [res_length] at h
          have := cUnforeseen G pcap l.length bo cap2 i l xs W HGD.out hl16 h (by omega) hcap HSS.out (hP.below hW) ((HJ.out.below hb2).below hW)
          rw [foreM_all] at this
          rw [res_at h]
          exact this)
        rw [res_length] at this
        exact this
      have HB2 := Lib.hid hb2
      unfold tellV courseV at HAL
      clear hP hb2 hG hpc
      go_wp2_with fail
      refine HAL.out.mono ?_
      rintro e w3 ⟨H, rfl, h1, h2, h3, h4⟩
      rw [res_length]
      have HF : Hid (ResIs l xs w (.returned (.tuple #[.slice (some ⟨H, 0, none⟩) xs.length xs.length, .int .i64 0])) w3) :=
        .inr ⟨HCD.out, H, rfl, h1, by have := HB2.out.size; omega, h3, HB2.out.trans (h4.mono HB2.out.size)⟩
      clear h1 h2 h3 h4
      go_wp2
      refine bodyPost_ret (v := .tuple #[.slice (some ⟨H, 0, none⟩) xs.length xs.length, .int .i64 0]) (by simp [results, Tryz.results45, go_sem]) rfl ?_
      exact HF.out
end Go.Proofs.YtnfpkjnllkkngaaGreatDoor.Fx
end

section
namespace Go.Proofs.YtnfpkjnllkkngaaGreatDoor.Fx
open Go.RowKit Go.Proofs Go.Proofs.PipeA Go.Proofs.LatM Go.Proofs.FilM
set_option maxRecDepth 100000

/-- Where a slice of a slice lies. -/
def cutA (a : Option Addr) (cap lo : Nat) : Option Addr := if cap = lo then a else a.map (fun x => x.add lo)
theorem cut_left0 (a : Option Addr) (len cap hi : Nat) (h2 : hi ≤ cap) (W : World) :
    (Instr.slice 22 (.slice a len cap) none (some (.int .i64 (hi : Int))) none).run Tryz.prog W = .ok (.slice (cutA a cap 0) hi cap) W := by
  simp [Instr.slice, run_underlying Tryz.underlying22, Instr.sliceBounds, Instr.sliceBound, asIntOf, h2, cutA]
theorem IntsAt.cut0 {W : World} {a : Option Addr} {l : List Int} (h : IntsAt W a l) (cap c : Nat) : IntsAt W (cutA a cap 0) (l.take c) := by
  intro j hj
  have hj' : j < l.length := by simp at hj; omega
  obtain ⟨b, off, rfl, hb, hcell⟩ := h j hj'
  refine ⟨b, off, ?_, hb, ?_⟩
  · unfold cutA
    split
    · rfl
    · simp [Addr.add_lit]
  · rw [hcell]; simp
theorem good_take {l : List Int} (h : goodL l = true) (c : Nat) : goodL (l.take c) = true := by
  have hl := good_len h
  unfold goodL at h ⊢
  rw [Bool.and_eq_true] at h ⊢
  exact ⟨List.all_eq_true.2 fun x hx => List.all_eq_true.1 h.1 x (List.mem_of_mem_take hx), decide_eq_true (by simp; omega)⟩

set_option maxHeartbeats 1600000 in
theorem rForesee (ao bo : Option Addr) (cap cap2 : Nat) (l p : List Int) (w : World) (hg : goodL l = true) (hcap : l.length ≤ cap) (hpl : p.length ≤ 100000000) (hp : ∀ y ∈ p, -67108865 ≤ y ∧ y ≤ 67108864) (hi : IntsAt w ao l) (hj : IntsAt w bo p) :
    Calls Tryz.prog 51 #[.slice ao l.length cap, .slice bo p.length cap2] w fun e w' => e = .returned (.int .i64 (fore l p)) ∧ Below w.heap.size w w' := by
  have hl16 := good_len hg
  obtain ⟨q, hq⟩ : ∃ q, q = min l.length p.length := ⟨_, rfl⟩
  have hql : (l.take q).length = q := by rw [List.length_take]; omega
  have hcut := cut_left0 ao l.length cap q (by omega)
  have HC := Lib.hid (rCoefs (cutA ao cap 0) cap (l.take q) w (good_take hg q) (hi.cut0 cap q))
  rw [hql, cf_take l (Nat.le_refl q)] at HC
  have HPR := fun (co : Option Addr) (ccap : Nat) (W : World) (hc : IntsAt W co (cf l q)) (hj : IntsAt W bo p) => Lib.hid (rPredictP co bo ccap cap2 (cf l q) p W ⟨by rw [cf_length]; omega, hpl, prod_small hg (by omega) hp⟩ hc hj)
  have HFR : Hid (fore l p = pred (cf l q) p) := by show _ = _; unfold fore; rw [hq]
  rw [HFR.out]
  simp only [cf_length] at HPR
  generalize pred (cf l q) p = r at HPR
  have HJ := Lib.hid hj
  generalize cutA ao cap 0 = ac at hcut HC
  clear hi hj hp hg hql HFR
  rcases Nat.lt_or_ge p.length l.length with h | h
  · obtain rfl : q = p.length := by omega
    clear hq
    go_enter Tryz.func51, Tryz.ntmps51
    go_wp2_with fail
    refine HC.out.mono ?_
    rintro e w1 ⟨ao1, cap1, rfl, hi1, hb1⟩
    rw [cf_length]
    have HP := HPR ao1 cap1 w1 hi1 (HJ.out.below hb1)
    have HB1 := Lib.hid hb1
    clear hi1 hb1 HPR
    go_wp2_with fail
    refine HP.out.mono ?_
    rintro e w2 ⟨rfl, k2, hw2⟩
    have HB2 : Hid (Below w.heap.size w w2) := by show Below _ _ _; rw [hw2]; exact below_drewN HB1.out _
    clear hw2
    go_wp2
    go_ret
    exact ⟨rfl, HB2.out⟩
  · obtain rfl : q = l.length := by omega
    clear hq
    go_enter Tryz.func51, Tryz.ntmps51
    go_wp2_with fail
    refine HC.out.mono ?_
    rintro e w1 ⟨ao1, cap1, rfl, hi1, hb1⟩
    rw [cf_length]
    have HP := HPR ao1 cap1 w1 hi1 (HJ.out.below hb1)
    have HB1 := Lib.hid hb1
    clear hi1 hb1 HPR
    go_wp2_with fail
    refine HP.out.mono ?_
    rintro e w2 ⟨rfl, k2, hw2⟩
    have HB2 : Hid (Below w.heap.size w w2) := by show Below _ _ _; rw [hw2]; exact below_drewN HB1.out _
    clear hw2
    go_wp2
    go_ret
    exact ⟨rfl, HB2.out⟩

/-- What the document's Residuals leaves. -/
def ResR (l xs : List Int) (w : World) (e : Ending) (w' : World) : Prop :=
  (codeR l xs ≠ 0 ∧ e = .returned (.tuple #[.slice none 0 0, .int .i64 (codeR l xs)]) ∧ Below w.heap.size w w') ∨
  (codeR l xs = 0 ∧ ∃ ao cap, e = .returned (.tuple #[.slice ao xs.length cap, .int .i64 0]) ∧ IntsAt w' ao (res l xs) ∧ Below w.heap.size w w')

set_option maxHeartbeats 3200000 in
theorem rResiduals (ao bo : Option Addr) (cap cap2 : Nat) (l xs : List Int) (w : World) (hll : l.length ≤ 9223372036854775807) (hcap : l.length ≤ cap) (hxl : xs.length ≤ 100000) (hcap2 : xs.length ≤ cap2) (hi : IntsAt w ao l) (hj : IntsAt w bo xs) :
    Calls Tryz.prog 27 #[.slice ao l.length cap, .slice bo xs.length cap2] w (ResR l xs w) := by
  obtain ⟨i0, hii, hz0, hz1, hz2⟩ := info_parts info_int
  have HG := Lib.hid (rGood ao cap l w hll hi)
  cases hgd : goodL l with
  | false =>
    have hcd : codeR l xs = 1 := by unfold codeR; rw [hgd]; rfl
    rw [hgd] at HG
    have HF := fun W (h : Below w.heap.size w W) => (Or.inl ⟨by omega, by rw [hcd], h⟩ : ResR l xs w (.returned (.tuple #[.slice none 0 0, .int .i64 1])) W)
    have HFH := Lib.hid HF
    clear hi hj hcd HF
    go_enter Tryz.func27, Tryz.ntmps27
    go_wp2_with fail
    refine HG.out.mono ?_
    rintro e w1 ⟨rfl, rfl⟩
    go_wp2
    refine bodyPost_ret (v := .tuple #[.slice none 0 0, .int .i64 1]) (by simp [results, Tryz.results27, go_sem]) rfl ?_
    exact HFH.out _ (Below.refl _ _)
  | true =>
    rw [hgd] at HG
    have HGD := Lib.hid hgd
    have HI := Lib.hid hi
    have HJ := Lib.hid hj
    clear hgd hi hj
    go_enter Tryz.func27, Tryz.ntmps27
    go_wp2_with fail
    refine HG.out.mono ?_
    rintro e w1 ⟨rfl, rfl⟩
    go_wp2
    go_loopg [6, 14] xs.length (fun gk q i wr => ∃ c : Nat, c ≤ xs.length ∧ gk + c = xs.length ∧ i = .int .i64 c ∧ Hid ((xs.take c).all isS = true) ∧ wr = w)
    case atStart => exact ⟨0, Nat.zero_le _, by omega, rfl, by simp [Hid], rfl⟩
    case round =>
      obtain ⟨c, hc, hgk, rfl, HT, rfl⟩ := hrel
      have HGK := Lib.hid hgk
      clear hgk
      by_cases hlt : c < xs.length
      · obtain ⟨b, off, rfl, hb, hcell⟩ := HJ.out c hlt
        have HNX : Hid (isS xs[c] = true → (xs.take (c + 1)).all isS = true) := fun h => by rw [List.take_succ_eq_append_getElem hlt, List.all_append, HT.out]; simp [h]
        have HMem : Hid (isS xs[c] = false → xs.all isS = false) := fun h => by
          cases ha : xs.all isS with
          | false => rfl
          | true => rw [List.all_eq_true.1 ha _ (List.getElem_mem hlt)] at h; cases h
        generalize xs[c] = x at hcell HNX HMem
        clear hb
        rcases NoSample_cases x with ⟨t1, t2⟩ | ⟨t1, t2, t3⟩ | ⟨t1, t2, t3⟩
        · have HM2 := Lib.hid (HMem.out t2)
          have HF : Hid (ResR l xs wr (.returned (.tuple #[.slice none 0 0, .int .i64 9])) wr) := by
            have hcd : codeR l xs = 9 := by unfold codeR; rw [HGD.out, HM2.out]; rfl
            exact .inl ⟨by omega, by rw [hcd], Below.refl _ _⟩
          clear t2 HNX HMem
          go_wp2
          refine bodyPost_ret (v := .tuple #[.slice none 0 0, .int .i64 9]) (by simp [results, Tryz.results27, go_sem]) rfl ?_
          exact HF.out
        · have HM2 := Lib.hid (HMem.out t3)
          have HF : Hid (ResR l xs wr (.returned (.tuple #[.slice none 0 0, .int .i64 9])) wr) := by
            have hcd : codeR l xs = 9 := by unfold codeR; rw [HGD.out, HM2.out]; rfl
            exact .inl ⟨by omega, by rw [hcd], Below.refl _ _⟩
          clear t3 HNX HMem
          go_wp2
          refine bodyPost_ret (v := .tuple #[.slice none 0 0, .int .i64 9]) (by simp [results, Tryz.results27, go_sem]) rfl ?_
          exact HF.out
        · have HN2 := Lib.hid (HNX.out t3)
          clear t3 HNX HMem
          go_wp2
          go_roundg (gk - 1)
          case rel => exact ⟨c + 1, by omega, by have := HGK.out; omega, by go_num, HN2, rfl⟩
          case measure => have := HGK.out; omega
      · obtain rfl : c = xs.length := by omega
        have HS : Hid (xs.all isS = true) := by have := HT.out; rwa [List.take_length] at this
        obtain ⟨W1, rfl⟩ : ∃ W1, W1 = wr := ⟨_, rfl⟩
        clear HT HGK hlt hc
        go_wp2
        go_loopg [7, 8, 32] xs.length (fun gk va q i wr => ∃ j : Nat, j ≤ xs.length ∧ gk + j = xs.length ∧ i = .int .i64 j ∧ wr.ownsRow W1.heap.size 3 1 va j (intsOf ((res l xs).take j)) ∧ Hid (Below W1.heap.size W1 wr))
        case atStart => exact ⟨0, Nat.zero_le _, by omega, rfl, World.ownsRow_nil _ _ _ _, Below.refl _ _⟩
        case round =>
          obtain ⟨j, hj, hgk, rfl, hown, HW⟩ := hrel
          have HGK := Lib.hid hgk
          clear hgk
          by_cases hlt : j < xs.length
          · obtain ⟨b, off, rfl, hb, hcell⟩ := HJ.out j hlt
            have y0 : wr.cell? ⟨b, off + j, none⟩ = some (.int .i64 xs[j]) := (HW.out.cell (p := ⟨b, off + j, none⟩) hb).trans hcell
            have hbr : b < wr.heap.size := Nat.lt_of_lt_of_le hb HW.out.size
            have hcut := cut_left0 (some ⟨b, off, none⟩) xs.length cap2 j (by omega)
            have hrs := res_small HGD.out HS.out hlt
            have hxb := all_S HS.out _ (List.getElem_mem hlt)
            have HNEW : Hid (intsOf ((res l xs).take (j + 1)) = intsOf ((res l xs).take j) ++ [.int .i64 (xs[j] - fore l (xs.take j))]) := by
              show _ = _
              rw [intsOf_take (by rw [res_length]; exact hlt), res_at hlt]
            have HFO : Hid (∀ W, Below W1.heap.size W1 W → Calls Tryz.prog 51 #[.slice ao l.length cap, .slice (cutA (some ⟨b, off, none⟩) cap2 0) j cap2] W fun e W' => e = .returned (.int .i64 (fore l (xs.take j))) ∧ Below W.heap.size W W') := fun W hW => by
              have := rForesee ao (cutA (some ⟨b, off, none⟩) cap2 0) cap cap2 l (xs.take j) W HGD.out hcap (by rw [List.length_take]; omega) (fun y hy => by have := all_S HS.out y (List.mem_of_mem_take hy); omega) (HI.out.below hW) ((HJ.out.below hW).cut0 cap2 j)
              rwa [List.length_take, Nat.min_eq_left (by omega)] at this
            generalize fore l (xs.take j) = f at hrs HNEW HFO
            generalize xs[j] = x at y0 hrs hxb HNEW hcell
            generalize cutA (some ⟨b, off, none⟩) cap2 0 = bo' at hcut HFO
            obtain ⟨xr, hxre⟩ : ∃ xr, xr = x - f := ⟨_, rfl⟩
            have w4 : IntKind.i64.wrap (x - f) = xr := by rw [hxre]; exact IntWalk.i64_in _ (by omega)
            rw [← hxre] at HNEW
            have HFAR := Lib.hid (own_far hown (show b < W1.heap.size from hb))
            have hszr := HW.out.size
            clear hxre hrs hxb hcell hb hcap hcap2
            go_wp2_with fail
            go_region_held3 (fun w' => w'.cell? ⟨b, off + j, none⟩ = some (.int .i64 x))
              (first
                | exact y0
                | exact p0
                | exact cellA (a := ⟨b, off + j, none⟩) _ hb5 p0
                | exact (hgrow.cell_far ⟨b, off + j, none⟩ (by simp; omega) HFAR.out).trans (cellA (a := ⟨b, off + j, none⟩) _ hb5 p0)
                | fail)
              (first
                | (go_at_call 51; refine (HFO.out _ (HW.out.trans ((keeps_drew_b wr []).below HW.out.size (by simp)))).mono ?_; rintro e w5 ⟨rfl, hbl5⟩; have hbl5' : Below wr.heap.size wr w5 := ((keeps_drew_b wr []).below (Nat.le_refl _) (by simp)).trans hbl5; have p0 := (hbl5'.cell (p := ⟨b, off + j, none⟩) hbr).trans y0; have hb5 : b < w5.heap.size := Nat.lt_of_lt_of_le hbr hbl5'.size; have hs5 := hbl5'.size; have HB5 := Lib.hid hbl5'; have hown' := ownsRow_below hown hbl5'; clear hbl5 hbl5')
                | (refine step_append_lies _ (by rfl) _ _ 22 (by rfl) W1.heap.size 3 i0 (.int .i64 0) 1 8 Tryz.underlying22 hii hz0 hz1 hz2 rfl (by decide) _ j (intsOf ((res l xs).take j)) (by rfl) (hown'.alloc (.cells #[.int .i64 xr] 3)) ⟨w5.heap.size, 0, none⟩ 1 1 [.int .i64 xr] (by rfl) (by rfl) (World.news_of_block (cs := #[.int .i64 xr]) (t := 3) (fr := (0, 0)) (World.alloc_heap_new _ _)) (by intro u hu; simp at hu; subst hu; rfl) (by omega) (by unfold maxLen; omega) (by omega) (by simp; omega) _ rfl ?_; intro g6 cap6 w6 hown6 hgrow hat hlt6)
                | fail)
            rw [← HNEW.out] at hown6
            have HW6 : Hid (Below W1.heap.size W1 w6) := ((HW.out.trans (HB5.out.mono HW.out.size)).trans ((box_below w5 (.cells #[.int .i64 xr] 3)).mono (by omega))).grown hgrow (by simp; omega) (by intro x hx; exact (own_block_lt hown x hx).1)
            clear hgrow hat hlt6 hown hown'
            go_wp2
            go_roundg (gk - 1)
            case rel => exact ⟨j + 1, by omega, by have := HGK.out; omega, by go_num, hown6, HW6⟩
            case measure => have := HGK.out; omega
          · obtain rfl : j = xs.length := by omega
            obtain ⟨aao, acap, rfl, _⟩ := own_slice hown
            have HF : Hid (ResR l xs W1 (.returned (.tuple #[.slice aao xs.length acap, .int .i64 0])) wr) := by
              refine .inr ⟨by unfold codeR; rw [HGD.out, HS.out]; rfl, aao, acap, rfl, ?_, HW.out⟩
              have h := hown
              rw [List.take_of_length_le (by rw [res_length]; exact Nat.le_refl _)] at h
              have e := res_length l xs
              exact ints_own (cap := acap) (by rw [e]; exact h)
            go_wp2
            refine bodyPost_ret (v := .tuple #[.slice aao xs.length acap, .int .i64 0]) (by simp [results, Tryz.results27, go_sem]) rfl ?_
            exact HF.out
end Go.Proofs.YtnfpkjnllkkngaaGreatDoor.Fx
end
