import Derived.Test.YtnfpkjnllkkngaaGreatDoorFxFilF1

section
namespace Go.Proofs.YtnfpkjnllkkngaaGreatDoor.Fx
open Go.RowKit Go.Proofs Go.Proofs.PipeA Go.Proofs.LatM Go.Proofs.FilM
set_option maxRecDepth 100000

/-- make([]int, 0, n): a row of one's own, empty yet. -/
theorem makeRoom (n : Nat) (hn : n ≤ 100000) : ∃ cs : Array Value, (∀ W : World, (Instr.makeSlice 22 (.int .i64 0) (.int .i64 (n : Int))).run Tryz.prog W = .ok (.slice (some ⟨W.heap.size, 0, none⟩) 0 n) (W.alloc (.cells cs 3))) ∧
    ∀ (W : World) base, base ≤ W.heap.size → (W.alloc (.cells cs 3)).ownsRow base 3 1 (.slice (some ⟨W.heap.size, 0, none⟩) 0 n) 0 [] := by
  obtain ⟨i0, hi, hz0, hz1, hz2⟩ := info_parts info_int
  refine ⟨madeCells (Value.cells (.int .i64 0)) (n * i0.size), fun W => ?_, fun W base hb => ?_⟩
  · have := run_make (P := Tryz.prog) W 22 3 i0 (.int .i64 0) Tryz.underlying22 hi hz0 .i64 .i64 0 n (by omega) (by omega) (by rw [hz2]; omega) (by omega)
    simpa using this
  · refine ⟨rfl, .inr ⟨W.heap.size, n, _, rfl, hb, World.alloc_heap_new _ _, Nat.zero_le _, by unfold maxLen; omega, ?_, by simp⟩⟩
    simp [hz1, madeCells, Value.cells]

theorem inM_cases (most x : Int) : (decide (x < -most - 1) = true ∧ inM most x = false) ∨ (decide (x < -most - 1) = false ∧ decide (most < x) = true ∧ inM most x = false) ∨ (decide (x < -most - 1) = false ∧ decide (most < x) = false ∧ inM most x = true) := by
  unfold inM
  by_cases h1 : x < -most - 1
  · exact .inl ⟨decide_eq_true h1, decide_eq_false (by omega)⟩
  · by_cases h2 : most < x
    · exact .inr (.inl ⟨decide_eq_false h1, decide_eq_true h2, decide_eq_false (by omega)⟩)
    · exact .inr (.inr ⟨decide_eq_false h1, decide_eq_false h2, decide_eq_true (by omega)⟩)
theorem smp_next {l rs : List Int} {most : Int} {c : Nat} (hc : c < rs.length) (h : (smp l rs c).all (inM most) = true) (hx : inM most (rs[c] + fore l (smp l rs c)) = true) : (smp l rs (c + 1)).all (inM most) = true := by
  rw [smp, List.all_append, h, getD_at hc]; simp [hx]
theorem smp_bad {l rs : List Int} {most : Int} {c : Nat} (hc : c < rs.length) (hx : inM most (rs[c] + fore l (smp l rs c)) = false) : (smp l rs rs.length).all (inM most) = false := by
  cases ha : (smp l rs rs.length).all (inM most) with
  | false => rfl
  | true =>
    have h1 := smp_at l rs hc
    rw [getD_at hc] at h1
    have h2 := List.all_eq_true.1 ha _ (List.getElem_mem (show c < (smp l rs rs.length).length by rw [smp_length]; exact hc))
    rw [h1, hx] at h2
    cases h2
theorem most_cases (most : Int) : (decide (most < 0) = true ∧ ¬ (0 ≤ most ∧ most ≤ 67108864)) ∨ (decide (most < 0) = false ∧ decide (67108864 < most) = true ∧ ¬ (0 ≤ most ∧ most ≤ 67108864)) ∨ (decide (most < 0) = false ∧ decide (67108864 < most) = false ∧ (0 ≤ most ∧ most ≤ 67108864)) := by
  by_cases h1 : most < 0
  · exact .inl ⟨decide_eq_true h1, by omega⟩
  · by_cases h2 : 67108864 < most
    · exact .inr (.inl ⟨decide_eq_false h1, decide_eq_true h2, by omega⟩)
    · exact .inr (.inr ⟨decide_eq_false h1, decide_eq_false h2, by omega⟩)
theorem codeS_most {l rs : List Int} {most : Int} (h : ¬ (0 ≤ most ∧ most ≤ 67108864)) : codeS l rs most = 1 := by
  unfold codeS
  rw [if_neg (by simp only [Bool.and_eq_true, decide_eq_true_eq]; intro hh; exact h ⟨hh.1.2, hh.2⟩)]
theorem codeS_good {l rs : List Int} {most : Int} (h : goodL l = false) : codeS l rs most = 1 := by
  unfold codeS; rw [h]; rfl
theorem codeS_ok {l rs : List Int} {most : Int} (h : goodL l = true) (hm : 0 ≤ most ∧ most ≤ 67108864) : codeS l rs most = if rs.all isR then (if (smp l rs rs.length).all (inM most) then 0 else 9) else 9 := by
  unfold codeS; rw [h, if_pos (by simp [hm.1, hm.2])]

/-- What Samples leaves. -/
def SmpIs (l rs : List Int) (most : Int) (w : World) (e : Ending) (w' : World) : Prop :=
  (codeS l rs most ≠ 0 ∧ e = .returned (.tuple #[.slice none 0 0, .int .i64 (codeS l rs most)]) ∧ Below w.heap.size w w') ∨
  (codeS l rs most = 0 ∧ ∃ ao cap, e = .returned (.tuple #[.slice ao rs.length cap, .int .i64 0]) ∧ IntsAt w' ao (smp l rs rs.length) ∧ rs.length ≤ cap ∧ Below w.heap.size w w')
theorem SmpIs.no {l rs : List Int} {most cd : Int} {w w' : World} (h : codeS l rs most = cd) (h0 : cd ≠ 0) (hb : Below w.heap.size w w') : SmpIs l rs most w (.returned (.tuple #[.slice none 0 0, .int .i64 cd])) w' := by
  subst h; exact .inl ⟨h0, rfl, hb⟩
theorem own_cap {w : World} {base size n cap : Nat} {e : TypeId} {xs : List Value} {ao : Option Addr} (h : w.ownsRow base e size (.slice ao n cap) n xs) : n ≤ cap := by
  rcases h.2 with ⟨h1, h2⟩ | ⟨g, cap', cur, h1, _, _, h3, _⟩
  · omega
  · simp only [Value.slice.injEq] at h1
    obtain ⟨_, _, rfl⟩ := h1
    exact h3

end Go.Proofs.YtnfpkjnllkkngaaGreatDoor.Fx
end

section
namespace Go.Proofs.YtnfpkjnllkkngaaGreatDoor.Fx
open Go.RowKit Go.Proofs Go.Proofs.PipeA Go.Proofs.LatM Go.Proofs.FilM
set_option maxRecDepth 100000

/-- A row of numbers, of n of them, in memory that is new. -/
def NewRow (w w' : World) (ao : Option Addr) (n : Nat) : Prop := n = 0 ∨ ∃ H cur, ao = some ⟨H, 0, none⟩ ∧ w.heap.size ≤ H ∧ w'.heap[H]? = some (.cells cur 3 (0, 0))
theorem own_new {w w2 wr : World} {ao : Option Addr} {n cap : Nat} {xs : List Value} (h : wr.ownsRow w2.heap.size 3 1 (.slice ao n cap) n xs) (hs : w.heap.size ≤ w2.heap.size) : NewRow w wr ao n := by
  rcases h.2 with ⟨_, h2⟩ | ⟨g, cap', cur, h1, h3, h4, _⟩
  · exact .inl h2
  · simp only [Value.slice.injEq] at h1
    exact .inr ⟨g, cur, h1.1, by omega, h4⟩
/-- What Samples leaves, in memory that is new. -/
def SmpNew (l rs : List Int) (most : Int) (w : World) (e : Ending) (w' : World) : Prop :=
  (codeS l rs most ≠ 0 ∧ e = .returned (.tuple #[.slice none 0 0, .int .i64 (codeS l rs most)]) ∧ Below w.heap.size w w') ∨
  (codeS l rs most = 0 ∧ ∃ ao cap, e = .returned (.tuple #[.slice ao rs.length cap, .int .i64 0]) ∧ IntsAt w' ao (smp l rs rs.length) ∧ rs.length ≤ cap ∧ Below w.heap.size w w' ∧ NewRow w w' ao rs.length)
theorem SmpNew.no {l rs : List Int} {most cd : Int} {w w' : World} (h : codeS l rs most = cd) (h0 : cd ≠ 0) (hb : Below w.heap.size w w') : SmpNew l rs most w (.returned (.tuple #[.slice none 0 0, .int .i64 cd])) w' := by
  subst h; exact .inl ⟨h0, rfl, hb⟩

set_option maxHeartbeats 3200000 in
theorem cSamplesN (ao bo : Option Addr) (cap cap2 : Nat) (l rs : List Int) (most : Int) (w : World) (hmw : -9223372036854775808 ≤ most ∧ most ≤ 9223372036854775807) (hll : l.length ≤ 9223372036854775807) (hxl : rs.length ≤ 100000) (hi : IntsAt w ao l) (hj : IntsAt w bo rs) :
    Calls Tryz.prog 84 #[.slice ao l.length cap, .slice bo rs.length cap2, .int .i64 most] w (SmpNew l rs most w) := by
  obtain ⟨i0, hii, hz0, hz1, hz2⟩ := info_parts info_int
  have HG := Lib.hid (cGood ao cap l w hll hi)
  have HC := Lib.hid (cContainsTooFar bo cap2 rs w (by omega) hj)
  rw [any_not] at HC
  cases hgd : goodL l with
  | false =>
    have HN := Lib.hid (SmpNew.no (w := w) (w' := w) (codeS_good (rs := rs) (most := most) hgd) (by omega) (Below.refl _ _))
    rw [hgd] at HG
    clear hi hj hgd
    go_enter Tryz.func84, Tryz.ntmps84
    go_wp2_with fail
    refine HG.out.mono ?_
    rintro e w1 ⟨rfl, rfl⟩
    go_wp2
    refine bodyPost_ret (v := .tuple #[.slice none 0 0, .int .i64 1]) (by simp [results, Tryz.results84, go_sem]) rfl ?_
    exact HN.out
  | true =>
    rw [hgd] at HG
    rcases most_cases most with ⟨t1, t2⟩ | ⟨t1, t2, t3⟩ | ⟨t1, t2, t3⟩
    · have HN := Lib.hid (SmpNew.no (w := w) (w' := w) (codeS_most (l := l) (rs := rs) t2) (by omega) (Below.refl _ _))
      clear hi hj hgd t2
      go_enter Tryz.func84, Tryz.ntmps84
      go_wp2_with fail
      refine HG.out.mono ?_
      rintro e w1 ⟨rfl, rfl⟩
      go_wp2
      refine bodyPost_ret (v := .tuple #[.slice none 0 0, .int .i64 1]) (by simp [results, Tryz.results84, go_sem]) rfl ?_
      exact HN.out
    · have HN := Lib.hid (SmpNew.no (w := w) (w' := w) (codeS_most (l := l) (rs := rs) t3) (by omega) (Below.refl _ _))
      clear hi hj hgd t3
      go_enter Tryz.func84, Tryz.ntmps84
      go_wp2_with fail
      refine HG.out.mono ?_
      rintro e w1 ⟨rfl, rfl⟩
      go_wp2
      refine bodyPost_ret (v := .tuple #[.slice none 0 0, .int .i64 1]) (by simp [results, Tryz.results84, go_sem]) rfl ?_
      exact HN.out
    · have hcd := codeS_ok (rs := rs) hgd t3
      cases hs : rs.all isR with
      | false =>
        rw [hs] at hcd HC
        rw [if_neg (by simp)] at hcd
        have HN := Lib.hid (SmpNew.no (w := w) (w' := w) hcd (by omega) (Below.refl _ _))
        clear hi hj hgd hcd t3 hs
        go_enter Tryz.func84, Tryz.ntmps84
        go_wp2_with fail
        refine HG.out.mono ?_
        rintro e w1 ⟨rfl, rfl⟩
        go_wp2_with fail
        refine HC.out.mono ?_
        rintro e w1 ⟨rfl, rfl⟩
        go_wp2
        refine bodyPost_ret (v := .tuple #[.slice none 0 0, .int .i64 9]) (by simp [results, Tryz.results84, go_sem]) rfl ?_
        exact HN.out
      | true =>
        rw [hs] at hcd HC
        rw [if_pos rfl] at hcd
        have HCD := Lib.hid hcd
        have HP := Lib.hid (cPredictorOf ao cap l w hgd hi)
        have hl16 := good_len hgd
        have HJ := Lib.hid hj
        have HGD := Lib.hid hgd
        have HSS := Lib.hid hs
        have HM := Lib.hid t3
        have hm0 := t3.1
        have hm1 := t3.2
        obtain ⟨cs, hmk, hmo⟩ := makeRoom rs.length hxl
        have HMO := Lib.hid hmo
        clear hi hj hgd hs hcd t3 hmo
        go_enter Tryz.func84, Tryz.ntmps84
        go_wp2_with fail
        refine HG.out.mono ?_
        rintro e w1 ⟨rfl, rfl⟩
        go_wp2_with fail
        refine HC.out.mono ?_
        rintro e w1 ⟨rfl, rfl⟩
        go_wp2_with fail
        refine HP.out.mono ?_
        rintro e w2 ⟨G, pcap, rfl, hP, hG, hpc, hb2⟩
        have HO0 := Lib.hid (HMO.out w2 w2.heap.size (Nat.le_refl _))
        have HP2 := Lib.hid hP
        have HB2 := Lib.hid hb2
        have hsz2 := hb2.size
        have hsz0 : w2.heap.size + 1 ≤ (w2.alloc (.cells cs 3)).heap.size := by simp
        have HBA := Lib.hid (box_below w2 (.cells cs 3))
        clear hP hG hpc hb2 HMO HG HC HP
        go_wp2
        go_loopg [9, 11, 12, 33] rs.length (fun gk va q1 q2 i wr => ∃ c : Nat, c ≤ rs.length ∧ gk + c = rs.length ∧ i = .int .i64 c ∧ wr.ownsRow w2.heap.size 3 1 va c (intsOf (smp l rs c)) ∧ Hid ((smp l rs c).all (inM most) = true) ∧ Hid (Below w2.heap.size w2 wr))
        case atStart => exact ⟨0, Nat.zero_le _, by omega, rfl, HO0.out, rfl, HBA.out⟩
        case round =>
          obtain ⟨c, hc, hgk, rfl, hown, HT, HW⟩ := hrel
          have HGK := Lib.hid hgk
          clear hgk
          have hsl := smp_length l rs c
          obtain ⟨aao, acap, rfl, hag⟩ := own_slice hown
          by_cases hlt : c < rs.length
          · have hszw := HW.out.size
            have hb02 : Below w.heap.size w wr := HB2.out.trans (HW.out.mono hsz2)
            obtain ⟨b, off, rfl, hb, hcell⟩ := (HJ.out.below hb02) c hlt
            have hir : IntsAt wr aao (smp l rs c) := ints_own (cap := acap) (by rw [hsl]; exact hown)
            have HFO : Hid (Calls Tryz.prog 89 #[.slice (some ⟨G, 0, none⟩) (l.length + 1) pcap, .slice aao c acap] wr fun e w' => e = .returned (.int .i64 (fore l (smp l rs c))) ∧ ∃ k, w' = wr.drewN k) := by
              have := cForeseen G pcap l.length aao acap l (smp l rs c) wr HGD.out hl16 (by omega) (all_M HM.out.2 HT.out) (HP2.out.below HW.out) hir
              rw [foreM_all, hsl] at this
              exact this
            have hfb := fore_bound HGD.out (all_M HM.out.2 HT.out)
            have hrb := isR_of (List.all_eq_true.1 HSS.out _ (List.getElem_mem hlt))
            have HYES : Hid (inM most (rs[c] + fore l (smp l rs c)) = true → (smp l rs (c + 1)).all (inM most) = true) := smp_next hlt HT.out
            have HNO : Hid (inM most (rs[c] + fore l (smp l rs c)) = false → (smp l rs rs.length).all (inM most) = false) := smp_bad hlt
            have HNEW : Hid (intsOf (smp l rs (c + 1)) = intsOf (smp l rs c) ++ [.int .i64 (rs[c] + fore l (smp l rs c))]) := by
              show _ = _
              rw [smp, getD_at hlt]; unfold intsOf; rw [List.map_append]; rfl
            generalize fore l (smp l rs c) = f at HFO hfb HYES HNO HNEW
            generalize rs[c] = r at hcell hrb HYES HNO HNEW
            obtain ⟨x, hx⟩ : ∃ x, x = r + f := ⟨_, rfl⟩
            have hw : IntKind.i64.wrap (f + r) = x := by rw [hx, Int.add_comm f r]; exact IntWalk.i64_in _ (by omega)
            have hxb : -9223372036854775808 ≤ x ∧ x ≤ 9223372036854775807 := by omega
            rw [← hx] at HYES HNO HNEW
            have hbr : b < wr.heap.size := hb
            clear hx hfb hrb hb02 hir hb
            rcases inM_cases most x with ⟨t4, t5⟩ | ⟨t4, t5, t6⟩ | ⟨t4, t5, t6⟩
            · have HF : Hid (∀ W, Below w.heap.size w W → SmpNew l rs most w (.returned (.tuple #[.slice none 0 0, .int .i64 9])) W) := fun W hW => SmpNew.no (by rw [HCD.out, HNO.out t5]; rfl) (by omega) hW
              clear t5 HYES HNO HNEW
              go_wp2_with fail
              refine HFO.out.mono ?_
              rintro e w3 ⟨rfl, k3, hw3⟩
              have HW3 : Hid (Below w.heap.size w w3) := by show Below _ _ _; rw [hw3]; exact below_drewN (HB2.out.trans (HW.out.mono hsz2)) _
              clear hw3
              go_wp2
              refine bodyPost_ret (v := .tuple #[.slice none 0 0, .int .i64 9]) (by simp [results, Tryz.results84, go_sem]) rfl ?_
              exact HF.out _ HW3.out
            · have HF : Hid (∀ W, Below w.heap.size w W → SmpNew l rs most w (.returned (.tuple #[.slice none 0 0, .int .i64 9])) W) := fun W hW => SmpNew.no (by rw [HCD.out, HNO.out t6]; rfl) (by omega) hW
              clear t6 HYES HNO HNEW
              go_wp2_with fail
              refine HFO.out.mono ?_
              rintro e w3 ⟨rfl, k3, hw3⟩
              have HW3 : Hid (Below w.heap.size w w3) := by show Below _ _ _; rw [hw3]; exact below_drewN (HB2.out.trans (HW.out.mono hsz2)) _
              clear hw3
              go_wp2
              refine bodyPost_ret (v := .tuple #[.slice none 0 0, .int .i64 9]) (by simp [results, Tryz.results84, go_sem]) rfl ?_
              exact HF.out _ HW3.out
            · have HN2 := Lib.hid (HYES.out t6)
              clear t6 HYES HNO
              go_wp2_with fail
              refine HFO.out.mono ?_
              rintro e w3 ⟨rfl, k3, hw3⟩
              have hown3 : w3.ownsRow w2.heap.size 3 1 (.slice aao c acap) c (intsOf (smp l rs c)) := by rw [hw3]; exact hown
              have HW3 : Hid (Below w2.heap.size w2 w3) := by show Below _ _ _; rw [hw3]; exact below_drewN HW.out _
              have hsz3 := HW3.out.size
              clear hw3 HFO hown hcell
              go_wp2_with (at_builtin; refine wpList_append_own2 _ rfl _ _ 22 rfl w2.heap.size 3 i0 (.int .i64 0) 1 8 Tryz.underlying22 hii hz0 hz1 hz2 rfl (by decide) _ _ _ rfl (hown3.alloc _) ⟨w3.heap.size, 0, none⟩ 1 1 [.int .i64 x] rfl rfl ?c1 ?c2 ?c3 ?c4 ?c5 ?_)
              case c1 =>
                intro j u hj
                match j, hj with
                | 0, hj => simp at hj; subst hj; simp [Addr.add]
              case c2 => intro u hu; simp at hu; subst hu; rfl
              case c3 => unfold maxLen; omega
              case c4 => omega
              case c5 => simp; omega
              intro v' w4 hown' hgrow hat
              rw [← HNEW.out] at hown'
              have HW4 : Hid (Below w2.heap.size w2 w4) := (HW3.out.trans ((box_below w3 (.cells #[.int .i64 x] 3)).mono hsz3)).grown hgrow (by simp; omega) (by intro g hg; exact (own_block_lt hown3 g hg).1)
              clear hgrow hat hown3
              go_wp2
              go_roundg (gk - 1)
              case rel => exact ⟨c + 1, by omega, by have := HGK.out; omega, by go_num, hown', HN2, HW4⟩
              case measure => have := HGK.out; omega
          · obtain rfl : c = rs.length := by omega
            have HF : Hid (SmpNew l rs most w (.returned (.tuple #[.slice aao rs.length acap, .int .i64 0])) wr) :=
              .inr ⟨by rw [HCD.out, HT.out]; rfl, aao, acap, rfl, ints_own (cap := acap) (by rw [hsl]; exact hown), own_cap hown, HB2.out.trans (HW.out.mono hsz2), own_new hown (HB2.out.size)⟩
            go_wp2
            refine bodyPost_ret (v := .tuple #[.slice aao rs.length acap, .int .i64 0]) (by simp [results, Tryz.results84, go_sem]) rfl ?_
            exact HF.out
end Go.Proofs.YtnfpkjnllkkngaaGreatDoor.Fx
end
