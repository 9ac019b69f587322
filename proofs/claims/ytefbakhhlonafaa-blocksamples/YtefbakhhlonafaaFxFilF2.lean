import Derived.Test.YtefbakhhlonafaaFxFilC5

namespace Go.Proofs.Ytefbakhhlonafaa.Fx
open Go.RowKit Go.Proofs Go.Proofs.PipeA Go.Proofs.LatM Go.Proofs.FilM
set_option maxRecDepth 100000

set_option maxHeartbeats 400000 in
theorem refPower (n : Nat) (w : World) (hn : n ≤ 62) :
    Calls Try.prog 25 #[.int .i64 n] w fun e w' => e = .returned (.int .i64 ((2 ^ n : Nat) : Int)) ∧ w = w' := by
  go_enter Try.func25, Try.ntmps25
  go_wp2
  go_loop [3, 4] (fun p i => ∃ k : Nat, k ≤ n ∧ i = .int .i64 k ∧ p = .int .i64 ((2 ^ k : Nat) : Int)) (fun _ i => n - (intOf i).toNat)
  case atStart => exact ⟨0, Nat.zero_le _, rfl, rfl⟩
  case round =>
    obtain ⟨k, hk, rfl, rfl⟩ := hrel
    by_cases hlt : k < n
    · obtain ⟨x, hx⟩ : ∃ x, x = 2 ^ k := ⟨_, rfl⟩
      have hx1 : x ≤ 2 ^ 61 := by rw [hx]; exact Nat.pow_le_pow_right (by decide) (by omega)
      have hx2 : x * 2 = 2 ^ (k + 1) := by rw [hx, Nat.pow_succ]
      rw [← hx]
      have HX := Lib.hid hx2
      clear hx hx2
      go_wp2
      go_round
      case rel => exact ⟨k + 1, by omega, by go_num, by rw [← HX.out]; go_num⟩
      case measure => simp [intOf]; omega
    · obtain rfl : k = n := by omega
      go_wp2
      go_ret
      exact ⟨rfl, rfl⟩
theorem refPower60 (w : World) : Calls Try.prog 25 #[.int .i64 60] w fun e w' => e = .returned (.int .i64 1152921504606846976) ∧ w = w' := by
  have := refPower 60 w (by omega)
  rwa [show (((2 : Nat) ^ 60 : Nat) : Int) = 1152921504606846976 by decide] at this

theorem TooFar_cases2 (n : Int) : (decide (1152921504606846976 < n) = true ∧ isR n = false) ∨ (decide (1152921504606846976 < n) = false ∧ decide (n < -1152921504606846976) = true ∧ isR n = false) ∨ (decide (1152921504606846976 < n) = false ∧ decide (n < -1152921504606846976) = false ∧ isR n = true) := by
  unfold isR
  by_cases h1 : 1152921504606846976 < n
  · exact .inl ⟨decide_eq_true h1, decide_eq_false (by omega)⟩
  · by_cases h2 : n < -1152921504606846976
    · exact .inr (.inl ⟨decide_eq_false h1, decide_eq_true h2, decide_eq_false (by omega)⟩)
    · exact .inr (.inr ⟨decide_eq_false h1, decide_eq_false h2, decide_eq_true (by omega)⟩)
theorem inM_cases2 (most x : Int) : (decide (most < x) = true ∧ inM most x = false) ∨ (decide (most < x) = false ∧ decide (x < -most - 1) = true ∧ inM most x = false) ∨ (decide (most < x) = false ∧ decide (x < -most - 1) = false ∧ inM most x = true) := by
  unfold inM
  by_cases h1 : most < x
  · exact .inl ⟨decide_eq_true h1, decide_eq_false (by omega)⟩
  · by_cases h2 : x < -most - 1
    · exact .inr (.inl ⟨decide_eq_false h1, decide_eq_true h2, decide_eq_false (by omega)⟩)
    · exact .inr (.inr ⟨decide_eq_false h1, decide_eq_false h2, decide_eq_true (by omega)⟩)

set_option maxHeartbeats 3200000 in
theorem rSamples (ao bo : Option Addr) (cap cap2 : Nat) (l rs : List Int) (most : Int) (w : World) (hmw : -9223372036854775808 ≤ most ∧ most ≤ 9223372036854775807) (hll : l.length ≤ 9223372036854775807) (hcap : l.length ≤ cap) (hxl : rs.length ≤ 100000) (hi : IntsAt w ao l) (hj : IntsAt w bo rs) :
    Calls Try.prog 24 #[.slice ao l.length cap, .slice bo rs.length cap2, .int .i64 most] w (SmpIs l rs most w) := by
  obtain ⟨i0, hii, hz0, hz1, hz2⟩ := info_parts info_int
  have HG := Lib.hid (rGood ao cap l w hll hi)
  cases hgd : goodL l with
  | false =>
    have HN := Lib.hid (SmpIs.no (w := w) (w' := w) (codeS_good (rs := rs) (most := most) hgd) (by omega) (Below.refl _ _))
    rw [hgd] at HG
    clear hi hj hgd
    go_enter Try.func24, Try.ntmps24
    go_wp2_with fail
    refine HG.out.mono ?_
    rintro e w1 ⟨rfl, rfl⟩
    go_wp2
    refine bodyPost_ret (v := .tuple #[.slice none 0 0, .int .i64 1]) (by simp [results, Try.results24, go_sem]) rfl ?_
    exact HN.out
  | true =>
    rw [hgd] at HG
    rcases most_cases most with ⟨t1, t2⟩ | ⟨t1, t2, t3⟩ | ⟨t1, t2, t3⟩
    · have HN := Lib.hid (SmpIs.no (w := w) (w' := w) (codeS_most (l := l) (rs := rs) t2) (by omega) (Below.refl _ _))
      clear hi hj hgd t2
      go_enter Try.func24, Try.ntmps24
      go_wp2_with fail
      refine HG.out.mono ?_
      rintro e w1 ⟨rfl, rfl⟩
      go_wp2
      refine bodyPost_ret (v := .tuple #[.slice none 0 0, .int .i64 1]) (by simp [results, Try.results24, go_sem]) rfl ?_
      exact HN.out
    · have HN := Lib.hid (SmpIs.no (w := w) (w' := w) (codeS_most (l := l) (rs := rs) t3) (by omega) (Below.refl _ _))
      clear hi hj hgd t3
      go_enter Try.func24, Try.ntmps24
      go_wp2_with fail
      refine HG.out.mono ?_
      rintro e w1 ⟨rfl, rfl⟩
      go_wp2
      refine bodyPost_ret (v := .tuple #[.slice none 0 0, .int .i64 1]) (by simp [results, Try.results24, go_sem]) rfl ?_
      exact HN.out
    · have hcd := codeS_ok (rs := rs) hgd t3
      have hl16 := good_len hgd
      have HI := Lib.hid hi
      have HJ := Lib.hid hj
      have HGD := Lib.hid hgd
      have HM := Lib.hid t3
      have HCD := Lib.hid hcd
      have hm0 := t3.1
      have hm1 := t3.2
      have HP := fun W => Lib.hid (refPower60 W)
      clear hi hj hgd hcd t3
      go_enter Try.func24, Try.ntmps24
      go_wp2_with fail
      refine HG.out.mono ?_
      rintro e w1 ⟨rfl, rfl⟩
      go_wp2
      go_loopg [8, 25] rs.length (fun gk q i wr => ∃ c d : Nat, c ≤ rs.length ∧ gk + c = rs.length ∧ i = .int .i64 c ∧ Hid ((rs.take c).all isR = true) ∧ Hid (wr = w.drewN d))
      case atStart => exact ⟨0, 0, Nat.zero_le _, by omega, rfl, by simp [Hid], rfl⟩
      case round =>
        obtain ⟨c, d, hc, hgk, rfl, HT, HW⟩ := hrel
        have HGK := Lib.hid hgk
        clear hgk
        have HBW : Hid (∀ k, Below w.heap.size w (wr.drewN k)) := fun k => by rw [HW.out]; exact below_drewN (below_drewN (Below.refl _ _) _) _
        by_cases hlt : c < rs.length
        · obtain ⟨b, off, rfl, hb, hcell0⟩ := HJ.out c hlt
          have hcell : wr.cell? ⟨b, off + c, none⟩ = some (.int .i64 rs[c]) := by rw [HW.out]; exact hcell0
          have HNX : Hid (isR rs[c] = true → (rs.take (c + 1)).all isR = true) := fun h => by rw [List.take_succ_eq_append_getElem hlt, List.all_append, HT.out]; simp [h]
          have HMem : Hid (isR rs[c] = false → rs.all isR = false) := fun h => by
            cases ha : rs.all isR with
            | false => rfl
            | true => rw [List.all_eq_true.1 ha _ (List.getElem_mem hlt)] at h; cases h
          generalize rs[c] = x at hcell HNX HMem hcell0
          clear hb hcell0
          rcases TooFar_cases2 x with ⟨t4, t5⟩ | ⟨t4, t5, t6⟩ | ⟨t4, t5, t6⟩
          · have HF : Hid (∀ W, Below w.heap.size w W → SmpIs l rs most w (.returned (.tuple #[.slice none 0 0, .int .i64 9])) W) := fun W hW => SmpIs.no (by rw [HCD.out, HMem.out t5]; rfl) (by omega) hW
            clear t5 HNX HMem
            go_wp2
            go_quiet ((go_at_call 25; exact quiet_left (HP _).out))
            go_wp2
            refine bodyPost_ret (v := .tuple #[.slice none 0 0, .int .i64 9]) (by simp [results, Try.results24, go_sem]) rfl ?_
            exact HF.out _ (HBW.out _)
          · have HF : Hid (∀ W, Below w.heap.size w W → SmpIs l rs most w (.returned (.tuple #[.slice none 0 0, .int .i64 9])) W) := fun W hW => SmpIs.no (by rw [HCD.out, HMem.out t6]; rfl) (by omega) hW
            clear t6 HNX HMem
            go_wp2
            go_quiet ((go_at_call 25; exact quiet_left (HP _).out))
            go_wp2
            refine bodyPost_ret (v := .tuple #[.slice none 0 0, .int .i64 9]) (by simp [results, Try.results24, go_sem]) rfl ?_
            exact HF.out _ (HBW.out _)
          · have HN2 := Lib.hid (HNX.out t6)
            clear t6 HNX HMem
            go_wp2
            go_quiet ((go_at_call 25; exact quiet_left (HP _).out))
            go_wp2
            go_roundg (gk - 1)
            case rel => exact ⟨c + 1, _, by omega, by have := HGK.out; omega, by go_num, HN2, by show _ = _; rw [HW.out]; exact World.drewN_drewN _ _ _⟩
            case measure => have := HGK.out; omega
        · obtain rfl : c = rs.length := by omega
          have HS : Hid (rs.all isR = true) := by have := HT.out; rwa [List.take_length] at this
          obtain ⟨W1, rfl⟩ : ∃ W1, W1 = wr := ⟨_, rfl⟩
          have HB1 : Hid (Below w.heap.size w W1) := HBW.out 0
          have hsz1 := HB1.out.size
          have HCD2 : Hid (codeS l rs most = if (smp l rs rs.length).all (inM most) then 0 else 9) := by show _ = _; rw [HCD.out, HS.out, if_pos rfl]
          clear HT HGK hlt hc HBW HW HCD
          go_wp2
          go_loopg [9, 10, 11, 46] rs.length (fun gk va q1 q2 i wr => ∃ c : Nat, c ≤ rs.length ∧ gk + c = rs.length ∧ i = .int .i64 c ∧ wr.ownsRow W1.heap.size 3 1 va c (intsOf (smp l rs c)) ∧ Hid ((smp l rs c).all (inM most) = true) ∧ Hid (Below W1.heap.size W1 wr))
          case atStart => exact ⟨0, Nat.zero_le _, by omega, rfl, World.ownsRow_nil _ _ _ _, rfl, Below.refl _ _⟩
          case round =>
            obtain ⟨c, hc, hgk, rfl, hown, HT, HW⟩ := hrel
            have HGK := Lib.hid hgk
            clear hgk
            have hsl := smp_length l rs c
            obtain ⟨aao, acap, rfl, hag⟩ := own_slice hown
            by_cases hlt : c < rs.length
            · have hszw := HW.out.size
              have hb02 : Below w.heap.size w wr := HB1.out.trans (HW.out.mono hsz1)
              have HB02 := Lib.hid hb02
              obtain ⟨b, off, rfl, hb, hcell⟩ := (HJ.out.below hb02) c hlt
              have HIR : Hid (IntsAt wr aao (smp l rs c)) := ints_own (cap := acap) (by rw [hsl]; exact hown)
              have HFO : Hid (∀ W, Below wr.heap.size wr W → Calls Try.prog 51 #[.slice ao l.length cap, .slice aao c acap] W fun e w' => e = .returned (.int .i64 (fore l (smp l rs c))) ∧ Below W.heap.size W w') := fun W hW => by
                have := rForesee ao aao cap acap l (smp l rs c) W HGD.out hcap (by omega) (all_M HM.out.2 HT.out) ((HI.out.below HB02.out).below hW) (HIR.out.below hW)
                rw [hsl] at this
                exact this
              have hfb := fore_bound HGD.out (all_M HM.out.2 HT.out)
              have hrb := isR_of (List.all_eq_true.1 HS.out _ (List.getElem_mem hlt))
              have HYES : Hid (inM most (rs[c] + fore l (smp l rs c)) = true → (smp l rs (c + 1)).all (inM most) = true) := smp_next hlt HT.out
              have HNO : Hid (inM most (rs[c] + fore l (smp l rs c)) = false → (smp l rs rs.length).all (inM most) = false) := smp_bad hlt
              have HNEW : Hid (intsOf (smp l rs (c + 1)) = intsOf (smp l rs c) ++ [.int .i64 (rs[c] + fore l (smp l rs c))]) := by
                show _ = _
                rw [smp, getD_at hlt]; unfold intsOf; rw [List.map_append]; rfl
              generalize fore l (smp l rs c) = f at HFO hfb HYES HNO HNEW
              generalize rs[c] = r at hcell hrb HYES HNO HNEW
              obtain ⟨x, hx⟩ : ∃ x, x = r + f := ⟨_, rfl⟩
              have hw : IntKind.i64.wrap (r + f) = x := by rw [hx]; exact IntWalk.i64_in _ (by omega)
              have hxb : -9223372036854775808 ≤ x ∧ x ≤ 9223372036854775807 := by omega
              rw [← hx] at HYES HNO HNEW
              clear hx hfb hrb hb02
              rcases inM_cases2 most x with ⟨t4, t5⟩ | ⟨t4, t5, t6⟩ | ⟨t4, t5, t6⟩
              · have HF : Hid (∀ W, Below w.heap.size w W → SmpIs l rs most w (.returned (.tuple #[.slice none 0 0, .int .i64 9])) W) := fun W hW => SmpIs.no (by rw [HCD2.out, HNO.out t5]; rfl) (by omega) hW
                clear t5 HYES HNO HNEW
                go_wp2_with fail
                go_region_held3 (fun w' => w'.cell? ⟨b, off + c, none⟩ = some (.int .i64 r))
                  (first | exact hcell | exact p0 | fail)
                  (first
                    | (go_at_call 51; refine (HFO.out _ ((keeps_drew_b wr []).below (Nat.le_refl _) (by simp))).mono ?_; rintro e w5 ⟨rfl, hbl5⟩; have hbl5' : Below wr.heap.size wr w5 := ((keeps_drew_b wr []).below (Nat.le_refl _) (by simp)).trans hbl5; have p0 := (hbl5'.cell (p := ⟨b, off + c, none⟩) hb).trans hcell; have HB5 := Lib.hid hbl5'; clear hbl5 hbl5')
                    | fail)
                go_wp2
                refine bodyPost_ret (v := .tuple #[.slice none 0 0, .int .i64 9]) (by simp [results, Try.results24, go_sem]) rfl ?_
                exact HF.out _ (HB02.out.trans (HB5.out.mono HB02.out.size))
              · have HF : Hid (∀ W, Below w.heap.size w W → SmpIs l rs most w (.returned (.tuple #[.slice none 0 0, .int .i64 9])) W) := fun W hW => SmpIs.no (by rw [HCD2.out, HNO.out t6]; rfl) (by omega) hW
                clear t6 HYES HNO HNEW
                go_wp2_with fail
                go_region_held3 (fun w' => w'.cell? ⟨b, off + c, none⟩ = some (.int .i64 r))
                  (first | exact hcell | exact p0 | fail)
                  (first
                    | (go_at_call 51; refine (HFO.out _ ((keeps_drew_b wr []).below (Nat.le_refl _) (by simp))).mono ?_; rintro e w5 ⟨rfl, hbl5⟩; have hbl5' : Below wr.heap.size wr w5 := ((keeps_drew_b wr []).below (Nat.le_refl _) (by simp)).trans hbl5; have p0 := (hbl5'.cell (p := ⟨b, off + c, none⟩) hb).trans hcell; have HB5 := Lib.hid hbl5'; clear hbl5 hbl5')
                    | fail)
                go_wp2
                refine bodyPost_ret (v := .tuple #[.slice none 0 0, .int .i64 9]) (by simp [results, Try.results24, go_sem]) rfl ?_
                exact HF.out _ (HB02.out.trans (HB5.out.mono HB02.out.size))
              · have HN2 := Lib.hid (HYES.out t6)
                clear t6 HYES HNO
                go_wp2_with fail
                go_region_held3 (fun w' => w'.cell? ⟨b, off + c, none⟩ = some (.int .i64 r))
                  (first | exact hcell | exact p0 | fail)
                  (first
                    | (go_at_call 51; refine (HFO.out _ ((keeps_drew_b wr []).below (Nat.le_refl _) (by simp))).mono ?_; rintro e w5 ⟨rfl, hbl5⟩; have hbl5' : Below wr.heap.size wr w5 := ((keeps_drew_b wr []).below (Nat.le_refl _) (by simp)).trans hbl5; have p0 := (hbl5'.cell (p := ⟨b, off + c, none⟩) hb).trans hcell; have HB5 := Lib.hid hbl5'; clear hbl5 hbl5')
                    | fail)
                have hown3 := ownsRow_below hown HB5.out
                have HW3 : Hid (Below W1.heap.size W1 w5) := HW.out.trans (HB5.out.mono hszw)
                have hsz3 := HW3.out.size
                clear HFO hown hcell
                go_wp2_with (at_builtin; refine wpList_append_own2 _ rfl _ _ 22 rfl W1.heap.size 3 i0 (.int .i64 0) 1 8 Try.underlying22 hii hz0 hz1 hz2 rfl (by decide) _ _ _ rfl (hown3.alloc _) ⟨w5.heap.size, 0, none⟩ 1 1 [.int .i64 x] rfl rfl ?c1 ?c2 ?c3 ?c4 ?c5 ?_)
                case c1 =>
                  intro j u hj
                  match j, hj with
                  | 0, hj => simp at hj; subst hj; simp [Addr.add]
                case c2 => intro u hu; simp at hu; subst hu; rfl
                case c3 => unfold maxLen; omega
                case c4 => omega
                case c5 => simp; omega
                intro v' w4 hown' hgrow hat
                rw [← HNEW.out] at hown'
                have HW4 : Hid (Below W1.heap.size W1 w4) := (HW3.out.trans ((box_below w5 (.cells #[.int .i64 x] 3)).mono hsz3)).grown hgrow (by simp; omega) (by intro g hg; exact (own_block_lt hown3 g hg).1)
                clear hgrow hat hown3
                go_wp2
                go_roundg (gk - 1)
                case rel => exact ⟨c + 1, by omega, by have := HGK.out; omega, by go_num, hown', HN2, HW4⟩
                case measure => have := HGK.out; omega
            · obtain rfl : c = rs.length := by omega
              have HF : Hid (SmpIs l rs most w (.returned (.tuple #[.slice aao rs.length acap, .int .i64 0])) wr) :=
                .inr ⟨by rw [HCD2.out, HT.out]; rfl, aao, acap, rfl, ints_own (cap := acap) (by rw [hsl]; exact hown), own_cap hown, HB1.out.trans (HW.out.mono hsz1)⟩
              go_wp2
              refine bodyPost_ret (v := .tuple #[.slice aao rs.length acap, .int .i64 0]) (by simp [results, Try.results24, go_sem]) rfl ?_
              exact HF.out
end Go.Proofs.Ytefbakhhlonafaa.Fx
