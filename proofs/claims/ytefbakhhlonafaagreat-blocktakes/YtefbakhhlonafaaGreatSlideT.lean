import Derived.Test.YtefbakhhlonafaaGreatFxFilC6
import Derived.Test.YtefbakhhlonafaaGreatRef2b
import Derived.Test.YtefbakhhlonafaaGreatBlkC2

section
namespace Go.Proofs.YtefbakhhlonafaaGreat.Fx
open Go.RowKit Go.Proofs Go.Proofs.PipeA Go.Proofs.LatM Go.Proofs.FilM
set_option maxRecDepth 100000

set_option maxHeartbeats 400000 in
theorem refPower (n : Nat) (w : World) (hn : n ≤ 62) :
    Calls Tryz.prog 29 #[.int .i64 n] w fun e w' => e = .returned (.int .i64 ((2 ^ n : Nat) : Int)) ∧ w = w' := by
  go_enter Tryz.func29, Tryz.ntmps29
  go_wp2
  go_loop [3, 4] (fun p i => ∃ k : Nat, k ≤ n ∧ i = .int .i64 k ∧ p = .int .i64 ((2 ^ k : Nat) : Int)) (fun _ i => n - (intOf i).toNat)
  case atStart => exact ⟨0, Nat.zero_le _, rfl, rfl⟩
  case round =>
    obtain ⟨k, hk, rfl, rfl⟩ := hrel
    by_cases hlt : k < n
    · obtain ⟨x, hx⟩ : ∃ x, x = 2 ^ k := ⟨_, rfl⟩
      have hx1 : x ≤ 2 ^ 61 := by rw [hx]; exact Nat.pow_le_pow_right (by decide) (by omega)
      have hx2 : x * 2 = 2 ^ (k + 1) := by rw [hx, Nat.pow_succ]
      rw [← hx]
      have HX := Lib.hid hx2
      clear hx hx2
      go_wp2
      go_round
      case rel => exact ⟨k + 1, by omega, by go_num, by rw [← HX.out]; go_num⟩
      case measure => simp [intOf]; omega
    · obtain rfl : k = n := by omega
      go_wp2
      go_ret
      exact ⟨rfl, rfl⟩
theorem refPower60 (w : World) : Calls Tryz.prog 29 #[.int .i64 60] w fun e w' => e = .returned (.int .i64 1152921504606846976) ∧ w = w' := by
  have := refPower 60 w (by omega)
  rwa [show (((2 : Nat) ^ 60 : Nat) : Int) = 1152921504606846976 by decide] at this

theorem TooFar_cases2 (n : Int) : (decide (1152921504606846976 < n) = true ∧ isR n = false) ∨ (decide (1152921504606846976 < n) = false ∧ decide (n < -1152921504606846976) = true ∧ isR n = false) ∨ (decide (1152921504606846976 < n) = false ∧ decide (n < -1152921504606846976) = false ∧ isR n = true) := by
  unfold isR
  by_cases h1 : 1152921504606846976 < n
  · exact .inl ⟨decide_eq_true h1, decide_eq_false (by omega)⟩
  · by_cases h2 : n < -1152921504606846976
    · exact .inr (.inl ⟨decide_eq_false h1, decide_eq_true h2, decide_eq_false (by omega)⟩)
    · exact .inr (.inr ⟨decide_eq_false h1, decide_eq_false h2, decide_eq_true (by omega)⟩)
theorem inM_cases2 (most x : Int) : (decide (most < x) = true ∧ inM most x = false) ∨ (decide (most < x) = false ∧ decide (x < -most - 1) = true ∧ inM most x = false) ∨ (decide (most < x) = false ∧ decide (x < -most - 1) = false ∧ inM most x = true) := by
  unfold inM
  by_cases h1 : most < x
  · exact .inl ⟨decide_eq_true h1, decide_eq_false (by omega)⟩
  · by_cases h2 : x < -most - 1
    · exact .inr (.inl ⟨decide_eq_false h1, decide_eq_true h2, decide_eq_false (by omega)⟩)
    · exact .inr (.inr ⟨decide_eq_false h1, decide_eq_false h2, decide_eq_true (by omega)⟩)

set_option maxHeartbeats 3200000 in
theorem rSamples (ao bo : Option Addr) (cap cap2 : Nat) (l rs : List Int) (most : Int) (w : World) (hmw : -9223372036854775808 ≤ most ∧ most ≤ 9223372036854775807) (hll : l.length ≤ 9223372036854775807) (hcap : l.length ≤ cap) (hxl : rs.length ≤ 100000) (hi : IntsAt w ao l) (hj : IntsAt w bo rs) :
    Calls Tryz.prog 28 #[.slice ao l.length cap, .slice bo rs.length cap2, .int .i64 most] w (SmpIs l rs most w) := by
  obtain ⟨i0, hii, hz0, hz1, hz2⟩ := info_parts info_int
  have HG := Lib.hid (rGood ao cap l w hll hi)
  cases hgd : goodL l with
  | false =>
    have HN := Lib.hid (SmpIs.no (w := w) (w' := w) (codeS_good (rs := rs) (most := most) hgd) (by omega) (Below.refl _ _))
    rw [hgd] at HG
    clear hi hj hgd
    go_enter Tryz.func28, Tryz.ntmps28
    go_wp2_with fail
    refine HG.out.mono ?_
    rintro e w1 ⟨rfl, rfl⟩
    go_wp2
    refine bodyPost_ret (v := .tuple #[.slice none 0 0, .int .i64 1]) (by simp [results, Tryz.results28, go_sem]) rfl ?_
    exact HN.out
  | true =>
    rw [hgd] at HG
    rcases most_cases most with ⟨t1, t2⟩ | ⟨t1, t2, t3⟩ | ⟨t1, t2, t3⟩
    · have HN := Lib.hid (SmpIs.no (w := w) (w' := w) (codeS_most (l := l) (rs := rs) t2) (by omega) (Below.refl _ _))
      clear hi hj hgd t2
      go_enter Tryz.func28, Tryz.ntmps28
      go_wp2_with fail
      refine HG.out.mono ?_
      rintro e w1 ⟨rfl, rfl⟩
      go_wp2
      refine bodyPost_ret (v := .tuple #[.slice none 0 0, .int .i64 1]) (by simp [results, Tryz.results28, go_sem]) rfl ?_
      exact HN.out
    · have HN := Lib.hid (SmpIs.no (w := w) (w' := w) (codeS_most (l := l) (rs := rs) t3) (by omega) (Below.refl _ _))
      clear hi hj hgd t3
      go_enter Tryz.func28, Tryz.ntmps28
      go_wp2_with fail
      refine HG.out.mono ?_
      rintro e w1 ⟨rfl, rfl⟩
      go_wp2
      refine bodyPost_ret (v := .tuple #[.slice none 0 0, .int .i64 1]) (by simp [results, Tryz.results28, go_sem]) rfl ?_
      exact HN.out
    · have hcd := codeS_ok (rs := rs) hgd t3
      have hl16 := good_len hgd
      have HI := Lib.hid hi
      have HJ := Lib.hid hj
      have HGD := Lib.hid hgd
      have HM := Lib.hid t3
      have HCD := Lib.hid hcd
      have hm0 := t3.1
      have hm1 := t3.2
      have HP := fun W => Lib.hid (refPower60 W)
      clear hi hj hgd hcd t3
      go_enter Tryz.func28, Tryz.ntmps28
      go_wp2_with fail
      refine HG.out.mono ?_
      rintro e w1 ⟨rfl, rfl⟩
      go_wp2
      go_loopg [8, 25] rs.length (fun gk q i wr => ∃ c d : Nat, c ≤ rs.length ∧ gk + c = rs.length ∧ i = .int .i64 c ∧ Hid ((rs.take c).all isR = true) ∧ Hid (wr = w.drewN d))
      case atStart => exact ⟨0, 0, Nat.zero_le _, by omega, rfl, by simp [Hid], rfl⟩
      case round =>
        obtain ⟨c, d, hc, hgk, rfl, HT, HW⟩ := hrel
        have HGK := Lib.hid hgk
        clear hgk
        have HBW : Hid (∀ k, Below w.heap.size w (wr.drewN k)) := fun k => by rw [HW.out]; exact below_drewN (below_drewN (Below.refl _ _) _) _
        by_cases hlt : c < rs.length
        · obtain ⟨b, off, rfl, hb, hcell0⟩ := HJ.out c hlt
          have hcell : wr.cell? ⟨b, off + c, none⟩ = some (.int .i64 rs[c]) := by rw [HW.out]; exact hcell0
          have HNX : Hid (isR rs[c] = true → (rs.take (c + 1)).all isR = true) := fun h => by rw [List.take_succ_eq_append_getElem hlt, List.all_append, HT.out]; simp [h]
          have HMem : Hid (isR rs[c] = false → rs.all isR = false) := fun h => by
            cases ha : rs.all isR with
            | false => rfl
            | true => rw [List.all_eq_true.1 ha _ (List.getElem_mem hlt)] at h; cases h
          generalize rs[c] = x at hcell HNX HMem hcell0
          clear hb hcell0
          rcases TooFar_cases2 x with ⟨t4, t5⟩ | ⟨t4, t5, t6⟩ | ⟨t4, t5, t6⟩
          · have HF : Hid (∀ W, Below w.heap.size w W → SmpIs l rs most w (.returned (.tuple #[.slice none 0 0, .int .i64 9])) W) := fun W hW => SmpIs.no (by rw [HCD.out, HMem.out t5]; rfl) (by omega) hW
            clear t5 HNX HMem
            go_wp2
            go_quiet ((go_at_call 29; exact quiet_left (HP _).out))
            go_wp2
            refine bodyPost_ret (v := .tuple #[.slice none 0 0, .int .i64 9]) (by simp [results, Tryz.results28, go_sem]) rfl ?_
            exact HF.out _ (HBW.out _)
          · have HF : Hid (∀ W, Below w.heap.size w W → SmpIs l rs most w (.returned (.tuple #[.slice none 0 0, .int .i64 9])) W) := fun W hW => SmpIs.no (by rw [HCD.out, HMem.out t6]; rfl) (by omega) hW
            clear t6 HNX HMem
            go_wp2
            go_quiet ((go_at_call 29; exact quiet_left (HP _).out))
            go_wp2
            refine bodyPost_ret (v := .tuple #[.slice none 0 0, .int .i64 9]) (by simp [results, Tryz.results28, go_sem]) rfl ?_
            exact HF.out _ (HBW.out _)
          · have HN2 := Lib.hid (HNX.out t6)
            clear t6 HNX HMem
            go_wp2
            go_quiet ((go_at_call 29; exact quiet_left (HP _).out))
            go_wp2
            go_roundg (gk - 1)
            case rel => exact ⟨c + 1, _, by omega, by have := HGK.out; omega, by go_num, HN2, by show _ = _; rw [HW.out]; exact World.drewN_drewN _ _ _⟩
            case measure => have := HGK.out; omega
        · obtain rfl : c = rs.length := by omega
          have HS : Hid (rs.all isR = true) := by have := HT.out; rwa [List.take_length] at this
          obtain ⟨W1, rfl⟩ : ∃ W1, W1 = wr := ⟨_, rfl⟩
          have HB1 : Hid (Below w.heap.size w W1) := HBW.out 0
          have hsz1 := HB1.out.size
          have HCD2 : Hid (codeS l rs most = if (smp l rs rs.length).all (inM most) then 0 else 9) := by show _ = _; rw [HCD.out, HS.out, if_pos rfl]
          clear HT HGK hlt hc HBW HW HCD
          go_wp2
          go_loopg [9, 10, 11, 46] rs.length (fun gk va q1 q2 i wr => ∃ c : Nat, c ≤ rs.length ∧ gk + c = rs.length ∧ i = .int .i64 c ∧ wr.ownsRow W1.heap.size 3 1 va c (intsOf (smp l rs c)) ∧ Hid ((smp l rs c).all (inM most) = true) ∧ Hid (Below W1.heap.size W1 wr))
          case atStart => exact ⟨0, Nat.zero_le _, by omega, rfl, World.ownsRow_nil _ _ _ _, rfl, Below.refl _ _⟩
          case round =>
            obtain ⟨c, hc, hgk, rfl, hown, HT, HW⟩ := hrel
            have HGK := Lib.hid hgk
            clear hgk
            have hsl := smp_length l rs c
            obtain ⟨aao, acap, rfl, hag⟩ := own_slice hown
            by_cases hlt : c < rs.length
            · have hszw := HW.out.size
              have hb02 : Below w.heap.size w wr := HB1.out.trans (HW.out.mono hsz1)
              have HB02 := Lib.hid hb02
              obtain ⟨b, off, rfl, hb, hcell⟩ := (HJ.out.below hb02) c hlt
              have HIR : Hid (IntsAt wr aao (smp l rs c)) := ints_own (cap := acap) (by rw [hsl]; exact hown)
              have HFO : Hid (∀ W, Below wr.heap.size wr W → Calls Tryz.prog 60 #[.slice ao l.length cap, .slice aao c acap] W fun e w' => e = .returned (.int .i64 (fore l (smp l rs c))) ∧ Below W.heap.size W w') := fun W hW => by
                have := rForesee ao aao cap acap l (smp l rs c) W HGD.out hcap (by omega) (all_M HM.out.2 HT.out) ((HI.out.below HB02.out).below hW) (HIR.out.below hW)
                rw [hsl] at this
                exact this
              have hfb := fore_bound HGD.out (all_M HM.out.2 HT.out)
              have hrb := isR_of (List.all_eq_true.1 HS.out _ (List.getElem_mem hlt))
              have HYES : Hid (inM most (rs[c] + fore l (smp l rs c)) = true → (smp l rs (c + 1)).all (inM most) = true) := smp_next hlt HT.out
              have HNO : Hid (inM most (rs[c] + fore l (smp l rs c)) = false → (smp l rs rs.length).all (inM most) = false) := smp_bad hlt
              have HNEW : Hid (intsOf (smp l rs (c + 1)) = intsOf (smp l rs c) ++ [.int .i64 (rs[c] + fore l (smp l rs c))]) := by
                show _ = _
                rw [smp, getD_at hlt]; unfold intsOf; rw [List.map_append]; rfl
              generalize fore l (smp l rs c) = f at HFO hfb HYES HNO HNEW
              generalize rs[c] = r at hcell hrb HYES HNO HNEW
              obtain ⟨x, hx⟩ : ∃ x, x = r + f := ⟨_, rfl⟩
              have hw : IntKind.i64.wrap (r + f) = x := by rw [hx]; exact IntWalk.i64_in _ (by omega)
              have hxb : -9223372036854775808 ≤ x ∧ x ≤ 9223372036854775807 := by omega
              rw [← hx] at HYES HNO HNEW
              clear hx hfb hrb hb02
              rcases inM_cases2 most x with ⟨t4, t5⟩ | ⟨t4, t5, t6⟩ | ⟨t4, t5, t6⟩
              · have HF : Hid (∀ W, Below w.heap.size w W → SmpIs l rs most w (.returned (.tuple #[.slice none 0 0, .int .i64 9])) W) := fun W hW => SmpIs.no (by rw [HCD2.out, HNO.out t5]; rfl) (by omega) hW
                clear t5 HYES HNO HNEW
                go_wp2_with fail
                go_region_held3 (fun w' => w'.cell? ⟨b, off + c, none⟩ = some (.int .i64 r))
                  (first | exact hcell | exact p0 | fail)
                  (first
                    | (go_at_call 60; refine (HFO.out _ ((keeps_drew_b wr []).below (Nat.le_refl _) (by simp))).mono ?_; rintro e w5 ⟨rfl, hbl5⟩; have hbl5' : Below wr.heap.size wr w5 := ((keeps_drew_b wr []).below (Nat.le_refl _) (by simp)).trans hbl5; have p0 := (hbl5'.cell (p := ⟨b, off + c, none⟩) hb).trans hcell; have HB5 := Lib.hid hbl5'; clear hbl5 hbl5')
                    | fail)
                go_wp2
                refine bodyPost_ret (v := .tuple #[.slice none 0 0, .int .i64 9]) (by simp [results, Tryz.results28, go_sem]) rfl ?_
                exact HF.out _ (HB02.out.trans (HB5.out.mono HB02.out.size))
              · have HF : Hid (∀ W, Below w.heap.size w W → SmpIs l rs most w (.returned (.tuple #[.slice none 0 0, .int .i64 9])) W) := fun W hW => SmpIs.no (by rw [HCD2.out, HNO.out t6]; rfl) (by omega) hW
                clear t6 HYES HNO HNEW
                go_wp2_with fail
                go_region_held3 (fun w' => w'.cell? ⟨b, off + c, none⟩ = some (.int .i64 r))
                  (first | exact hcell | exact p0 | fail)
                  (first
                    | (go_at_call 60; refine (HFO.out _ ((keeps_drew_b wr []).below (Nat.le_refl _) (by simp))).mono ?_; rintro e w5 ⟨rfl, hbl5⟩; have hbl5' : Below wr.heap.size wr w5 := ((keeps_drew_b wr []).below (Nat.le_refl _) (by simp)).trans hbl5; have p0 := (hbl5'.cell (p := ⟨b, off + c, none⟩) hb).trans hcell; have HB5 := Lib.hid hbl5'; clear hbl5 hbl5')
                    | fail)
                go_wp2
                refine bodyPost_ret (v := .tuple #[.slice none 0 0, .int .i64 9]) (by simp [results, Tryz.results28, go_sem]) rfl ?_
                exact HF.out _ (HB02.out.trans (HB5.out.mono HB02.out.size))
              · have HN2 := Lib.hid (HYES.out t6)
                clear t6 HYES HNO
                go_wp2_with fail
                go_region_held3 (fun w' => w'.cell? ⟨b, off + c, none⟩ = some (.int .i64 r))
                  (first | exact hcell | exact p0 | fail)
                  (first
                    | (go_at_call 60; refine (HFO.out _ ((keeps_drew_b wr []).below (Nat.le_refl _) (by simp))).mono ?_; rintro e w5 ⟨rfl, hbl5⟩; have hbl5' : Below wr.heap.size wr w5 := ((keeps_drew_b wr []).below (Nat.le_refl _) (by simp)).trans hbl5; have p0 := (hbl5'.cell (p := ⟨b, off + c, none⟩) hb).trans hcell; have HB5 := Lib.hid hbl5'; clear hbl5 hbl5')
                    | fail)
                have hown3 := ownsRow_below hown HB5.out
                have HW3 : Hid (Below W1.heap.size W1 w5) := HW.out.trans (HB5.out.mono hszw)
                have hsz3 := HW3.out.size
                clear HFO hown hcell
                go_wp2_with (at_builtin; refine wpList_append_own2 _ rfl _ _ 22 rfl W1.heap.size 3 i0 (.int .i64 0) 1 8 Tryz.underlying22 hii hz0 hz1 hz2 rfl (by decide) _ _ _ rfl (hown3.alloc _) ⟨w5.heap.size, 0, none⟩ 1 1 [.int .i64 x] rfl rfl ?c1 ?c2 ?c3 ?c4 ?c5 ?_)
                case c1 =>
                  intro j u hj
                  match j, hj with
                  | 0, hj => simp at hj; subst hj; simp [Addr.add]
                case c2 => intro u hu; simp at hu; subst hu; rfl
                case c3 => unfold maxLen; omega
                case c4 => omega
                case c5 => simp; omega
                intro v' w4 hown' hgrow hat
                rw [← HNEW.out] at hown'
                have HW4 : Hid (Below W1.heap.size W1 w4) := (HW3.out.trans ((box_below w5 (.cells #[.int .i64 x] 3)).mono hsz3)).grown hgrow (by simp; omega) (by intro g hg; exact (own_block_lt hown3 g hg).1)
                clear hgrow hat hown3
                go_wp2
                go_roundg (gk - 1)
                case rel => exact ⟨c + 1, by omega, by have := HGK.out; omega, by go_num, hown', HN2, HW4⟩
                case measure => have := HGK.out; omega
            · obtain rfl : c = rs.length := by omega
              have HF : Hid (SmpIs l rs most w (.returned (.tuple #[.slice aao rs.length acap, .int .i64 0])) wr) :=
                .inr ⟨by rw [HCD2.out, HT.out]; rfl, aao, acap, rfl, ints_own (cap := acap) (by rw [hsl]; exact hown), own_cap hown, HB1.out.trans (HW.out.mono hsz1)⟩
              go_wp2
              refine bodyPost_ret (v := .tuple #[.slice aao rs.length acap, .int .i64 0]) (by simp [results, Tryz.results28, go_sem]) rfl ?_
              exact HF.out
end Go.Proofs.YtefbakhhlonafaaGreat.Fx
end

section
namespace Go.Proofs.YtefbakhhlonafaaGreat.Gx
open Go.RowKit Go.Proofs Go.Proofs.PipeA Go.Proofs.LagM
set_option maxRecDepth 100000

theorem intsOf_take {l : List Int} {j : Nat} (h : j < l.length) : intsOf (l.take (j + 1)) = intsOf (l.take j) ++ [.int .i64 l[j]] := by
  unfold intsOf
  rw [List.take_succ_eq_append_getElem h, List.map_append]; rfl
theorem own_cap {w : World} {base size n cap : Nat} {e : TypeId} {xs : List Value} {ao : Option Addr} (h : w.ownsRow base e size (.slice ao n cap) n xs) : n ≤ cap := by
  rcases h.2 with ⟨h1, h2⟩ | ⟨g, cap', cur, h1, _, _, h2, _⟩
  · omega
  · cases h1; exact h2

end Go.Proofs.YtefbakhhlonafaaGreat.Gx
end

section
namespace Go.Proofs.YtefbakhhlonafaaGreat.Gx
open Go.RowKit Go.Proofs Go.Proofs.PipeA Go.Proofs.LagM
set_option maxRecDepth 100000

set_option maxHeartbeats 3200000 in
theorem rOn (n : Nat) (g : Int) (ao : Option Addr) (cap : Nat) (l : List Int) (w : World) (hcd : codeT (n : Int) g l = 0) (hl : l.length ≤ 100000) (hi : IntsAt w ao l) :
    Calls Tryz.prog 27 #[.int .i64 n, .int .i64 g, .slice ao l.length cap] w (OutIs (codeO n g l) (onL n g l) w) := by
  obtain ⟨i0, hii, hz0, hz1, hz2⟩ := info_parts info_int
  obtain ⟨hgood, hall⟩ := codeT_zero hcd
  obtain ⟨n', hnn, hn, hg0, hg1, hz, _⟩ := goodT_of hgood
  obtain rfl : n = n' := by omega
  have HI := Lib.hid hi
  have HB := Lib.hid (all_B hall)
  have HAL := Lib.hid hall
  have HOL := onL_length n g l
  have HZ := Lib.hid hz
  have HC0 := Lib.hid hcd
  clear hi hall hz hcd hgood hnn
  go_enter Tryz.func27, Tryz.ntmps27
  go_wp2
  go_loopg [8, 9, 10, 13] l.length (fun gk va q1 q2 i wr => ∃ c : Nat, c ≤ l.length ∧ gk + c = l.length ∧ i = .int .i64 c ∧ wr.ownsRow w.heap.size 3 1 va c (intsOf ((onL n g l).take c)) ∧ Hid (∀ j, j < c → inB (onV n g l j) = true) ∧ Hid (Below w.heap.size w wr))
  case atStart => exact ⟨0, Nat.zero_le _, by omega, rfl, World.ownsRow_nil _ _ _ _, fun j hj => absurd hj (Nat.not_lt_zero _), Below.refl _ _⟩
  case round =>
    obtain ⟨c, hc, hgk, rfl, hown, HIN, HW⟩ := hrel
    have HGK := Lib.hid hgk
    have HO := Lib.hid HOL
    clear hgk HOL
    obtain ⟨aao, acap, rfl, hag⟩ := own_slice hown
    by_cases hlt : c < l.length
    · have hszw := HW.out.size
      obtain ⟨b, off, had, hbl, hcell⟩ := (HI.out.below HW.out) c hlt
      have HNEW : Hid (intsOf ((onL n g l).take (c + 1)) = intsOf ((onL n g l).take c) ++ [.int .i64 (onV n g l c)]) := by
        show _ = _
        rw [intsOf_take (by rw [HO.out]; exact hlt), onL_at hlt]
      have hyb := HB.out _ (List.getElem_mem hlt)
      have HNX : Hid (inB (onV n g l c) = true → ∀ j, j < c + 1 → inB (onV n g l j) = true) := fun h j hj => by
        by_cases e : j < c
        · exact HIN.out j e
        · obtain rfl : j = c := by omega
          exact h
      have HBAD : Hid (inB (onV n g l c) = false → codeO (n : Int) g l = 9) := fun h => by
        refine codeO_bad HC0.out ?_
        cases ha : (onL n g l).all inB with
        | false => rfl
        | true =>
          have := List.all_eq_true.1 ha _ (List.getElem_mem (show c < (onL n g l).length by rw [HO.out]; exact hlt))
          rw [onL_at hlt, h] at this
          cases this
      have HCA : n ≤ c ∧ 0 < n ∨ (n = 0 ∨ 0 < n ∧ c < n) ∧ onV n g l c = l[c] := by
        by_cases h0 : n = 0
        · exact .inr ⟨.inl h0, by subst h0; rw [onV_zero, getD_lt hlt]⟩
        · by_cases h1 : n ≤ c
          · exact .inl ⟨h1, by omega⟩
          · exact .inr ⟨.inr ⟨by omega, by omega⟩, by rw [onV_late (by omega), getD_lt hlt]⟩
      rcases HCA with ⟨hnc, hn0⟩ | ⟨hwhy, hsame⟩
      · obtain ⟨q, hq⟩ : ∃ q, q = c - n := ⟨_, rfl⟩
        have hqi : IntKind.i64.wrap ((c : Int) - (n : Int)) = (q : Int) := by rw [IntWalk.i64_in _ (by omega)]; omega
        have hql : q < c := by omega
        have hIR : IntsAt wr aao ((onL n g l).take c) := by
          have e : ((onL n g l).take c).length = c := by rw [List.length_take, HO.out]; omega
          exact ints_own (cap := acap) (by rw [e]; exact hown)
        obtain ⟨b2, off2, hao2, _, hcell2⟩ := hIR q (by rw [List.length_take, HO.out]; omega)
        rw [List.getElem_take, onL_at (by omega)] at hcell2
        have hxb := inB_of (HIN.out q hql)
        have hpb : -16492674416640 ≤ onV n g l q * g ∧ onV n g l q * g ≤ 16492674416640 := LagM.prod_bound ⟨hg0, hg1⟩ hxb
        have hzv : onV n g l c = l[c] + onV n g l q * g / 16 := by rw [onV_from HZ.out hnc, getD_lt hlt, ← hq]; rfl
        generalize l[c] = y at *
        obtain ⟨x, hx⟩ : ∃ x, x = onV n g l q := ⟨_, rfl⟩
        rw [← hx] at hcell2 hpb hzv
        obtain ⟨pr, hpr⟩ : ∃ pr, pr = x * g := ⟨_, rfl⟩
        have hw1 : IntKind.i64.wrap (x * g) = pr := by rw [hpr]; exact IntWalk.i64_in _ (by omega)
        rw [← hpr] at hpb hzv
        have HDN := fun W => Lib.hid (rDown pr W (by omega))
        obtain ⟨t, ht⟩ : ∃ t, t = pr / 16 := ⟨_, rfl⟩
        obtain ⟨z, hzz⟩ : ∃ z, z = onV n g l c := ⟨_, rfl⟩
        rw [← ht] at hzv HDN
        rw [← hzz] at hzv HNEW HNX HBAD
        have hw2 : IntKind.i64.wrap (y + t) = z := by rw [IntWalk.i64_in _ (by omega)]; omega
        subst had hao2
        clear hzz hzv ht hpb hpr hxb hq hyb hx hIR hag
        rcases inB_cases2 z with ⟨t4, t5⟩ | ⟨t4, t6, t5⟩ | ⟨t4, t6, t5⟩
        · have HF : Hid (OutIs (codeO n g l) (onL n g l) w (.returned (.tuple #[.slice none 0 0, .int .i64 9])) wr) := OutIs.no (HBAD.out t5) (by omega) HW.out
          clear t5 HNX HBAD
          go_wp2_with fail
          refine (HDN _).out.mono ?_
          rintro e w5 ⟨rfl, rfl⟩
          go_wp2
          refine bodyPost_ret (v := .tuple #[.slice none 0 0, .int .i64 9]) (by simp [results, Tryz.results27, go_sem]) rfl ?_
          exact HF.out
        · have HF : Hid (OutIs (codeO n g l) (onL n g l) w (.returned (.tuple #[.slice none 0 0, .int .i64 9])) wr) := OutIs.no (HBAD.out t5) (by omega) HW.out
          clear t5 HNX HBAD
          go_wp2_with fail
          refine (HDN _).out.mono ?_
          rintro e w5 ⟨rfl, rfl⟩
          go_wp2
          refine bodyPost_ret (v := .tuple #[.slice none 0 0, .int .i64 9]) (by simp [results, Tryz.results27, go_sem]) rfl ?_
          exact HF.out
        · have HN2 := Lib.hid (HNX.out t5)
          clear t5 HNX HBAD
          go_wp2_with fail
          refine (HDN _).out.mono ?_
          rintro e w5 ⟨rfl, rfl⟩
          go_wp2_with (at_builtin; refine wpList_append_own2 _ rfl _ _ 22 rfl w.heap.size 3 i0 (.int .i64 0) 1 8 Tryz.underlying22 hii hz0 hz1 hz2 rfl (by decide) _ _ _ rfl (hown.alloc _) ⟨wr.heap.size, 0, none⟩ 1 1 [.int .i64 z] rfl rfl ?c1 ?c2 ?c3 ?c4 ?c5 ?_)
          case c1 =>
            intro j u hj
            match j, hj with
            | 0, hj => simp at hj; subst hj; simp [Addr.add]
          case c2 => intro u hu; simp at hu; subst hu; rfl
          case c3 => unfold maxLen; omega
          case c4 => omega
          case c5 => simp; omega
          intro v' w4 hown' hgrow hat
          rw [← HNEW.out] at hown'
          have HW4 : Hid (Below w.heap.size w w4) := (HW.out.trans ((box_below wr (.cells #[.int .i64 z] 3)).mono hszw)).grown hgrow (by simp; omega) (by intro g hg; exact (own_block_lt hown g hg).1)
          clear hgrow hat hown
          go_wp2
          go_roundg (gk - 1)
          case rel => exact ⟨c + 1, by omega, by have := HGK.out; omega, by go_num, hown', HN2.out, HW4⟩
          case measure => have := HGK.out; omega
      · rw [hsame] at HNEW HNX HBAD
        subst had
        have t5 : inB l[c] = true := decide_eq_true hyb
        clear hsame
        generalize l[c] = y at *
        have t6 : decide (1099511627776 < y) = false := decide_eq_false (by omega)
        have t7 : decide (y < -1099511627776) = false := decide_eq_false (by omega)
        clear hyb
        rcases hwhy with hn0 | ⟨hn0, hcn⟩
        · have t1 : decide (0 < n) = false := decide_eq_false (by omega)
          clear hn0
          have HN2 := Lib.hid (HNX.out t5)
          clear t5 HNX HBAD
          go_wp2_with (at_builtin; refine wpList_append_own2 _ rfl _ _ 22 rfl w.heap.size 3 i0 (.int .i64 0) 1 8 Tryz.underlying22 hii hz0 hz1 hz2 rfl (by decide) _ _ _ rfl (hown.alloc _) ⟨wr.heap.size, 0, none⟩ 1 1 [.int .i64 y] rfl rfl ?d1 ?d2 ?d3 ?d4 ?d5 ?_)
          case d1 =>
            intro j u hj
            match j, hj with
            | 0, hj => simp at hj; subst hj; simp [Addr.add]
          case d2 => intro u hu; simp at hu; subst hu; rfl
          case d3 => unfold maxLen; omega
          case d4 => omega
          case d5 => simp; omega
          intro v' w4 hown' hgrow hat
          rw [← HNEW.out] at hown'
          have HW4 : Hid (Below w.heap.size w w4) := (HW.out.trans ((box_below wr (.cells #[.int .i64 y] 3)).mono hszw)).grown hgrow (by simp; omega) (by intro g hg; exact (own_block_lt hown g hg).1)
          clear hgrow hat hown
          go_wp2
          go_roundg (gk - 1)
          case rel => exact ⟨c + 1, by omega, by have := HGK.out; omega, by go_num, hown', HN2.out, HW4⟩
          case measure => have := HGK.out; omega
        · have HN2 := Lib.hid (HNX.out t5)
          clear t5 HNX HBAD
          go_wp2_with (at_builtin; refine wpList_append_own2 _ rfl _ _ 22 rfl w.heap.size 3 i0 (.int .i64 0) 1 8 Tryz.underlying22 hii hz0 hz1 hz2 rfl (by decide) _ _ _ rfl (hown.alloc _) ⟨wr.heap.size, 0, none⟩ 1 1 [.int .i64 y] rfl rfl ?e1 ?e2 ?e3 ?e4 ?e5 ?_)
          case e1 =>
            intro j u hj
            match j, hj with
            | 0, hj => simp at hj; subst hj; simp [Addr.add]
          case e2 => intro u hu; simp at hu; subst hu; rfl
          case e3 => unfold maxLen; omega
          case e4 => omega
          case e5 => simp; omega
          intro v' w4 hown' hgrow hat
          rw [← HNEW.out] at hown'
          have HW4 : Hid (Below w.heap.size w w4) := (HW.out.trans ((box_below wr (.cells #[.int .i64 y] 3)).mono hszw)).grown hgrow (by simp; omega) (by intro g hg; exact (own_block_lt hown g hg).1)
          clear hgrow hat hown
          go_wp2
          go_roundg (gk - 1)
          case rel => exact ⟨c + 1, by omega, by have := HGK.out; omega, by go_num, hown', HN2.out, HW4⟩
          case measure => have := HGK.out; omega
    · obtain rfl : c = l.length := by omega
      have HF : Hid (OutIs (codeO n g l) (onL n g l) w (.returned (.tuple #[.slice aao l.length acap, .int .i64 0])) wr) := by
        refine .inr ⟨codeO_ok HC0.out (onL_all fun j hj => HIN.out j hj), aao, acap, by rw [HO.out], ?_, by rw [HO.out]; exact own_cap hown, HW.out⟩
        have h := hown
        rw [List.take_of_length_le (by rw [HO.out]; exact Nat.le_refl _)] at h
        exact ints_own (cap := acap) (by rw [HO.out]; exact h)
      go_wp2
      refine bodyPost_ret (v := .tuple #[.slice aao l.length acap, .int .i64 0]) (by simp [results, Tryz.results27, go_sem]) rfl ?_
      exact HF.out
end Go.Proofs.YtefbakhhlonafaaGreat.Gx
end

section
namespace Go.Proofs.YtefbakhhlonafaaGreat
open Go.RowKit Go.Shelf Go.Proofs Go.Proofs.PipeM Go.Proofs.PipeA
set_option maxRecDepth 100000

/-- How many bits a list has in so many parts, each with its best parameter; the best of the first powers; the greatest power. -/
def lenAt (l : List Int) (p : Nat) : Nat := 2 + bodyLen (l.length / 2 ^ p) (bestKs (l.length / 2 ^ p) l (2 ^ p)) l (2 ^ p)
def ksAt (l : List Int) (p : Nat) : List Int := bestKs (l.length / 2 ^ p) l (2 ^ p)
def pickP (l : List Int) : Nat → Nat
  | 0 => 0
  | k + 1 => if lenAt l (k + 1) < lenAt l (pickP l k) then k + 1 else pickP l k
/-- Between two rounds. -/
def SBRel (l : List Int) (w : World) (B2 B4 c : Nat) (wr : World) : Prop :=
  ∃ H m, Hid (m = 2 ^ pickP l c) ∧ wr.cell? ⟨B4, 0, none⟩ = some (.int .i64 (pickP l c : Nat)) ∧ wr.cell? ⟨B4, 1, none⟩ = some (.slice (some ⟨H, 0, none⟩) m m) ∧ wr.frozen? ⟨B4, 0, none⟩ = false ∧ wr.frozen? ⟨B4, 1, none⟩ = false ∧
    wr.cell? ⟨B2, 0, none⟩ = some (.int .i64 0) ∧ wr.cell? ⟨B2, 1, none⟩ = some (.slice none 0 0) ∧ wr.frozen? ⟨B2, 0, none⟩ = false ∧ wr.frozen? ⟨B2, 1, none⟩ = false ∧
    IntsAt wr (some ⟨H, 0, none⟩) (ksAt l (pickP l c)) ∧ w.heap.size < H ∧ H ≠ B4 ∧ B2 = w.heap.size ∧ w.heap.size < B4 ∧ B4 < wr.heap.size ∧ Below w.heap.size w wr

theorem SBRel.no {l : List Int} {w : World} {B2 B4 c c' : Nat} {wr w6 : World} (h : SBRel l w B2 B4 c wr) (hb : Below wr.heap.size wr w6) (hp : pickP l c' = pickP l c) : SBRel l w B2 B4 c' w6 := by
  obtain ⟨H, m, HM, h1, h2, h3, h4, h5, h6, h7, h8, h9, h10, h11, rfl, h13, h14, h15⟩ := h
  have hz := h15.size
  have hw : w.heap.size < wr.heap.size := by omega
  refine ⟨H, m, by rw [hp]; exact HM, ?_, (hb.cell (p := ⟨B4, 1, none⟩) h14).trans h2, (hb.frozen (p := ⟨B4, 0, none⟩) h14).trans h3, (hb.frozen (p := ⟨B4, 1, none⟩) h14).trans h4, (hb.cell (p := ⟨w.heap.size, 0, none⟩) hw).trans h5, (hb.cell (p := ⟨w.heap.size, 1, none⟩) hw).trans h6, (hb.frozen (p := ⟨w.heap.size, 0, none⟩) hw).trans h7, (hb.frozen (p := ⟨w.heap.size, 1, none⟩) hw).trans h8,
    by rw [hp]; exact h9.below hb, h10, h11, rfl, h13, Nat.lt_of_lt_of_le h14 hb.size, h15.trans (hb.mono hz)⟩
  rw [hp]; exact (hb.cell (p := ⟨B4, 0, none⟩) h14).trans h1

end Go.Proofs.YtefbakhhlonafaaGreat
end

section
namespace Go.Proofs.YtefbakhhlonafaaGreat
open Go.RowKit Go.Proofs Go.Proofs.PipeM Go.Proofs.PipeA

theorem totalN_ge (l : List Int) (k : Nat) : l.length ≤ totalN l k := by
  induction l with
  | nil => simp
  | cons n l ih =>
    have := costN_pos n k
    simp [totalN] at ih ⊢
    omega

theorem bodyLen_ge (size : Nat) (ks l : List Int) : ∀ n, n * size ≤ l.length → n * (5 + size) ≤ bodyLen size ks l n
  | 0, _ => by simp
  | n + 1, h => by
    have h0 : n * size ≤ l.length := by rw [Nat.add_mul, Nat.one_mul] at h; omega
    have ih := bodyLen_ge size ks l n h0
    show _ ≤ bodyLen size ks l n + partLen size ks l n
    have h1 := totalN_ge (partNo size l n) (ks.getD n 0).toNat
    rw [partNo_length h] at h1
    unfold partLen
    rw [Nat.add_mul, Nat.one_mul]
    omega

/-- A list that may be has at least so many bits. -/
theorem slide_ge {l ks : List Int} {P : Int} (h : slideOk l P ks = true) : 2 + 5 * ks.length + l.length ≤ slideLen l P ks := by
  obtain ⟨p, hP, h3, hk1, hk8, hk0, hl1, hl2, hs1, hs2, hsp, hks, hin⟩ := slide_parts h
  rw [slide_len h]
  have := bodyLen_ge (l.length / ks.length) ks l ks.length (by rw [Nat.mul_comm]; exact Nat.le_of_eq hsp.symm)
  rw [Nat.mul_add, Nat.mul_comm ks.length (l.length / ks.length), ← hsp] at this
  omega

end Go.Proofs.YtefbakhhlonafaaGreat
end

section
namespace Go.Proofs.YtefbakhhlonafaaGreat
open Go.RowKit Go.Proofs Go.Proofs.PipeM Go.Proofs.PipeA
set_option maxRecDepth 100000

end Go.Proofs.YtefbakhhlonafaaGreat
end

section
namespace Go.Proofs.YtefbakhhlonafaaGreat
open Go.RowKit Go.Proofs Go.Proofs.PipeM Go.Proofs.PipeA
set_option maxRecDepth 100000

def intsOf (l : List Int) : List Value := l.map fun n => Value.int .i64 n
theorem intsOf_snoc (l : List Int) (n : Int) : intsOf (l ++ [n]) = intsOf l ++ [.int .i64 n] := by simp [intsOf]
theorem ints_own {w : World} {base g cap : Nat} {l : List Int} (h : w.ownsRow base 3 1 (.slice (some ⟨g, 0, none⟩) l.length cap) l.length (intsOf l)) : IntsAt w (some ⟨g, 0, none⟩) l := by
  intro j hj
  refine ⟨g, 0, rfl, ((own_block_lt h) g rfl).2, ?_⟩
  rw [Nat.zero_add, h.cellAt j (by simpa [intsOf] using hj)]
  simp [intsOf]
theorem ints_own_any {w : World} {base : Nat} {ao : Option Addr} {cap : Nat} {l : List Int} (h : w.ownsRow base 3 1 (.slice ao l.length cap) l.length (intsOf l)) : IntsAt w ao l := by
  rcases h.2 with ⟨h1, h2⟩ | ⟨g, cap', cur, h1, _⟩
  · have : l = [] := List.eq_nil_of_length_eq_zero h2
    subst this
    intro j hj; simp at hj
  · simp only [Value.slice.injEq] at h1
    obtain ⟨rfl, _, rfl⟩ := h1
    exact ints_own h
theorem own_cap {w : World} {base : Nat} {ao : Option Addr} {cap n : Nat} {l : List Value} (h : w.ownsRow base 3 1 (.slice ao n cap) n l) : n ≤ cap := by
  rcases h.2 with ⟨h1, h2⟩ | ⟨g, cap', cur, h1, _, _, h3, _⟩
  · omega
  · simp only [Value.slice.injEq] at h1
    obtain ⟨_, _, rfl⟩ := h1
    exact h3

end Go.Proofs.YtefbakhhlonafaaGreat
end

section
namespace Go.Proofs.YtefbakhhlonafaaGreat
open Go.RowKit Go.Proofs Go.Proofs.PipeM Go.Proofs.PipeA

/-- Numbers that come next under one parameter; a part; parts of one length. -/
def RS.many (k : Int) : Nat → RS → RS × List Int
  | 0, s => (s, [])
  | n + 1, s => ((RS.many k n (s.rice k).1).1, (s.rice k).2 :: (RS.many k n (s.rice k).1).2)
theorem many_snoc (k : Int) : ∀ n s, RS.many k (n + 1) s = (((RS.many k n s).1.rice k).1, (RS.many k n s).2 ++ [((RS.many k n s).1.rice k).2])
  | 0, s => rfl
  | n + 1, s => by
    rw [RS.many, many_snoc k n (s.rice k).1]
    rfl
theorem many_length (k : Int) : ∀ n s, (RS.many k n s).2.length = n
  | 0, _ => rfl
  | n + 1, s => by rw [RS.many]; simp [many_length k n]

def RS.partS (size : Nat) (s : RS) : RS × List Int := RS.many (s.takeV 5) size (s.takeS 5)
def RS.body (size : Nat) : Nat → RS → RS × List Int × List Int
  | 0, s => (s, [], [])
  | m + 1, s => if (s.partS size).1.err ≠ 0 then ((s.partS size).1, [], []) else ((RS.body size m (s.partS size).1).1, (s.partS size).2 ++ (RS.body size m (s.partS size).1).2.1, ((s.takeV 5 : Nat) : Int) :: (RS.body size m (s.partS size).1).2.2)

/-- What a list's taking leaves, and answers: the reader, the numbers, how many parts, and each one's parameter. -/
def RS.slideB (s : RS) (n p : Nat) : RS × List Int × Nat × List Int :=
  if (RS.body (n / 2 ^ p) (2 ^ p) s).1.err ≠ 0 then ((RS.body (n / 2 ^ p) (2 ^ p) s).1, [], 0, []) else ((RS.body (n / 2 ^ p) (2 ^ p) s).1, (RS.body (n / 2 ^ p) (2 ^ p) s).2.1, p, (RS.body (n / 2 ^ p) (2 ^ p) s).2.2)
def RS.slide (s : RS) (n : Int) : RS × List Int × Nat × List Int :=
  if n < 1 ∨ 1024 < n then (s.give 1, [], 0, [])
  else if n.toNat % 2 ^ s.takeV 2 ≠ 0 then ((s.takeS 2).give 2, [], 0, [])
  else (s.takeS 2).slideB n.toNat (s.takeV 2)

end Go.Proofs.YtefbakhhlonafaaGreat
end
