import Derived.Test.YtefbakhhlonafaaBlkF2

section
namespace Go.Proofs.Ytefbakhhlonafaa.Gx
open Go.RowKit Go.Proofs Go.Proofs.PipeA Go.Proofs.LagM
set_option maxRecDepth 100000

theorem intsOf_take {l : List Int} {j : Nat} (h : j < l.length) : intsOf (l.take (j + 1)) = intsOf (l.take j) ++ [.int .i64 l[j]] := by
  unfold intsOf
  rw [List.take_succ_eq_append_getElem h, List.map_append]; rfl
theorem own_cap {w : World} {base size n cap : Nat} {e : TypeId} {xs : List Value} {ao : Option Addr} (h : w.ownsRow base e size (.slice ao n cap) n xs) : n ≤ cap := by
  rcases h.2 with ⟨h1, h2⟩ | ⟨g, cap', cur, h1, _, _, h2, _⟩
  · omega
  · cases h1; exact h2

end Go.Proofs.Ytefbakhhlonafaa.Gx
end

section
namespace Go.Proofs.Ytefbakhhlonafaa.Gx
open Go.RowKit Go.Proofs Go.Proofs.PipeA Go.Proofs.LagM
set_option maxRecDepth 100000

set_option maxHeartbeats 3200000 in
theorem rOn (n : Nat) (g : Int) (ao : Option Addr) (cap : Nat) (l : List Int) (w : World) (hcd : codeT (n : Int) g l = 0) (hl : l.length ≤ 100000) (hi : IntsAt w ao l) :
    Calls Try.prog 23 #[.int .i64 n, .int .i64 g, .slice ao l.length cap] w (OutIs (codeO n g l) (onL n g l) w) := by
  obtain ⟨i0, hii, hz0, hz1, hz2⟩ := info_parts info_int
  obtain ⟨hgood, hall⟩ := codeT_zero hcd
  obtain ⟨n', hnn, hn, hg0, hg1, hz, _⟩ := goodT_of hgood
  obtain rfl : n = n' := by omega
  have HI := Lib.hid hi
  have HB := Lib.hid (all_B hall)
  have HAL := Lib.hid hall
  have HOL := onL_length n g l
  have HZ := Lib.hid hz
  have HC0 := Lib.hid hcd
  clear hi hall hz hcd hgood hnn
  go_enter Try.func23, Try.ntmps23
  go_wp2
  go_loopg [8, 9, 10, 13] l.length (fun gk va q1 q2 i wr => ∃ c : Nat, c ≤ l.length ∧ gk + c = l.length ∧ i = .int .i64 c ∧ wr.ownsRow w.heap.size 3 1 va c (intsOf ((onL n g l).take c)) ∧ Hid (∀ j, j < c → inB (onV n g l j) = true) ∧ Hid (Below w.heap.size w wr))
  case atStart => exact ⟨0, Nat.zero_le _, by omega, rfl, World.ownsRow_nil _ _ _ _, fun j hj => absurd hj (Nat.not_lt_zero _), Below.refl _ _⟩
  case round =>
    obtain ⟨c, hc, hgk, rfl, hown, HIN, HW⟩ := hrel
    have HGK := Lib.hid hgk
    have HO := Lib.hid HOL
    clear hgk HOL
    obtain ⟨aao, acap, rfl, hag⟩ := own_slice hown
    by_cases hlt : c < l.length
    · have hszw := HW.out.size
      obtain ⟨b, off, had, hbl, hcell⟩ := (HI.out.below HW.out) c hlt
      have HNEW : Hid (intsOf ((onL n g l).take (c + 1)) = intsOf ((onL n g l).take c) ++ [.int .i64 (onV n g l c)]) := by
        show _ = _
        rw [intsOf_take (by rw [HO.out]; exact hlt), onL_at hlt]
      have hyb := HB.out _ (List.getElem_mem hlt)
      have HNX : Hid (inB (onV n g l c) = true → ∀ j, j < c + 1 → inB (onV n g l j) = true) := fun h j hj => by
        by_cases e : j < c
        · exact HIN.out j e
        · obtain rfl : j = c := by omega
          exact h
      have HBAD : Hid (inB (onV n g l c) = false → codeO (n : Int) g l = 9) := fun h => by
        refine codeO_bad HC0.out ?_
        cases ha : (onL n g l).all inB with
        | false => rfl
        | true =>
          have := List.all_eq_true.1 ha _ (List.getElem_mem (show c < (onL n g l).length by rw [HO.out]; exact hlt))
          rw [onL_at hlt, h] at this
          cases this
      have HCA : n ≤ c ∧ 0 < n ∨ (n = 0 ∨ 0 < n ∧ c < n) ∧ onV n g l c = l[c] := by
        by_cases h0 : n = 0
        · exact .inr ⟨.inl h0, by subst h0; rw [onV_zero, getD_lt hlt]⟩
        · by_cases h1 : n ≤ c
          · exact .inl ⟨h1, by omega⟩
          · exact .inr ⟨.inr ⟨by omega, by omega⟩, by rw [onV_late (by omega), getD_lt hlt]⟩
      rcases HCA with ⟨hnc, hn0⟩ | ⟨hwhy, hsame⟩
      · obtain ⟨q, hq⟩ : ∃ q, q = c - n := ⟨_, rfl⟩
        have hqi : IntKind.i64.wrap ((c : Int) - (n : Int)) = (q : Int) := by rw [IntWalk.i64_in _ (by omega)]; omega
        have hql : q < c := by omega
        have hIR : IntsAt wr aao ((onL n g l).take c) := by
          have e : ((onL n g l).take c).length = c := by rw [List.length_take, HO.out]; omega
          exact ints_own (cap := acap) (by rw [e]; exact hown)
        obtain ⟨b2, off2, hao2, _, hcell2⟩ := hIR q (by rw [List.length_take, HO.out]; omega)
        rw [List.getElem_take, onL_at (by omega)] at hcell2
        have hxb := inB_of (HIN.out q hql)
        have hpb : -16492674416640 ≤ onV n g l q * g ∧ onV n g l q * g ≤ 16492674416640 := LagM.prod_bound ⟨hg0, hg1⟩ hxb
        have hzv : onV n g l c = l[c] + onV n g l q * g / 16 := by rw [onV_from HZ.out hnc, getD_lt hlt, ← hq]; rfl
        generalize l[c] = y at *
        obtain ⟨x, hx⟩ : ∃ x, x = onV n g l q := ⟨_, rfl⟩
        rw [← hx] at hcell2 hpb hzv
        obtain ⟨pr, hpr⟩ : ∃ pr, pr = x * g := ⟨_, rfl⟩
        have hw1 : IntKind.i64.wrap (x * g) = pr := by rw [hpr]; exact IntWalk.i64_in _ (by omega)
        rw [← hpr] at hpb hzv
        have HDN := fun W => Lib.hid (rDown pr W (by omega))
        obtain ⟨t, ht⟩ : ∃ t, t = pr / 16 := ⟨_, rfl⟩
        obtain ⟨z, hzz⟩ : ∃ z, z = onV n g l c := ⟨_, rfl⟩
        rw [← ht] at hzv HDN
        rw [← hzz] at hzv HNEW HNX HBAD
        have hw2 : IntKind.i64.wrap (y + t) = z := by rw [IntWalk.i64_in _ (by omega)]; omega
        subst had hao2
        clear hzz hzv ht hpb hpr hxb hq hyb hx hIR hag
        rcases inB_cases2 z with ⟨t4, t5⟩ | ⟨t4, t6, t5⟩ | ⟨t4, t6, t5⟩
        · have HF : Hid (OutIs (codeO n g l) (onL n g l) w (.returned (.tuple #[.slice none 0 0, .int .i64 9])) wr) := OutIs.no (HBAD.out t5) (by omega) HW.out
          clear t5 HNX HBAD
          go_wp2_with fail
          refine (HDN _).out.mono ?_
          rintro e w5 ⟨rfl, rfl⟩
          go_wp2
          refine bodyPost_ret (v := .tuple #[.slice none 0 0, .int .i64 9]) (by simp [results, Try.results23, go_sem]) rfl ?_
          exact HF.out
        · have HF : Hid (OutIs (codeO n g l) (onL n g l) w (.returned (.tuple #[.slice none 0 0, .int .i64 9])) wr) := OutIs.no (HBAD.out t5) (by omega) HW.out
          clear t5 HNX HBAD
          go_wp2_with fail
          refine (HDN _).out.mono ?_
          rintro e w5 ⟨rfl, rfl⟩
          go_wp2
          refine bodyPost_ret (v := .tuple #[.slice none 0 0, .int .i64 9]) (by simp [results, Try.results23, go_sem]) rfl ?_
          exact HF.out
        · have HN2 := Lib.hid (HNX.out t5)
          clear t5 HNX HBAD
          go_wp2_with fail
          refine (HDN _).out.mono ?_
          rintro e w5 ⟨rfl, rfl⟩
          go_wp2_with (at_builtin; refine wpList_append_own2 _ rfl _ _ 22 rfl w.heap.size 3 i0 (.int .i64 0) 1 8 Try.underlying22 hii hz0 hz1 hz2 rfl (by decide) _ _ _ rfl (hown.alloc _) ⟨wr.heap.size, 0, none⟩ 1 1 [.int .i64 z] rfl rfl ?c1 ?c2 ?c3 ?c4 ?c5 ?_)
          case c1 =>
            intro j u hj
            match j, hj with
            | 0, hj => simp at hj; subst hj; simp [Addr.add]
          case c2 => intro u hu; simp at hu; subst hu; rfl
          case c3 => unfold maxLen; omega
          case c4 => omega
          case c5 => simp; omega
          intro v' w4 hown' hgrow hat
          rw [← HNEW.out] at hown'
          have HW4 : Hid (Below w.heap.size w w4) := (HW.out.trans ((box_below wr (.cells #[.int .i64 z] 3)).mono hszw)).grown hgrow (by simp; omega) (by intro g hg; exact (own_block_lt hown g hg).1)
          clear hgrow hat hown
          go_wp2
          go_roundg (gk - 1)
          case rel => exact ⟨c + 1, by omega, by have := HGK.out; omega, by go_num, hown', HN2.out, HW4⟩
          case measure => have := HGK.out; omega
      · rw [hsame] at HNEW HNX HBAD
        subst had
        have t5 : inB l[c] = true := decide_eq_true hyb
        clear hsame
        generalize l[c] = y at *
        have t6 : decide (1099511627776 < y) = false := decide_eq_false (by omega)
        have t7 : decide (y < -1099511627776) = false := decide_eq_false (by omega)
        clear hyb
        rcases hwhy with hn0 | ⟨hn0, hcn⟩
        · have t1 : decide (0 < n) = false := decide_eq_false (by omega)
          clear hn0
          have HN2 := Lib.hid (HNX.out t5)
          clear t5 HNX HBAD
          go_wp2_with (at_builtin; refine wpList_append_own2 _ rfl _ _ 22 rfl w.heap.size 3 i0 (.int .i64 0) 1 8 Try.underlying22 hii hz0 hz1 hz2 rfl (by decide) _ _ _ rfl (hown.alloc _) ⟨wr.heap.size, 0, none⟩ 1 1 [.int .i64 y] rfl rfl ?d1 ?d2 ?d3 ?d4 ?d5 ?_)
          case d1 =>
            intro j u hj
            match j, hj with
            | 0, hj => simp at hj; subst hj; simp [Addr.add]
          case d2 => intro u hu; simp at hu; subst hu; rfl
          case d3 => unfold maxLen; omega
          case d4 => omega
          case d5 => simp; omega
          intro v' w4 hown' hgrow hat
          rw [← HNEW.out] at hown'
          have HW4 : Hid (Below w.heap.size w w4) := (HW.out.trans ((box_below wr (.cells #[.int .i64 y] 3)).mono hszw)).grown hgrow (by simp; omega) (by intro g hg; exact (own_block_lt hown g hg).1)
          clear hgrow hat hown
          go_wp2
          go_roundg (gk - 1)
          case rel => exact ⟨c + 1, by omega, by have := HGK.out; omega, by go_num, hown', HN2.out, HW4⟩
          case measure => have := HGK.out; omega
        · have HN2 := Lib.hid (HNX.out t5)
          clear t5 HNX HBAD
          go_wp2_with (at_builtin; refine wpList_append_own2 _ rfl _ _ 22 rfl w.heap.size 3 i0 (.int .i64 0) 1 8 Try.underlying22 hii hz0 hz1 hz2 rfl (by decide) _ _ _ rfl (hown.alloc _) ⟨wr.heap.size, 0, none⟩ 1 1 [.int .i64 y] rfl rfl ?e1 ?e2 ?e3 ?e4 ?e5 ?_)
          case e1 =>
            intro j u hj
            match j, hj with
            | 0, hj => simp at hj; subst hj; simp [Addr.add]
          case e2 => intro u hu; simp at hu; subst hu; rfl
          case e3 => unfold maxLen; omega
          case e4 => omega
          case e5 => simp; omega
          intro v' w4 hown' hgrow hat
          rw [← HNEW.out] at hown'
          have HW4 : Hid (Below w.heap.size w w4) := (HW.out.trans ((box_below wr (.cells #[.int .i64 y] 3)).mono hszw)).grown hgrow (by simp; omega) (by intro g hg; exact (own_block_lt hown g hg).1)
          clear hgrow hat hown
          go_wp2
          go_roundg (gk - 1)
          case rel => exact ⟨c + 1, by omega, by have := HGK.out; omega, by go_num, hown', HN2.out, HW4⟩
          case measure => have := HGK.out; omega
    · obtain rfl : c = l.length := by omega
      have HF : Hid (OutIs (codeO n g l) (onL n g l) w (.returned (.tuple #[.slice aao l.length acap, .int .i64 0])) wr) := by
        refine .inr ⟨codeO_ok HC0.out (onL_all fun j hj => HIN.out j hj), aao, acap, by rw [HO.out], ?_, by rw [HO.out]; exact own_cap hown, HW.out⟩
        have h := hown
        rw [List.take_of_length_le (by rw [HO.out]; exact Nat.le_refl _)] at h
        exact ints_own (cap := acap) (by rw [HO.out]; exact h)
      go_wp2
      refine bodyPost_ret (v := .tuple #[.slice aao l.length acap, .int .i64 0]) (by simp [results, Try.results23, go_sem]) rfl ?_
      exact HF.out
end Go.Proofs.Ytefbakhhlonafaa.Gx
end
