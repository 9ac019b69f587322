import Derived.Test.YtnfpkjnllkkngaaGreatDoorFxFilC6
import Derived.Test.YtnfpkjnllkkngaaGreatDoorRiceC1

section
namespace Go.Proofs.YtnfpkjnllkkngaaGreatDoor.Fx
open Go.RowKit Go.Proofs Go.Proofs.PipeA Go.Proofs.LatM Go.Proofs.FilM
set_option maxRecDepth 100000

end Go.Proofs.YtnfpkjnllkkngaaGreatDoor.Fx
end

section
namespace Go.Proofs.YtnfpkjnllkkngaaGreatDoor.Gx
open Go.RowKit Go.Proofs Go.Proofs.PipeA Go.Proofs.LagM
set_option maxRecDepth 100000

theorem intsOf_take {l : List Int} {j : Nat} (h : j < l.length) : intsOf (l.take (j + 1)) = intsOf (l.take j) ++ [.int .i64 l[j]] := by
  unfold intsOf
  rw [List.take_succ_eq_append_getElem h, List.map_append]; rfl
theorem own_cap {w : World} {base size n cap : Nat} {e : TypeId} {xs : List Value} {ao : Option Addr} (h : w.ownsRow base e size (.slice ao n cap) n xs) : n ≤ cap := by
  rcases h.2 with ⟨h1, h2⟩ | ⟨g, cap', cur, h1, _, _, h2, _⟩
  · omega
  · cases h1; exact h2

/-- The same, and that the memory is new. -/
def NewF (m : List Int) (w : World) (e : Ending) (w' : World) : Prop := ∃ ao cap, e = .returned (.slice ao m.length cap) ∧ IntsAt w' ao m ∧ m.length ≤ cap ∧ (∀ g off, ao = some ⟨g, off, none⟩ → w.heap.size ≤ g) ∧ Below w.heap.size w w'

set_option maxHeartbeats 3200000 in
theorem rOffF (n : Nat) (g : Int) (ao : Option Addr) (cap : Nat) (l : List Int) (w : World) (hn : n ≤ 255) (hg : 0 ≤ g ∧ g ≤ 15) (hz : n = 0 → g = 0) (hl : l.length ≤ 100000) (hb : l.all inB = true) (hi : IntsAt w ao l) :
    Calls Tryz.prog 29 #[.int .i64 n, .int .i64 g, .slice ao l.length cap] w (NewF (offL n g l) w) := by
  obtain ⟨i0, hii, hz0, hz1, hz2⟩ := info_parts info_int
  have HI := Lib.hid hi
  have HB := Lib.hid (all_B hb)
  have HOL := offL_length n g l
  have HZ := Lib.hid hz
  clear hi hb hz
  go_enter Tryz.func29, Tryz.ntmps29
  go_wp2
  go_loopg [7, 8, 9, 12] l.length (fun gk va q1 q2 i wr => ∃ c : Nat, c ≤ l.length ∧ gk + c = l.length ∧ i = .int .i64 c ∧ wr.ownsRow w.heap.size 3 1 va c (intsOf ((offL n g l).take c)) ∧ Hid (Below w.heap.size w wr))
  case atStart => exact ⟨0, Nat.zero_le _, by omega, rfl, World.ownsRow_nil _ _ _ _, Below.refl _ _⟩
  case round =>
    obtain ⟨c, hc, hgk, rfl, hown, HW⟩ := hrel
    have HGK := Lib.hid hgk
    have HO := Lib.hid HOL
    clear hgk HOL
    obtain ⟨aao, acap, rfl, hag⟩ := own_slice hown
    by_cases hlt : c < l.length
    · have hszw := HW.out.size
      obtain ⟨b, off, had, hbl, hcell⟩ := (HI.out.below HW.out) c hlt
      have HNEW : Hid (intsOf ((offL n g l).take (c + 1)) = intsOf ((offL n g l).take c) ++ [.int .i64 (offV n g l c)]) := by
        show _ = _
        rw [intsOf_take (by rw [HO.out]; exact hlt), offL_at hlt]
      have hyb := HB.out _ (List.getElem_mem hlt)
      have HY := Lib.hid (getD_lt hlt)
      have HCA : n ≤ c ∧ 0 < n ∨ (n = 0 ∨ 0 < n ∧ c < n) ∧ offV n g l c = l[c] := by
        by_cases h0 : n = 0
        · exact .inr ⟨.inl h0, by subst h0; rw [HZ.out rfl, offV_zero, getD_lt hlt]⟩
        · by_cases h1 : n ≤ c
          · exact .inl ⟨h1, by omega⟩
          · exact .inr ⟨.inr ⟨by omega, by omega⟩, by rw [offV_late (by omega), getD_lt hlt]⟩
      rcases HCA with ⟨hnc, hn0⟩ | ⟨hwhy, hsame⟩
      · obtain ⟨q, hq⟩ : ∃ q, q = c - n := ⟨_, rfl⟩
        have hqi : IntKind.i64.wrap ((c : Int) - (n : Int)) = (q : Int) := by rw [IntWalk.i64_in _ (by omega)]; omega
        have hql : q < l.length := by omega
        obtain ⟨b2, off2, had2, _, hcell2⟩ := (HI.out.below HW.out) q hql
        cases had.symm.trans had2
        have hxb := HB.out _ (List.getElem_mem hql)
        have hpb : -16492674416640 ≤ l[q] * g ∧ l[q] * g ≤ 16492674416640 := LagM.prod_bound hg hxb
        have hzv : offV n g l c = l[c] - l[q] * g / 16 := by rw [offV_from hnc, getD_lt hlt, ← hq, getD_lt hql]; rfl
        generalize l[c] = y at *
        obtain ⟨pr, hpr⟩ : ∃ pr, pr = l[q] * g := ⟨_, rfl⟩
        have hw1 : IntKind.i64.wrap (l[q] * g) = pr := by rw [hpr]; exact IntWalk.i64_in _ (by omega)
        rw [← hpr] at hpb hzv
        have HDN := fun W => Lib.hid (rDown pr W (by omega))
        obtain ⟨t, ht⟩ : ∃ t, t = pr / 16 := ⟨_, rfl⟩
        obtain ⟨z, hzz⟩ : ∃ z, z = offV n g l c := ⟨_, rfl⟩
        rw [← ht] at hzv HDN
        rw [← hzz] at hzv HNEW
        have hw2 : IntKind.i64.wrap (y - t) = z := by rw [IntWalk.i64_in _ (by omega)]; omega
        generalize l[q] = x at *
        subst had
        clear hzz hzv ht hpb hpr hxb hq hyb
        go_wp2_with fail
        refine (HDN _).out.mono ?_
        rintro e w5 ⟨rfl, rfl⟩
        go_wp2_with (at_builtin; refine wpList_append_own2 _ rfl _ _ 22 rfl w.heap.size 3 i0 (.int .i64 0) 1 8 Tryz.underlying22 hii hz0 hz1 hz2 rfl (by decide) _ _ _ rfl (hown.alloc _) ⟨wr.heap.size, 0, none⟩ 1 1 [.int .i64 z] rfl rfl ?c1 ?c2 ?c3 ?c4 ?c5 ?_)
        case c1 =>
          intro j u hj
          match j, hj with
          | 0, hj => simp at hj; subst hj; simp [Addr.add]
        case c2 => intro u hu; simp at hu; subst hu; rfl
        case c3 => unfold maxLen; omega
        case c4 => omega
        case c5 => simp; omega
        intro v' w4 hown' hgrow hat
        rw [← HNEW.out] at hown'
        have HW4 : Hid (Below w.heap.size w w4) := (HW.out.trans ((box_below wr (.cells #[.int .i64 z] 3)).mono hszw)).grown hgrow (by simp; omega) (by intro g hg; exact (own_block_lt hown g hg).1)
        clear hgrow hat hown
        go_wp2
        go_roundg (gk - 1)
        case rel => exact ⟨c + 1, by omega, by have := HGK.out; omega, by go_num, hown', HW4⟩
        case measure => have := HGK.out; omega
      · rw [hsame] at HNEW
        subst had
        clear hsame
        generalize l[c] = y at *
        rcases hwhy with hn0 | ⟨hn0, hcn⟩
        · have t1 : decide (0 < n) = false := decide_eq_false (by omega)
          clear hn0
          go_wp2_with (at_builtin; refine wpList_append_own2 _ rfl _ _ 22 rfl w.heap.size 3 i0 (.int .i64 0) 1 8 Tryz.underlying22 hii hz0 hz1 hz2 rfl (by decide) _ _ _ rfl (hown.alloc _) ⟨wr.heap.size, 0, none⟩ 1 1 [.int .i64 y] rfl rfl ?d1 ?d2 ?d3 ?d4 ?d5 ?_)
          case d1 =>
            intro j u hj
            match j, hj with
            | 0, hj => simp at hj; subst hj; simp [Addr.add]
          case d2 => intro u hu; simp at hu; subst hu; rfl
          case d3 => unfold maxLen; omega
          case d4 => omega
          case d5 => simp; omega
          intro v' w4 hown' hgrow hat
          rw [← HNEW.out] at hown'
          have HW4 : Hid (Below w.heap.size w w4) := (HW.out.trans ((box_below wr (.cells #[.int .i64 y] 3)).mono hszw)).grown hgrow (by simp; omega) (by intro g hg; exact (own_block_lt hown g hg).1)
          clear hgrow hat hown
          go_wp2
          go_roundg (gk - 1)
          case rel => exact ⟨c + 1, by omega, by have := HGK.out; omega, by go_num, hown', HW4⟩
          case measure => have := HGK.out; omega
        · go_wp2_with (at_builtin; refine wpList_append_own2 _ rfl _ _ 22 rfl w.heap.size 3 i0 (.int .i64 0) 1 8 Tryz.underlying22 hii hz0 hz1 hz2 rfl (by decide) _ _ _ rfl (hown.alloc _) ⟨wr.heap.size, 0, none⟩ 1 1 [.int .i64 y] rfl rfl ?e1 ?e2 ?e3 ?e4 ?e5 ?_)
          case e1 =>
            intro j u hj
            match j, hj with
            | 0, hj => simp at hj; subst hj; simp [Addr.add]
          case e2 => intro u hu; simp at hu; subst hu; rfl
          case e3 => unfold maxLen; omega
          case e4 => omega
          case e5 => simp; omega
          intro v' w4 hown' hgrow hat
          rw [← HNEW.out] at hown'
          have HW4 : Hid (Below w.heap.size w w4) := (HW.out.trans ((box_below wr (.cells #[.int .i64 y] 3)).mono hszw)).grown hgrow (by simp; omega) (by intro g hg; exact (own_block_lt hown g hg).1)
          clear hgrow hat hown
          go_wp2
          go_roundg (gk - 1)
          case rel => exact ⟨c + 1, by omega, by have := HGK.out; omega, by go_num, hown', HW4⟩
          case measure => have := HGK.out; omega
    · obtain rfl : c = l.length := by omega
      have HF : Hid (NewF (offL n g l) w (.returned (.slice aao l.length acap)) wr) := by
        refine ⟨aao, acap, by rw [HO.out], ?_, by rw [HO.out]; exact own_cap hown, (fun g off e => by subst e; exact (own_block_lt hown g rfl).1), HW.out⟩
        have h := hown
        rw [List.take_of_length_le (by rw [HO.out]; exact Nat.le_refl _)] at h
        exact ints_own (cap := acap) (by rw [HO.out]; exact h)
      go_wp2
      go_ret
      exact HF.out

end Go.Proofs.YtnfpkjnllkkngaaGreatDoor.Gx
end

section
namespace Go.Proofs.YtnfpkjnllkkngaaGreatDoor.Gx
open Go.RowKit Go.Proofs Go.Proofs.PipeA Go.Proofs.LagM
set_option maxRecDepth 100000

end Go.Proofs.YtnfpkjnllkkngaaGreatDoor.Gx
end
