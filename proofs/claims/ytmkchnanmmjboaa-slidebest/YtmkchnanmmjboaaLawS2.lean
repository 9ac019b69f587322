import Derived.Test.YtmkchnanmmjboaaLawS1
namespace Go.Proofs.Ytmkchnanmmjboaa
open Go.RowKit Go.Proofs Go.Proofs.PipeM Go.Proofs.PipeA
set_option maxRecDepth 100000

def intsOf (l : List Int) : List Value := l.map fun n => Value.int .i64 n
theorem intsOf_snoc (l : List Int) (n : Int) : intsOf (l ++ [n]) = intsOf l ++ [.int .i64 n] := by simp [intsOf]
theorem ints_own {w : World} {base g cap : Nat} {l : List Int} (h : w.ownsRow base 3 1 (.slice (some ⟨g, 0, none⟩) l.length cap) l.length (intsOf l)) : IntsAt w (some ⟨g, 0, none⟩) l := by
  intro j hj
  refine ⟨g, 0, rfl, ((own_block_lt h) g rfl).2, ?_⟩
  rw [Nat.zero_add, h.cellAt j (by simpa [intsOf] using hj)]
  simp [intsOf]
theorem ints_own_any {w : World} {base : Nat} {ao : Option Addr} {cap : Nat} {l : List Int} (h : w.ownsRow base 3 1 (.slice ao l.length cap) l.length (intsOf l)) : IntsAt w ao l := by
  rcases h.2 with ⟨h1, h2⟩ | ⟨g, cap', cur, h1, _⟩
  · have : l = [] := List.eq_nil_of_length_eq_zero h2
    subst this
    intro j hj; simp at hj
  · simp only [Value.slice.injEq] at h1
    obtain ⟨rfl, _, rfl⟩ := h1
    exact ints_own h
theorem own_cap {w : World} {base : Nat} {ao : Option Addr} {cap n : Nat} {l : List Value} (h : w.ownsRow base 3 1 (.slice ao n cap) n l) : n ≤ cap := by
  rcases h.2 with ⟨h1, h2⟩ | ⟨g, cap', cur, h1, _, _, h3, _⟩
  · omega
  · simp only [Value.slice.injEq] at h1
    obtain ⟨_, _, rfl⟩ := h1
    exact h3

set_option maxHeartbeats 800000 in
theorem one_out (n : Int) (mm : Nat) (w : World) (h : n < -8589934592 ∨ 8589934591 < n) :
    Calls Try.prog 7 #[.int .i64 n, .int .u8 mm] w fun e w' => e = .returned (.bool true) ∧ Below w.heap.size w w' := by
  have t : decide (n < -8589934592) = true ∨ (decide (n < -8589934592) = false ∧ decide (8589934591 < n) = true) := by
    by_cases h1 : n < -8589934592
    · exact Or.inl (decide_eq_true h1)
    · exact Or.inr ⟨decide_eq_false h1, decide_eq_true (by omega)⟩
  clear h
  rcases t with t1 | ⟨t1, t2⟩
  all_goals
    go_enter Try.func7, Try.ntmps7
    go_wp2_with fail
    refine (awake3 w).mono ?_
    rintro e w1 ⟨rfl, hb1⟩
    have HB1 := Lib.hid hb1
    clear hb1
    go_wp2_with fail
    refine (awake3 w1).mono ?_
    rintro e w2 ⟨rfl, hb2⟩
    have HB2 := Lib.hid hb2
    clear hb2
    go_wp2
    go_ret
    exact ⟨rfl, HB1.out.trans (HB2.out.mono HB1.out.size)⟩

theorem rep_ok (n : Int) (c : Nat) (h : InR n) (hc : 1 ≤ c) (hc2 : c ≤ 1024) : listOk (List.replicate c n) = true := by
  unfold listOk
  rw [Bool.and_eq_true]
  refine ⟨List.all_eq_true.2 (fun x hx => ?_), decide_eq_true (by simp; omega)⟩
  rw [List.eq_of_mem_replicate hx]
  exact decide_eq_true h

set_option maxHeartbeats 1600000 in
theorem one_in (n : Int) (mm : Nat) (w : World) (h : InR n) (hm : mm ≤ 255) :
    Calls Try.prog 7 #[.int .i64 n, .int .u8 mm] w fun e w' => e = .returned (.bool true) ∧ Below w.heap.size w w' := by
  have t1 : decide (n < -8589934592) = false := decide_eq_false (by have := h.1; omega)
  have t2 : decide (8589934591 < n) = false := decide_eq_false (by have := h.2; omega)
  have HN := Lib.hid h
  obtain ⟨q, hq⟩ : ∃ q, q = 1 + mm % 64 := ⟨_, rfl⟩
  have hq1 : 1 ≤ q := by omega
  have hq2 : q ≤ 64 := by omega
  have e0 : 1 + (mm : Int) % 64 = (q : Int) := by omega
  obtain ⟨i0, hi, hz0, hz1, hz2⟩ := info_parts info_int
  clear hq h
  go_enter Try.func7, Try.ntmps7
  go_wp2_with fail
  refine (awake3 w).mono ?_
  rintro e w1 ⟨rfl, hb1⟩
  have HB1 := Lib.hid hb1
  clear hb1
  go_wp2_with fail
  go_loopg [5, 23] q (fun gk v i wr => ∃ k : Nat, k ≤ q ∧ gk + k = q ∧ i = .int .i64 k ∧ wr.ownsRow w1.heap.size 3 1 v k (intsOf (List.replicate k n)) ∧ Below w1.heap.size w1 wr)
  case atStart => exact ⟨0, Nat.zero_le _, by omega, rfl, World.ownsRow_nil _ _ _ _, Below.refl _ _⟩
  case round =>
    obtain ⟨k, hk, hgk, rfl, hown, hb⟩ := hrel
    have HGK := Lib.hid hgk
    clear hgk
    by_cases hlt : k < q
    · obtain ⟨ao, cap, rfl⟩ := own_slice hown
      go_wp2_with (at_builtin; refine wpList_append_own _ rfl _ _ 22 rfl w1.heap.size 3 i0 (.int .i64 0) 1 8 Try.underlying22 hi hz0 hz1 hz2 rfl (by decide) _ _ _ rfl (hown.alloc _) ⟨wr.heap.size, 0, none⟩ 1 1 [.int .i64 n] rfl rfl ?c1 ?c2 ?c3 ?c4 ?c5 ?_)
      case c1 =>
        intro j u hj
        match j, hj with
        | 0, hj => simp at hj; subst hj; simp [Addr.add]
      case c2 => intro u hu; simp at hu; subst hu; rfl
      case c3 => unfold maxLen; omega
      case c4 => omega
      case c5 => have := hb.size; simp; omega
      intro v' w2 hown' hgrow _
      have hb' : Below w1.heap.size w1 w2 := (hb.alloc hb.size _).grown hgrow (by have := hb.size; simp; omega) (by
        intro g hg
        have := (own_block_lt hown) g hg
        exact this.1)
      rw [← intsOf_snoc, ← List.replicate_succ'] at hown'
      clear hgrow hown
      go_wp2
      go_roundg (gk - 1)
      case rel => exact ⟨k + 1, by omega, by have := HGK.out; omega, by go_num, hown', hb'⟩
      case measure => have := HGK.out; omega
    · obtain rfl : k = q := by omega
      obtain ⟨ao, cap, rfl⟩ := own_slice hown
      have hlen : (List.replicate k n).length = k := List.length_replicate
      have hown2 : wr.ownsRow w1.heap.size 3 1 (.slice ao (List.replicate k n).length cap) (List.replicate k n).length (intsOf (List.replicate k n)) := by rw [hlen]; exact hown
      have hI := ints_own_any hown2
      have hcap := own_cap hown
      have hok := rep_ok n k HN.out hq1 (by omega)
      have HBS := Lib.hid (cSBest_yes ao cap (List.replicate k n) wr (by rw [hlen]; exact hcap) hI hok)
      rw [hlen] at HBS
      have HBI := fun W H (hW : Below wr.heap.size wr W) (hJ : IntsAt W (some ⟨H, 0, none⟩) (ksAt (List.replicate k n) 0)) => Lib.hid (cBits ao (some ⟨H, 0, none⟩) cap 1 (List.replicate k n) 0 (ksAt (List.replicate k n) 0) W (by rw [hlen]; exact hcap) (by rw [hlen]; omega) (by rw [ksAt_length]; decide) (hI.below hW) hJ)
      rw [hlen, ksAt_length] at HBI
      have hL := powAt_len hok (Nat.zero_le _)
      have hle := lenP_rep n k hq1
      have hbp := bestP_rep n k hq1
      rw [show ((0 : Nat) : Int) = 0 from rfl] at hL
      rw [hL] at HBI
      have HBP := Lib.hid hbp
      have HBW := Lib.hid (HB1.out.trans (hb.mono HB1.out.size))
      obtain ⟨bb, hbb⟩ : ∃ bb, bb = lenAt (List.replicate k n) 0 := ⟨_, rfl⟩
      rw [← hbb] at HBI hle
      have HBB := Lib.hid hbb
      clear hL hbp hok hI hown hown2 hb hlen hbb
      go_wp2_with fail
      refine HBS.out.mono ?_
      rintro e w5 ⟨H, rfl, hJ5, hH5, hb5⟩
      rw [HBP.out] at hJ5 ⊢
      rw [← HBB.out]
      simp only [Nat.pow_zero]
      have HBI5 := HBI (w5.alloc (.cells #[.int .i64 ((0 : Nat) : Int), .slice (some ⟨H, 0, none⟩) 1 1] 24)) H (hb5.trans ((box_below w5 _).mono hb5.size)) (hJ5.below (box_below w5 _))
      have HB5 := Lib.hid (hb5.trans ((box_below w5 (.cells #[.int .i64 ((0 : Nat) : Int), .slice (some ⟨H, 0, none⟩) 1 1] 24)).mono hb5.size))
      have tle : decide ((bb : Int) ≤ 7 + (k : Int) * 59) = true := decide_eq_true (by omega)
      simp only [Nat.pow_zero] at HBI5
      clear hJ5 hb5 HBI hH5 hcap
      go_wp2_with fail
      refine HBI5.out.mono ?_
      rintro e w6 ⟨rfl, hb6⟩
      have HB6 := Lib.hid hb6
      clear hb6 HBI5
      go_wp2
      go_ret
      have h5 := HBW.out.trans (HB5.out.mono HBW.out.size)
      exact ⟨rfl, h5.trans (HB6.out.mono h5.size)⟩

theorem slideOne (n : Int) (mm : Nat) (w : World) (hm : mm ≤ 255) :
    Calls Try.prog 7 #[.int .i64 n, .int .u8 mm] w fun e w' => e = .returned (.bool true) ∧ Below w.heap.size w w' := by
  by_cases h : n < -8589934592 ∨ 8589934591 < n
  · exact one_out n mm w h
  · exact one_in n mm w ⟨by omega, by omega⟩ hm
end Go.Proofs.Ytmkchnanmmjboaa
