import Derived.Test.YtcgkalfclammfabLagC5
namespace Go.Proofs.Ytcgkalfclammfab
open Go.RowKit Go.Proofs Go.Proofs.PipeA Go.Proofs.LagM
set_option maxRecDepth 100000

set_option maxHeartbeats 800000 in
theorem rGood (a g : Int) (w : World) : Calls Try.prog 12 #[.int .i64 a, .int .i64 g] w fun e w' => e = .returned (.bool (goodT a g)) ∧ w = w' := by
  rcases goodT_cases a g with ⟨h1, h2, h3⟩ | ⟨h0, h1, h3⟩ | ⟨h0, h1, h2, h3⟩ | ⟨h0, h1, h2, h4, h3⟩ | ⟨h0, h1, h2, h4, h5, h3⟩ | ⟨h0, h1, h2, h4, h5, h3⟩
  · subst h1 h2
    rw [h3]
    clear h3
    go_enter Try.func12, Try.ntmps12
    go_wp2
    go_ret
    exact ⟨rfl, rfl⟩
  all_goals
    rw [h3]
    clear h3
    by_cases e1 : a = 0
    · first
      | (exfalso; omega)
      | (subst e1
         have t1 : (g == (0 : Int)) = false := by rw [beq_eq_false_iff_ne]; omega
         clear h0
         go_enter Try.func12, Try.ntmps12
         go_wp2
         go_ret
         exact ⟨rfl, rfl⟩)
    · have t1 : (a == (0 : Int)) = false := by rw [beq_eq_false_iff_ne]; exact e1
      clear h0 e1
      go_enter Try.func12, Try.ntmps12
      go_wp2
      go_ret
      first
      | exact ⟨rfl, rfl⟩
      | exact ⟨by rw [decide_eq_false (by omega)]; rfl, rfl⟩
      | exact ⟨by rw [decide_eq_true (by omega)]; rfl, rfl⟩

/-- A sixteenth, down. -/
theorem down_cases (n : Int) : (Int.tmod n 16 < 0 ∧ Int.tdiv n 16 - 1 = n / 16) ∨ (0 ≤ Int.tmod n 16 ∧ Int.tdiv n 16 = n / 16) := by
  by_cases h : 0 ≤ n
  · rw [Int.tdiv_eq_ediv_of_nonneg h, Int.tmod_eq_emod_of_nonneg h]
    omega
  · obtain ⟨m, rfl⟩ : ∃ m, n = -m := ⟨-n, by omega⟩
    rw [Int.neg_tdiv, Int.neg_tmod, Int.tdiv_eq_ediv_of_nonneg (by omega), Int.tmod_eq_emod_of_nonneg (by omega)]
    omega

set_option maxHeartbeats 800000 in
theorem rDown (n : Int) (w : World) (hn : -100000000000000 ≤ n ∧ n ≤ 100000000000000) : Calls Try.prog 23 #[.int .i64 n] w fun e w' => e = .returned (.int .i64 (n / 16)) ∧ w = w' := by
  have hd := down_cases n
  have HD := Lib.hid hd
  clear hd
  go_enter Try.func23, Try.ntmps23
  go_wp2
  · rename_i h
    go_ret
    refine ⟨?_, rfl⟩
    show Ending.returned (Value.int .i64 (wrap64 (n.tdiv 16 - 1))) = _
    have := HD.out
    rw [IntWalk.wrap64_in _ (by omega), show n.tdiv 16 - 1 = n / 16 by omega]
  · rename_i h
    go_ret
    refine ⟨?_, rfl⟩
    show Ending.returned (Value.int .i64 (n.tdiv 16)) = _
    have := HD.out
    rw [show n.tdiv 16 = n / 16 by omega]

theorem inB_cases2 (n : Int) : (decide (1099511627776 < n) = true ∧ inB n = false) ∨ (decide (1099511627776 < n) = false ∧ decide (n < -1099511627776) = true ∧ inB n = false) ∨ (decide (1099511627776 < n) = false ∧ decide (n < -1099511627776) = false ∧ inB n = true) := by
  unfold inB
  by_cases h1 : 1099511627776 < n
  · exact .inl ⟨decide_eq_true h1, decide_eq_false (by omega)⟩
  · by_cases h2 : n < -1099511627776
    · exact .inr (.inl ⟨decide_eq_false h1, decide_eq_true h2, decide_eq_false (by omega)⟩)
    · exact .inr (.inr ⟨decide_eq_false h1, decide_eq_false h2, decide_eq_true (by omega)⟩)

set_option maxHeartbeats 1600000 in
theorem rWrong (a g : Int) (ao : Option Addr) (cap : Nat) (l : List Int) (w : World) (hl : l.length ≤ 9223372036854775807) (hi : IntsAt w ao l) :
    Calls Try.prog 10 #[.int .i64 a, .int .i64 g, .slice ao l.length cap] w fun e w' => e = .returned (.int .i64 (codeT a g l)) ∧ w = w' := by
  have HI := Lib.hid hi
  have HG := Lib.hid (rGood a g w)
  clear hi
  cases hg : goodT a g with
  | false =>
    have HF := Lib.hid (codeT_good (l := l) hg)
    rw [hg] at HG
    clear hg
    go_enter Try.func10, Try.ntmps10
    go_wp2_with fail
    refine HG.out.mono ?_
    rintro e w1 ⟨rfl, rfl⟩
    go_wp2
    go_ret
    exact ⟨by rw [HF.out]; rfl, rfl⟩
  | true =>
    have HGD := Lib.hid hg
    rw [hg] at HG
    clear hg
    go_enter Try.func10, Try.ntmps10
    go_wp2_with fail
    refine HG.out.mono ?_
    rintro e w1 ⟨rfl, rfl⟩
    go_wp2
    go_loopg [7, 14] l.length (fun gk q i wr => ∃ c : Nat, c ≤ l.length ∧ gk + c = l.length ∧ i = .int .i64 c ∧ Hid ((l.take c).all inB = true) ∧ w = wr)
    case atStart => exact ⟨0, Nat.zero_le _, by omega, rfl, by simp [Hid], rfl⟩
    case round =>
      obtain ⟨c, hc, hgk, rfl, HT, rfl⟩ := hrel
      have HGK := Lib.hid hgk
      clear hgk
      by_cases hlt : c < l.length
      · obtain ⟨b, off, rfl, hb, hcell⟩ := HI.out c hlt
        have HNX : Hid (inB l[c] = true → (l.take (c + 1)).all inB = true) := fun h => by rw [List.take_succ_eq_append_getElem hlt, List.all_append, HT.out]; simp [h]
        have HMem : Hid (inB l[c] = false → codeT a g l = 9) := fun h => codeT_all HGD.out (by
          cases ha : l.all inB with
          | false => rfl
          | true => rw [List.all_eq_true.1 ha _ (List.getElem_mem hlt)] at h; cases h)
        generalize l[c] = x at hcell HNX HMem
        clear hb
        rcases inB_cases2 x with ⟨t1, t2⟩ | ⟨t1, t2, t3⟩ | ⟨t1, t2, t3⟩
        · have HF := Lib.hid (HMem.out t2)
          clear t2 HNX HMem
          go_wp2
          go_ret
          exact ⟨by rw [HF.out]; rfl, rfl⟩
        · have HF := Lib.hid (HMem.out t3)
          clear t3 HNX HMem
          go_wp2
          go_ret
          exact ⟨by rw [HF.out]; rfl, rfl⟩
        · have HN2 := Lib.hid (HNX.out t3)
          clear t3 HNX HMem
          go_wp2
          go_roundg (gk - 1)
          case rel => exact ⟨c + 1, by omega, by have := HGK.out; omega, by go_num, HN2, rfl⟩
          case measure => have := HGK.out; omega
      · obtain rfl : c = l.length := by omega
        have HA : Hid (codeT a g l = 0) := codeT_of HGD.out (by have := HT.out; rwa [List.take_length] at this)
        go_wp2
        go_ret
        exact ⟨by rw [HA.out]; rfl, rfl⟩
end Go.Proofs.Ytcgkalfclammfab
