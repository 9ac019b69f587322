import Derived.Test.YtnpngahpadchpaaRef3a
namespace Go.Proofs.Ytnpngahpadchpaa
open Go.RowKit Go.Proofs Go.Proofs.PipeM Go.Proofs.PipeA

set_option maxHeartbeats 3200000 in
theorem refGood_c (n p : Nat) (ao : Option Addr) (cap : Nat) (ks : List Int) (w : World) (hn1 : 1 ≤ n) (hn : n ≤ 1024) (hp : p ≤ 3) (hl : ks.length ≤ 1000000000) (hi : IntsAt w ao ks) (hc : n % 2 ^ p = 0) (hk0 : ks.length = 2 ^ p) :
    Calls Try.prog 16 #[.int .i64 n, .agg #[.int .i64 p, .slice ao ks.length cap]] w fun e w' => e = .returned (.bool (partsOk n p ks)) ∧ Below w.heap.size w w' := by
  obtain ⟨pw, hpw⟩ : ∃ pw, pw = 2 ^ p := ⟨_, rfl⟩
  have hpw1 : 1 ≤ pw ∧ pw ≤ 8 := by rw [hpw]; exact ⟨Nat.two_pow_pos p, Nat.le_trans (Nat.pow_le_pow_right (by decide) hp) (by decide)⟩
  have hpb := hpw1.2
  have hpa := hpw1.1
  have HP := fun W => Lib.hid (refPower p W (by omega))
  rw [← hpw] at HP
  have HOK : Hid (partsOk n p ks = (decide (n % pw = 0 ∧ ks.length = pw) && ks.all kOk)) := by
    show _ = _
    unfold partsOk
    rw [Int.toNat_natCast, ← hpw]
    congr 1
    exact decide_eq_decide.2 ⟨fun h => ⟨h.2.2.2.2.1, h.2.2.2.2.2⟩, fun h => ⟨hn1, hn, by omega, by omega, h.1, h.2⟩⟩
  have t1 : decide ((n : Int) < 1) = false := decide_eq_false (by omega)
  have t2 : decide (1024 < (n : Int)) = false := decide_eq_false (by omega)
  have t3 : decide ((p : Int) < 0) = false := decide_eq_false (by omega)
  have t4 : decide (3 < (p : Int)) = false := decide_eq_false (by omega)
  have HI0 := Lib.hid hi
  rw [← hpw] at hc hk0
  have t5 : ((n : Int) % (pw : Int) != 0) = false := by rw [bne_eq_false_iff_eq]; omega
  have t6 : ((ks.length : Int) != (pw : Int)) = false := by simp [hk0]
  have HC2 : Hid (n % pw = 0 ∧ ks.length = pw) := ⟨hc, hk0⟩
  clear hc hk0
  clear hpw hpw1 hi
  go_enter Try.func16, Try.ntmps16
  go_wp2
  have HI : Hid (IntsAt (w.alloc (.cells #[.int .i64 p, .slice ao ks.length cap] 29)) ao ks) := HI0.out.below (box_below w _)
  have c0 : (w.alloc (.cells #[.int .i64 p, .slice ao ks.length cap] 29)).cell? ⟨w.heap.size, 0, none⟩ = some (.int .i64 p) := by simp
  have c1 : (w.alloc (.cells #[.int .i64 p, .slice ao ks.length cap] 29)).cell? ⟨w.heap.size, 1, none⟩ = some (.slice ao ks.length cap) := by simp
  have HB := Lib.hid (box_below w (.cells #[.int .i64 p, .slice ao ks.length cap] 29))
  generalize hW : w.alloc (.cells #[.int .i64 p, .slice ao ks.length cap] 29) = W at HI c0 c1 HB ⊢
  generalize hBB : w.heap.size = B at c0 c1 ⊢
  clear hW HI0
  obtain ⟨kl, hkl⟩ : ∃ kl, kl = ks.length := ⟨_, rfl⟩
  rw [← hkl] at hl t6 c1 ⊢
  have HKL := Lib.hid hkl
  clear hkl
  go_quiet ((go_at_call 45; exact quiet_left (HP _).out))
  have HI := fun m => Lib.hid (HI.out.keeps (keeps_drewN W m []) (by simp))
  have HB := fun m => Lib.hid (below_drewN HB.out m)
  have c0 : ∀ m, (W.drewN m).cell? ⟨B, 0, none⟩ = some (.int .i64 p) := fun m => c0
  have c1 : ∀ m, (W.drewN m).cell? ⟨B, 1, none⟩ = some (.slice ao kl cap) := fun m => c1
  have HI := HI nq
  have HB := HB nq
  have c0 := c0 nq
  have c1 := c1 nq
  all_goals
    generalize W.drewN nq = W1 at HI c0 c1 HB ⊢
    go_wp2
    go_loopg [5, 42] kl (fun gk q i wr => ∃ c : Nat, c ≤ kl ∧ gk + c = kl ∧ i = .int .i64 c ∧ Hid (∀ k ∈ ks.take c, kOk k = true) ∧ W1 = wr)
    case atStart => exact ⟨0, Nat.zero_le _, by omega, rfl, fun n hn => by simp at hn, rfl⟩
    case round =>
      obtain ⟨c, hcl, hgk, rfl, HT, rfl⟩ := hrel
      have HGK := Lib.hid hgk
      clear hgk
      by_cases hlt : c < kl
      · have hltk : c < ks.length := by have := HKL.out; omega
        obtain ⟨g, off, rfl, hg, hcell⟩ := HI.out c hltk
        have HNX : Hid (kOk ks[c] = true → ∀ k ∈ ks.take (c + 1), kOk k = true) := by
          intro h n hn
          rw [List.take_succ_eq_append_getElem hltk] at hn
          rcases List.mem_append.1 hn with h1 | h1
          · exact HT.out n h1
          · rw [List.mem_singleton.1 h1]; exact h
        have HNO : Hid (kOk ks[c] = false → partsOk n p ks = false) := by
          intro h
          have : ks.all kOk = false := by
            rw [List.all_eq_false]
            exact ⟨ks[c], List.getElem_mem hltk, by simp [h]⟩
          rw [HOK.out, this, Bool.and_false]
        obtain ⟨k, hk⟩ : ∃ k, k = ks[c] := ⟨_, rfl⟩
        rw [← hk] at hcell HNX HNO
        clear hk hltk
        by_cases h1 : k < 0
        · have t7 : decide (k < 0) = true := decide_eq_true h1
          have HNO2 := Lib.hid (HNO.out (decide_eq_false (by omega)))
          clear h1
          go_wp2
          go_ret
          exact ⟨by rw [HNO2.out]; rfl, HB.out⟩
        · have t7 : decide (k < 0) = false := decide_eq_false h1
          by_cases h2 : 24 < k
          · have t8 : decide (24 < k) = true := decide_eq_true h2
            have HNO2 := Lib.hid (HNO.out (decide_eq_false (by omega)))
            clear h1 h2
            go_wp2
            go_ret
            exact ⟨by rw [HNO2.out]; rfl, HB.out⟩
          · have t8 : decide (24 < k) = false := decide_eq_false h2
            have HN2 := Lib.hid (HNX.out (decide_eq_true ⟨by omega, by omega⟩))
            clear h1 h2
            go_wp2
            go_roundg (gk - 1)
            case rel => exact ⟨c + 1, by omega, by have := HGK.out; omega, by go_num, HN2, rfl⟩
            case measure => have := HGK.out; omega
      · obtain rfl : c = kl := by omega
        have HA : Hid (partsOk n p ks = true) := by
          have : ks.all kOk = true := List.all_eq_true.2 (fun k hk => HT.out k (by rw [HKL.out, List.take_length]; exact hk))
          rw [Hid, HOK.out, this, Bool.and_true]
          exact decide_eq_true HC2.out
        go_wp2
        go_ret
        exact ⟨by rw [HA.out]; rfl, HB.out⟩


theorem refGood (n : Nat) (P : Int) (ao : Option Addr) (cap : Nat) (ks : List Int) (w : World) (hn : n ≤ 1000000000) (hl : ks.length ≤ 1000000000) (hi : IntsAt w ao ks) :
    Calls Try.prog 16 #[.int .i64 n, .agg #[.int .i64 P, .slice ao ks.length cap]] w fun e w' => e = .returned (.bool (partsOk n P ks)) ∧ Below w.heap.size w w' := by
  by_cases h : 1 ≤ n ∧ n ≤ 1024 ∧ 0 ≤ P ∧ P ≤ 3
  · obtain ⟨h1, h2, h3, h4⟩ := h
    obtain ⟨p, rfl⟩ := Int.eq_ofNat_of_zero_le h3
    by_cases hc : n % 2 ^ p = 0
    · by_cases hk : ks.length = 2 ^ p
      · exact refGood_c n p ao cap ks w h1 h2 (by omega) hl hi hc hk
      · exact refGood_b n p ao cap ks w h1 h2 (by omega) hi hc hk
    · exact refGood_a n p ao cap ks w h1 h2 (by omega) hi hc
  · exact refGood_no n P ao cap ks w hn h
end Go.Proofs.Ytnpngahpadchpaa
