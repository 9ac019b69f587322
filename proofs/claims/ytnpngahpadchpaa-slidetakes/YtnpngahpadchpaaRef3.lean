import Derived.Test.YtnpngahpadchpaaMathSlide
import Derived.Test.YtnpngahpadchpaaRef2
import Derived.Test.YtnpngahpadchpaaCommon
namespace Go.Proofs.Ytnpngahpadchpaa
open Go.RowKit Go.Proofs Go.Proofs.PipeM Go.Proofs.PipeA

theorem below_drewN {w W : World} (h : Below w.heap.size w W) (m : Nat) : Below w.heap.size w (W.drewN m) := h.trans ((keeps_drewN W m []).below h.size (by simp))

set_option maxHeartbeats 800000 in
theorem refList (ao : Option Addr) (cap : Nat) (l : List Int) (w : World) (hl : l.length ≤ 1000000000) (hi : IntsAt w ao l) :
    Calls Try.prog 29 #[.slice ao l.length cap] w fun e w' => e = .returned (.bool (listOk l)) ∧ w = w' := by
  have HI := Lib.hid hi
  clear hi
  go_enter Try.func29, Try.ntmps29
  go_wp2
  go_loopg [3, 6] l.length (fun gk q i wr => ∃ c : Nat, c ≤ l.length ∧ gk + c = l.length ∧ i = .int .i64 c ∧ Hid (∀ n ∈ l.take c, nOk n = true) ∧ w = wr)
  case atStart => exact ⟨0, Nat.zero_le _, by omega, rfl, fun n hn => by simp at hn, rfl⟩
  case round =>
    obtain ⟨c, hc, hgk, rfl, HT, rfl⟩ := hrel
    have HGK := Lib.hid hgk
    clear hgk
    by_cases hlt : c < l.length
    · obtain ⟨g, off, rfl, hg, hcell⟩ := HI.out c hlt
      have HNX : Hid (nOk l[c] = true → ∀ n ∈ l.take (c + 1), nOk n = true) := by
        intro h n hn
        rw [List.take_succ_eq_append_getElem hlt] at hn
        rcases List.mem_append.1 hn with h1 | h1
        · exact HT.out n h1
        · rw [List.mem_singleton.1 h1]; exact h
      have HNO : Hid (nOk l[c] = false → listOk l = false) := by
        intro h
        have : l.all nOk = false := by
          rw [List.all_eq_false]
          exact ⟨l[c], List.getElem_mem hlt, by simp [h]⟩
        unfold listOk
        rw [this]; rfl
      obtain ⟨n, hn⟩ : ∃ n, n = l[c] := ⟨_, rfl⟩
      rw [← hn] at hcell HNX HNO
      clear hn
      by_cases h1 : n < -8589934592
      · have t1 : decide (n < -8589934592) = true := decide_eq_true h1
        have HNO2 := Lib.hid (HNO.out (decide_eq_false (by omega)))
        clear h1
        go_wp2
        go_ret
        exact ⟨by rw [HNO2.out]; rfl, rfl⟩
      · have t1 : decide (n < -8589934592) = false := decide_eq_false h1
        by_cases h2 : 8589934591 < n
        · have t2 : decide (8589934591 < n) = true := decide_eq_true h2
          have HNO2 := Lib.hid (HNO.out (decide_eq_false (by omega)))
          clear h1 h2
          go_wp2
          go_ret
          exact ⟨by rw [HNO2.out]; rfl, rfl⟩
        · have t2 : decide (8589934591 < n) = false := decide_eq_false h2
          have HN2 := Lib.hid (HNX.out (decide_eq_true ⟨by omega, by omega⟩))
          clear h1 h2
          go_wp2
          go_roundg (gk - 1)
          case rel => exact ⟨c + 1, by omega, by have := HGK.out; omega, by go_num, HN2, rfl⟩
          case measure => have := HGK.out; omega
    · obtain rfl : c = l.length := by omega
      have HA : Hid (listOk l = decide (1 ≤ l.length ∧ l.length ≤ 1024)) := by
        have : l.all nOk = true := List.all_eq_true.2 (fun n hn => HT.out n (by rw [List.take_length]; exact hn))
        unfold listOk
        rw [Hid, this, Bool.true_and]
      by_cases h1 : 1 ≤ l.length
      · have HA2 : Hid (listOk l = decide ((l.length : Int) ≤ 1024)) := by
          rw [Hid, HA.out]
          by_cases h2 : l.length ≤ 1024
          · rw [decide_eq_true (⟨h1, h2⟩ : 1 ≤ l.length ∧ l.length ≤ 1024), decide_eq_true (by omega)]
          · rw [decide_eq_false (by omega : ¬ (1 ≤ l.length ∧ l.length ≤ 1024)), decide_eq_false (by omega)]
        go_wp2
        go_ret
        exact ⟨by rw [HA2.out]; rfl, rfl⟩
      · have HA2 : Hid (listOk l = false) := by rw [Hid, HA.out]; exact decide_eq_false (by omega)
        go_wp2
        go_ret
        exact ⟨by rw [HA2.out]; rfl, rfl⟩

theorem partsOk_no {n : Nat} {P : Int} {ks : List Int} (h : ¬ (1 ≤ n ∧ n ≤ 1024 ∧ 0 ≤ P ∧ P ≤ 3 ∧ n % 2 ^ P.toNat = 0 ∧ ks.length = 2 ^ P.toNat)) : partsOk n P ks = false := by
  unfold partsOk
  rw [decide_eq_false h]; rfl

theorem box_below (w : World) (o : Obj) : Below w.heap.size w (w.alloc o) := (Below.refl _ _).alloc (Nat.le_refl _) _

set_option maxHeartbeats 1600000 in
theorem refGood_no (n : Nat) (P : Int) (ao : Option Addr) (cap : Nat) (ks : List Int) (w : World) (hn : n ≤ 1000000000) (h : ¬ (1 ≤ n ∧ n ≤ 1024 ∧ 0 ≤ P ∧ P ≤ 3)) :
    Calls Try.prog 16 #[.int .i64 n, .agg #[.int .i64 P, .slice ao ks.length cap]] w fun e w' => e = .returned (.bool (partsOk n P ks)) ∧ Below w.heap.size w w' := by
  have HNO := Lib.hid (partsOk_no (n := n) (P := P) (ks := ks) (fun hc => h ⟨hc.1, hc.2.1, hc.2.2.1, hc.2.2.2.1⟩))
  have t : decide ((n : Int) < 1) = true ∨ (decide ((n : Int) < 1) = false ∧ (decide (1024 < (n : Int)) = true ∨ (decide (1024 < (n : Int)) = false ∧ (decide (P < 0) = true ∨ (decide (P < 0) = false ∧ decide (3 < P) = true))))) := by
    by_cases h1 : (n : Int) < 1
    · exact Or.inl (decide_eq_true h1)
    · refine Or.inr ⟨decide_eq_false h1, ?_⟩
      by_cases h2 : 1024 < (n : Int)
      · exact Or.inl (decide_eq_true h2)
      · refine Or.inr ⟨decide_eq_false h2, ?_⟩
        by_cases h3 : P < 0
        · exact Or.inl (decide_eq_true h3)
        · exact Or.inr ⟨decide_eq_false h3, decide_eq_true (by omega)⟩
  clear h
  rcases t with t1 | ⟨t1, t2 | ⟨t2, t3 | ⟨t3, t4⟩⟩⟩
  all_goals
    go_enter Try.func16, Try.ntmps16
    go_wp2
    go_region
    go_wp2
    go_ret
    exact ⟨by rw [HNO.out]; rfl, (box_below w _).drew⟩

end Go.Proofs.Ytnpngahpadchpaa
