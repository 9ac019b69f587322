import Derived.Test.YtnpngahpadchpaaRef3
namespace Go.Proofs.Ytnpngahpadchpaa
open Go.RowKit Go.Proofs Go.Proofs.PipeM Go.Proofs.PipeA

set_option maxHeartbeats 3200000 in
theorem refGood_a (n p : Nat) (ao : Option Addr) (cap : Nat) (ks : List Int) (w : World) (hn1 : 1 ≤ n) (hn : n ≤ 1024) (hp : p ≤ 3) (hi : IntsAt w ao ks) (hc : n % 2 ^ p ≠ 0) :
    Calls Try.prog 16 #[.int .i64 n, .agg #[.int .i64 p, .slice ao ks.length cap]] w fun e w' => e = .returned (.bool (partsOk n p ks)) ∧ Below w.heap.size w w' := by
  obtain ⟨pw, hpw⟩ : ∃ pw, pw = 2 ^ p := ⟨_, rfl⟩
  have hpw1 : 1 ≤ pw ∧ pw ≤ 8 := by rw [hpw]; exact ⟨Nat.two_pow_pos p, Nat.le_trans (Nat.pow_le_pow_right (by decide) hp) (by decide)⟩
  have hpb := hpw1.2
  have hpa := hpw1.1
  have HP := fun W => Lib.hid (refPower p W (by omega))
  rw [← hpw] at HP
  have HOK : Hid (partsOk n p ks = (decide (n % pw = 0 ∧ ks.length = pw) && ks.all kOk)) := by
    show _ = _
    unfold partsOk
    rw [Int.toNat_natCast, ← hpw]
    congr 1
    exact decide_eq_decide.2 ⟨fun h => ⟨h.2.2.2.2.1, h.2.2.2.2.2⟩, fun h => ⟨hn1, hn, by omega, by omega, h.1, h.2⟩⟩
  have t1 : decide ((n : Int) < 1) = false := decide_eq_false (by omega)
  have t2 : decide (1024 < (n : Int)) = false := decide_eq_false (by omega)
  have t3 : decide ((p : Int) < 0) = false := decide_eq_false (by omega)
  have t4 : decide (3 < (p : Int)) = false := decide_eq_false (by omega)
  have HI0 := Lib.hid hi
  rw [← hpw] at hc
  clear hpw hpw1 hi
  go_enter Try.func16, Try.ntmps16
  go_wp2
  have HI : Hid (IntsAt (w.alloc (.cells #[.int .i64 p, .slice ao ks.length cap] 29)) ao ks) := HI0.out.below (box_below w _)
  have c0 : (w.alloc (.cells #[.int .i64 p, .slice ao ks.length cap] 29)).cell? ⟨w.heap.size, 0, none⟩ = some (.int .i64 p) := by simp
  have c1 : (w.alloc (.cells #[.int .i64 p, .slice ao ks.length cap] 29)).cell? ⟨w.heap.size, 1, none⟩ = some (.slice ao ks.length cap) := by simp
  have HB := Lib.hid (box_below w (.cells #[.int .i64 p, .slice ao ks.length cap] 29))
  generalize hW : w.alloc (.cells #[.int .i64 p, .slice ao ks.length cap] 29) = W at HI c0 c1 HB ⊢
  generalize hBB : w.heap.size = B at c0 c1 ⊢
  clear hW HI0
  have t5 : ((n : Int) % (pw : Int) != 0) = true := by rw [bne_iff_ne]; omega
  have HNO : Hid (partsOk n p ks = false) := by rw [Hid, HOK.out, decide_eq_false (fun h => hc h.1)]; rfl
  clear hc
  go_quiet ((go_at_call 45; exact quiet_left (HP _).out))
  go_wp2
  go_ret
  exact ⟨by rw [HNO.out]; rfl, below_drewN HB.out _⟩

set_option maxHeartbeats 3200000 in
theorem refGood_b (n p : Nat) (ao : Option Addr) (cap : Nat) (ks : List Int) (w : World) (hn1 : 1 ≤ n) (hn : n ≤ 1024) (hp : p ≤ 3) (hi : IntsAt w ao ks) (hc : n % 2 ^ p = 0) (hk0 : ks.length ≠ 2 ^ p) :
    Calls Try.prog 16 #[.int .i64 n, .agg #[.int .i64 p, .slice ao ks.length cap]] w fun e w' => e = .returned (.bool (partsOk n p ks)) ∧ Below w.heap.size w w' := by
  obtain ⟨pw, hpw⟩ : ∃ pw, pw = 2 ^ p := ⟨_, rfl⟩
  have hpw1 : 1 ≤ pw ∧ pw ≤ 8 := by rw [hpw]; exact ⟨Nat.two_pow_pos p, Nat.le_trans (Nat.pow_le_pow_right (by decide) hp) (by decide)⟩
  have hpb := hpw1.2
  have hpa := hpw1.1
  have HP := fun W => Lib.hid (refPower p W (by omega))
  rw [← hpw] at HP
  have HOK : Hid (partsOk n p ks = (decide (n % pw = 0 ∧ ks.length = pw) && ks.all kOk)) := by
    show _ = _
    unfold partsOk
    rw [Int.toNat_natCast, ← hpw]
    congr 1
    exact decide_eq_decide.2 ⟨fun h => ⟨h.2.2.2.2.1, h.2.2.2.2.2⟩, fun h => ⟨hn1, hn, by omega, by omega, h.1, h.2⟩⟩
  have t1 : decide ((n : Int) < 1) = false := decide_eq_false (by omega)
  have t2 : decide (1024 < (n : Int)) = false := decide_eq_false (by omega)
  have t3 : decide ((p : Int) < 0) = false := decide_eq_false (by omega)
  have t4 : decide (3 < (p : Int)) = false := decide_eq_false (by omega)
  have HI0 := Lib.hid hi
  rw [← hpw] at hc hk0
  clear hpw hpw1 hi
  go_enter Try.func16, Try.ntmps16
  go_wp2
  have HI : Hid (IntsAt (w.alloc (.cells #[.int .i64 p, .slice ao ks.length cap] 29)) ao ks) := HI0.out.below (box_below w _)
  have c0 : (w.alloc (.cells #[.int .i64 p, .slice ao ks.length cap] 29)).cell? ⟨w.heap.size, 0, none⟩ = some (.int .i64 p) := by simp
  have c1 : (w.alloc (.cells #[.int .i64 p, .slice ao ks.length cap] 29)).cell? ⟨w.heap.size, 1, none⟩ = some (.slice ao ks.length cap) := by simp
  have HB := Lib.hid (box_below w (.cells #[.int .i64 p, .slice ao ks.length cap] 29))
  generalize hW : w.alloc (.cells #[.int .i64 p, .slice ao ks.length cap] 29) = W at HI c0 c1 HB ⊢
  generalize hBB : w.heap.size = B at c0 c1 ⊢
  clear hW HI0
  have t5 : ((n : Int) % (pw : Int) != 0) = false := by rw [bne_eq_false_iff_eq]; omega
  have t6 : ((ks.length : Int) != (pw : Int)) = true := by rw [bne_iff_ne]; omega
  have HNO : Hid (partsOk n p ks = false) := by rw [Hid, HOK.out, decide_eq_false (fun h => hk0 h.2)]; rfl
  clear hc hk0
  go_quiet ((go_at_call 45; exact quiet_left (HP _).out))
  go_wp2
  go_ret
  exact ⟨by rw [HNO.out]; rfl, below_drewN HB.out _⟩

end Go.Proofs.Ytnpngahpadchpaa
