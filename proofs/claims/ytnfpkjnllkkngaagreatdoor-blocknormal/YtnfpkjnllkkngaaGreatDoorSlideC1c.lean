import Derived.Test.YtnfpkjnllkkngaaGreatDoorRiceC3
import Derived.Test.YtnfpkjnllkkngaaGreatDoorRef3b

section
namespace Go.Proofs.YtnfpkjnllkkngaaGreatDoor
open Go.RowKit Go.Proofs Go.Proofs.PipeM Go.Proofs.PipeA

def lenOk (n : Int) : Bool := decide (1 ≤ n ∧ n ≤ 1024)
set_option maxHeartbeats 400000 in
theorem cIsLen (n : Int) (w : World) : Calls Tryz.prog 74 #[.int .i64 n] w fun e w' => e = .returned (.bool (lenOk n)) ∧ w = w' := by
  by_cases h1 : 1 ≤ n
  · have t1 : decide (1 ≤ n) = true := decide_eq_true h1
    by_cases h2 : n ≤ 1024
    · have t2 : decide (n ≤ 1024) = true := decide_eq_true h2
      have HP : Hid (lenOk n = true) := by show _ = _; unfold lenOk; exact decide_eq_true ⟨h1, h2⟩
      go_enter Tryz.func74, Tryz.ntmps74
      go_wp2
      go_ret
      exact ⟨by rw [HP.out]; rfl, rfl⟩
    · have t2 : decide (n ≤ 1024) = false := decide_eq_false h2
      have HP : Hid (lenOk n = false) := by show _ = _; unfold lenOk; exact decide_eq_false (by omega)
      go_enter Tryz.func74, Tryz.ntmps74
      go_wp2
      go_ret
      exact ⟨by rw [HP.out]; rfl, rfl⟩
  · have t1 : decide (1 ≤ n) = false := decide_eq_false h1
    have HP : Hid (lenOk n = false) := by show _ = _; unfold lenOk; exact decide_eq_false (by omega)
    go_enter Tryz.func74, Tryz.ntmps74
    go_wp2
    go_ret
    exact ⟨by rw [HP.out]; rfl, rfl⟩

def powOk (n : Nat) (P : Int) : Bool := decide (0 ≤ P ∧ P ≤ 3 ∧ n % 2 ^ P.toNat = 0)
theorem powOk_at (n : Nat) (p q : Nat) (hp : p ≤ 3) (hq : 2 ^ p = q) : powOk n p = ((n : Int) % (q : Int) == 0) := by
  unfold powOk
  rw [Int.toNat_natCast, hq]
  by_cases h : n % q = 0
  · rw [decide_eq_true ⟨by omega, by omega, h⟩]
    symm; rw [beq_iff_eq]; omega
  · rw [decide_eq_false (fun hc => h hc.2.2)]
    symm; rw [beq_eq_false_iff_ne]; omega

set_option maxHeartbeats 800000 in
theorem cIsPow (n : Nat) (P : Int) (w : World) (hn : n ≤ 1000000000) : Calls Tryz.prog 49 #[.int .i64 n, .int .i64 P] w fun e w' => e = .returned (.bool (powOk n P)) ∧ w = w' := by
  by_cases h1 : 0 ≤ P
  · obtain ⟨p, rfl⟩ := Int.eq_ofNat_of_zero_le h1
    have t1 : decide (0 ≤ (p : Int)) = true := decide_eq_true h1
    by_cases h2 : (p : Int) ≤ 3
    · have h3 : p = 0 ∨ p = 1 ∨ p = 2 ∨ p = 3 := by omega
      clear t1
      rcases h3 with rfl | rfl | rfl | rfl
      · have HP : Hid (powOk n ((0 : Nat) : Int) = true) := by show _ = _; unfold powOk; exact decide_eq_true ⟨by omega, by omega, by simp [Nat.mod_one]⟩
        clear h1 h2
        generalize powOk n ((0 : Nat) : Int) = tt at HP ⊢
        go_enter Tryz.func49, Tryz.ntmps49
        go_wp2
        go_ret
        exact ⟨by rw [HP.out]; rfl, rfl⟩
      · have HP2 : Hid (((n : Int) % 2 == 0) = powOk n ((1 : Nat) : Int)) := by have := powOk_at n 1 2 (by decide) (by decide); exact this.symm
        clear h1 h2
        generalize powOk n ((1 : Nat) : Int) = tt at HP2 ⊢
        go_enter Tryz.func49, Tryz.ntmps49
        go_wp2
        go_ret
        exact ⟨by rw [← HP2.out]; rfl, rfl⟩
      · have HP2 : Hid (((n : Int) % 4 == 0) = powOk n ((2 : Nat) : Int)) := by have := powOk_at n 2 4 (by decide) (by decide); exact this.symm
        clear h1 h2
        generalize powOk n ((2 : Nat) : Int) = tt at HP2 ⊢
        go_enter Tryz.func49, Tryz.ntmps49
        go_wp2
        go_ret
        exact ⟨by rw [← HP2.out]; rfl, rfl⟩
      · have HP2 : Hid (((n : Int) % 8 == 0) = powOk n ((3 : Nat) : Int)) := by have := powOk_at n 3 8 (by decide) (by decide); exact this.symm
        clear h1 h2
        generalize powOk n ((3 : Nat) : Int) = tt at HP2 ⊢
        go_enter Tryz.func49, Tryz.ntmps49
        go_wp2
        go_ret
        exact ⟨by rw [← HP2.out]; rfl, rfl⟩
    · have t2 : decide ((p : Int) ≤ 3) = false := decide_eq_false h2
      have HP : Hid (powOk n (p : Int) = false) := by show _ = _; unfold powOk; exact decide_eq_false (by omega)
      go_enter Tryz.func49, Tryz.ntmps49
      go_wp2
      go_ret
      exact ⟨by rw [HP.out]; rfl, rfl⟩
  · have t1 : decide (0 ≤ P) = false := decide_eq_false h1
    have HP : Hid (powOk n P = false) := by show _ = _; unfold powOk; exact decide_eq_false (by omega)
    go_enter Tryz.func49, Tryz.ntmps49
    go_wp2
    go_ret
    exact ⟨by rw [HP.out]; rfl, rfl⟩

theorem code_len_n (n : Int) : decide (0 < (codeOf n 0).length) = nOk n := by
  unfold codeOf nOk codeOk
  by_cases h : -8589934592 ≤ n ∧ n ≤ 8589934591
  · rw [decide_eq_true (⟨h.1, h.2, by omega, by omega⟩ : -8589934592 ≤ n ∧ n ≤ 8589934591 ∧ (0 : Int) ≤ 0 ∧ (0 : Int) ≤ 24), if_pos rfl, codeBits_length, decide_eq_true h]
    exact decide_eq_true (by have := costN_pos n (0 : Int).toNat; omega)
  · rw [decide_eq_false (fun hc => h ⟨hc.1, hc.2.1⟩ : ¬ (-8589934592 ≤ n ∧ n ≤ 8589934591 ∧ (0 : Int) ≤ 0 ∧ (0 : Int) ≤ 24)), decide_eq_false h]; rfl
theorem code_len_k (k : Int) : decide (0 < (codeOf 0 k).length) = kOk k := by
  unfold codeOf kOk codeOk
  by_cases h : 0 ≤ k ∧ k ≤ 24
  · rw [decide_eq_true (⟨by omega, by omega, h.1, h.2⟩ : -8589934592 ≤ (0 : Int) ∧ (0 : Int) ≤ 8589934591 ∧ 0 ≤ k ∧ k ≤ 24), if_pos rfl, codeBits_length, decide_eq_true h]
    exact decide_eq_true (by have := costN_pos 0 k.toNat; omega)
  · rw [decide_eq_false (fun hc => h hc.2.2 : ¬ (-8589934592 ≤ (0 : Int) ∧ (0 : Int) ≤ 8589934591 ∧ 0 ≤ k ∧ k ≤ 24)), decide_eq_false h]; rfl

set_option maxHeartbeats 400000 in
theorem cIsNum (n : Int) (w : World) : Calls Tryz.prog 76 #[.int .i64 n] w fun e w' => e = .returned (.bool (nOk n)) ∧ Below w.heap.size w w' := by
  have HC := Lib.hid (cCost n 0 w)
  have HL := Lib.hid (code_len_n n)
  have hlen : (codeOf n 0).length ≤ 59 := codeOf_len n 0
  generalize (codeOf n 0).length = c at HC HL hlen
  generalize nOk n = ok at HL ⊢
  go_enter Tryz.func76, Tryz.ntmps76
  go_wp2_with fail
  refine HC.out.mono ?_
  rintro e w1 ⟨rfl, hb⟩
  have HB := Lib.hid hb
  clear hb
  go_wp2
  go_ret
  exact ⟨by rw [← HL.out]; rfl, HB.out⟩

set_option maxHeartbeats 400000 in
theorem cIsPar (n : Int) (w : World) : Calls Tryz.prog 116 #[.int .i64 n] w fun e w' => e = .returned (.bool (kOk n)) ∧ Below w.heap.size w w' := by
  have HC := Lib.hid (cCost 0 n w)
  have HL := Lib.hid (code_len_k n)
  have hlen : (codeOf 0 n).length ≤ 59 := codeOf_len 0 n
  generalize (codeOf 0 n).length = c at HC HL hlen
  generalize kOk n = ok at HL ⊢
  go_enter Tryz.func116, Tryz.ntmps116
  go_wp2_with fail
  refine HC.out.mono ?_
  rintro e w1 ⟨rfl, hb⟩
  have HB := Lib.hid hb
  clear hb
  go_wp2
  go_ret
  exact ⟨by rw [← HL.out]; rfl, HB.out⟩

set_option maxHeartbeats 800000 in
theorem cAllNum (ao : Option Addr) (cap : Nat) (l : List Int) (w : World) (hl : l.length ≤ 1000000000) (hi : IntsAt w ao l) :
    Calls Tryz.prog 75 #[.slice ao l.length cap, .func (.func 76) #[] #[]] w fun e w' => e = .returned (.bool (l.all nOk)) ∧ Below w.heap.size w w' := by
  have HI := Lib.hid hi
  clear hi
  obtain ⟨kl, hkl⟩ : ∃ kl, kl = l.length := ⟨_, rfl⟩
  rw [← hkl] at hl ⊢
  have HKL := Lib.hid hkl
  clear hkl
  go_enter Tryz.func75, Tryz.ntmps75
  go_wp2
  go_loopg [9] kl (fun gk i wr => ∃ c : Nat, c ≤ kl ∧ gk + c = kl ∧ i = .int .i64 c ∧ Hid ((l.take c).all nOk = true) ∧ Hid (Below w.heap.size w wr))
  case atStart => exact ⟨0, Nat.zero_le _, by omega, rfl, rfl, Below.refl _ _⟩
  case round =>
    obtain ⟨c, hcl, hgk, rfl, HT, HB⟩ := hrel
    have HGK := Lib.hid hgk
    clear hgk
    by_cases hlt : c < kl
    · have hltk : c < l.length := by have := HKL.out; omega
      obtain ⟨g, off, rfl, hg, hcell⟩ := (HI.out.below HB.out) c hltk
      have HA : Hid ((l.take (c + 1)).all nOk = ((l.take c).all nOk && nOk l[c])) := by
        show _ = _
        rw [List.take_succ_eq_append_getElem hltk, List.all_append]; simp only [List.all_cons, List.all_nil, Bool.and_true]
      have HNO : Hid (nOk l[c] = false → l.all nOk = false) := fun h => by
        rw [List.all_eq_false]; exact ⟨l[c], List.getElem_mem hltk, by simp [h]⟩
      obtain ⟨k, hk⟩ : ∃ k, k = l[c] := ⟨_, rfl⟩
      rw [← hk] at hcell HA HNO
      clear hk hltk
      have HC := Lib.hid (cIsNum k wr)
      cases hok : nOk k
      · rw [hok] at HC
        have HNO2 := Lib.hid (HNO.out hok)
        clear hok
        go_wp2_with fail
        refine HC.out.mono ?_
        rintro e w1 ⟨rfl, hb⟩
        have HB1 := Lib.hid hb
        clear hb
        go_wp2
        go_ret
        exact ⟨by rw [HNO2.out]; rfl, HB.out.trans (HB1.out.mono HB.out.size)⟩
      · rw [hok] at HC HA
        have HA2 := Lib.hid (HA.out.trans (by rw [HT.out]))
        clear hok
        go_wp2_with fail
        refine HC.out.mono ?_
        rintro e w1 ⟨rfl, hb⟩
        have HB1 := Lib.hid hb
        clear hb
        go_wp2
        go_roundg (gk - 1)
        case rel => exact ⟨c + 1, by omega, by have := HGK.out; omega, by go_num, HA2.out, HB.out.trans (HB1.out.mono HB.out.size)⟩
        case measure => have := HGK.out; omega
    · obtain rfl : c = kl := by omega
      have HA : Hid (l.all nOk = true) := by have := HT.out; rw [HKL.out, List.take_length] at this; exact this
      go_wp2
      go_ret
      exact ⟨by rw [HA.out]; rfl, HB.out⟩

set_option maxHeartbeats 800000 in
theorem cAllPar (ao : Option Addr) (cap : Nat) (l : List Int) (w : World) (hl : l.length ≤ 1000000000) (hi : IntsAt w ao l) :
    Calls Tryz.prog 75 #[.slice ao l.length cap, .func (.func 116) #[] #[]] w fun e w' => e = .returned (.bool (l.all kOk)) ∧ Below w.heap.size w w' := by
  have HI := Lib.hid hi
  clear hi
  obtain ⟨kl, hkl⟩ : ∃ kl, kl = l.length := ⟨_, rfl⟩
  rw [← hkl] at hl ⊢
  have HKL := Lib.hid hkl
  clear hkl
  go_enter Tryz.func75, Tryz.ntmps75
  go_wp2
  go_loopg [9] kl (fun gk i wr => ∃ c : Nat, c ≤ kl ∧ gk + c = kl ∧ i = .int .i64 c ∧ Hid ((l.take c).all kOk = true) ∧ Hid (Below w.heap.size w wr))
  case atStart => exact ⟨0, Nat.zero_le _, by omega, rfl, rfl, Below.refl _ _⟩
  case round =>
    obtain ⟨c, hcl, hgk, rfl, HT, HB⟩ := hrel
    have HGK := Lib.hid hgk
    clear hgk
    by_cases hlt : c < kl
    · have hltk : c < l.length := by have := HKL.out; omega
      obtain ⟨g, off, rfl, hg, hcell⟩ := (HI.out.below HB.out) c hltk
      have HA : Hid ((l.take (c + 1)).all kOk = ((l.take c).all kOk && kOk l[c])) := by
        show _ = _
        rw [List.take_succ_eq_append_getElem hltk, List.all_append]; simp only [List.all_cons, List.all_nil, Bool.and_true]
      have HNO : Hid (kOk l[c] = false → l.all kOk = false) := fun h => by
        rw [List.all_eq_false]; exact ⟨l[c], List.getElem_mem hltk, by simp [h]⟩
      obtain ⟨k, hk⟩ : ∃ k, k = l[c] := ⟨_, rfl⟩
      rw [← hk] at hcell HA HNO
      clear hk hltk
      have HC := Lib.hid (cIsPar k wr)
      cases hok : kOk k
      · rw [hok] at HC
        have HNO2 := Lib.hid (HNO.out hok)
        clear hok
        go_wp2_with fail
        refine HC.out.mono ?_
        rintro e w1 ⟨rfl, hb⟩
        have HB1 := Lib.hid hb
        clear hb
        go_wp2
        go_ret
        exact ⟨by rw [HNO2.out]; rfl, HB.out.trans (HB1.out.mono HB.out.size)⟩
      · rw [hok] at HC HA
        have HA2 := Lib.hid (HA.out.trans (by rw [HT.out]))
        clear hok
        go_wp2_with fail
        refine HC.out.mono ?_
        rintro e w1 ⟨rfl, hb⟩
        have HB1 := Lib.hid hb
        clear hb
        go_wp2
        go_roundg (gk - 1)
        case rel => exact ⟨c + 1, by omega, by have := HGK.out; omega, by go_num, HA2.out, HB.out.trans (HB1.out.mono HB.out.size)⟩
        case measure => have := HGK.out; omega
    · obtain rfl : c = kl := by omega
      have HA : Hid (l.all kOk = true) := by have := HT.out; rw [HKL.out, List.take_length] at this; exact this
      go_wp2
      go_ret
      exact ⟨by rw [HA.out]; rfl, HB.out⟩
end Go.Proofs.YtnfpkjnllkkngaaGreatDoor
end

section
namespace Go.Proofs.YtnfpkjnllkkngaaGreatDoor
open Go.RowKit Go.Proofs Go.Proofs.PipeM Go.Proofs.PipeA
set_option maxRecDepth 100000

def pair (ao : Option Addr) (kl cap : Nat) (P : Int) : Obj := .cells #[.int .i64 P, .slice ao kl cap] 54

theorem partsOk_split (n : Nat) (P : Int) (ks : List Int) : partsOk n P ks = (lenOk n && powOk n P && decide (ks.length = 2 ^ P.toNat) && ks.all kOk) := by
  unfold partsOk lenOk powOk
  rw [Bool.eq_iff_iff]
  simp only [Bool.and_eq_true, decide_eq_true_eq]
  constructor
  · rintro ⟨⟨h1, h2, h3, h4, h5, h6⟩, h7⟩
    exact ⟨⟨⟨⟨by omega, by omega⟩, h3, h4, h5⟩, h6⟩, h7⟩
  · rintro ⟨⟨⟨⟨h1, h2⟩, h3, h4, h5⟩, h6⟩, h7⟩
    exact ⟨⟨by omega, by omega, h3, h4, h5, h6⟩, h7⟩

set_option maxHeartbeats 1600000 in
theorem cGood (n : Nat) (P : Int) (ao : Option Addr) (cap : Nat) (ks : List Int) (w : World) (hn : n ≤ 1000000000) (hl : ks.length ≤ 1000000000) (hi : IntsAt w ao ks) :
    Calls Tryz.prog 104 #[.int .i64 n, .agg #[.int .i64 P, .slice ao ks.length cap]] w fun e w' => e = .returned (.bool (partsOk n P ks)) ∧ Below w.heap.size w w' := by
  have HS := Lib.hid (partsOk_split n P ks)
  have HL := fun W => Lib.hid (cIsLen n W)
  have HP := fun W => Lib.hid (cIsPow n P W hn)
  have HA := fun W (h : Below w.heap.size w W) => Lib.hid (cAllPar ao cap ks W hl (hi.below h))
  have HB := Lib.hid (box_below w (pair ao ks.length cap P))
  clear hi
  obtain ⟨kl, hkl⟩ : ∃ kl, kl = ks.length := ⟨_, rfl⟩
  rw [← hkl] at hl HS HA HB ⊢
  have HKL := Lib.hid hkl
  clear hkl
  unfold pair at HB
  cases h1 : lenOk (n : Int)
  · rw [h1] at HL HS
    clear HP HA h1
    go_enter Tryz.func104, Tryz.ntmps104
    go_wp2_with fail
    have c0 : (w.alloc (.cells #[.int .i64 P, .slice ao kl cap] 54)).cell? ⟨w.heap.size, 0, none⟩ = some (.int .i64 P) := by simp
    have c1 : (w.alloc (.cells #[.int .i64 P, .slice ao kl cap] 54)).cell? ⟨w.heap.size, 1, none⟩ = some (.slice ao kl cap) := by simp
    generalize w.alloc (.cells #[.int .i64 P, .slice ao kl cap] 54) = W at HB c0 c1 ⊢
    generalize hBB : w.heap.size = B at c0 c1 ⊢
    clear hBB
    go_quiet ((go_at_call 74; exact quiet_left (HL _).out))
    have HBQ := Lib.hid (below_drewN HB.out nq)
    go_wp2
    go_ret
    exact ⟨by rw [HS.out]; rfl, HBQ.out⟩
  · rw [h1] at HL HS
    clear h1
    cases h2 : powOk n P
    · rw [h2] at HP HS
      clear HA h2
      go_enter Tryz.func104, Tryz.ntmps104
      go_wp2_with fail
      have c0 : (w.alloc (.cells #[.int .i64 P, .slice ao kl cap] 54)).cell? ⟨w.heap.size, 0, none⟩ = some (.int .i64 P) := by simp
      have c1 : (w.alloc (.cells #[.int .i64 P, .slice ao kl cap] 54)).cell? ⟨w.heap.size, 1, none⟩ = some (.slice ao kl cap) := by simp
      generalize w.alloc (.cells #[.int .i64 P, .slice ao kl cap] 54) = W at HB c0 c1 ⊢
      generalize hBB : w.heap.size = B at c0 c1 ⊢
      clear hBB
      go_quiet (first | (go_at_call 74; exact quiet_left (HL _).out) | (go_at_call 49; exact quiet_left (HP _).out))
      have HBQ := Lib.hid (below_drewN HB.out nq)
      go_wp2
      go_ret
      exact ⟨by rw [HS.out]; rfl, HBQ.out⟩
    · have hP : 0 ≤ P ∧ P ≤ 3 := by unfold powOk at h2; have := of_decide_eq_true h2; exact ⟨this.1, this.2.1⟩
      rw [h2] at HP HS
      clear h2
      obtain ⟨p, rfl⟩ := Int.eq_ofNat_of_zero_le hP.1
      have hp3 : p ≤ 3 := by omega
      clear hP
      rw [Int.toNat_natCast] at HS
      have hm8 : 2 ^ p ≤ 8 := Nat.le_trans (Nat.pow_le_pow_right (by decide) hp3) (by decide)
      have E4 : IntKind.i64.wrap ((2 : Int) ^ p) = ((2 ^ p : Nat) : Int) := by
        have : ((2 : Int) ^ p) = ((2 ^ p : Nat) : Int) := by rw [Int.natCast_pow]; rfl
        rw [this]
        generalize 2 ^ p = m at hm8
        exact IntWalk.i64_in _ ⟨by omega, by omega⟩
      obtain ⟨m, hm⟩ : ∃ m, m = 2 ^ p := ⟨_, rfl⟩
      rw [← hm] at HS hm8 E4
      clear hm
      by_cases h3 : kl = m
      · rw [decide_eq_true h3] at HS
        have t3 : ((kl : Int) == (m : Int)) = true := by rw [beq_iff_eq, h3]
        clear h3
        go_enter Tryz.func104, Tryz.ntmps104
        go_wp2_with fail
        have c0 : (w.alloc (.cells #[.int .i64 p, .slice ao kl cap] 54)).cell? ⟨w.heap.size, 0, none⟩ = some (.int .i64 p) := by simp
        have c1 : (w.alloc (.cells #[.int .i64 p, .slice ao kl cap] 54)).cell? ⟨w.heap.size, 1, none⟩ = some (.slice ao kl cap) := by simp
        generalize w.alloc (.cells #[.int .i64 p, .slice ao kl cap] 54) = W at HB c0 c1 ⊢
        generalize hBB : w.heap.size = B at c0 c1 ⊢
        clear hBB
        go_region_with (first
          | (go_at_call 74; refine (HL _).out.mono ?_; rintro e w1 ⟨rfl, rfl⟩)
          | (go_at_call 49; refine (HP _).out.mono ?_; rintro e w1 ⟨rfl, rfl⟩)
          | (go_at_call 75; refine (HA _ (HB.out.trans ((keeps_drew W).below HB.out.size (by simp)))).out.mono ?_; rintro e w2 ⟨rfl, hb2⟩))
        all_goals
          have HB2 := Lib.hid hb2
          clear hb2
          go_wp2
          go_ret
          exact ⟨by rw [HS.out]; rfl, HB.out.trans (((keeps_drew W).below HB.out.size (by simp)).trans (HB2.out.mono HB.out.size))⟩
      · rw [decide_eq_false h3] at HS
        have t3 : ((kl : Int) == (m : Int)) = false := by rw [beq_eq_false_iff_ne]; omega
        clear h3 HA
        go_enter Tryz.func104, Tryz.ntmps104
        go_wp2_with fail
        have c0 : (w.alloc (.cells #[.int .i64 p, .slice ao kl cap] 54)).cell? ⟨w.heap.size, 0, none⟩ = some (.int .i64 p) := by simp
        have c1 : (w.alloc (.cells #[.int .i64 p, .slice ao kl cap] 54)).cell? ⟨w.heap.size, 1, none⟩ = some (.slice ao kl cap) := by simp
        generalize w.alloc (.cells #[.int .i64 p, .slice ao kl cap] 54) = W at HB c0 c1 ⊢
        generalize hBB : w.heap.size = B at c0 c1 ⊢
        clear hBB
        go_quiet (first | (go_at_call 74; exact quiet_left (HL _).out) | (go_at_call 49; exact quiet_left (HP _).out))
        have HBQ := Lib.hid (below_drewN HB.out nq)
        go_wp2
        go_ret
        exact ⟨by rw [HS.out]; rfl, HBQ.out⟩
end Go.Proofs.YtnfpkjnllkkngaaGreatDoor
end

section
namespace Go.Proofs.YtnfpkjnllkkngaaGreatDoor
open Go.RowKit Go.Proofs Go.Proofs.PipeM Go.Proofs.PipeA
set_option maxRecDepth 100000

theorem listOk_split (l : List Int) : listOk l = (lenOk l.length && l.all nOk) := by
  unfold listOk lenOk
  rw [Bool.and_comm]
  congr 1
  exact decide_eq_decide.2 ⟨fun h => ⟨by omega, by omega⟩, fun h => ⟨by omega, by omega⟩⟩

set_option maxHeartbeats 1600000 in
theorem cIsList (ao : Option Addr) (cap : Nat) (l : List Int) (w : World) (hl : l.length ≤ 1000000000) (hi : IntsAt w ao l) :
    Calls Tryz.prog 47 #[.slice ao l.length cap] w fun e w' => e = .returned (.bool (listOk l)) ∧ Below w.heap.size w w' := by
  have HS := Lib.hid (listOk_split l)
  have HL := fun W => Lib.hid (cIsLen l.length W)
  have HA := Lib.hid (cAllNum ao cap l w hl hi)
  clear hi
  obtain ⟨kl, hkl⟩ : ∃ kl, kl = l.length := ⟨_, rfl⟩
  rw [← hkl] at hl HS HA HL ⊢
  clear hkl
  cases h1 : lenOk (kl : Int)
  · rw [h1] at HL HS
    clear h1
    go_enter Tryz.func47, Tryz.ntmps47
    go_wp2_with (go_at_call 74; refine (HL _).out.mono ?_; rintro e w1 ⟨rfl, rfl⟩)
    go_ret
    exact ⟨by rw [HS.out]; rfl, Below.refl _ _⟩
  · rw [h1] at HL HS
    clear h1
    go_enter Tryz.func47, Tryz.ntmps47
    go_wp2_with (first | (go_at_call 74; refine (HL _).out.mono ?_; rintro e w1 ⟨rfl, rfl⟩) | (go_at_call 75; refine HA.out.mono ?_; rintro e w1 ⟨rfl, hb⟩))
    go_ret
    exact ⟨by rw [HS.out]; rfl, hb⟩

set_option maxHeartbeats 1600000 in
theorem cMayTell (lo ao : Option Addr) (lcap cap : Nat) (l : List Int) (P : Int) (ks : List Int) (w : World) (hl : l.length ≤ 1000000) (hk : ks.length ≤ 1000000) (hi : IntsAt w lo l) (hj : IntsAt w ao ks) :
    Calls Tryz.prog 86 #[.slice lo l.length lcap, .agg #[.int .i64 P, .slice ao ks.length cap]] w fun e w' => e = .returned (.bool (slideOk l P ks)) ∧ Below w.heap.size w w' := by
  have HS : Hid (slideOk l P ks = (listOk l && partsOk l.length P ks)) := by show _ = _; unfold slideOk; rw [Bool.and_comm]
  have HL := fun o => Lib.hid (cIsList lo lcap l (w.alloc o) (by omega) (hi.below (box_below w o)))
  have HG := fun W (h : Below w.heap.size w W) => Lib.hid (cGood l.length P ao cap ks W (by omega) (by omega) (hj.below h))
  have HB := fun o => Lib.hid (box_below w o)
  clear hi hj
  obtain ⟨kl, hkl⟩ : ∃ kl, kl = ks.length := ⟨_, rfl⟩
  obtain ⟨ll, hll⟩ : ∃ ll, ll = l.length := ⟨_, rfl⟩
  rw [← hkl] at hk HG ⊢
  rw [← hll] at hl HG HL HS ⊢
  clear hkl hll
  cases h1 : listOk l
  · rw [h1] at HL HS
    clear h1
    go_enter Tryz.func86, Tryz.ntmps86
    go_wp2_with (go_at_call 47; refine (HL _).out.mono ?_; rintro e w1 ⟨rfl, hb⟩)
    go_ret
    exact ⟨by rw [HS.out]; rfl, (HB _).out.trans (hb.mono (HB _).out.size)⟩
  · rw [h1] at HL HS
    clear h1
    go_enter Tryz.func86, Tryz.ntmps86
    go_wp2_with fail
    refine (HL _).out.mono ?_
    rintro e w1 ⟨rfl, hb⟩
    have HB1 := Lib.hid ((HB _).out.trans (hb.mono (HB _).out.size))
    have c0 : w1.cell? ⟨w.heap.size, 0, none⟩ = some (.int .i64 P) := (hb.cell (p := ⟨w.heap.size, 0, none⟩) (by simp)).trans (by simp)
    have c1 : w1.cell? ⟨w.heap.size, 1, none⟩ = some (.slice ao kl cap) := (hb.cell (p := ⟨w.heap.size, 1, none⟩) (by simp)).trans (by simp)
    clear hb
    have HG1 := HG w1 HB1.out
    clear HG HL HB
    go_wp2_with fail
    refine HG1.out.mono ?_
    rintro e w2 ⟨rfl, hb⟩
    have HB2 := Lib.hid hb
    clear hb
    go_wp2
    go_ret
    exact ⟨by rw [HS.out]; rfl, HB1.out.trans (HB2.out.mono HB1.out.size)⟩
end Go.Proofs.YtnfpkjnllkkngaaGreatDoor
end
