import Derived.Test.YtefbakhhlonafaaGreatRiceC2
import Derived.Test.YtefbakhhlonafaaGreatFxLatC1

section
namespace Go.Proofs.YtefbakhhlonafaaGreat
open Go.RowKit Go.Proofs Go.Proofs.PipeM Go.Proofs.PipeA

/-- The folded number that is taken; where the reader fails it may be any. -/
def RS.foldT (s : RS) (k : Nat) : RS :=
  if (s.zeros 24).1 < 24 then (s.zeros 24).2.takeS k
  else if ((s.zeros 24).2.takeV 34) / 2 ^ k < 24 then ((s.zeros 24).2.takeS 34).give 2 else (s.zeros 24).2.takeS 34
def RS.foldV (s : RS) (k : Nat) : Nat :=
  if (s.zeros 24).1 < 24 then (s.zeros 24).1 * 2 ^ k + (s.zeros 24).2.takeV k else (s.zeros 24).2.takeV 34

theorem takeV_ltn (s : RS) (n : Nat) (hn : n ≤ 48) : s.takeV n < 2 ^ n := by
  unfold RS.takeV
  split
  · refine Nat.lt_of_lt_of_le (num_lt _) (Nat.pow_le_pow_right (by decide) ?_)
    rw [List.length_take]; omega
  · exact Nat.two_pow_pos n

theorem or_shift (q v k : Nat) (hq : q < 24) (hk : k ≤ 24) (hv : v < 2 ^ k) : bits BinOp.or IntKind.i64 (IntKind.i64.wrap ((q : Int) * 2 ^ k)) (IntKind.i64.wrap (v : Int)) = ((q * 2 ^ k + v : Nat) : Int) := by
  obtain ⟨p1, p2⟩ := pow24 k hk
  have e := pow_cast k
  have hm : q * 2 ^ k ≤ 24 * 16777216 := Nat.mul_le_mul (by omega) p2
  have e2 : (q : Int) * 2 ^ k = ((q * 2 ^ k : Nat) : Int) := by rw [Int.natCast_mul, e]
  have hw : IntKind.i64.wrap ((q : Int) * 2 ^ k) = ((q * 2 ^ k : Nat) : Int) := by rw [e2]; exact IntWalk.i64_in _ (by omega)
  have hw2 : IntKind.i64.wrap (v : Int) = (v : Int) := IntWalk.i64_in _ (by omega)
  rw [hw, hw2, bits_join .i64 34 (by decide) (fun n h1 h2 => IntWalk.i64_in _ (by omega)) k _ _ (by omega) ?_ (by omega) (by omega) (by omega) (by omega)]
  · omega
  · rw [← e, ← Int.natCast_emod, Nat.mul_mod_left]; rfl

set_option maxHeartbeats 1600000 in
theorem cFolded (b : Nat) (ao : Option Addr) (s : RS) (k : Nat) (w : World) (hk : k ≤ 24) (h : RdA w b ao s) :
    Calls Tryz.prog 127 #[.pointer (some ⟨b, 0, none⟩), .int .i64 k] w fun r w' => r = .returned (.int .i64 (s.foldV k)) ∧ Reads w b ao (s.foldT k) w' := by
  have HZ := Lib.hid (aZeros b ao s 24 w h)
  have hT : s.foldT k = if (s.zeros 24).1 < 24 then (s.zeros 24).2.takeS k else if ((s.zeros 24).2.takeV 34) / 2 ^ k < 24 then ((s.zeros 24).2.takeS 34).give 2 else (s.zeros 24).2.takeS 34 := rfl
  have hV : s.foldV k = if (s.zeros 24).1 < 24 then (s.zeros 24).1 * 2 ^ k + (s.zeros 24).2.takeV k else (s.zeros 24).2.takeV 34 := rfl
  obtain ⟨⟨q, s1⟩, hz⟩ : ∃ t, t = s.zeros 24 := ⟨_, rfl⟩
  rw [← hz] at hT hV
  have hz' : (q, s1) = zgo 24 s.err s.bits 0 := hz
  rw [← hz'] at HZ
  simp only at hT hV HZ
  clear hz hz' h
  have hv34 : s1.takeV 34 < 17179869184 := takeV_ltn s1 34 (by omega)
  have hvk := takeV_ltn s1 k (by omega)
  by_cases hq : q < 24
  · rw [if_pos hq] at hT hV
    have HT := Lib.hid hT
    have HV := Lib.hid hV
    have HO := Lib.hid (or_shift q (s1.takeV k) k hq hk hvk)
    have t1 : decide ((q : Int) < 24) = true := decide_eq_true (by omega)
    obtain ⟨v, hv⟩ : ∃ v, v = s1.takeV k := ⟨_, rfl⟩
    rw [← hv] at HO HV
    have HVV := Lib.hid hv
    clear hT hV hvk hv34 hv hq
    go_enter Tryz.func127, Tryz.ntmps127
    go_wp2_with fail
    refine HZ.out.mono ?_
    rintro e w1 ⟨rfl, hr1⟩
    have HR1 := Lib.hid hr1
    clear hr1 HZ
    have HTK := Lib.hid (aTake b ao s1 k w1.drew (HR1.out.1.keeps (keeps_drew w1) (by simp) (by simp)))
    have HRD : Hid (Reads w b ao s1 w1.drew) := ⟨HR1.out.1.keeps (keeps_drew w1) (by simp) (by simp), HR1.out.2.trans (keeps_drew_b w1 _)⟩
    rw [← HVV.out] at HTK
    go_wp2_with fail
    go_region_with (go_at_call 49; refine HTK.out.mono ?_; rintro e w2 ⟨rfl, hr2⟩)
    all_goals
      rw [HO.out]
      go_wp2
      go_ret
      exact ⟨by rw [HV.out]; rfl, by rw [HT.out]; exact HRD.out.next hr2⟩
  · rw [if_neg hq] at hT hV
    have HV := Lib.hid hV
    have t1 : decide ((q : Int) < 24) = false := decide_eq_false (by omega)
    obtain ⟨v, hv⟩ : ∃ v, v = s1.takeV 34 := ⟨_, rfl⟩
    rw [← hv] at hT HV hv34
    have HVV := Lib.hid hv
    have e1 : ((v : Int) / 2 ^ k) = ((v / 2 ^ k : Nat) : Int) := by rw [Int.natCast_ediv, pow_cast]
    have hw : IntKind.i64.wrap (v : Int) = (v : Int) := IntWalk.i64_in _ (by omega)
    by_cases hs : v / 2 ^ k < 24
    · rw [if_pos hs] at hT
      have HT := Lib.hid hT
      have t2 : decide ((v : Int) / 2 ^ k < 24) = true := by rw [e1]; exact decide_eq_true (by omega)
      clear hT hV hvk hv hq e1 hs
      go_enter Tryz.func127, Tryz.ntmps127
      go_wp2_with fail
      refine HZ.out.mono ?_
      rintro e w1 ⟨rfl, hr1⟩
      have HR1 := Lib.hid hr1
      clear hr1 HZ
      have HTK := Lib.hid (aTake b ao s1 34 w1 HR1.out.1)
      rw [← HVV.out] at HTK
      go_wp2_with fail
      refine HTK.out.mono ?_
      rintro e w2 ⟨rfl, hr2⟩
      have HR2 := Lib.hid (HR1.out.next hr2)
      clear hr2
      go_wp2_with fail
      refine (aGive b ao _ 2 w2 HR2.out.1).mono ?_
      rintro e w3 ⟨rfl, hr3⟩
      go_wp2
      go_ret
      exact ⟨by rw [HV.out]; rfl, by rw [HT.out]; exact HR2.out.next hr3⟩
    · rw [if_neg hs] at hT
      have HT := Lib.hid hT
      have t2 : decide ((v : Int) / 2 ^ k < 24) = false := by rw [e1]; exact decide_eq_false (by omega)
      clear hT hV hvk hv hq e1 hs
      go_enter Tryz.func127, Tryz.ntmps127
      go_wp2_with fail
      refine HZ.out.mono ?_
      rintro e w1 ⟨rfl, hr1⟩
      have HR1 := Lib.hid hr1
      clear hr1 HZ
      have HTK := Lib.hid (aTake b ao s1 34 w1 HR1.out.1)
      rw [← HVV.out] at HTK
      go_wp2_with fail
      refine HTK.out.mono ?_
      rintro e w2 ⟨rfl, hr2⟩
      have HR2 := Lib.hid (HR1.out.next hr2)
      clear hr2
      go_wp2
      go_ret
      exact ⟨by rw [HV.out]; rfl, by rw [HT.out]; exact HR2.out⟩

theorem rice_fold (s : RS) (k : Nat) (hk : k ≤ 24) : s.rice k = if (s.foldT k).err ≠ 0 then (s.foldT k, 0) else (s.foldT k, unfoldN (s.foldV k)) := by
  unfold RS.rice RS.foldT RS.foldV RS.riceA RS.riceB
  rw [if_neg (by omega), Int.toNat_natCast]
  by_cases hq : (s.zeros 24).1 < 24
  · rw [if_pos hq, if_pos hq, if_pos hq]
  · rw [if_neg hq, if_neg hq, if_neg hq]

theorem foldV_lt (s : RS) (k : Nat) (hk : k ≤ 24) : s.foldV k < 17179869184 := by
  unfold RS.foldV
  split
  · next h =>
    have h1 := takeV_ltn (s.zeros 24).2 k (by omega)
    obtain ⟨p1, p2⟩ := pow24 k hk
    have hm : (s.zeros 24).1 * 2 ^ k ≤ 24 * 16777216 := Nat.mul_le_mul (by omega) p2
    omega
  · exact takeV_ltn _ 34 (by omega)

set_option maxHeartbeats 1600000 in
theorem cTake (b : Nat) (ao : Option Addr) (s : RS) (k : Int) (w : World) (h : RdA w b ao s) :
    Calls Tryz.prog 112 #[.pointer (some ⟨b, 0, none⟩), .int .i64 k] w fun r w' => r = .returned (.int .i64 (s.rice k).2) ∧ Reads w b ao (s.rice k).1 w' := by
  have HP := fun W => Lib.hid (cIsP k W)
  by_cases hk : k < 0 ∨ 24 < k
  · have hp : parOk k = false := by unfold parOk; exact decide_eq_false (by omega)
    have hr : s.rice k = (s.give 1, 0) := by unfold RS.rice; rw [if_pos hk]
    rw [hp] at HP
    rw [hr]
    have HG := Lib.hid (aGive b ao s 1 w h)
    clear hp hr hk h
    go_enter Tryz.func112, Tryz.ntmps112
    go_wp2_with (first | (go_at_call 125; refine (HP _).out.mono ?_; rintro e w1 ⟨rfl, rfl⟩) | (go_at_call 46; refine HG.out.mono ?_; rintro e w2 ⟨rfl, hr2⟩))
    go_ret
    exact ⟨rfl, hr2⟩
  · have hp : parOk k = true := by unfold parOk; exact decide_eq_true (by omega)
    rw [hp] at HP
    obtain ⟨m, rfl⟩ := Int.eq_ofNat_of_zero_le (show 0 ≤ k by omega)
    have hm : m ≤ 24 := by omega
    have hr := rice_fold s m hm
    have hlt := foldV_lt s m hm
    have HF := Lib.hid (cFolded b ao s m w hm h)
    obtain ⟨t, ht⟩ : ∃ t, t = s.foldT m := ⟨_, rfl⟩
    obtain ⟨z, hz⟩ : ∃ z, z = s.foldV m := ⟨_, rfl⟩
    rw [← ht, ← hz] at hr HF
    rw [← hz] at hlt
    rw [show s.rice ((m : Nat) : Int) = if t.err ≠ 0 then (t, 0) else (t, unfoldN z) from hr]
    have HU := fun W => Lib.hid (cUnfold_still z W hlt)
    clear hr ht hz hp hk h
    by_cases he : t.err ≠ 0
    · rw [if_pos he]
      have t1 : (t.err != 0) = true := by simpa using he
      clear he
      obtain ⟨bs, er⟩ := t
      simp only at t1
      go_enter Tryz.func112, Tryz.ntmps112
      go_wp2_with (first | (go_at_call 125; refine (HP _).out.mono ?_; rintro e w1 ⟨rfl, rfl⟩) | (go_at_call 127; refine HF.out.mono ?_; rintro e w2 ⟨rfl, hr2⟩; have HR2 := Lib.hid hr2; clear hr2) | (go_at_call 22; refine (aFail b ao _ _ HR2.out.1).mono ?_; rintro e w3 ⟨rfl, rfl⟩))
      go_ret
      exact ⟨rfl, HR2.out⟩
    · rw [if_neg he]
      have t1 : (t.err != 0) = false := by simpa using he
      clear he
      obtain ⟨bs, er⟩ := t
      simp only at t1
      go_enter Tryz.func112, Tryz.ntmps112
      go_wp2_with (first | (go_at_call 125; refine (HP _).out.mono ?_; rintro e w1 ⟨rfl, rfl⟩) | (go_at_call 127; refine HF.out.mono ?_; rintro e w2 ⟨rfl, hr2⟩; have HR2 := Lib.hid hr2; clear hr2) | (go_at_call 22; refine (aFail b ao _ _ HR2.out.1).mono ?_; rintro e w3 ⟨rfl, rfl⟩) | (go_at_call 128; refine (HU _).out.mono ?_; rintro e w4 ⟨rfl, rfl⟩))
      go_ret
      exact ⟨rfl, HR2.out⟩

set_option maxHeartbeats 400000 in
theorem cTotal (ao : Option Addr) (cap : Nat) (l : List Int) (k : Nat) (w : World) (hl : l.length ≤ 100000) (hi : IntsAt w ao l) (hr : ∀ n ∈ l, InR n) (hk : k ≤ 24) :
    Calls Tryz.prog 84 #[.slice ao l.length cap, .int .i64 k] w fun e w' => e = .returned (.int .i64 (totalN l k)) ∧ Below w.heap.size w w' := by
  have HI := Lib.hid hi
  have HR := Lib.hid hr
  clear hi hr
  go_enter Tryz.func84, Tryz.ntmps84
  go_wp2
  go_loopg [5, 7, 10] l.length (fun gk s q i wr => ∃ c : Nat, c ≤ l.length ∧ gk + c = l.length ∧ i = .int .i64 c ∧ s = .int .i64 (totalN (l.take c) k) ∧ Hid (Below w.heap.size w wr))
  case atStart => exact ⟨0, Nat.zero_le _, by omega, rfl, rfl, Below.refl _ _⟩
  case round =>
    obtain ⟨c, hc, hgk, rfl, rfl, HB⟩ := hrel
    have HGK := Lib.hid hgk
    clear hgk
    have htl := totalN_le (l.take c) k hk
    rw [List.length_take] at htl
    obtain ⟨x, hx⟩ : ∃ x, x = totalN (l.take c) k := ⟨_, rfl⟩
    rw [← hx] at htl ⊢
    have HX := Lib.hid hx
    clear hx
    by_cases hlt : c < l.length
    · obtain ⟨g, off, rfl, hg, hcell⟩ := (HI.out.below HB.out) c hlt
      have hcl := costN_le l[c] k hk
      have hsn : totalN (l.take (c + 1)) k = totalN (l.take c) k + costN l[c] k := by rw [List.take_succ_eq_append_getElem hlt, totalN_snoc]
      have HL := fun W => Lib.hid (cCost_yes l[c] k W (HR.out _ (List.getElem_mem hlt)) hk)
      obtain ⟨n, hn⟩ : ∃ n, n = l[c] := ⟨_, rfl⟩
      obtain ⟨y, hy⟩ : ∃ y, y = costN n k := ⟨_, rfl⟩
      rw [← hn] at hcell
      rw [← hn, ← hy] at hcl HL hsn
      have HSN := Lib.hid hsn
      clear hsn hn hy
      go_wp2_with (go_at_call 109; refine (HL _).out.mono ?_; rintro e w1 ⟨rfl, hb1⟩; have HB1 := Lib.hid (HB.out.trans (hb1.mono HB.out.size)); clear hb1)
      go_roundg (gk - 1)
      case rel => exact ⟨c + 1, by omega, by have := HGK.out; omega, by go_num, by rw [HSN.out, ← HX.out]; go_num, HB1⟩
      case measure => have := HGK.out; omega
    · obtain rfl : c = l.length := by omega
      go_wp2
      go_ret
      exact ⟨by rw [show totalN l k = x by rw [HX.out, List.take_length]]; rfl, HB.out⟩
end Go.Proofs.YtefbakhhlonafaaGreat
end

section
namespace Go.Proofs.YtefbakhhlonafaaGreat
open Go.RowKit Go.Proofs Go.Proofs.PipeM Go.Proofs.PipeA

def lenOk (n : Int) : Bool := decide (1 ≤ n ∧ n ≤ 1024)
set_option maxHeartbeats 400000 in
theorem cIsLen (n : Int) (w : World) : Calls Tryz.prog 110 #[.int .i64 n] w fun e w' => e = .returned (.bool (lenOk n)) ∧ w = w' := by
  by_cases h1 : 1 ≤ n
  · have t1 : decide (1 ≤ n) = true := decide_eq_true h1
    by_cases h2 : n ≤ 1024
    · have t2 : decide (n ≤ 1024) = true := decide_eq_true h2
      have HP : Hid (lenOk n = true) := by show _ = _; unfold lenOk; exact decide_eq_true ⟨h1, h2⟩
      go_enter Tryz.func110, Tryz.ntmps110
      go_wp2
      go_ret
      exact ⟨by rw [HP.out]; rfl, rfl⟩
    · have t2 : decide (n ≤ 1024) = false := decide_eq_false h2
      have HP : Hid (lenOk n = false) := by show _ = _; unfold lenOk; exact decide_eq_false (by omega)
      go_enter Tryz.func110, Tryz.ntmps110
      go_wp2
      go_ret
      exact ⟨by rw [HP.out]; rfl, rfl⟩
  · have t1 : decide (1 ≤ n) = false := decide_eq_false h1
    have HP : Hid (lenOk n = false) := by show _ = _; unfold lenOk; exact decide_eq_false (by omega)
    go_enter Tryz.func110, Tryz.ntmps110
    go_wp2
    go_ret
    exact ⟨by rw [HP.out]; rfl, rfl⟩

def powOk (n : Nat) (P : Int) : Bool := decide (0 ≤ P ∧ P ≤ 3 ∧ n % 2 ^ P.toNat = 0)
theorem powOk_at (n : Nat) (p q : Nat) (hp : p ≤ 3) (hq : 2 ^ p = q) : powOk n p = ((n : Int) % (q : Int) == 0) := by
  unfold powOk
  rw [Int.toNat_natCast, hq]
  by_cases h : n % q = 0
  · rw [decide_eq_true ⟨by omega, by omega, h⟩]
    symm; rw [beq_iff_eq]; omega
  · rw [decide_eq_false (fun hc => h hc.2.2)]
    symm; rw [beq_eq_false_iff_ne]; omega

set_option maxHeartbeats 800000 in
theorem cIsPow (n : Nat) (P : Int) (w : World) (hn : n ≤ 1000000000) : Calls Tryz.prog 111 #[.int .i64 n, .int .i64 P] w fun e w' => e = .returned (.bool (powOk n P)) ∧ w = w' := by
  by_cases h1 : 0 ≤ P
  · obtain ⟨p, rfl⟩ := Int.eq_ofNat_of_zero_le h1
    have t1 : decide (0 ≤ (p : Int)) = true := decide_eq_true h1
    by_cases h2 : (p : Int) ≤ 3
    · have h3 : p = 0 ∨ p = 1 ∨ p = 2 ∨ p = 3 := by omega
      clear t1
      rcases h3 with rfl | rfl | rfl | rfl
      · have HP : Hid (powOk n ((0 : Nat) : Int) = true) := by show _ = _; unfold powOk; exact decide_eq_true ⟨by omega, by omega, by simp [Nat.mod_one]⟩
        clear h1 h2
        generalize powOk n ((0 : Nat) : Int) = tt at HP ⊢
        go_enter Tryz.func111, Tryz.ntmps111
        go_wp2
        go_ret
        exact ⟨by rw [HP.out]; rfl, rfl⟩
      · have HP2 : Hid (((n : Int) % 2 == 0) = powOk n ((1 : Nat) : Int)) := by have := powOk_at n 1 2 (by decide) (by decide); exact this.symm
        clear h1 h2
        generalize powOk n ((1 : Nat) : Int) = tt at HP2 ⊢
        go_enter Tryz.func111, Tryz.ntmps111
        go_wp2
        go_ret
        exact ⟨by rw [← HP2.out]; rfl, rfl⟩
      · have HP2 : Hid (((n : Int) % 4 == 0) = powOk n ((2 : Nat) : Int)) := by have := powOk_at n 2 4 (by decide) (by decide); exact this.symm
        clear h1 h2
        generalize powOk n ((2 : Nat) : Int) = tt at HP2 ⊢
        go_enter Tryz.func111, Tryz.ntmps111
        go_wp2
        go_ret
        exact ⟨by rw [← HP2.out]; rfl, rfl⟩
      · have HP2 : Hid (((n : Int) % 8 == 0) = powOk n ((3 : Nat) : Int)) := by have := powOk_at n 3 8 (by decide) (by decide); exact this.symm
        clear h1 h2
        generalize powOk n ((3 : Nat) : Int) = tt at HP2 ⊢
        go_enter Tryz.func111, Tryz.ntmps111
        go_wp2
        go_ret
        exact ⟨by rw [← HP2.out]; rfl, rfl⟩
    · have t2 : decide ((p : Int) ≤ 3) = false := decide_eq_false h2
      have HP : Hid (powOk n (p : Int) = false) := by show _ = _; unfold powOk; exact decide_eq_false (by omega)
      go_enter Tryz.func111, Tryz.ntmps111
      go_wp2
      go_ret
      exact ⟨by rw [HP.out]; rfl, rfl⟩
  · have t1 : decide (0 ≤ P) = false := decide_eq_false h1
    have HP : Hid (powOk n P = false) := by show _ = _; unfold powOk; exact decide_eq_false (by omega)
    go_enter Tryz.func111, Tryz.ntmps111
    go_wp2
    go_ret
    exact ⟨by rw [HP.out]; rfl, rfl⟩

theorem code_len_n (n : Int) : decide (0 < (codeOf n 0).length) = nOk n := by
  unfold codeOf nOk codeOk
  by_cases h : -8589934592 ≤ n ∧ n ≤ 8589934591
  · rw [decide_eq_true (⟨h.1, h.2, by omega, by omega⟩ : -8589934592 ≤ n ∧ n ≤ 8589934591 ∧ (0 : Int) ≤ 0 ∧ (0 : Int) ≤ 24), if_pos rfl, codeBits_length, decide_eq_true h]
    exact decide_eq_true (by have := costN_pos n (0 : Int).toNat; omega)
  · rw [decide_eq_false (fun hc => h ⟨hc.1, hc.2.1⟩ : ¬ (-8589934592 ≤ n ∧ n ≤ 8589934591 ∧ (0 : Int) ≤ 0 ∧ (0 : Int) ≤ 24)), decide_eq_false h]; rfl
theorem code_len_k (k : Int) : decide (0 < (codeOf 0 k).length) = kOk k := by
  unfold codeOf kOk codeOk
  by_cases h : 0 ≤ k ∧ k ≤ 24
  · rw [decide_eq_true (⟨by omega, by omega, h.1, h.2⟩ : -8589934592 ≤ (0 : Int) ∧ (0 : Int) ≤ 8589934591 ∧ 0 ≤ k ∧ k ≤ 24), if_pos rfl, codeBits_length, decide_eq_true h]
    exact decide_eq_true (by have := costN_pos 0 k.toNat; omega)
  · rw [decide_eq_false (fun hc => h hc.2.2 : ¬ (-8589934592 ≤ (0 : Int) ∧ (0 : Int) ≤ 8589934591 ∧ 0 ≤ k ∧ k ≤ 24)), decide_eq_false h]; rfl

set_option maxHeartbeats 400000 in
theorem cIsNum (n : Int) (w : World) : Calls Tryz.prog 122 #[.int .i64 n] w fun e w' => e = .returned (.bool (nOk n)) ∧ Below w.heap.size w w' := by
  have HC := Lib.hid (cCost n 0 w)
  have HL := Lib.hid (code_len_n n)
  have hlen : (codeOf n 0).length ≤ 59 := codeOf_len n 0
  generalize (codeOf n 0).length = c at HC HL hlen
  generalize nOk n = ok at HL ⊢
  go_enter Tryz.func122, Tryz.ntmps122
  go_wp2_with fail
  refine HC.out.mono ?_
  rintro e w1 ⟨rfl, hb⟩
  have HB := Lib.hid hb
  clear hb
  go_wp2
  go_ret
  exact ⟨by rw [← HL.out]; rfl, HB.out⟩

set_option maxHeartbeats 400000 in
theorem cIsPar (n : Int) (w : World) : Calls Tryz.prog 123 #[.int .i64 n] w fun e w' => e = .returned (.bool (kOk n)) ∧ Below w.heap.size w w' := by
  have HC := Lib.hid (cCost 0 n w)
  have HL := Lib.hid (code_len_k n)
  have hlen : (codeOf 0 n).length ≤ 59 := codeOf_len 0 n
  generalize (codeOf 0 n).length = c at HC HL hlen
  generalize kOk n = ok at HL ⊢
  go_enter Tryz.func123, Tryz.ntmps123
  go_wp2_with fail
  refine HC.out.mono ?_
  rintro e w1 ⟨rfl, hb⟩
  have HB := Lib.hid hb
  clear hb
  go_wp2
  go_ret
  exact ⟨by rw [← HL.out]; rfl, HB.out⟩

set_option maxHeartbeats 800000 in
theorem cAllNum (ao : Option Addr) (cap : Nat) (l : List Int) (w : World) (hl : l.length ≤ 1000000000) (hi : IntsAt w ao l) :
    Calls Tryz.prog 121 #[.slice ao l.length cap, .func (.func 122) #[] #[]] w fun e w' => e = .returned (.bool (l.all nOk)) ∧ Below w.heap.size w w' := by
  have HI := Lib.hid hi
  clear hi
  obtain ⟨kl, hkl⟩ : ∃ kl, kl = l.length := ⟨_, rfl⟩
  rw [← hkl] at hl ⊢
  have HKL := Lib.hid hkl
  clear hkl
  go_enter Tryz.func121, Tryz.ntmps121
  go_wp2
  go_loopg [9] kl (fun gk i wr => ∃ c : Nat, c ≤ kl ∧ gk + c = kl ∧ i = .int .i64 c ∧ Hid ((l.take c).all nOk = true) ∧ Hid (Below w.heap.size w wr))
  case atStart => exact ⟨0, Nat.zero_le _, by omega, rfl, rfl, Below.refl _ _⟩
  case round =>
    obtain ⟨c, hcl, hgk, rfl, HT, HB⟩ := hrel
    have HGK := Lib.hid hgk
    clear hgk
    by_cases hlt : c < kl
    · have hltk : c < l.length := by have := HKL.out; omega
      obtain ⟨g, off, rfl, hg, hcell⟩ := (HI.out.below HB.out) c hltk
      have HA : Hid ((l.take (c + 1)).all nOk = ((l.take c).all nOk && nOk l[c])) := by
        show _ = _
        rw [List.take_succ_eq_append_getElem hltk, List.all_append]; simp only [List.all_cons, List.all_nil, Bool.and_true]
      have HNO : Hid (nOk l[c] = false → l.all nOk = false) := fun h => by
        rw [List.all_eq_false]; exact ⟨l[c], List.getElem_mem hltk, by simp [h]⟩
      obtain ⟨k, hk⟩ : ∃ k, k = l[c] := ⟨_, rfl⟩
      rw [← hk] at hcell HA HNO
      clear hk hltk
      have HC := Lib.hid (cIsNum k wr)
      cases hok : nOk k
      · rw [hok] at HC
        have HNO2 := Lib.hid (HNO.out hok)
        clear hok
        go_wp2_with fail
        refine HC.out.mono ?_
        rintro e w1 ⟨rfl, hb⟩
        have HB1 := Lib.hid hb
        clear hb
        go_wp2
        go_ret
        exact ⟨by rw [HNO2.out]; rfl, HB.out.trans (HB1.out.mono HB.out.size)⟩
      · rw [hok] at HC HA
        have HA2 := Lib.hid (HA.out.trans (by rw [HT.out]))
        clear hok
        go_wp2_with fail
        refine HC.out.mono ?_
        rintro e w1 ⟨rfl, hb⟩
        have HB1 := Lib.hid hb
        clear hb
        go_wp2
        go_roundg (gk - 1)
        case rel => exact ⟨c + 1, by omega, by have := HGK.out; omega, by go_num, HA2.out, HB.out.trans (HB1.out.mono HB.out.size)⟩
        case measure => have := HGK.out; omega
    · obtain rfl : c = kl := by omega
      have HA : Hid (l.all nOk = true) := by have := HT.out; rw [HKL.out, List.take_length] at this; exact this
      go_wp2
      go_ret
      exact ⟨by rw [HA.out]; rfl, HB.out⟩

set_option maxHeartbeats 800000 in
theorem cAllPar (ao : Option Addr) (cap : Nat) (l : List Int) (w : World) (hl : l.length ≤ 1000000000) (hi : IntsAt w ao l) :
    Calls Tryz.prog 121 #[.slice ao l.length cap, .func (.func 123) #[] #[]] w fun e w' => e = .returned (.bool (l.all kOk)) ∧ Below w.heap.size w w' := by
  have HI := Lib.hid hi
  clear hi
  obtain ⟨kl, hkl⟩ : ∃ kl, kl = l.length := ⟨_, rfl⟩
  rw [← hkl] at hl ⊢
  have HKL := Lib.hid hkl
  clear hkl
  go_enter Tryz.func121, Tryz.ntmps121
  go_wp2
  go_loopg [9] kl (fun gk i wr => ∃ c : Nat, c ≤ kl ∧ gk + c = kl ∧ i = .int .i64 c ∧ Hid ((l.take c).all kOk = true) ∧ Hid (Below w.heap.size w wr))
  case atStart => exact ⟨0, Nat.zero_le _, by omega, rfl, rfl, Below.refl _ _⟩
  case round =>
    obtain ⟨c, hcl, hgk, rfl, HT, HB⟩ := hrel
    have HGK := Lib.hid hgk
    clear hgk
    by_cases hlt : c < kl
    · have hltk : c < l.length := by have := HKL.out; omega
      obtain ⟨g, off, rfl, hg, hcell⟩ := (HI.out.below HB.out) c hltk
      have HA : Hid ((l.take (c + 1)).all kOk = ((l.take c).all kOk && kOk l[c])) := by
        show _ = _
        rw [List.take_succ_eq_append_getElem hltk, List.all_append]; simp only [List.all_cons, List.all_nil, Bool.and_true]
      have HNO : Hid (kOk l[c] = false → l.all kOk = false) := fun h => by
        rw [List.all_eq_false]; exact ⟨l[c], List.getElem_mem hltk, by simp [h]⟩
      obtain ⟨k, hk⟩ : ∃ k, k = l[c] := ⟨_, rfl⟩
      rw [← hk] at hcell HA HNO
      clear hk hltk
      have HC := Lib.hid (cIsPar k wr)
      cases hok : kOk k
      · rw [hok] at HC
        have HNO2 := Lib.hid (HNO.out hok)
        clear hok
        go_wp2_with fail
        refine HC.out.mono ?_
        rintro e w1 ⟨rfl, hb⟩
        have HB1 := Lib.hid hb
        clear hb
        go_wp2
        go_ret
        exact ⟨by rw [HNO2.out]; rfl, HB.out.trans (HB1.out.mono HB.out.size)⟩
      · rw [hok] at HC HA
        have HA2 := Lib.hid (HA.out.trans (by rw [HT.out]))
        clear hok
        go_wp2_with fail
        refine HC.out.mono ?_
        rintro e w1 ⟨rfl, hb⟩
        have HB1 := Lib.hid hb
        clear hb
        go_wp2
        go_roundg (gk - 1)
        case rel => exact ⟨c + 1, by omega, by have := HGK.out; omega, by go_num, HA2.out, HB.out.trans (HB1.out.mono HB.out.size)⟩
        case measure => have := HGK.out; omega
    · obtain rfl : c = kl := by omega
      have HA : Hid (l.all kOk = true) := by have := HT.out; rw [HKL.out, List.take_length] at this; exact this
      go_wp2
      go_ret
      exact ⟨by rw [HA.out]; rfl, HB.out⟩
end Go.Proofs.YtefbakhhlonafaaGreat
end
