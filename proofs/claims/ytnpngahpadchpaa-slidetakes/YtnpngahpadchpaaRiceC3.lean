import Derived.Test.YtnpngahpadchpaaRiceC2
namespace Go.Proofs.Ytnpngahpadchpaa
open Go.RowKit Go.Proofs Go.Proofs.PipeM Go.Proofs.PipeA

/-- The folded number that is taken; where the reader fails it may be any. -/
def RS.foldT (s : RS) (k : Nat) : RS :=
  if (s.zeros 24).1 < 24 then (s.zeros 24).2.takeS k
  else if ((s.zeros 24).2.takeV 34) / 2 ^ k < 24 then ((s.zeros 24).2.takeS 34).give 2 else (s.zeros 24).2.takeS 34
def RS.foldV (s : RS) (k : Nat) : Nat :=
  if (s.zeros 24).1 < 24 then (s.zeros 24).1 * 2 ^ k + (s.zeros 24).2.takeV k else (s.zeros 24).2.takeV 34

theorem takeV_ltn (s : RS) (n : Nat) (hn : n ≤ 48) : s.takeV n < 2 ^ n := by
  unfold RS.takeV
  split
  · refine Nat.lt_of_lt_of_le (num_lt _) (Nat.pow_le_pow_right (by decide) ?_)
    rw [List.length_take]; omega
  · exact Nat.two_pow_pos n

theorem or_shift (q v k : Nat) (hq : q < 24) (hk : k ≤ 24) (hv : v < 2 ^ k) : bits BinOp.or IntKind.i64 (IntKind.i64.wrap ((q : Int) * 2 ^ k)) (IntKind.i64.wrap (v : Int)) = ((q * 2 ^ k + v : Nat) : Int) := by
  obtain ⟨p1, p2⟩ := pow24 k hk
  have e := pow_cast k
  have hm : q * 2 ^ k ≤ 24 * 16777216 := Nat.mul_le_mul (by omega) p2
  have e2 : (q : Int) * 2 ^ k = ((q * 2 ^ k : Nat) : Int) := by rw [Int.natCast_mul, e]
  have hw : IntKind.i64.wrap ((q : Int) * 2 ^ k) = ((q * 2 ^ k : Nat) : Int) := by rw [e2]; exact IntWalk.i64_in _ (by omega)
  have hw2 : IntKind.i64.wrap (v : Int) = (v : Int) := IntWalk.i64_in _ (by omega)
  rw [hw, hw2, bits_join .i64 34 (by decide) (fun n h1 h2 => IntWalk.i64_in _ (by omega)) k _ _ (by omega) ?_ (by omega) (by omega) (by omega) (by omega)]
  · omega
  · rw [← e, ← Int.natCast_emod, Nat.mul_mod_left]; rfl

set_option maxHeartbeats 1600000 in
theorem cFolded (b : Nat) (ao : Option Addr) (s : RS) (k : Nat) (w : World) (hk : k ≤ 24) (h : RdA w b ao s) :
    Calls Try.prog 70 #[.pointer (some ⟨b, 0, none⟩), .int .i64 k] w fun r w' => r = .returned (.int .i64 (s.foldV k)) ∧ Reads w b ao (s.foldT k) w' := by
  have HZ := Lib.hid (aZeros b ao s 24 w h)
  have hT : s.foldT k = if (s.zeros 24).1 < 24 then (s.zeros 24).2.takeS k else if ((s.zeros 24).2.takeV 34) / 2 ^ k < 24 then ((s.zeros 24).2.takeS 34).give 2 else (s.zeros 24).2.takeS 34 := rfl
  have hV : s.foldV k = if (s.zeros 24).1 < 24 then (s.zeros 24).1 * 2 ^ k + (s.zeros 24).2.takeV k else (s.zeros 24).2.takeV 34 := rfl
  obtain ⟨⟨q, s1⟩, hz⟩ : ∃ t, t = s.zeros 24 := ⟨_, rfl⟩
  rw [← hz] at hT hV
  have hz' : (q, s1) = zgo 24 s.err s.bits 0 := hz
  rw [← hz'] at HZ
  simp only at hT hV HZ
  clear hz hz' h
  have hv34 : s1.takeV 34 < 17179869184 := takeV_ltn s1 34 (by omega)
  have hvk := takeV_ltn s1 k (by omega)
  by_cases hq : q < 24
  · rw [if_pos hq] at hT hV
    have HT := Lib.hid hT
    have HV := Lib.hid hV
    have HO := Lib.hid (or_shift q (s1.takeV k) k hq hk hvk)
    have t1 : decide ((q : Int) < 24) = true := decide_eq_true (by omega)
    obtain ⟨v, hv⟩ : ∃ v, v = s1.takeV k := ⟨_, rfl⟩
    rw [← hv] at HO HV
    have HVV := Lib.hid hv
    clear hT hV hvk hv34 hv hq
    go_enter Try.func70, Try.ntmps70
    go_wp2_with fail
    refine HZ.out.mono ?_
    rintro e w1 ⟨rfl, hr1⟩
    have HR1 := Lib.hid hr1
    clear hr1 HZ
    have HTK := Lib.hid (aTake b ao s1 k w1.drew (HR1.out.1.keeps (keeps_drew w1) (by simp) (by simp)))
    have HRD : Hid (Reads w b ao s1 w1.drew) := ⟨HR1.out.1.keeps (keeps_drew w1) (by simp) (by simp), HR1.out.2.trans (keeps_drew_b w1 _)⟩
    rw [← HVV.out] at HTK
    go_wp2_with fail
    go_region_with (go_at_call 49; refine HTK.out.mono ?_; rintro e w2 ⟨rfl, hr2⟩)
    all_goals
      rw [HO.out]
      go_wp2
      go_ret
      exact ⟨by rw [HV.out]; rfl, by rw [HT.out]; exact HRD.out.next hr2⟩
  · rw [if_neg hq] at hT hV
    have HV := Lib.hid hV
    have t1 : decide ((q : Int) < 24) = false := decide_eq_false (by omega)
    obtain ⟨v, hv⟩ : ∃ v, v = s1.takeV 34 := ⟨_, rfl⟩
    rw [← hv] at hT HV hv34
    have HVV := Lib.hid hv
    have e1 : ((v : Int) / 2 ^ k) = ((v / 2 ^ k : Nat) : Int) := by rw [Int.natCast_ediv, pow_cast]
    have hw : IntKind.i64.wrap (v : Int) = (v : Int) := IntWalk.i64_in _ (by omega)
    by_cases hs : v / 2 ^ k < 24
    · rw [if_pos hs] at hT
      have HT := Lib.hid hT
      have t2 : decide ((v : Int) / 2 ^ k < 24) = true := by rw [e1]; exact decide_eq_true (by omega)
      clear hT hV hvk hv hq e1 hs
      go_enter Try.func70, Try.ntmps70
      go_wp2_with fail
      refine HZ.out.mono ?_
      rintro e w1 ⟨rfl, hr1⟩
      have HR1 := Lib.hid hr1
      clear hr1 HZ
      have HTK := Lib.hid (aTake b ao s1 34 w1 HR1.out.1)
      rw [← HVV.out] at HTK
      go_wp2_with fail
      refine HTK.out.mono ?_
      rintro e w2 ⟨rfl, hr2⟩
      have HR2 := Lib.hid (HR1.out.next hr2)
      clear hr2
      go_wp2_with fail
      refine (aGive b ao _ 2 w2 HR2.out.1).mono ?_
      rintro e w3 ⟨rfl, hr3⟩
      go_wp2
      go_ret
      exact ⟨by rw [HV.out]; rfl, by rw [HT.out]; exact HR2.out.next hr3⟩
    · rw [if_neg hs] at hT
      have HT := Lib.hid hT
      have t2 : decide ((v : Int) / 2 ^ k < 24) = false := by rw [e1]; exact decide_eq_false (by omega)
      clear hT hV hvk hv hq e1 hs
      go_enter Try.func70, Try.ntmps70
      go_wp2_with fail
      refine HZ.out.mono ?_
      rintro e w1 ⟨rfl, hr1⟩
      have HR1 := Lib.hid hr1
      clear hr1 HZ
      have HTK := Lib.hid (aTake b ao s1 34 w1 HR1.out.1)
      rw [← HVV.out] at HTK
      go_wp2_with fail
      refine HTK.out.mono ?_
      rintro e w2 ⟨rfl, hr2⟩
      have HR2 := Lib.hid (HR1.out.next hr2)
      clear hr2
      go_wp2
      go_ret
      exact ⟨by rw [HV.out]; rfl, by rw [HT.out]; exact HR2.out⟩

theorem rice_fold (s : RS) (k : Nat) (hk : k ≤ 24) : s.rice k = if (s.foldT k).err ≠ 0 then (s.foldT k, 0) else (s.foldT k, unfoldN (s.foldV k)) := by
  unfold RS.rice RS.foldT RS.foldV RS.riceA RS.riceB
  rw [if_neg (by omega), Int.toNat_natCast]
  by_cases hq : (s.zeros 24).1 < 24
  · rw [if_pos hq, if_pos hq, if_pos hq]
  · rw [if_neg hq, if_neg hq, if_neg hq]

theorem foldV_lt (s : RS) (k : Nat) (hk : k ≤ 24) : s.foldV k < 17179869184 := by
  unfold RS.foldV
  split
  · next h =>
    have h1 := takeV_ltn (s.zeros 24).2 k (by omega)
    obtain ⟨p1, p2⟩ := pow24 k hk
    have hm : (s.zeros 24).1 * 2 ^ k ≤ 24 * 16777216 := Nat.mul_le_mul (by omega) p2
    omega
  · exact takeV_ltn _ 34 (by omega)

set_option maxHeartbeats 1600000 in
theorem cTake (b : Nat) (ao : Option Addr) (s : RS) (k : Int) (w : World) (h : RdA w b ao s) :
    Calls Try.prog 50 #[.pointer (some ⟨b, 0, none⟩), .int .i64 k] w fun r w' => r = .returned (.int .i64 (s.rice k).2) ∧ Reads w b ao (s.rice k).1 w' := by
  have HP := fun W => Lib.hid (cIsP k W)
  by_cases hk : k < 0 ∨ 24 < k
  · have hp : parOk k = false := by unfold parOk; exact decide_eq_false (by omega)
    have hr : s.rice k = (s.give 1, 0) := by unfold RS.rice; rw [if_pos hk]
    rw [hp] at HP
    rw [hr]
    have HG := Lib.hid (aGive b ao s 1 w h)
    clear hp hr hk h
    go_enter Try.func50, Try.ntmps50
    go_wp2_with (first | (go_at_call 69; refine (HP _).out.mono ?_; rintro e w1 ⟨rfl, rfl⟩) | (go_at_call 48; refine HG.out.mono ?_; rintro e w2 ⟨rfl, hr2⟩))
    go_ret
    exact ⟨rfl, hr2⟩
  · have hp : parOk k = true := by unfold parOk; exact decide_eq_true (by omega)
    rw [hp] at HP
    obtain ⟨m, rfl⟩ := Int.eq_ofNat_of_zero_le (show 0 ≤ k by omega)
    have hm : m ≤ 24 := by omega
    have hr := rice_fold s m hm
    have hlt := foldV_lt s m hm
    have HF := Lib.hid (cFolded b ao s m w hm h)
    obtain ⟨t, ht⟩ : ∃ t, t = s.foldT m := ⟨_, rfl⟩
    obtain ⟨z, hz⟩ : ∃ z, z = s.foldV m := ⟨_, rfl⟩
    rw [← ht, ← hz] at hr HF
    rw [← hz] at hlt
    rw [show s.rice ((m : Nat) : Int) = if t.err ≠ 0 then (t, 0) else (t, unfoldN z) from hr]
    have HU := fun W => Lib.hid (cUnfold_still z W hlt)
    clear hr ht hz hp hk h
    by_cases he : t.err ≠ 0
    · rw [if_pos he]
      have t1 : (t.err != 0) = true := by simpa using he
      clear he
      obtain ⟨bs, er⟩ := t
      simp only at t1
      go_enter Try.func50, Try.ntmps50
      go_wp2_with (first | (go_at_call 69; refine (HP _).out.mono ?_; rintro e w1 ⟨rfl, rfl⟩) | (go_at_call 70; refine HF.out.mono ?_; rintro e w2 ⟨rfl, hr2⟩; have HR2 := Lib.hid hr2; clear hr2) | (go_at_call 26; refine (aFail b ao _ _ HR2.out.1).mono ?_; rintro e w3 ⟨rfl, rfl⟩))
      go_ret
      exact ⟨rfl, HR2.out⟩
    · rw [if_neg he]
      have t1 : (t.err != 0) = false := by simpa using he
      clear he
      obtain ⟨bs, er⟩ := t
      simp only at t1
      go_enter Try.func50, Try.ntmps50
      go_wp2_with (first | (go_at_call 69; refine (HP _).out.mono ?_; rintro e w1 ⟨rfl, rfl⟩) | (go_at_call 70; refine HF.out.mono ?_; rintro e w2 ⟨rfl, hr2⟩; have HR2 := Lib.hid hr2; clear hr2) | (go_at_call 26; refine (aFail b ao _ _ HR2.out.1).mono ?_; rintro e w3 ⟨rfl, rfl⟩) | (go_at_call 71; refine (HU _).out.mono ?_; rintro e w4 ⟨rfl, rfl⟩))
      go_ret
      exact ⟨rfl, HR2.out⟩

set_option maxHeartbeats 400000 in
theorem cTotal (ao : Option Addr) (cap : Nat) (l : List Int) (k : Nat) (w : World) (hl : l.length ≤ 100000) (hi : IntsAt w ao l) (hr : ∀ n ∈ l, InR n) (hk : k ≤ 24) :
    Calls Try.prog 40 #[.slice ao l.length cap, .int .i64 k] w fun e w' => e = .returned (.int .i64 (totalN l k)) ∧ Below w.heap.size w w' := by
  have HI := Lib.hid hi
  have HR := Lib.hid hr
  clear hi hr
  go_enter Try.func40, Try.ntmps40
  go_wp2
  go_loopg [5, 7, 10] l.length (fun gk s q i wr => ∃ c : Nat, c ≤ l.length ∧ gk + c = l.length ∧ i = .int .i64 c ∧ s = .int .i64 (totalN (l.take c) k) ∧ Hid (Below w.heap.size w wr))
  case atStart => exact ⟨0, Nat.zero_le _, by omega, rfl, rfl, Below.refl _ _⟩
  case round =>
    obtain ⟨c, hc, hgk, rfl, rfl, HB⟩ := hrel
    have HGK := Lib.hid hgk
    clear hgk
    have htl := totalN_le (l.take c) k hk
    rw [List.length_take] at htl
    obtain ⟨x, hx⟩ : ∃ x, x = totalN (l.take c) k := ⟨_, rfl⟩
    rw [← hx] at htl ⊢
    have HX := Lib.hid hx
    clear hx
    by_cases hlt : c < l.length
    · obtain ⟨g, off, rfl, hg, hcell⟩ := (HI.out.below HB.out) c hlt
      have hcl := costN_le l[c] k hk
      have hsn : totalN (l.take (c + 1)) k = totalN (l.take c) k + costN l[c] k := by rw [List.take_succ_eq_append_getElem hlt, totalN_snoc]
      have HL := fun W => Lib.hid (cCost_yes l[c] k W (HR.out _ (List.getElem_mem hlt)) hk)
      obtain ⟨n, hn⟩ : ∃ n, n = l[c] := ⟨_, rfl⟩
      obtain ⟨y, hy⟩ : ∃ y, y = costN n k := ⟨_, rfl⟩
      rw [← hn] at hcell
      rw [← hn, ← hy] at hcl HL hsn
      have HSN := Lib.hid hsn
      clear hsn hn hy
      go_wp2_with (go_at_call 68; refine (HL _).out.mono ?_; rintro e w1 ⟨rfl, hb1⟩; have HB1 := Lib.hid (HB.out.trans (hb1.mono HB.out.size)); clear hb1)
      go_roundg (gk - 1)
      case rel => exact ⟨c + 1, by omega, by have := HGK.out; omega, by go_num, by rw [HSN.out, ← HX.out]; go_num, HB1⟩
      case measure => have := HGK.out; omega
    · obtain rfl : c = l.length := by omega
      go_wp2
      go_ret
      exact ⟨by rw [show totalN l k = x by rw [HX.out, List.take_length]]; rfl, HB.out⟩
end Go.Proofs.Ytnpngahpadchpaa
