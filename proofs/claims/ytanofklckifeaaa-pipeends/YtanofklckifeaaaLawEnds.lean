import Derived.Test.YtanofklckifeaaaAwake
import Derived.Test.YtanofklckifeaaaReader
namespace Go.Proofs.Ytanofklckifeaaa
open Go.RowKit Go.Proofs Go.Proofs.PipeM Go.Proofs.PipeA

def wantOf (l : List Bool) : Int := if num l = 0 then 0 else 5

theorem wantOf_snoc (l : List Bool) (b : Bool) : wantOf (l ++ [b]) = if b then 5 else wantOf l := by
  unfold wantOf
  rw [num_snoc]
  cases b
  · by_cases h : num l = 0
    · simp [h]
    · rw [if_neg h, if_neg (by simp; omega)]; rfl
  · simp

theorem wantOf_01 (l : List Bool) : wantOf l = 0 ∨ wantOf l = 5 := by unfold wantOf; split <;> simp

theorem bitsAt_all (zs : List Nat) (k : Nat) : bitsAt zs k (8 * zs.length - k) = (bitsOf zs).drop k := by
  unfold bitsAt
  rw [List.take_of_length_le]
  simp [bitsOf_length]

set_option maxHeartbeats 1000000 in
theorem ends_small (ao : Option Addr) (cap : Nat) (zs : List Nat) (n : Nat) (w : World) (hn : n ≤ 65535) (hl : zs.length ≤ 100) (hz : ∀ z ∈ zs, z < 256) (hd : BytesAt w ao zs) :
    Calls Try.prog 6 #[.slice ao zs.length cap, .int .u16 n] w fun e w' => e = .returned (.bool true) ∧ Below w.heap.size w w' := by
  have HD := Lib.hid hd
  have HZ := Lib.hid hz
  clear hd hz
  go_enter Try.func6, Try.ntmps6
  go_wp2_with fail
  refine (awake w).mono ?_
  rintro e w1 ⟨rfl, hb1⟩
  have HB1 := Lib.hid hb1
  clear hb1
  have t1 : decide ((100 : Int) < (zs.length : Int)) = false := decide_eq_false (by omega)
  go_wp2_with fail
  refine (rOpen ao cap zs w1 (HD.out.below HB1.out) HZ.out (by omega)).mono ?_
  rintro e w2 ⟨rfl, hr2, hb2⟩
  have HR2 := Lib.hid hr2
  have HB2 := Lib.hid hb2
  clear hr2 hb2
  obtain ⟨B, hB⟩ : ∃ B, B = w1.heap.size := ⟨_, rfl⟩
  rw [← hB] at HR2 ⊢
  have HBB : Hid (w.heap.size ≤ B) := by have := HB1.out.size; show _ ≤ _; omega
  clear hB
  go_wp2_with fail
  refine (refBits ao cap zs w2 (by omega) HZ.out HR2.out.data).mono ?_
  rintro e w3 ⟨rfl, hb3⟩
  have HR3 : Hid (RdIs w3 B ao cap zs 0 0) := HR2.out.keeps (keeps_of_below hb3 []) (by simp) (by simp)
  have HB3 : Hid (Below w.heap.size w w3) := (HB1.out.trans (HB2.out.mono HB1.out.size)).trans (hb3.mono (by have := HB1.out.size; have := HB2.out.size; omega))
  clear hb3
  have hsz : (str (bitsOf zs)).size = 8 * zs.length := by rw [str_size, bitsOf_length]
  obtain ⟨s, hs⟩ : ∃ s, s = str (bitsOf zs) := ⟨_, rfl⟩
  rw [← hs] at hsz ⊢
  have HS := Lib.hid hs
  have hs1 : s.size ≤ 8 * zs.length := by omega
  have hs2 : 8 * zs.length ≤ s.size := by omega
  clear hs hsz HR2 HB2 HB1
  go_wp2
  obtain ⟨k, hk⟩ : ∃ k : Nat, ((n : Int) % ((s.size : Int) + 1)) = (k : Int) ∧ k ≤ s.size := ⟨n % (s.size + 1), by rw [Int.natCast_emod]; rfl, by have := Nat.mod_lt n (show 0 < s.size + 1 by omega); omega⟩
  obtain ⟨hk, hks⟩ := hk
  rw [hk]
  clear hk
  go_loopg [32] k (fun gk i wr => ∃ j : Nat, j ≤ k ∧ gk + j = k ∧ i = .int .i64 j ∧ Hid (RdIs wr B ao cap zs j 0) ∧ Hid (Below w.heap.size w wr))
  case atStart => exact ⟨0, Nat.zero_le _, by omega, rfl, HR3, HB3⟩
  case round =>
    obtain ⟨j, hj, hgk, rfl, HR, HB⟩ := hrel
    have HGK := Lib.hid hgk
    clear hgk HR3 HB3
    by_cases hlt : j < k
    · go_wp2_with fail
      refine (rTake B ao cap zs j 1 0 wr HR.out (by omega) (by omega)).mono ?_
      rintro e w4 ⟨rfl, ht⟩
      have HT := Lib.hid ht
      clear ht
      go_wp2
      go_roundg (gk - 1)
      case rel => exact ⟨j + 1, by omega, by have := HGK.out; omega, by go_num, HT.out.1, HB.out.trans (HT.out.2.below (B := w.heap.size) HB.out.size (by intro x hx; simp at hx; have := HBB.out; omega))⟩
      case measure => have := HGK.out; omega
    · obtain rfl : j = k := by omega
      obtain ⟨R, hR⟩ : ∃ R, R = (bitsOf zs).drop j := ⟨_, rfl⟩
      have hRl : R.length = s.size - j := by rw [hR]; simp [bitsOf_length]; omega
      have hx : s.extract j s.size = str R := by
        rw [HS.out, str_extract, str_size, hR, List.take_of_length_le]
        simp
      obtain ⟨t, ht⟩ : ∃ t, t = s.extract j s.size := ⟨_, rfl⟩
      have ht2 : t = str R := ht.trans hx
      have HT := Lib.hid ht
      have HT2 := Lib.hid ht2
      have HRR := Lib.hid hR
      have htz : t.size = R.length := by rw [ht2, str_size]
      have hz1 : t.size ≤ R.length := by omega
      have hz2 : R.length ≤ t.size := by omega
      have hr1 : s.size - j ≤ R.length := by omega
      have hr2 : R.length ≤ s.size - j := by omega
      have hr3 : R.length ≤ 800 := by omega
      have HRL := Lib.hid hRl
      clear hR hx ht ht2 htz hRl
      go_wp2
      rw [← HT.out, ← HRL.out]
      go_loopg [9, 10, 42] R.length (fun gk wv q i wr2 => ∃ c : Nat, c ≤ R.length ∧ gk + c = R.length ∧ i = .int .i64 c ∧ wv = .int .i64 (wantOf (R.take c)) ∧ wr2 = wr)
      case atStart => exact ⟨0, Nat.zero_le _, by omega, rfl, rfl, rfl⟩
      case round =>
        obtain ⟨c, hc, hgk, rfl, rfl, rfl⟩ := hrel
        have HGK2 := Lib.hid hgk
        clear hgk
        by_cases hlt2 : c < R.length
        · have hct : c < t.size := by omega
          have hgc : Hid (t[c] = chr R[c]) := by have := HT2.out; subst this; exact str_get R c hlt2 hct
          have hsn : wantOf (R.take (c + 1)) = if R[c] then 5 else wantOf (R.take c) := by
            rw [List.take_succ_eq_append_getElem hlt2, wantOf_snoc]
          have HSN := Lib.hid hsn
          clear hsn
          obtain ⟨x, hxx⟩ : ∃ x, x = wantOf (R.take c) := ⟨_, rfl⟩
          rw [← hxx]
          have HXX := Lib.hid hxx
          clear hxx
          cases hbit : R[c]
          · have ht : ((t[c].toNat : Int) == 49) = false := by rw [hgc.out, hbit]; rfl
            have HBIT := Lib.hid hbit
            clear hbit
            go_wp2
            go_roundg (gk - 1)
            case rel => exact ⟨c + 1, by omega, by have := HGK2.out; omega, by go_num, by rw [HSN.out, HBIT.out, ← HXX.out]; rfl, rfl⟩
            case measure => have := HGK2.out; omega
          · have ht : ((t[c].toNat : Int) == 49) = true := by rw [hgc.out, hbit]; rfl
            have HBIT := Lib.hid hbit
            clear hbit
            go_wp2
            go_roundg (gk - 1)
            case rel => exact ⟨c + 1, by omega, by have := HGK2.out; omega, by go_num, by rw [HSN.out, HBIT.out]; rfl, rfl⟩
            case measure => have := HGK2.out; omega
        · obtain rfl : c = R.length := by omega
          obtain ⟨x, hxx⟩ : ∃ x, x = wantOf (R.take R.length) := ⟨_, rfl⟩
          rw [← hxx]
          have HXX := Lib.hid hxx
          have HLEN : Hid (8 * zs.length - j = R.length) := by show _ = _; omega
          clear hxx
          by_cases h8 : 8 ≤ R.length
          all_goals
            have h8i : (8 : Int) ≤ (t.size : Int) ∨ (t.size : Int) < 8 := by omega
            go_wp2_with fail
            refine (rEnd B ao cap zs j wr HR.out).mono ?_
            rintro e w5 ⟨rfl, hk5⟩
            have HR5 : Hid (RdIs w5 B ao cap zs j 0) := HR.out.keeps hk5 (by simp) (by simp)
            have HB5 : Hid (Below w.heap.size w w5) := HB.out.trans (hk5.below HB.out.size (by simp))
            clear hk5 HR HB
            first
              | (have he : endOf zs j = 4 := by unfold endOf; rw [if_pos (by have := HLEN.out; omega)])
              | (have he : endOf zs j = x := by unfold endOf; rw [if_neg (by have := HLEN.out; omega), HXX.out, List.take_length, wantOf, endFew, bitsAt_all, ← HRR.out])
            rw [he]
            clear he
            go_wp2_with fail
            refine (rLeft B ao cap zs j 0 w5 HR5.out).mono ?_
            rintro e w6 ⟨rfl, hm⟩
            have HR6 : Hid (RdIs w6 B ao cap zs j 0) := by obtain ⟨m, rfl⟩ := hm; exact HR5.out.drewN m
            have HB6 : Hid (Below w.heap.size w w6) := by obtain ⟨m, rfl⟩ := hm; exact HB5.out.trans ((keeps_drewN w5 m []).below HB5.out.size (by simp))
            clear hm HR5 HB5
            have heq : (((8 * zs.length - j : Nat) : Int) == (t.size : Int)) = true := by rw [beq_iff_eq]; have := HLEN.out; omega
            obtain ⟨y, hy⟩ : ∃ y : Int, y = ((8 * zs.length - j : Nat) : Int) := ⟨_, rfl⟩
            rw [← hy] at heq ⊢
            clear hy
            go_wp2_with fail
            refine (rFail B ao cap zs j 0 w6 HR6.out).mono ?_
            rintro e w7 ⟨rfl, rfl⟩
            go_wp2
            go_ret
            exact ⟨rfl, HB6.out⟩

set_option maxHeartbeats 1000000 in
theorem ends_big (ao : Option Addr) (cap len : Nat) (n : Nat) (w : World) (hl : 100 < len) :
    Calls Try.prog 6 #[.slice ao len cap, .int .u16 n] w fun e w' => e = .returned (.bool true) ∧ Below w.heap.size w w' := by
  have t1 : decide ((100 : Int) < (len : Int)) = true := decide_eq_true (by omega)
  go_enter Try.func6, Try.ntmps6
  go_wp2_with fail
  refine (awake w).mono ?_
  rintro e w1 ⟨rfl, hb1⟩
  have HB1 := Lib.hid hb1
  clear hb1
  go_wp2_with fail
  refine (awake w1).mono ?_
  rintro e w2 ⟨rfl, hb2⟩
  have HB2 := Lib.hid hb2
  clear hb2
  go_wp2
  go_ret
  exact ⟨rfl, HB1.out.trans (HB2.out.mono HB1.out.size)⟩
end Go.Proofs.Ytanofklckifeaaa
