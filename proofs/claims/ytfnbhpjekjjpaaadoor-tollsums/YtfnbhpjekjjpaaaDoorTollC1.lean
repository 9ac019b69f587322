import Derived.Test.YtfnbhpjekjjpaaaDoorProg
import Derived.Test.YtfnbhpjekjjpaaaDoorTollM
import Derived.WalkKit
import Derived.WalkSpells
import Derived.WalkLawsBesides
import Derived.Lib.Hide
import Derived.Laws.BitsAllLaws
namespace Go.Proofs.YtfnbhpjekjjpaaaDoor
open Go.RowKit Go.Proofs Go.Proofs.TollM
set_option maxRecDepth 100000

/-- The table of sums of four bits stands where the variable is. -/
def Tab (w : World) : Prop := 0 < w.heap.size ∧ ∀ k, k < 16 → w.cell? ⟨0, k, none⟩ = some (.int .u32 ((tab.getD k 0 : Nat) : Int))

theorem Tab.below {w w' : World} (h : Tab w) (hb : Below w.heap.size w w') : Tab w' :=
  ⟨Nat.lt_of_lt_of_le h.1 hb.size, fun k hk => by rw [hb.cell (p := ⟨0, k, none⟩) h.1]; exact h.2 k hk⟩

theorem tab_lt (k : Nat) : tab.getD k 0 < 4294967296 := by
  by_cases h : k < 16
  · exact (by decide : ∀ k, k < 16 → tab.getD k 0 < 4294967296) k h
  · rw [List.getD_eq_getElem?_getD, List.getElem?_eq_none (by simp [tab]; omega)]; decide

theorem nat_u32_and (a b : Nat) (ha : a < 4294967296) (hb : b < 4294967296) : bits .and .u32 (a : Int) (b : Int) = ((a &&& b : Nat) : Int) := u32_and_nat a b ha hb

theorem and15 {r : Nat} (hr : r < 4294967296) : bits .and .u32 (r : Int) 15 = ((r % 16 : Nat) : Int) := by
  have := u32_and_nat r 15 hr (by decide)
  rw [nat_mask4] at this
  exact this
theorem and1 {r : Nat} (hr : r < 4294967296) : bits .and .u32 (r : Int) 1 = ((r % 2 : Nat) : Int) := by
  have := u32_and_nat r 1 hr (by decide)
  rw [nat_mask1] at this
  exact this

set_option maxHeartbeats 400000 in
theorem cFour (r : Nat) (w : World) (hr : r < 4294967296) (ht : Tab w) :
    Calls Tryd.prog 17 #[.int .u32 r] w fun e w' => e = .returned (.int .u32 ((Sn 4 r : Nat) : Int)) ∧ w' = w := by
  have hk16 : r % 16 < 16 := Nat.mod_lt _ (by decide)
  have hc := ht.2 (r % 16) hk16
  obtain ⟨t, hte⟩ : ∃ t, t = tab.getD (r % 16) 0 := ⟨_, rfl⟩
  have htl := tab_lt (r % 16)
  rw [← hte] at hc htl
  have hx := u32_xor_nat (r / 16) t (by omega) htl
  have HF := Lib.hid (four r)
  rw [← hte] at HF
  clear hte
  rw [HF.out] at hx
  have ha := and15 hr
  obtain ⟨k, hk⟩ : ∃ k, k = r % 16 := ⟨_, rfl⟩
  rw [← hk] at ha hk16 hc
  clear hk HF
  obtain ⟨q, hq⟩ : ∃ q, q = r / 16 := ⟨_, rfl⟩
  have hq2 : (r : Int) / 16 = (q : Int) := by omega
  rw [← hq] at hx
  clear hq
  generalize Sn 4 r = A at *
  go_enter Tryd.func17, Tryd.ntmps17
  go_wp2
  go_ret
  exact ⟨rfl, rfl⟩

theorem S_eq (r : Nat) : r / 2 ^^^ (if r % 2 = 1 then PL else 0) = S r := rfl

/-- What is picked by a bit. -/
theorem pickOf (a r : Nat) (ha : a < 4294967296) : bits .and .u32 (a : Int) (-((r % 2 : Nat) : Int) % 4294967296) = (((if r % 2 = 1 then a else 0) : Nat) : Int) := by
  rcases (by omega : r % 2 = 0 ∨ r % 2 = 1) with h | h
  · rw [h]
    have := u32_and_nat a 0 ha (by decide)
    simpa using this
  · rw [h]
    have := u32_and_nat a 4294967295 ha (by decide)
    rw [show (4294967295 : Nat) = 2 ^ 32 - 1 by decide, Nat.and_two_pow_sub_one_eq_mod, Nat.mod_eq_of_lt (by omega)] at this
    simpa using this

theorem pick_lt (a r : Nat) (ha : a < 4294967296) : (if r % 2 = 1 then a else 0) < 4294967296 := by split <;> omega

set_option maxHeartbeats 400000 in
theorem cOne (r : Nat) (w : World) (hr : r < 4294967296) :
    Calls Tryd.prog 20 #[.int .u32 r] w fun e w' => e = .returned (.int .u32 ((S r : Nat) : Int)) ∧ w' = w := by
  have hp := pickOf PL r (by decide)
  have hpl := pick_lt PL r (by decide)
  have hS := S_eq r
  have ha := and1 hr
  generalize (if r % 2 = 1 then PL else 0) = t at hp hpl hS
  have hx := u32_xor_nat (r / 2) t (by omega) hpl
  rw [hS] at hx
  obtain ⟨k, hk⟩ : ∃ k, k = r % 2 := ⟨_, rfl⟩
  rw [← hk] at ha hp
  clear hk hS
  obtain ⟨q, hq⟩ : ∃ q, q = r / 2 := ⟨_, rfl⟩
  have hq2 : (r : Int) / 2 = (q : Int) := by omega
  rw [← hq] at hx
  clear hq
  generalize S r = A at *
  have hp' : bits .and .u32 3988292384 (-(k : Int) % 4294967296) = (t : Int) := hp
  clear hp
  go_enter Tryd.func20, Tryd.ntmps20
  go_wp2
  go_ret
  exact ⟨rfl, rfl⟩

theorem S_lt' {a : Nat} (h : a < 4294967296) : S a < 4294967296 := S_lt h

set_option maxHeartbeats 400000 in
theorem cProduct (a b : Nat) (w : World) (ha : a < 4294967296) (hb : b < 4294967296) :
    Calls Tryd.prog 19 #[.int .u32 a, .int .u32 b] w fun e w' => e = .returned (.int .u32 ((mul a b : Nat) : Int)) ∧ w' = w := by
  go_enter Tryd.func19, Tryd.ntmps19
  go_wp2
  go_loopw [1, 5, 6] (fun c p i wr => ∃ k c' p' : Nat, k ≤ 32 ∧ i = .int .i64 k ∧ c = .int .u32 c' ∧ p = .int .u32 p' ∧ c' < 4294967296 ∧ p' < 4294967296 ∧ Hid (horner (32 - k) p' a c' = mul a b) ∧ wr = w)
    (fun _ _ i _ => 32 - (intOf i).toNat)
  case atStart => exact ⟨0, b, 0, by omega, rfl, rfl, rfl, hb, by omega, Lib.hid rfl, rfl⟩
  case round =>
    obtain ⟨k, c, p, hk, rfl, rfl, rfl, hc, hp, H, rfl⟩ := hrel
    by_cases hlt : k < 32
    · have hpick := pickOf a c ha
      have hpl := pick_lt a c ha
      have hand := and1 hc
      have hS := S_lt' hp
      have H2 : horner (32 - (k + 1)) (S p ^^^ (if c % 2 = 1 then a else 0)) a (c / 2) = mul a b := by
        have := H.out
        rw [show 32 - k = (32 - (k + 1)) + 1 by omega] at this
        exact this
      generalize (if c % 2 = 1 then a else 0) = t at hpick hpl H2
      have hx := u32_xor_nat (S p) t hS hpl
      have hxl : S p ^^^ t < 4294967296 := Nat.xor_lt_two_pow (n := 32) hS hpl
      obtain ⟨m, hm⟩ : ∃ m, m = c % 2 := ⟨_, rfl⟩
      rw [← hm] at hand hpick
      clear hm
      have H3 := Lib.hid H2
      clear H H2
      go_wp2_with (go_at_call 20; refine (cOne p _ hp).mono ?_; rintro e w1 ⟨rfl, rfl⟩)
      go_roundw
      case rel => exact ⟨k + 1, c / 2, S p ^^^ t, by omega, by go_num, by go_num, rfl, by omega, hxl, H3, trivial⟩
      case measure => simp [intOf]; omega
    · obtain rfl : k = 32 := by omega
      have he := H.out
      simp only [Nat.sub_self, horner] at he
      subst he
      go_wp2
      go_ret
      exact ⟨rfl, rfl⟩

theorem and1i (n : Nat) (h : n < 9223372036854775808) : bits .and .i64 (n : Int) 1 = ((n % 2 : Nat) : Int) := by
  show IntKind.i64.wrap ((BitVec.ofInt 64 (n : Int) &&& BitVec.ofInt 64 ((1 : Nat) : Int)).toNat : Int) = _
  rw [BitVec.toNat_and, ofInt_u64 n (by omega), ofInt_u64 1 (by omega), nat_mask1, IntKind.wrap_i64]
  omega

set_option maxHeartbeats 400000 in
theorem cBehind (r n : Nat) (w : World) (hr : r < 4294967296) (hn : n ≤ 1099511627776) :
    Calls Tryd.prog 16 #[.int .u32 r, .int .i64 n] w fun e w' => e = .returned (.int .u32 ((Sn (8 * n) r : Nat) : Int)) ∧ w' = w := by
  go_enter Tryd.func16, Tryd.ntmps16
  go_wp2
  go_loopw [0, 1, 5] (fun c i p wr => ∃ k m c' : Nat, m ≤ 1099511627776 ∧ i = .int .i64 m ∧ c = .int .u32 c' ∧ p = .int .u32 ((Sn (8 * k) (2 ^ 31) : Nat) : Int) ∧ c' < 4294967296 ∧ Hid (Sn (8 * k * m) c' = Sn (8 * n) r) ∧ wr = w)
    (fun _ i _ _ => (intOf i).toNat)
  case atStart => exact ⟨1, n, r, hn, rfl, rfl, rfl, hr, Lib.hid (by simp), rfl⟩
  case round =>
    obtain ⟨k, m, c, hm, rfl, rfl, rfl, hc, H, rfl⟩ := hrel
    have hq : Sn (8 * k) (2 ^ 31) < 4294967296 := Sn_lt _ (by decide)
    have hqq : mul (Sn (8 * k) (2 ^ 31)) (Sn (8 * k) (2 ^ 31)) = Sn (8 * (2 * k)) (2 ^ 31) := by
      rw [mul_Sn _ hq, ← Sn_add]; congr 1; omega
    have hqc : mul c (Sn (8 * k) (2 ^ 31)) = Sn (8 * k) c := mul_Sn _ hc
    have HQ := Lib.hid hqq
    have HC := Lib.hid hqc
    clear hqq hqc
    by_cases hpos : 0 < m
    · have hand := and1i m (by omega)
      rcases (by omega : m % 2 = 0 ∨ m % 2 = 1) with h2 | h2
      · rw [h2] at hand
        generalize hqe : Sn (8 * k) (2 ^ 31) = q at hq HQ HC
        have hqe' := Lib.hid hqe
        clear hqe
        go_wp2_with (go_at_call 19; refine (cProduct q q _ hq hq).mono ?_; rintro e w1 ⟨rfl, rfl⟩)
        go_roundw
        case rel => exact ⟨2 * k, m / 2, c, by omega, by go_num, rfl, by rw [HQ.out], hc, Lib.hid (by rw [← H.out]; congr 1; rw [show 8 * (2 * k) * (m / 2) = 8 * k * (2 * (m / 2)) by ac_rfl, show 2 * (m / 2) = m by omega]), trivial⟩
        case measure => simp [intOf]; omega
      · rw [h2] at hand
        generalize hqe : Sn (8 * k) (2 ^ 31) = q at hq HQ HC
        have hqe' := Lib.hid hqe
        clear hqe
        go_wp2_with fail
        refine (cProduct c q _ hc hq).mono ?_
        rintro e w1 ⟨rfl, rfl⟩
        rw [HC.out]
        have hc2 : Sn (8 * k) c < 4294967296 := Sn_lt _ hc
        have HC2 := Lib.hid (show Sn (8 * k) c = Sn (8 * k) c from rfl)
        generalize hce : Sn (8 * k) c = c2 at hc2
        have hce' := Lib.hid hce
        clear hce HC2
        go_wp2_with (go_at_call 19; refine (cProduct q q _ hq hq).mono ?_; rintro e w1 ⟨rfl, rfl⟩)
        go_roundw
        case rel => exact ⟨2 * k, m / 2, c2, by omega, by go_num, rfl, by rw [HQ.out], hc2, Lib.hid (by rw [← H.out, ← hce'.out, ← Sn_add]; congr 1; rw [show 8 * (2 * k) * (m / 2) = 8 * k * (2 * (m / 2)) by ac_rfl, show 8 * k + 8 * k * (2 * (m / 2)) = 8 * k * (2 * (m / 2) + 1) by rw [Nat.mul_add]; omega, show 2 * (m / 2) + 1 = m by omega]), trivial⟩
        case measure => simp [intOf]; omega
    · obtain rfl : m = 0 := by omega
      have he := H.out
      simp only [Nat.mul_zero, Sn] at he
      subst he
      go_wp2
      go_ret
      exact ⟨rfl, rfl⟩
/-- The cells of a slice of bytes. -/
def BytesAt (w : World) (ao : Option Addr) (zs : List Nat) : Prop :=
  ∀ j, j < zs.length → ∃ b off, ao = some ⟨b, off, none⟩ ∧ b < w.heap.size ∧ w.cell? ⟨b, off + j, none⟩ = some (.int .u8 ((zs.getD j 0 : Nat) : Int))

theorem getD_lt {zs : List Nat} (h : ∀ z ∈ zs, z < 256) (k : Nat) : zs.getD k 0 < 256 := by
  rw [List.getD_eq_getElem?_getD]
  rcases Nat.lt_or_ge k zs.length with hk | hk
  · rw [List.getElem?_eq_getElem hk]; exact h _ (List.getElem_mem hk)
  · rw [List.getElem?_eq_none hk]; decide

theorem reg_take (s : Nat) (zs : List Nat) (k : Nat) (h : k < zs.length) : reg s (zs.take (k + 1)) = Sn 8 (reg s (zs.take k) ^^^ zs.getD k 0) := by
  rw [List.take_succ_eq_append_getElem h, reg_append]
  simp [reg, List.getD, List.getElem?_eq_getElem h]

theorem reg_take_lt {s : Nat} {zs : List Nat} (hs : s < 4294967296) (hz : ∀ z ∈ zs, z < 256) (k : Nat) : reg s (zs.take k) < 4294967296 :=
  reg_lt _ hs fun c hc => hz c (List.mem_of_mem_take hc)

theorem notOf {s : Nat} (hs : s < 4294967296) : bits .xor .u32 IntKind.u32.max (s : Int) = ((4294967295 - s : Nat) : Int) := by
  have := u32_xor_nat 4294967295 s (by decide) hs
  rw [not_eq hs] at this
  exact this

set_option maxHeartbeats 400000 in
theorem cGoOn (s : Nat) (ao : Option Addr) (cap : Nat) (zs : List Nat) (w : World) (hs : s < 4294967296) (hl : zs.length ≤ 100000) (hz : ∀ z ∈ zs, z < 256) (hc : BytesAt w ao zs) (ht : Tab w) :
    Calls Tryd.prog 14 #[.int .u32 s, .slice ao zs.length cap] w fun e w' => e = .returned (.int .u32 ((4294967295 - reg (4294967295 - s) zs : Nat) : Int)) ∧ w' = w := by
  have HZ := Lib.hid hz
  have HC := Lib.hid hc
  clear hz hc
  obtain ⟨s', hs'⟩ : ∃ s', s' = 4294967295 - s := ⟨_, rfl⟩
  rw [← hs']
  have hn : bits .xor .u32 IntKind.u32.max (s : Int) = (s' : Int) := by rw [hs']; exact notOf hs
  have hsl : s' < 4294967296 := by omega
  clear hs'
  go_enter Tryd.func14, Tryd.ntmps14
  go_wp2_with fail
  go_loopw [5, 7, 12] (fun p _ i wr => ∃ k : Nat, k ≤ zs.length ∧ i = .int .i64 k ∧ p = .int .u32 ((reg s' (zs.take k) : Nat) : Int) ∧ wr = w)
    (fun _ _ i _ => zs.length - (intOf i).toNat)
  case atStart => exact ⟨0, Nat.zero_le _, rfl, rfl, rfl⟩
  case round =>
    obtain ⟨k, hk, rfl, rfl, rfl⟩ := hrel
    by_cases hlt : k < zs.length
    · obtain ⟨b, off, rfl, h1, h2⟩ := HC.out k hlt
      have hz1 := getD_lt HZ.out k
      obtain ⟨z, hz2⟩ : ∃ z, z = zs.getD k 0 := ⟨_, rfl⟩
      have hst := reg_take s' zs k hlt
      have hpl := reg_take_lt hsl HZ.out k
      rw [← hz2] at h2 hz1 hst
      have HS := Lib.hid hst
      clear hst hz2
      generalize hpe : reg s' (zs.take k) = p at hpl HS
      clear hpe
      have hx := u32_xor_nat p z hpl (by omega)
      have hxl : p ^^^ z < 4294967296 := Nat.xor_lt_two_pow (n := 32) hpl (by omega)
      have hyl : Sn 4 (p ^^^ z) < 4294967296 := Sn_lt 4 hxl
      have HY : Hid (Sn 4 (Sn 4 (p ^^^ z)) = reg s' (zs.take (k + 1))) := Lib.hid (by rw [HS.out, ← Sn_add])
      clear HS
      generalize p ^^^ z = x at *
      generalize hye : Sn 4 x = y at hyl HY
      have HYE := Lib.hid hye
      clear hye
      go_wp2_with fail
      refine (cFour x _ hxl ht).mono ?_
      rintro e w1 ⟨rfl, rfl⟩
      rw [HYE.out]
      go_wp2_with fail
      refine (cFour y _ hyl ht).mono ?_
      rintro e w1 ⟨rfl, rfl⟩
      rw [HY.out]
      go_wp2
      go_roundw
      case rel => exact ⟨k + 1, by omega, by go_num, rfl, trivial⟩
      case measure => simp [intOf]; omega
    · obtain rfl : k = zs.length := by omega
      rw [List.take_length]
      have hpl := reg_lt zs hsl HZ.out
      have hn2 := notOf hpl
      generalize hpe : reg s' zs = p at *
      have HP := Lib.hid hpe
      clear hpe
      go_wp2
      go_ret
      exact ⟨by rw [HP.out]; rfl, rfl⟩
theorem reg_sum {zs : List Nat} (hz : ∀ z ∈ zs, z < 256) : 4294967295 - reg 4294967295 zs = sum zs := (not_eq (reg_lt zs (by decide) hz)).symm

set_option maxHeartbeats 400000 in
theorem cSum (ao : Option Addr) (cap : Nat) (zs : List Nat) (w : World) (hl : zs.length ≤ 100000) (hz : ∀ z ∈ zs, z < 256) (hc : BytesAt w ao zs) (ht : Tab w) :
    Calls Tryd.prog 7 #[.slice ao zs.length cap] w fun e w' => e = .returned (.int .u32 ((sum zs : Nat) : Int)) ∧ w' = w := by
  have hg := cGoOn 0 ao cap zs w (by decide) hl hz hc ht
  rw [show 4294967295 - 0 = 4294967295 from rfl, reg_sum hz] at hg
  have HG := Lib.hid hg
  clear hg hz hc
  go_enter Tryd.func7, Tryd.ntmps7
  go_wp2_with (go_at_call 14; refine HG.out.mono ?_; rintro e w1 ⟨rfl, rfl⟩)
  go_ret
  exact ⟨rfl, rfl⟩

set_option maxHeartbeats 400000 in
theorem cJoin (a b n : Nat) (w : World) (ha : a < 4294967296) (hb : b < 4294967296) (hn : n ≤ 1099511627776) :
    Calls Tryd.prog 13 #[.int .u32 a, .int .u32 b, .int .i64 n] w fun e w' => e = .returned (.int .u32 ((Sn (8 * n) a ^^^ b : Nat) : Int)) ∧ w' = w := by
  have hc := cBehind a n w ha hn
  have hl : Sn (8 * n) a < 4294967296 := Sn_lt _ ha
  have hx := u32_xor_nat (Sn (8 * n) a) b hl hb
  have HC := Lib.hid hc
  clear hc
  go_enter Tryd.func13, Tryd.ntmps13
  go_wp2_with (go_at_call 16; refine HC.out.mono ?_; rintro e w1 ⟨rfl, rfl⟩)
  go_ret
  exact ⟨rfl, rfl⟩

theorem zeros_sum (n : Nat) : 4294967295 - Sn (8 * n) 4294967295 = sum (List.replicate n 0) := by
  unfold sum
  rw [reg_zeros, not_eq (Sn_lt _ (by decide))]

set_option maxHeartbeats 400000 in
theorem cZeros (n : Nat) (w : World) (hn : n ≤ 1099511627776) :
    Calls Tryd.prog 9 #[.int .i64 n] w fun e w' => e = .returned (.int .u32 ((sum (List.replicate n 0) : Nat) : Int)) ∧ w' = w := by
  have hc := cBehind 4294967295 n w (by decide) hn
  have hl : Sn (8 * n) 4294967295 < 4294967296 := Sn_lt _ (by decide)
  have hx := notOf hl
  rw [zeros_sum] at hx
  have HC := Lib.hid hc
  clear hc
  go_enter Tryd.func9, Tryd.ntmps9
  go_wp2_with (go_at_call 16; refine HC.out.mono ?_; rintro e w1 ⟨rfl, rfl⟩)
  go_ret
  exact ⟨rfl, rfl⟩
end Go.Proofs.YtfnbhpjekjjpaaaDoor
