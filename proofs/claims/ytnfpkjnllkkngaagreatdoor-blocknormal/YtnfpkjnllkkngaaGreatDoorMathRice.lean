import Derived.Test.YtnfpkjnllkkngaaGreatDoorWriter
import Derived.Deep.LoopGhost
import Derived.Laws.CopyOwn
import Derived.Lib.Strings
import Derived.Test.YtnfpkjnllkkngaaGreatDoorAppend

section
namespace Go.Proofs.YtnfpkjnllkkngaaGreatDoor
open Go.RowKit Go.Proofs Go.Proofs.PipeM Go.Proofs.PipeA

theorem low_take (v n j : Nat) (h : j < n) : (low v n).take (j + 1) = (low v n).take j ++ [v.testBit (n - 1 - j)] := by
  have hl : j < (low v n).length := by rw [low_length]; exact h
  rw [List.take_succ_eq_append_getElem hl]
  have := low_get v n j h
  rw [List.getElem?_eq_getElem hl] at this
  simp at this
  rw [this]

theorem bit_arg (x k : Nat) (hx : x < 18446744073709551616) : bits BinOp.and IntKind.u64 ((x : Int) / 2 ^ min k 64) 1 % 256 = (((x.testBit k).toNat : Nat) : Int) := by
  have e1 : ((x : Int) / 2 ^ min k 64) = ((x / 2 ^ min k 64 : Nat) : Int) := by
    rw [Int.natCast_ediv, Int.natCast_pow]; rfl
  have h1 : x / 2 ^ min k 64 ≤ x := Nat.div_le_self _ _
  rw [e1]
  have e2 : x / 2 ^ min k 64 = x / 2 ^ k := by
    by_cases h : k ≤ 64
    · rw [Nat.min_eq_left h]
    · have a1 : min k 64 = 64 := by omega
      have a2 : x < 2 ^ k := Nat.lt_of_lt_of_le hx (Nat.pow_le_pow_right (by decide) (show 64 ≤ k by omega) : 2 ^ 64 ≤ 2 ^ k)
      rw [a1, Nat.div_eq_of_lt hx, Nat.div_eq_of_lt a2]
  rw [e2] at h1 ⊢
  obtain ⟨y, hy⟩ : ∃ y, y = x / 2 ^ k := ⟨_, rfl⟩
  rw [Nat.toNat_testBit, ← hy]
  rw [← hy] at h1
  rw [and_one_u64 _ (by omega) (by omega)]
  omega

set_option maxHeartbeats 800000 in
theorem wEach (b : Nat) (v : Value) (l : List Bool) (zs : List Nat) (x n : Nat) (w : World) (hx : x < 18446744073709551616) (hn : n ≤ 2000) (hl : l.length ≤ 100000) (h : WrIs w b v l zs) :
    Calls Tryz.prog 60 #[.int .u64 x, .int .i64 n, .func (.func 61) #[.pointer (some ⟨b, 0, none⟩)] #[]] w (Pushed w b v (l ++ low x n)) := by
  have H := Lib.hid h
  clear h
  go_enter Tryz.func60, Tryz.ntmps60
  go_wp2
  go_loopw [6] (fun k wr => ∃ j : Nat, j ≤ n ∧ k = .int .i64 ((n : Int) - 1 - j) ∧ Hid (Wrote w b v (l ++ (low x n).take j) wr))
    (fun k _ => (intOf k + 1).toNat)
  case atStart => exact ⟨0, Nat.zero_le _, by simp, by have := Wrote.refl H.out; simpa [Hid] using this⟩
  case round =>
    obtain ⟨j, hj, rfl, HW⟩ := hrel
    by_cases hlt : j < n
    · obtain ⟨v1, zs1, hw1, hk1, ho1⟩ := HW.out
      have hlen : (l ++ (low x n).take j).length ≤ 1000000 := by simp [low_length]; omega
      have HP := Lib.hid (wPush b v1 (l ++ (low x n).take j) zs1 (x.testBit (n - 1 - j)) wr hlen hw1)
      have HK := Lib.hid hk1
      have HO := Lib.hid ho1
      clear hw1 hk1 ho1 hlen HW
      have hd : (j : Int) ≤ (n : Int) - 1 := by omega
      go_wp2_with fail
      rw [bit_arg x (n - 1 - j) hx]
      refine HP.out.mono ?_
      rintro e w2 ⟨rfl, hw2⟩
      have HW2 := Lib.hid hw2
      clear hw2
      go_wp2
      go_roundw
      case rel =>
        refine ⟨j + 1, by omega, by go_num, ?_⟩
        have := Wrote.next HK.out HO.out HW2.out
        rw [List.append_assoc, ← low_take _ _ _ hlt] at this
        exact this
      case measure => simp [intOf]; omega
    · obtain rfl : j = n := by omega
      have hw := HW.out
      rw [List.take_of_length_le (by rw [low_length]; exact Nat.le_refl _)] at hw
      have HW2 := Lib.hid hw
      clear hw HW
      have hd : ¬ ((j : Int) ≤ (j : Int) - 1) := by omega
      go_wp2
      go_end0
      exact ⟨rfl, HW2.out⟩

/-- What a call that writes bits, or doesn't, answers. -/
def Puts (w : World) (b : Nat) (v : Value) (ok : Bool) (l : List Bool) (e : Ending) (w' : World) : Prop :=
  e = .returned (.bool ok) ∧ Wrote w b v l w'

set_option maxHeartbeats 800000 in
theorem wPut_yes (b : Nat) (v : Value) (l : List Bool) (zs : List Nat) (x n : Nat) (w : World) (hn : n ≤ 48) (hx : x < 2 ^ n) (hl : l.length ≤ 100000) (h : WrIs w b v l zs) :
    Calls Tryz.prog 35 #[.pointer (some ⟨b, 0, none⟩), .int .u64 x, .int .i64 n] w (Puts w b v true (l ++ low x n)) := by
  have hx48 : x < 2 ^ 48 := Nat.lt_of_lt_of_le hx (Nat.pow_le_pow_right (by decide) hn)
  have hdiv : (((x : Int) / 2 ^ n) != 0) = false := by
    have e1 : ((x : Int) / 2 ^ n) = ((x / 2 ^ n : Nat) : Int) := by rw [Int.natCast_ediv, Int.natCast_pow]; rfl
    rw [e1, Nat.div_eq_of_lt hx]; rfl
  have HP := Lib.hid (wEach b v l zs x n w (by omega) (by omega) hl h)
  have t1 : decide ((n : Int) < 0) = false := decide_eq_false (by omega)
  have t2 : decide ((48 : Int) < (n : Int)) = false := decide_eq_false (by omega)
  clear hx hx48 h
  go_enter Tryz.func35, Tryz.ntmps35
  go_wp2_with (go_at_call 60; refine HP.out.mono ?_; rintro e w2 ⟨rfl, hw2⟩)
  go_ret
  exact ⟨rfl, hw2⟩

theorem wrap_u64 (x : Int) : IntKind.u64.wrap x = ((x % 18446744073709551616).toNat : Int) := by
  have : IntKind.u64.wrap x = x % 18446744073709551616 := by simp [IntKind.wrap, IntKind.bits, IntKind.signed]
  rw [this]; omega

theorem low_wrap (x : Int) (n : Nat) (hn : n ≤ 64) : low (x % 18446744073709551616).toNat n = low (x % 2 ^ n).toNat n := by
  have h64 : (18446744073709551616 : Int) = 2 ^ 64 := rfl
  rw [← low_mod (x % 18446744073709551616).toNat, ← low_mod (x % 2 ^ n).toNat]
  congr 1
  have hp : (0 : Int) < 2 ^ n := by
    have := Nat.two_pow_pos n
    have e : ((2 ^ n : Nat) : Int) = 2 ^ n := by rw [Int.natCast_pow]; rfl
    omega
  have e : ((2 ^ n : Nat) : Int) = (2 : Int) ^ n := by rw [Int.natCast_pow]; rfl
  have hd : ((2 : Int) ^ n) ∣ 18446744073709551616 := by
    rw [h64, show (64 : Nat) = n + (64 - n) by omega, Int.pow_add]
    exact Int.dvd_mul_right _ _
  have h1 : ((x % 18446744073709551616) % 2 ^ n) = x % 2 ^ n := Int.emod_emod_of_dvd _ hd
  have h2 : 0 ≤ x % 18446744073709551616 := Int.emod_nonneg _ (by decide)
  have h3 : 0 ≤ x % 2 ^ n := Int.emod_nonneg _ (by omega)
  apply Int.ofNat.inj
  show (((x % 18446744073709551616).toNat % 2 ^ n : Nat) : Int) = (((x % 2 ^ n).toNat % 2 ^ n : Nat) : Int)
  rw [Int.natCast_emod, Int.natCast_emod, e, Int.toNat_of_nonneg h2, Int.toNat_of_nonneg h3, h1, Int.emod_emod]

theorem half_bound (n : Nat) (hn : n ≤ 48) : (1 : Int) ≤ 2 ^ (n - 1) ∧ (2 : Int) ^ (n - 1) ≤ 281474976710656 := by
  have h1 := Nat.two_pow_pos (n - 1)
  have h2 : 2 ^ (n - 1) ≤ 2 ^ 48 := Nat.pow_le_pow_right (by decide) (by omega)
  have e : ((2 ^ (n - 1) : Nat) : Int) = (2 : Int) ^ (n - 1) := by rw [Int.natCast_pow]; rfl
  omega

set_option maxHeartbeats 800000 in
theorem wSigned_yes (b : Nat) (v : Value) (l : List Bool) (zs : List Nat) (x : Int) (n : Nat) (w : World) (hn0 : 1 ≤ n) (hn : n ≤ 48) (hx0 : -(2 ^ (n - 1)) ≤ x) (hx : x < 2 ^ (n - 1)) (hl : l.length ≤ 100000) (h : WrIs w b v l zs) :
    Calls Tryz.prog 36 #[.pointer (some ⟨b, 0, none⟩), .int .i64 x, .int .i64 n] w (Puts w b v true (l ++ low ((x % 2 ^ n).toNat) n)) := by
  obtain ⟨hb1, hb2⟩ := half_bound n hn
  have HP := Lib.hid (wEach b v l zs (x % 18446744073709551616).toNat n w (by omega) (by omega) hl h)
  have HL := Lib.hid (low_wrap x n (by omega))
  obtain ⟨hf, hhf⟩ : ∃ hf, hf = (2 : Int) ^ (n - 1) := ⟨_, rfl⟩
  rw [← hhf] at hb1 hb2 hx0 hx
  have hw : wrap64 (2 ^ (n - 1)) = hf := by rw [← hhf]; exact IntWalk.wrap64_in _ ⟨by omega, by omega⟩
  have t1 : decide ((n : Int) < 1) = false := decide_eq_false (by omega)
  have t2 : decide ((48 : Int) < (n : Int)) = false := decide_eq_false (by omega)
  have t3 : decide (x < -hf) = false := decide_eq_false (by omega)
  have t4 : decide (hf ≤ x) = false := decide_eq_false (by omega)
  have HWR := Lib.hid (wrap_u64 x)
  clear h hhf
  go_enter Tryz.func36, Tryz.ntmps36
  go_wp2_with fail
  rw [HWR.out]
  refine HP.out.mono ?_
  rintro e w2 ⟨rfl, hw2⟩
  rw [HL.out] at hw2
  go_wp2
  go_ret
  exact ⟨rfl, hw2⟩

end Go.Proofs.YtnfpkjnllkkngaaGreatDoor
end

section
namespace Go.Proofs.YtnfpkjnllkkngaaGreatDoor
open Go.RowKit Go.Proofs Go.Proofs.PipeM Go.Proofs.PipeA

theorem own_shape {w : World} {base n : Nat} {e : TypeId} {xs : List Value} {v : Value} (h : w.ownsRow base e 1 v n xs) :
    ∃ ao cap, v = .slice ao n cap ∧ cap ≤ maxLen ∧ n ≤ cap ∧ (0 < n → ∃ g, ao = some ⟨g, 0, none⟩ ∧ g < w.heap.size ∧ ∀ j u, xs[j]? = some u → w.cell? ⟨g, j, none⟩ = some u) := by
  rcases h.2 with ⟨rfl, rfl⟩ | ⟨g, cap, cur, rfl, hb, hg, h1, h2, h3, h4⟩
  · exact ⟨none, 0, rfl, by unfold maxLen; omega, Nat.le_refl _, fun h => by omega⟩
  · refine ⟨some ⟨g, 0, none⟩, cap, rfl, h2, h1, fun _ => ⟨g, rfl, ?_, ?_⟩⟩
    · rcases Nat.lt_or_ge g w.heap.size with h5 | h5
      · exact h5
      · rw [Array.getElem?_eq_none h5] at hg; cases hg
    · intro j u hu
      have hj : j < xs.length := (List.getElem?_eq_some_iff.1 hu).1
      rw [h.cellAt j (by have := h.1; omega), hu]

theorem size_u8 : (Tryz.prog.info? 5).map (·.size) = some 1 := by kernel_rfl

theorem cellsOf_one (zs : List Nat) : ∀ u ∈ cellsOf zs, u.oneCell' = true := by
  intro u hu
  simp [cellsOf] at hu
  obtain ⟨z, _, rfl⟩ := hu
  rfl

theorem splice_all {α : Type} (L cs : List α) (h : L.length = cs.length) : splice L 0 cs = cs := by
  simp [splice, ← h]

set_option maxHeartbeats 800000 in
theorem wBytes (b : Nat) (v : Value) (l : List Bool) (zs : List Nat) (w : World) (hl : l.length ≤ 1000000) (h : WrIs w b v l zs) :
    Calls Tryz.prog 12 #[.pointer (some ⟨b, 0, none⟩)] w fun e w' => ∃ g, e = .returned (.slice (some ⟨g, 0, none⟩) zs.length zs.length) ∧ w'.ownsRow w.heap.size 5 1 (.slice (some ⟨g, 0, none⟩) zs.length zs.length) zs.length (cellsOf zs) ∧ Below w.heap.size w w' := by
  obtain ⟨i0, hi, hz0, hz1, hz2⟩ := info_parts info_u8
  obtain ⟨ao, cap, rfl, hc1, hc2, hc3⟩ := own_shape h.own
  unfold maxLen at hc1
  have hzl := h.packs.length
  have h0 := h.c0
  have hlt := h.lt
  obtain ⟨n, hn⟩ : ∃ n, n = zs.length := ⟨_, rfl⟩
  rw [← hn] at h0 hc2 hc3 hzl ⊢
  have hn1 : n ≤ 1000000 := by omega
  have HN := Lib.hid hn
  have HC := Lib.hid hc3
  clear hn hc3 hzl h
  go_enter Tryz.func12, Tryz.ntmps12
  go_wp2_with (at_make; refine wpList_make_full _ rfl _ _ 40 rfl w.heap.size 5 i0 (.int .u8 0) 1 und_bytes hi hz0 hz1 .i64 .i64 _ _ n rfl rfl rfl rfl ?m1 ?m2 ?m3 ?_)
  case m1 => rw [hz2]; omega
  case m2 => unfold maxLen; omega
  case m3 => exact Nat.le_refl _
  intro w1 hown1 hgrow1
  have hb1 : Below w.heap.size w w1 := (Below.refl _ _).grown hgrow1 (Nat.le_refl _) (fun k h => by cases h)
  have h01 : w1.cell? ⟨b, 0, none⟩ = some (.slice ao n cap) := (hb1.cell (p := ⟨b, 0, none⟩) hlt).trans h0
  obtain ⟨cur, hcur, hcs⟩ : ∃ cur : List Value, w1.heap[w.heap.size]? = some (.cells cur.toArray 5 (0, 0)) ∧ cur.length = n := by
    rcases hown1.2 with ⟨h', _⟩ | ⟨g', cap', cur, h', _, hg, _, _, hs, _⟩
    · simp at h'
    · simp only [Value.slice.injEq, Option.some.injEq, Addr.mk.injEq, and_true, true_and] at h'
      obtain ⟨rfl, rfl⟩ := h'
      exact ⟨cur.toList, by simpa using hg, by simpa using hs⟩
  have HCUR := Lib.hid hcur
  have HCS := Lib.hid hcs
  have HB1 := Lib.hid hb1
  clear hown1 hgrow1 h0 hcur hcs hb1
  go_wp2_with (with_reducible refine wpList_copy_splice rfl (.tmp 10) (.tmp 14) 40 40 rfl 5 und_bytes size_u8 _ _ _ _ _ _ rfl rfl w.heap.size 0 cur 5 HCUR.out (cellsOf zs) ?k1 ?k2 ?k3 (cellsOf_one zs) w.heap.size w HB1.out (Nat.le_refl _) ?_)
  case k1 => rw [cellsOf_length, ← HN.out]; exact (Nat.min_self n).symm
  case k2 =>
    intro hp
    rw [cellsOf_length, ← HN.out] at hp
    obtain ⟨g, rfl, hg1, hg2⟩ := HC.out hp
    refine ⟨_, rfl, fun j u hu => ?_⟩
    have e : (⟨g, 0, none⟩ : Addr).add j = ⟨g, j, none⟩ := by simp [Addr.add]; omega
    rw [e, HB1.out.cell (p := ⟨g, j, none⟩) hg1]
    exact hg2 j u hu
  case k3 => rw [cellsOf_length, ← HN.out, HCS.out]; omega
  intro w2 HR hb2
  go_wp2
  go_ret
  refine ⟨w.heap.size, rfl, ?_, hb2⟩
  have hr := HR.out
  rw [splice_all _ _ (by rw [HCS.out, cellsOf_length, HN.out])] at hr
  refine ⟨by rw [cellsOf_length, ← HN.out]; omega, Or.inr ⟨w.heap.size, n, _, rfl, Nat.le_refl _, hr, Nat.le_refl _, by unfold maxLen; omega, ?_, ?_⟩⟩
  · simp [cellsOf_length, HN.out]
  · rw [Nat.mul_one, HN.out, ← cellsOf_length, List.take_length]
end Go.Proofs.YtnfpkjnllkkngaaGreatDoor
end

section
namespace Go.Proofs.YtnfpkjnllkkngaaGreatDoor
open Go.RowKit Go.Proofs Go.Proofs.PipeM Go.Proofs.PipeA

/-- A reader at a block, upon bytes, that has taken p bits. -/
structure RdIs (w : World) (b : Nat) (ao : Option Addr) (cap : Nat) (zs : List Nat) (p : Nat) (err : Int) : Prop where
  lt : b < w.heap.size
  c0 : w.cell? ⟨b, 0, none⟩ = some (.slice ao zs.length cap)
  c1 : w.cell? ⟨b, 1, none⟩ = some (.int .i64 p)
  c2 : w.cell? ⟨b, 2, none⟩ = some (.int .i64 err)
  f0 : w.frozen? ⟨b, 0, none⟩ = false
  f1 : w.frozen? ⟨b, 1, none⟩ = false
  f2 : w.frozen? ⟨b, 2, none⟩ = false
  data : BytesAt w ao zs
  apart : 0 < zs.length → ∀ g off, ao = some ⟨g, off, none⟩ → g ≠ b
  small : ∀ z ∈ zs, z < 256
  len : zs.length ≤ 100000000
  le : p ≤ 8 * zs.length

theorem BytesAt.keeps {w w' : World} {bs : List Nat} {ao : Option Addr} {zs : List Nat} (h : BytesAt w ao zs) (hk : Keeps bs w w') (hn : 0 < zs.length → ∀ g off, ao = some ⟨g, off, none⟩ → g ∉ bs) : BytesAt w' ao zs := by
  intro j hj
  obtain ⟨g, off, h1, h2, h3⟩ := h j hj
  exact ⟨g, off, h1, Nat.lt_of_lt_of_le h2 hk.size, by rw [hk.cell (p := ⟨g, off + j, none⟩) h2 (hn (by omega) g off h1), h3]⟩

theorem RdIs.keeps {w w' : World} {bs : List Nat} {b : Nat} {ao : Option Addr} {cap : Nat} {zs : List Nat} {p : Nat} {err : Int} (h : RdIs w b ao cap zs p err) (hk : Keeps bs w w') (hb : b ∉ bs)
    (hn : 0 < zs.length → ∀ g off, ao = some ⟨g, off, none⟩ → g ∉ bs) : RdIs w' b ao cap zs p err where
  lt := Nat.lt_of_lt_of_le h.lt hk.size
  c0 := (hk.cell (p := ⟨b, 0, none⟩) h.lt hb).trans h.c0
  c1 := (hk.cell (p := ⟨b, 1, none⟩) h.lt hb).trans h.c1
  c2 := (hk.cell (p := ⟨b, 2, none⟩) h.lt hb).trans h.c2
  f0 := (hk.frozen (p := ⟨b, 0, none⟩) h.lt hb).trans h.f0
  f1 := (hk.frozen (p := ⟨b, 1, none⟩) h.lt hb).trans h.f1
  f2 := (hk.frozen (p := ⟨b, 2, none⟩) h.lt hb).trans h.f2
  data := h.data.keeps hk hn
  apart := h.apart
  small := h.small
  len := h.len
  le := h.le

theorem keeps_drewN (w : World) (n : Nat) (bs : List Nat) : Keeps bs w (w.drewN n) := ⟨rfl, rfl, rfl, Nat.le_refl _, fun _ _ _ => rfl⟩
theorem RdIs.drewN {w : World} {b : Nat} {ao : Option Addr} {cap : Nat} {zs : List Nat} {p : Nat} {err : Int} (h : RdIs w b ao cap zs p err) (n : Nat) : RdIs (w.drewN n) b ao cap zs p err :=
  h.keeps (keeps_drewN w n []) (by simp) (by simp)

end Go.Proofs.YtnfpkjnllkkngaaGreatDoor
end

section
namespace Go.Proofs.YtnfpkjnllkkngaaGreatDoor
open Go.RowKit Go.Proofs Go.Proofs.PipeM Go.Proofs.PipeA

end Go.Proofs.YtnfpkjnllkkngaaGreatDoor
end

section
namespace Go.Proofs.YtnfpkjnllkkngaaGreatDoor
open Go.RowKit Go.Proofs Go.Proofs.PipeM Go.Proofs.PipeA

/-- A reader as the document has it: the bits that are left; what it failed with (then it has none). -/
structure RS where
  bits : List Bool
  err : Int

def RS.give (s : RS) (e : Int) : RS := if e = 0 ∨ s.err ≠ 0 then s else ⟨[], e⟩

/-- A reader in memory, upon bytes that lie at ao. -/
def RdA (w : World) (b : Nat) (ao : Option Addr) (s : RS) : Prop :=
  ∃ ao' cap zs p, RdIs w b ao' cap zs p s.err ∧ s.bits = (bitsOf zs).drop p ∧ (0 < zs.length → ao' = ao) ∧ (s.err ≠ 0 → zs = [])

theorem RdA.lt {w : World} {b : Nat} {ao : Option Addr} {s : RS} (h : RdA w b ao s) : b < w.heap.size := by
  obtain ⟨_, _, _, _, h, _⟩ := h; exact h.lt

theorem RdA.len {w : World} {b : Nat} {ao : Option Addr} {s : RS} (h : RdA w b ao s) : s.bits.length ≤ 800000000 := by
  obtain ⟨_, _, zs, p, h, hb, _⟩ := h
  rw [hb]; have := h.len; simp [bitsOf_length]; omega

theorem RdA.spent {w : World} {b : Nat} {ao : Option Addr} {s : RS} (h : RdA w b ao s) (he : s.err ≠ 0) : s.bits = [] := by
  obtain ⟨_, _, zs, p, _, hb, _, hz⟩ := h
  rw [hb, hz he]; simp [bitsOf]

theorem RdA.keeps {w w' : World} {bs : List Nat} {b : Nat} {ao : Option Addr} {s : RS} (h : RdA w b ao s) (hk : Keeps bs w w') (hb : b ∉ bs)
    (hn : ∀ g off, ao = some ⟨g, off, none⟩ → g ∉ bs) : RdA w' b ao s := by
  obtain ⟨ao', cap, zs, p, h1, h2, h3, h4⟩ := h
  exact ⟨ao', cap, zs, p, h1.keeps hk hb (fun h0 g off hg => hn g off ((h3 h0).symm.trans hg)), h2, h3, h4⟩

/-- What a call of a reader leaves. -/
def Reads (w : World) (b : Nat) (ao : Option Addr) (s : RS) (w' : World) : Prop := RdA w' b ao s ∧ Keeps [b] w w'

theorem Reads.refl {w : World} {b : Nat} {ao : Option Addr} {s : RS} (h : RdA w b ao s) : Reads w b ao s w := ⟨h, Keeps.refl _ _⟩
theorem Reads.next {w w1 w2 : World} {b : Nat} {ao : Option Addr} {s s' : RS} (h : Reads w b ao s w1) (h2 : Reads w1 b ao s' w2) : Reads w b ao s' w2 := ⟨h2.1, h.2.trans h2.2⟩

theorem RdA.drewN {w : World} {b : Nat} {ao : Option Addr} {s : RS} (h : RdA w b ao s) (n : Nat) : RdA (w.drewN n) b ao s :=
  h.keeps (keeps_drewN w n []) (by simp) (by simp)

def RS.takeV (s : RS) (n : Int) : Nat := if 0 ≤ n ∧ n ≤ 48 ∧ n ≤ s.bits.length then num (s.bits.take n.toNat) else 0
def RS.takeS (s : RS) (n : Int) : RS :=
  if n < 0 ∨ 48 < n then s.give 1 else if (s.bits.length : Int) < n then s.give 3 else ⟨s.bits.drop n.toNat, s.err⟩

end Go.Proofs.YtnfpkjnllkkngaaGreatDoor
end

section
namespace Go.Proofs.YtnfpkjnllkkngaaGreatDoor
open Go.RowKit Go.Proofs Go.Proofs.PipeM Go.Proofs.PipeA

/-- Zeros: how many, and what is left. -/
def zgo (most err : Int) : List Bool → Nat → Nat × RS
  | [], _ => (0, RS.give ⟨[], err⟩ 3)
  | true :: r, c => (c, ⟨r, err⟩)
  | false :: r, c => if most ≤ c then (0, RS.give ⟨r, err⟩ 1) else zgo most err r (c + 1)

end Go.Proofs.YtnfpkjnllkkngaaGreatDoor
end

section
namespace Go.Proofs.YtnfpkjnllkkngaaGreatDoor
open Go.RowKit Go.Proofs Go.Proofs.PipeM Go.Proofs.PipeA

end Go.Proofs.YtnfpkjnllkkngaaGreatDoor
end

section
namespace Go.Proofs.YtnfpkjnllkkngaaGreatDoor
open Go.RowKit Go.Proofs Go.Proofs.PipeM Go.Proofs.PipeA

/-- The document's reader. -/
structure MR where
  bits : List Bool
  all : Int
  fail : Int

def MR.val (m : MR) : Value := .agg #[.string (str m.bits), .int .i64 m.all, .int .i64 m.fail]
def MR.give (m : MR) (e : Int) : MR := if m.fail = 0 then ⟨m.bits, m.all, e⟩ else m

theorem below2 (w : World) (o1 o2 : Obj) : Below w.heap.size w ((w.alloc o1).alloc o2) := ((Below.refl _ _).alloc (Nat.le_refl _) _).alloc (by simp) _

/-- Take, of the document's reader. -/
def MR.take (m : MR) (n : Int) : MR × Nat :=
  if n < 0 ∨ 48 < n then (m.give 1, 0)
  else if (m.bits.length : Int) < n then (m.give 3, 0)
  else if m.fail ≠ 0 then (m, 0)
  else (⟨m.bits.drop n.toNat, m.all, m.fail⟩, num (m.bits.take n.toNat))

end Go.Proofs.YtnfpkjnllkkngaaGreatDoor
end

section
namespace Go.Proofs.YtnfpkjnllkkngaaGreatDoor
open Go.RowKit Go.Proofs Go.Proofs.PipeM Go.Proofs.PipeA

/-- Zeros of the document's reader that hasn't failed. -/
def rgo (most all : Int) : List Bool → Nat → MR × Nat
  | [], _ => (⟨[], all, 3⟩, 0)
  | true :: r, c => (⟨r, all, 0⟩, c)
  | false :: r, c => if most ≤ c then (⟨r, all, 1⟩, 0) else rgo most all r (c + 1)
def MR.run (m : MR) (most : Int) : MR × Nat := if m.fail ≠ 0 then (m, 0) else rgo most m.all m.bits 0

/-- Two blocks of three cells, one behind the other. -/
structure Box2 (w : World) (b : Nat) (v0 v1 v2 u0 u1 u2 : Value) : Prop where
  lt : b + 1 < w.heap.size
  c0 : w.cell? ⟨b, 0, none⟩ = some v0
  c1 : w.cell? ⟨b, 1, none⟩ = some v1
  c2 : w.cell? ⟨b, 2, none⟩ = some v2
  d0 : w.cell? ⟨b + 1, 0, none⟩ = some u0
  d1 : w.cell? ⟨b + 1, 1, none⟩ = some u1
  d2 : w.cell? ⟨b + 1, 2, none⟩ = some u2
  f0 : w.frozen? ⟨b, 0, none⟩ = false
  f1 : w.frozen? ⟨b, 1, none⟩ = false
  f2 : w.frozen? ⟨b, 2, none⟩ = false
  g0 : w.frozen? ⟨b + 1, 0, none⟩ = false
  g1 : w.frozen? ⟨b + 1, 1, none⟩ = false
  g2 : w.frozen? ⟨b + 1, 2, none⟩ = false

theorem Box2.set {w : World} {b : Nat} {v0 v1 v2 u0 u1 u2 : Value} (h : Box2 w b v0 v1 v2 u0 u1 u2) (v : Value) : Box2 (w.setCell ⟨b, 0, none⟩ v) b v v1 v2 u0 u1 u2 := by
  refine ⟨by simpa using h.lt, World.cell?_setCell_same _ _ _ h.c0, ?_, ?_, ?_, ?_, ?_, ?_, ?_, ?_, ?_, ?_, ?_⟩
  all_goals simp [World.cell?_setCell_other, h.c1, h.c2, h.d0, h.d1, h.d2, h.f0, h.f1, h.f2, h.g0, h.g1, h.g2]

theorem Box2.below {w w' : World} {b : Nat} {v0 v1 v2 u0 u1 u2 : Value} (h : Box2 w b v0 v1 v2 u0 u1 u2) (hb : Below w.heap.size w w') : Box2 w' b v0 v1 v2 u0 u1 u2 := by
  have h1 := h.lt
  have h2 : b < w.heap.size := by omega
  exact ⟨by have := hb.size; omega, (hb.cell (p := ⟨b, 0, none⟩) h2).trans h.c0, (hb.cell (p := ⟨b, 1, none⟩) h2).trans h.c1, (hb.cell (p := ⟨b, 2, none⟩) h2).trans h.c2,
    (hb.cell (p := ⟨b + 1, 0, none⟩) h1).trans h.d0, (hb.cell (p := ⟨b + 1, 1, none⟩) h1).trans h.d1, (hb.cell (p := ⟨b + 1, 2, none⟩) h1).trans h.d2,
    (hb.frozen (p := ⟨b, 0, none⟩) h2).trans h.f0, (hb.frozen (p := ⟨b, 1, none⟩) h2).trans h.f1, (hb.frozen (p := ⟨b, 2, none⟩) h2).trans h.f2,
    (hb.frozen (p := ⟨b + 1, 0, none⟩) h1).trans h.g0, (hb.frozen (p := ⟨b + 1, 1, none⟩) h1).trans h.g1, (hb.frozen (p := ⟨b + 1, 2, none⟩) h1).trans h.g2⟩

end Go.Proofs.YtnfpkjnllkkngaaGreatDoor
end

section
namespace Go.Proofs.PipeM

/-- A number without a sign, and back. -/
def foldN (n : Int) : Nat := if n < 0 then (-2 * n - 1).toNat else (2 * n).toNat
def unfoldN (z : Nat) : Int := if z % 2 = 1 then -(((z + 1) / 2 : Nat) : Int) else ((z / 2 : Nat) : Int)
def InR (n : Int) : Prop := -8589934592 ≤ n ∧ n ≤ 8589934591

theorem foldN_lt {n : Int} (h : InR n) : foldN n < 17179869184 := by
  unfold foldN InR at *; split <;> omega
/-- How many bits a number's code has. -/
def costN (n : Int) (k : Nat) : Nat := if foldN n / 2 ^ k < 24 then foldN n / 2 ^ k + 1 + k else 59

/-- A number's code. -/
def codeZ (z k : Nat) : List Bool := if z / 2 ^ k < 24 then (List.replicate (z / 2 ^ k) false ++ [true]) ++ low (z % 2 ^ k) k else (List.replicate 24 false ++ [true]) ++ low z 34
def codeBits (n : Int) (k : Nat) : List Bool := codeZ (foldN n) k

theorem codeBits_length (n : Int) (k : Nat) : (codeBits n k).length = costN n k := by
  unfold codeBits codeZ costN
  split
  · simp [low_length]; omega
  · simp [low_length]

theorem costN_le (n : Int) (k : Nat) (hk : k ≤ 24) : costN n k ≤ 59 := by
  unfold costN
  generalize foldN n / 2 ^ k = q
  split <;> omega
theorem costN_pos (n : Int) (k : Nat) : 1 ≤ costN n k := by
  unfold costN
  generalize foldN n / 2 ^ k = q
  split <;> omega

def codeOk (n k : Int) : Bool := decide (-8589934592 ≤ n ∧ n ≤ 8589934591 ∧ 0 ≤ k ∧ k ≤ 24)
def codeOf (n k : Int) : List Bool := if codeOk n k then codeBits n k.toNat else []

/-- What all numbers cost. -/
def totalN (l : List Int) (k : Nat) : Nat := (l.map fun n => costN n k).sum
theorem totalN_snoc (l : List Int) (n : Int) (k : Nat) : totalN (l ++ [n]) k = totalN l k + costN n k := by simp [totalN]
theorem totalN_le (l : List Int) (k : Nat) (hk : k ≤ 24) : totalN l k ≤ 59 * l.length := by
  induction l with
  | nil => simp [totalN]
  | cons n l ih =>
    have := costN_le n k hk
    simp [totalN] at ih ⊢
    omega

/-- The least parameter of the fewest bits. -/
def IsBest (l : List Int) (k : Nat) : Prop := k ≤ 24 ∧ ∀ p, p ≤ 24 → totalN l k ≤ totalN l p ∧ (totalN l p = totalN l k → k ≤ p)
theorem IsBest.unique {l : List Int} {a b : Nat} (ha : IsBest l a) (hb : IsBest l b) : a = b := by
  have h1 := ha.2 b hb.1
  have h2 := hb.2 a ha.1
  have h3 := h1.2 (by omega)
  have h4 := h2.2 (by omega)
  omega
end Go.Proofs.PipeM
end
