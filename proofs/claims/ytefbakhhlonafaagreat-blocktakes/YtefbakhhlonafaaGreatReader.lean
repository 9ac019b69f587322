import Derived.Test.YtefbakhhlonafaaGreatWriter
import Derived.Deep.LoopGhost
import Derived.Laws.CopyOwn

section
namespace Go.Proofs.YtefbakhhlonafaaGreat
open Go.RowKit Go.Proofs Go.Proofs.PipeM Go.Proofs.PipeA

theorem low_take (v n j : Nat) (h : j < n) : (low v n).take (j + 1) = (low v n).take j ++ [v.testBit (n - 1 - j)] := by
  have hl : j < (low v n).length := by rw [low_length]; exact h
  rw [List.take_succ_eq_append_getElem hl]
  have := low_get v n j h
  rw [List.getElem?_eq_getElem hl] at this
  simp at this
  rw [this]

theorem bit_arg (x k : Nat) (hx : x < 18446744073709551616) : bits BinOp.and IntKind.u64 ((x : Int) / 2 ^ min k 64) 1 % 256 = (((x.testBit k).toNat : Nat) : Int) := by
  have e1 : ((x : Int) / 2 ^ min k 64) = ((x / 2 ^ min k 64 : Nat) : Int) := by
    rw [Int.natCast_ediv, Int.natCast_pow]; rfl
  have h1 : x / 2 ^ min k 64 ≤ x := Nat.div_le_self _ _
  rw [e1]
  have e2 : x / 2 ^ min k 64 = x / 2 ^ k := by
    by_cases h : k ≤ 64
    · rw [Nat.min_eq_left h]
    · have a1 : min k 64 = 64 := by omega
      have a2 : x < 2 ^ k := Nat.lt_of_lt_of_le hx (Nat.pow_le_pow_right (by decide) (show 64 ≤ k by omega) : 2 ^ 64 ≤ 2 ^ k)
      rw [a1, Nat.div_eq_of_lt hx, Nat.div_eq_of_lt a2]
  rw [e2] at h1 ⊢
  obtain ⟨y, hy⟩ : ∃ y, y = x / 2 ^ k := ⟨_, rfl⟩
  rw [Nat.toNat_testBit, ← hy]
  rw [← hy] at h1
  rw [and_one_u64 _ (by omega) (by omega)]
  omega

set_option maxHeartbeats 800000 in
theorem wEach (b : Nat) (v : Value) (l : List Bool) (zs : List Nat) (x n : Nat) (w : World) (hx : x < 18446744073709551616) (hn : n ≤ 2000) (hl : l.length ≤ 100000) (h : WrIs w b v l zs) :
    Calls Tryz.prog 62 #[.int .u64 x, .int .i64 n, .func (.func 63) #[.pointer (some ⟨b, 0, none⟩)] #[]] w (Pushed w b v (l ++ low x n)) := by
  have H := Lib.hid h
  clear h
  go_enter Tryz.func62, Tryz.ntmps62
  go_wp2
  go_loopw [6] (fun k wr => ∃ j : Nat, j ≤ n ∧ k = .int .i64 ((n : Int) - 1 - j) ∧ Hid (Wrote w b v (l ++ (low x n).take j) wr))
    (fun k _ => (intOf k + 1).toNat)
  case atStart => exact ⟨0, Nat.zero_le _, by simp, by have := Wrote.refl H.out; simpa [Hid] using this⟩
  case round =>
    obtain ⟨j, hj, rfl, HW⟩ := hrel
    by_cases hlt : j < n
    · obtain ⟨v1, zs1, hw1, hk1, ho1⟩ := HW.out
      have hlen : (l ++ (low x n).take j).length ≤ 1000000 := by simp [low_length]; omega
      have HP := Lib.hid (wPush b v1 (l ++ (low x n).take j) zs1 (x.testBit (n - 1 - j)) wr hlen hw1)
      have HK := Lib.hid hk1
      have HO := Lib.hid ho1
      clear hw1 hk1 ho1 hlen HW
      have hd : (j : Int) ≤ (n : Int) - 1 := by omega
      go_wp2_with fail
      rw [bit_arg x (n - 1 - j) hx]
      refine HP.out.mono ?_
      rintro e w2 ⟨rfl, hw2⟩
      have HW2 := Lib.hid hw2
      clear hw2
      go_wp2
      go_roundw
      case rel =>
        refine ⟨j + 1, by omega, by go_num, ?_⟩
        have := Wrote.next HK.out HO.out HW2.out
        rw [List.append_assoc, ← low_take _ _ _ hlt] at this
        exact this
      case measure => simp [intOf]; omega
    · obtain rfl : j = n := by omega
      have hw := HW.out
      rw [List.take_of_length_le (by rw [low_length]; exact Nat.le_refl _)] at hw
      have HW2 := Lib.hid hw
      clear hw HW
      have hd : ¬ ((j : Int) ≤ (j : Int) - 1) := by omega
      go_wp2
      go_end0
      exact ⟨rfl, HW2.out⟩

/-- What a call that writes bits, or doesn't, answers. -/
def Puts (w : World) (b : Nat) (v : Value) (ok : Bool) (l : List Bool) (e : Ending) (w' : World) : Prop :=
  e = .returned (.bool ok) ∧ Wrote w b v l w'

set_option maxHeartbeats 800000 in
theorem wPut_yes (b : Nat) (v : Value) (l : List Bool) (zs : List Nat) (x n : Nat) (w : World) (hn : n ≤ 48) (hx : x < 2 ^ n) (hl : l.length ≤ 100000) (h : WrIs w b v l zs) :
    Calls Tryz.prog 32 #[.pointer (some ⟨b, 0, none⟩), .int .u64 x, .int .i64 n] w (Puts w b v true (l ++ low x n)) := by
  have hx48 : x < 2 ^ 48 := Nat.lt_of_lt_of_le hx (Nat.pow_le_pow_right (by decide) hn)
  have hdiv : (((x : Int) / 2 ^ n) != 0) = false := by
    have e1 : ((x : Int) / 2 ^ n) = ((x / 2 ^ n : Nat) : Int) := by rw [Int.natCast_ediv, Int.natCast_pow]; rfl
    rw [e1, Nat.div_eq_of_lt hx]; rfl
  have HP := Lib.hid (wEach b v l zs x n w (by omega) (by omega) hl h)
  have t1 : decide ((n : Int) < 0) = false := decide_eq_false (by omega)
  have t2 : decide ((48 : Int) < (n : Int)) = false := decide_eq_false (by omega)
  clear hx hx48 h
  go_enter Tryz.func32, Tryz.ntmps32
  go_wp2_with (go_at_call 62; refine HP.out.mono ?_; rintro e w2 ⟨rfl, hw2⟩)
  go_ret
  exact ⟨rfl, hw2⟩

theorem wrap_u64 (x : Int) : IntKind.u64.wrap x = ((x % 18446744073709551616).toNat : Int) := by
  have : IntKind.u64.wrap x = x % 18446744073709551616 := by simp [IntKind.wrap, IntKind.bits, IntKind.signed]
  rw [this]; omega

theorem low_wrap (x : Int) (n : Nat) (hn : n ≤ 64) : low (x % 18446744073709551616).toNat n = low (x % 2 ^ n).toNat n := by
  have h64 : (18446744073709551616 : Int) = 2 ^ 64 := rfl
  rw [← low_mod (x % 18446744073709551616).toNat, ← low_mod (x % 2 ^ n).toNat]
  congr 1
  have hp : (0 : Int) < 2 ^ n := by
    have := Nat.two_pow_pos n
    have e : ((2 ^ n : Nat) : Int) = 2 ^ n := by rw [Int.natCast_pow]; rfl
    omega
  have e : ((2 ^ n : Nat) : Int) = (2 : Int) ^ n := by rw [Int.natCast_pow]; rfl
  have hd : ((2 : Int) ^ n) ∣ 18446744073709551616 := by
    rw [h64, show (64 : Nat) = n + (64 - n) by omega, Int.pow_add]
    exact Int.dvd_mul_right _ _
  have h1 : ((x % 18446744073709551616) % 2 ^ n) = x % 2 ^ n := Int.emod_emod_of_dvd _ hd
  have h2 : 0 ≤ x % 18446744073709551616 := Int.emod_nonneg _ (by decide)
  have h3 : 0 ≤ x % 2 ^ n := Int.emod_nonneg _ (by omega)
  apply Int.ofNat.inj
  show (((x % 18446744073709551616).toNat % 2 ^ n : Nat) : Int) = (((x % 2 ^ n).toNat % 2 ^ n : Nat) : Int)
  rw [Int.natCast_emod, Int.natCast_emod, e, Int.toNat_of_nonneg h2, Int.toNat_of_nonneg h3, h1, Int.emod_emod]

theorem half_bound (n : Nat) (hn : n ≤ 48) : (1 : Int) ≤ 2 ^ (n - 1) ∧ (2 : Int) ^ (n - 1) ≤ 281474976710656 := by
  have h1 := Nat.two_pow_pos (n - 1)
  have h2 : 2 ^ (n - 1) ≤ 2 ^ 48 := Nat.pow_le_pow_right (by decide) (by omega)
  have e : ((2 ^ (n - 1) : Nat) : Int) = (2 : Int) ^ (n - 1) := by rw [Int.natCast_pow]; rfl
  omega

set_option maxHeartbeats 800000 in
theorem wSigned_yes (b : Nat) (v : Value) (l : List Bool) (zs : List Nat) (x : Int) (n : Nat) (w : World) (hn0 : 1 ≤ n) (hn : n ≤ 48) (hx0 : -(2 ^ (n - 1)) ≤ x) (hx : x < 2 ^ (n - 1)) (hl : l.length ≤ 100000) (h : WrIs w b v l zs) :
    Calls Tryz.prog 33 #[.pointer (some ⟨b, 0, none⟩), .int .i64 x, .int .i64 n] w (Puts w b v true (l ++ low ((x % 2 ^ n).toNat) n)) := by
  obtain ⟨hb1, hb2⟩ := half_bound n hn
  have HP := Lib.hid (wEach b v l zs (x % 18446744073709551616).toNat n w (by omega) (by omega) hl h)
  have HL := Lib.hid (low_wrap x n (by omega))
  obtain ⟨hf, hhf⟩ : ∃ hf, hf = (2 : Int) ^ (n - 1) := ⟨_, rfl⟩
  rw [← hhf] at hb1 hb2 hx0 hx
  have hw : wrap64 (2 ^ (n - 1)) = hf := by rw [← hhf]; exact IntWalk.wrap64_in _ ⟨by omega, by omega⟩
  have t1 : decide ((n : Int) < 1) = false := decide_eq_false (by omega)
  have t2 : decide ((48 : Int) < (n : Int)) = false := decide_eq_false (by omega)
  have t3 : decide (x < -hf) = false := decide_eq_false (by omega)
  have t4 : decide (hf ≤ x) = false := decide_eq_false (by omega)
  have HWR := Lib.hid (wrap_u64 x)
  clear h hhf
  go_enter Tryz.func33, Tryz.ntmps33
  go_wp2_with fail
  rw [HWR.out]
  refine HP.out.mono ?_
  rintro e w2 ⟨rfl, hw2⟩
  rw [HL.out] at hw2
  go_wp2
  go_ret
  exact ⟨rfl, hw2⟩

end Go.Proofs.YtefbakhhlonafaaGreat
end

section
namespace Go.Proofs.YtefbakhhlonafaaGreat
open Go.RowKit Go.Proofs Go.Proofs.PipeM Go.Proofs.PipeA

theorem own_shape {w : World} {base n : Nat} {e : TypeId} {xs : List Value} {v : Value} (h : w.ownsRow base e 1 v n xs) :
    ∃ ao cap, v = .slice ao n cap ∧ cap ≤ maxLen ∧ n ≤ cap ∧ (0 < n → ∃ g, ao = some ⟨g, 0, none⟩ ∧ g < w.heap.size ∧ ∀ j u, xs[j]? = some u → w.cell? ⟨g, j, none⟩ = some u) := by
  rcases h.2 with ⟨rfl, rfl⟩ | ⟨g, cap, cur, rfl, hb, hg, h1, h2, h3, h4⟩
  · exact ⟨none, 0, rfl, by unfold maxLen; omega, Nat.le_refl _, fun h => by omega⟩
  · refine ⟨some ⟨g, 0, none⟩, cap, rfl, h2, h1, fun _ => ⟨g, rfl, ?_, ?_⟩⟩
    · rcases Nat.lt_or_ge g w.heap.size with h5 | h5
      · exact h5
      · rw [Array.getElem?_eq_none h5] at hg; cases hg
    · intro j u hu
      have hj : j < xs.length := (List.getElem?_eq_some_iff.1 hu).1
      rw [h.cellAt j (by have := h.1; omega), hu]

theorem size_u8 : (Tryz.prog.info? 5).map (·.size) = some 1 := by kernel_rfl

theorem cellsOf_one (zs : List Nat) : ∀ u ∈ cellsOf zs, u.oneCell' = true := by
  intro u hu
  simp [cellsOf] at hu
  obtain ⟨z, _, rfl⟩ := hu
  rfl

theorem splice_all {α : Type} (L cs : List α) (h : L.length = cs.length) : splice L 0 cs = cs := by
  simp [splice, ← h]

set_option maxHeartbeats 800000 in
theorem wBytes (b : Nat) (v : Value) (l : List Bool) (zs : List Nat) (w : World) (hl : l.length ≤ 1000000) (h : WrIs w b v l zs) :
    Calls Tryz.prog 13 #[.pointer (some ⟨b, 0, none⟩)] w fun e w' => ∃ g, e = .returned (.slice (some ⟨g, 0, none⟩) zs.length zs.length) ∧ w'.ownsRow w.heap.size 5 1 (.slice (some ⟨g, 0, none⟩) zs.length zs.length) zs.length (cellsOf zs) ∧ Below w.heap.size w w' := by
  obtain ⟨i0, hi, hz0, hz1, hz2⟩ := info_parts info_u8
  obtain ⟨ao, cap, rfl, hc1, hc2, hc3⟩ := own_shape h.own
  unfold maxLen at hc1
  have hzl := h.packs.length
  have h0 := h.c0
  have hlt := h.lt
  obtain ⟨n, hn⟩ : ∃ n, n = zs.length := ⟨_, rfl⟩
  rw [← hn] at h0 hc2 hc3 hzl ⊢
  have hn1 : n ≤ 1000000 := by omega
  have HN := Lib.hid hn
  have HC := Lib.hid hc3
  clear hn hc3 hzl h
  go_enter Tryz.func13, Tryz.ntmps13
  go_wp2_with (at_make; refine wpList_make_full _ rfl _ _ 29 rfl w.heap.size 5 i0 (.int .u8 0) 1 und_bytes hi hz0 hz1 .i64 .i64 _ _ n rfl rfl rfl rfl ?m1 ?m2 ?m3 ?_)
  case m1 => rw [hz2]; omega
  case m2 => unfold maxLen; omega
  case m3 => exact Nat.le_refl _
  intro w1 hown1 hgrow1
  have hb1 : Below w.heap.size w w1 := (Below.refl _ _).grown hgrow1 (Nat.le_refl _) (fun k h => by cases h)
  have h01 : w1.cell? ⟨b, 0, none⟩ = some (.slice ao n cap) := (hb1.cell (p := ⟨b, 0, none⟩) hlt).trans h0
  obtain ⟨cur, hcur, hcs⟩ : ∃ cur : List Value, w1.heap[w.heap.size]? = some (.cells cur.toArray 5 (0, 0)) ∧ cur.length = n := by
    rcases hown1.2 with ⟨h', _⟩ | ⟨g', cap', cur, h', _, hg, _, _, hs, _⟩
    · simp at h'
    · simp only [Value.slice.injEq, Option.some.injEq, Addr.mk.injEq, and_true, true_and] at h'
      obtain ⟨rfl, rfl⟩ := h'
      exact ⟨cur.toList, by simpa using hg, by simpa using hs⟩
  have HCUR := Lib.hid hcur
  have HCS := Lib.hid hcs
  have HB1 := Lib.hid hb1
  clear hown1 hgrow1 h0 hcur hcs hb1
  go_wp2_with (with_reducible refine wpList_copy_splice rfl (.tmp 10) (.tmp 14) 29 29 rfl 5 und_bytes size_u8 _ _ _ _ _ _ rfl rfl w.heap.size 0 cur 5 HCUR.out (cellsOf zs) ?k1 ?k2 ?k3 (cellsOf_one zs) w.heap.size w HB1.out (Nat.le_refl _) ?_)
  case k1 => rw [cellsOf_length, ← HN.out]; exact (Nat.min_self n).symm
  case k2 =>
    intro hp
    rw [cellsOf_length, ← HN.out] at hp
    obtain ⟨g, rfl, hg1, hg2⟩ := HC.out hp
    refine ⟨_, rfl, fun j u hu => ?_⟩
    have e : (⟨g, 0, none⟩ : Addr).add j = ⟨g, j, none⟩ := by simp [Addr.add]; omega
    rw [e, HB1.out.cell (p := ⟨g, j, none⟩) hg1]
    exact hg2 j u hu
  case k3 => rw [cellsOf_length, ← HN.out, HCS.out]; omega
  intro w2 HR hb2
  go_wp2
  go_ret
  refine ⟨w.heap.size, rfl, ?_, hb2⟩
  have hr := HR.out
  rw [splice_all _ _ (by rw [HCS.out, cellsOf_length, HN.out])] at hr
  refine ⟨by rw [cellsOf_length, ← HN.out]; omega, Or.inr ⟨w.heap.size, n, _, rfl, Nat.le_refl _, hr, Nat.le_refl _, by unfold maxLen; omega, ?_, ?_⟩⟩
  · simp [cellsOf_length, HN.out]
  · rw [Nat.mul_one, HN.out, ← cellsOf_length, List.take_length]
end Go.Proofs.YtefbakhhlonafaaGreat
end

section
namespace Go.Proofs.YtefbakhhlonafaaGreat
open Go.RowKit Go.Proofs Go.Proofs.PipeM Go.Proofs.PipeA

/-- A reader at a block, upon bytes, that has taken p bits. -/
structure RdIs (w : World) (b : Nat) (ao : Option Addr) (cap : Nat) (zs : List Nat) (p : Nat) (err : Int) : Prop where
  lt : b < w.heap.size
  c0 : w.cell? ⟨b, 0, none⟩ = some (.slice ao zs.length cap)
  c1 : w.cell? ⟨b, 1, none⟩ = some (.int .i64 p)
  c2 : w.cell? ⟨b, 2, none⟩ = some (.int .i64 err)
  f0 : w.frozen? ⟨b, 0, none⟩ = false
  f1 : w.frozen? ⟨b, 1, none⟩ = false
  f2 : w.frozen? ⟨b, 2, none⟩ = false
  data : BytesAt w ao zs
  apart : 0 < zs.length → ∀ g off, ao = some ⟨g, off, none⟩ → g ≠ b
  small : ∀ z ∈ zs, z < 256
  len : zs.length ≤ 100000000
  le : p ≤ 8 * zs.length

theorem BytesAt.keeps {w w' : World} {bs : List Nat} {ao : Option Addr} {zs : List Nat} (h : BytesAt w ao zs) (hk : Keeps bs w w') (hn : 0 < zs.length → ∀ g off, ao = some ⟨g, off, none⟩ → g ∉ bs) : BytesAt w' ao zs := by
  intro j hj
  obtain ⟨g, off, h1, h2, h3⟩ := h j hj
  exact ⟨g, off, h1, Nat.lt_of_lt_of_le h2 hk.size, by rw [hk.cell (p := ⟨g, off + j, none⟩) h2 (hn (by omega) g off h1), h3]⟩

theorem RdIs.keeps {w w' : World} {bs : List Nat} {b : Nat} {ao : Option Addr} {cap : Nat} {zs : List Nat} {p : Nat} {err : Int} (h : RdIs w b ao cap zs p err) (hk : Keeps bs w w') (hb : b ∉ bs)
    (hn : 0 < zs.length → ∀ g off, ao = some ⟨g, off, none⟩ → g ∉ bs) : RdIs w' b ao cap zs p err where
  lt := Nat.lt_of_lt_of_le h.lt hk.size
  c0 := (hk.cell (p := ⟨b, 0, none⟩) h.lt hb).trans h.c0
  c1 := (hk.cell (p := ⟨b, 1, none⟩) h.lt hb).trans h.c1
  c2 := (hk.cell (p := ⟨b, 2, none⟩) h.lt hb).trans h.c2
  f0 := (hk.frozen (p := ⟨b, 0, none⟩) h.lt hb).trans h.f0
  f1 := (hk.frozen (p := ⟨b, 1, none⟩) h.lt hb).trans h.f1
  f2 := (hk.frozen (p := ⟨b, 2, none⟩) h.lt hb).trans h.f2
  data := h.data.keeps hk hn
  apart := h.apart
  small := h.small
  len := h.len
  le := h.le

/-- What a reader's call leaves: so many bits taken; only the reader's block has turned. -/
def Took (w : World) (b : Nat) (ao : Option Addr) (cap : Nat) (zs : List Nat) (p : Nat) (err : Int) (w' : World) : Prop :=
  RdIs w' b ao cap zs p err ∧ Keeps [b] w w'

theorem keeps_drewN (w : World) (n : Nat) (bs : List Nat) : Keeps bs w (w.drewN n) := ⟨rfl, rfl, rfl, Nat.le_refl _, fun _ _ _ => rfl⟩
theorem RdIs.drewN {w : World} {b : Nat} {ao : Option Addr} {cap : Nat} {zs : List Nat} {p : Nat} {err : Int} (h : RdIs w b ao cap zs p err) (n : Nat) : RdIs (w.drewN n) b ao cap zs p err :=
  h.keeps (keeps_drewN w n []) (by simp) (by simp)

/-- A new reader, or a copy of one. -/
theorem rd_box {w : World} {ao : Option Addr} {cap : Nat} {zs : List Nat} {p : Nat} {err : Int} (hd : BytesAt w ao zs) (hs : ∀ z ∈ zs, z < 256) (hl : zs.length ≤ 100000000) (hp : p ≤ 8 * zs.length) :
    RdIs (w.alloc (.cells #[.slice ao zs.length cap, .int .i64 p, .int .i64 err] 77)) w.heap.size ao cap zs p err := by
  have hk : Keeps [] w (w.alloc (.cells #[.slice ao zs.length cap, .int .i64 p, .int .i64 err] 77)) := keeps_of_below ((Below.refl _ _).alloc (Nat.le_refl _) _) _
  refine ⟨by simp, by simp, by simp, by simp, by simp, by simp, by simp, hd.keeps hk (by simp), ?_, hs, hl, hp⟩
  intro h0 g off hg
  obtain ⟨g', off', h1, h2, _⟩ := hd 0 h0
  rw [hg] at h1
  simp at h1
  omega

set_option maxHeartbeats 400000 in
theorem rLeft (b : Nat) (ao : Option Addr) (cap : Nat) (zs : List Nat) (p : Nat) (err : Int) (w : World) (h : RdIs w b ao cap zs p err) :
    Calls Tryz.prog 23 #[.pointer (some ⟨b, 0, none⟩)] w fun e w' => e = .returned (.int .i64 ((8 * zs.length - p : Nat) : Int)) ∧ ∃ n, w' = w.drewN n := by
  have h0 := h.c0
  have h1 := h.c1
  have hl := h.len
  have hp := h.le
  obtain ⟨len, hlen⟩ : ∃ len, len = zs.length := ⟨_, rfl⟩
  rw [← hlen] at h0 hl hp ⊢
  clear h hlen
  go_enter Tryz.func23, Tryz.ntmps23
  go_wp2
  go_quiet (fail)
  go_wp2
  go_ret
  refine ⟨?_, _, rfl⟩
  show Ending.returned (Value.int .i64 (8 * (len : Int) - p)) = _
  congr 2
  omega

set_option maxHeartbeats 400000 in
theorem rFail (b : Nat) (ao : Option Addr) (cap : Nat) (zs : List Nat) (p : Nat) (err : Int) (w : World) (h : RdIs w b ao cap zs p err) :
    Calls Tryz.prog 22 #[.pointer (some ⟨b, 0, none⟩)] w fun e w' => e = .returned (.int .i64 err) ∧ w = w' := by
  have h2 := h.c2
  clear h
  go_enter Tryz.func22, Tryz.ntmps22
  go_wp2
  go_ret
  exact ⟨rfl, rfl⟩

theorem and_one_u8 (z k : Nat) (hz : z < 256) : bits BinOp.and IntKind.u8 ((z : Int) / 2 ^ k) 1 = (((z.testBit k).toNat : Nat) : Int) := by
  have e1 : ((z : Int) / 2 ^ k) = ((z / 2 ^ k : Nat) : Int) := by rw [Int.natCast_ediv, Int.natCast_pow]; rfl
  have h1 : z / 2 ^ k ≤ z := Nat.div_le_self _ _
  rw [e1, Nat.toNat_testBit]
  have := u8_and_nat (z / 2 ^ k) 1 (by omega) (by omega)
  rw [Nat.and_one_is_mod] at this
  exact this

theorem rd_moved {w : World} {b : Nat} {ao : Option Addr} {cap : Nat} {zs : List Nat} {p : Nat} {err : Int} (h : RdIs w b ao cap zs p err) (q m : Nat) (hq : q ≤ 8 * zs.length) :
    Took w b ao cap zs q err ((w.drewN m).setCell ⟨b, 1, none⟩ (.int .i64 (q : Int))) := by
  have hk : Keeps [b] w ((w.drewN m).setCell ⟨b, 1, none⟩ (.int .i64 (q : Int))) :=
    ⟨rfl, rfl, rfl, by simp, fun k _ hn => Below.heap_setCell (w.drewN m) _ _ _ (by simp at hn; simp; omega)⟩
  have hc1 : (w.drewN m).cell? ⟨b, 1, none⟩ = some (.int .i64 p) := h.c1
  refine ⟨⟨by simp; exact h.lt, ?_, ?_, ?_, ?_, ?_, ?_, h.data.keeps hk (fun h0 g off hg => by have := h.apart h0 g off hg; simp; exact this), h.apart, h.small, h.len, hq⟩, hk⟩
  · simp [World.cell?_setCell_other, h.c0]
  · rw [World.cell?_setCell_same _ _ _ hc1]
  · simp [World.cell?_setCell_other, h.c2]
  · simp [h.f0]
  · simp [h.f1]
  · simp [h.f2]

set_option maxHeartbeats 400000 in
theorem rNext (b : Nat) (ao : Option Addr) (cap : Nat) (zs : List Nat) (p : Nat) (err : Int) (w : World) (h : RdIs w b ao cap zs p err) (hp : p < 8 * zs.length) :
    Calls Tryz.prog 77 #[.pointer (some ⟨b, 0, none⟩)] w fun e w' => e = .returned (.int .u8 ((((zs.getD (p / 8) 0).testBit (7 - p % 8)).toNat : Nat) : Int)) ∧ Took w b ao cap zs (p + 1) err w' := by
  have h0 := h.c0
  have h1 := h.c1
  have f1 := h.f1
  have hl := h.len
  obtain ⟨g, off, rfl, hg, hc⟩ := h.data (p / 8) (by omega)
  have hz := getD_lt h.small (p / 8)
  have hne := h.apart (by omega) g off rfl
  have H := Lib.hid h
  obtain ⟨len, hlen⟩ : ∃ len, len = zs.length := ⟨_, rfl⟩
  obtain ⟨z, hzz⟩ : ∃ z, z = zs.getD (p / 8) 0 := ⟨_, rfl⟩
  rw [← hlen] at h0 hl hp
  rw [← hzz] at hz hc ⊢
  have HL := Lib.hid hlen
  have HA := Lib.hid (and_one_u8 z (7 - p % 8) hz)
  clear h hlen hzz
  go_enter Tryz.func77, Tryz.ntmps77
  go_wp2
  go_quiet (fail)
  go_wp2
  go_ret
  refine ⟨?_, ?_⟩
  · rw [← HA.out]; rfl
  · have := rd_moved H.out (p + 1) nq (by have := HL.out; omega)
    rw [Int.natCast_add] at this
    exact this

/-- The next n bits of bytes. -/
def bitsAt (zs : List Nat) (p n : Nat) : List Bool := ((bitsOf zs).drop p).take n

theorem bitsAt_succ (zs : List Nat) (p n : Nat) (h : p + n < 8 * zs.length) : bitsAt zs p (n + 1) = bitsAt zs p n ++ [(zs.getD ((p + n) / 8) 0).testBit (7 - (p + n) % 8)] := by
  have hl : n < ((bitsOf zs).drop p).length := by simp [bitsOf_length]; omega
  unfold bitsAt
  rw [List.take_succ_eq_append_getElem hl]
  have := bitsOf_get zs (p + n) h
  rw [List.getElem_drop]
  rw [List.getElem?_eq_getElem (by rw [bitsOf_length]; exact h)] at this
  simp only [Option.some.injEq] at this
  rw [this]

theorem num_bitsAt_lt (zs : List Nat) (p n : Nat) (hn : n ≤ 48) : num (bitsAt zs p n) < 281474976710656 := by
  refine Nat.lt_of_lt_of_le (num_lt _) ?_
  have h : (bitsAt zs p n).length ≤ 48 := by simp [bitsAt]; omega
  exact Nat.le_trans (Nat.pow_le_pow_right (by decide) h) (by decide)

theorem or_bit (x : Nat) (bit : Bool) (hx : x < 281474976710656) : bits BinOp.or IntKind.u64 ((x : Int) * 2) (IntKind.u64.wrap ((bit.toNat : Nat) : Int)) = ((2 * x + bit.toNat : Nat) : Int) := by
  have hb := Bool.toNat_le bit
  have e1 : IntKind.u64.wrap ((bit.toNat : Nat) : Int) = ((bit.toNat : Nat) : Int) := by
    rw [wrap_u64]; omega
  have e2 : ((x : Int) * 2) = ((2 * x : Nat) : Int) := by omega
  rw [e1, e2, bits_or_u64_nat _ _ (by omega) (by omega)]
  have e3 : (2 * x) ||| bit.toNat = 2 * x + bit.toNat := by
    have := Nat.two_pow_add_eq_or_of_lt (i := 1) (b := bit.toNat) (by omega) x
    simpa using this.symm
  rw [e3]

set_option maxHeartbeats 400000 in
theorem rTake (b : Nat) (ao : Option Addr) (cap : Nat) (zs : List Nat) (p n : Nat) (err : Int) (w : World) (h : RdIs w b ao cap zs p err) (hn : n ≤ 48) (hp : p + n ≤ 8 * zs.length) :
    Calls Tryz.prog 49 #[.pointer (some ⟨b, 0, none⟩), .int .i64 n] w fun e w' => e = .returned (.int .u64 (num (bitsAt zs p n))) ∧ Took w b ao cap zs (p + n) err w' := by
  have t1 : decide ((n : Int) < 0) = false := decide_eq_false (by omega)
  have t2 : decide ((48 : Int) < (n : Int)) = false := decide_eq_false (by omega)
  have H := Lib.hid h
  have HP := Lib.hid hp
  clear h hp
  go_enter Tryz.func49, Tryz.ntmps49
  go_wp2_with fail
  refine (rLeft b ao cap zs p err w H.out).mono ?_
  rintro e w1 ⟨rfl, m, rfl⟩
  have t3 : decide ((((8 * zs.length - p : Nat) : Int)) < (n : Int)) = false := decide_eq_false (by have := HP.out; omega)
  obtain ⟨x, hx⟩ : ∃ x : Int, x = ((8 * zs.length - p : Nat) : Int) := ⟨_, rfl⟩
  rw [← hx] at t3 ⊢
  clear hx
  go_wp2
  go_loopg [5, 21] n (fun gk v i wr => ∃ k : Nat, k ≤ n ∧ gk + k = n ∧ i = .int .i64 k ∧ v = .int .u64 (num (bitsAt zs p k)) ∧ Hid (Took w b ao cap zs (p + k) err wr))
  case atStart => exact ⟨0, Nat.zero_le _, by omega, rfl, by simp [bitsAt, num], ⟨H.out.drewN m, keeps_drewN w m _⟩⟩
  case round =>
    obtain ⟨k, hk, hgk, rfl, rfl, HT⟩ := hrel
    have hb := num_bitsAt_lt zs p k (by omega)
    obtain ⟨x, hx⟩ : ∃ x, x = num (bitsAt zs p k) := ⟨_, rfl⟩
    rw [← hx] at hb ⊢
    have HX := Lib.hid hx
    have HGK := Lib.hid hgk
    clear hx hgk
    by_cases hlt : k < n
    · go_wp2_with fail
      refine (rNext b ao cap zs (p + k) err wr HT.out.1 (by have := HP.out; omega)).mono ?_
      rintro e w2 ⟨rfl, ht2⟩
      have HT2 := Lib.hid ht2
      clear ht2
      obtain ⟨bit, hbit⟩ : ∃ bit, bit = (zs.getD ((p + k) / 8) 0).testBit (7 - (p + k) % 8) := ⟨_, rfl⟩
      rw [← hbit]
      have HB := Lib.hid hbit
      clear hbit
      go_wp2
      go_roundg (gk - 1)
      case rel =>
        refine ⟨k + 1, by omega, by have := HGK.out; omega, by go_num, ?_, ?_⟩
        · rw [bitsAt_succ zs p k (by have := HP.out; omega), num_snoc, ← HX.out, ← HB.out, ← or_bit x bit hb]
        · exact ⟨HT2.out.1, HT.out.2.trans HT2.out.2⟩
      case measure => have := HGK.out; omega
    · obtain rfl : k = n := by omega
      go_wp2
      go_ret
      exact ⟨by rw [← HX.out]; rfl, HT.out⟩

set_option maxHeartbeats 400000 in
theorem rOpen (ao : Option Addr) (cap : Nat) (zs : List Nat) (w : World) (hd : BytesAt w ao zs) (hs : ∀ z ∈ zs, z < 256) (hl : zs.length ≤ 100000000) :
    Calls Tryz.prog 15 #[.slice ao zs.length cap] w fun e w' => e = .returned (.pointer (some ⟨w.heap.size, 0, none⟩)) ∧ RdIs w' w.heap.size ao cap zs 0 0 ∧ Below w.heap.size w w' := by
  have HN := Lib.hid (rd_box hd hs hl (Nat.zero_le _) (w := w) (cap := cap) (err := 0) (p := 0))
  clear hd hs hl
  go_enter Tryz.func15, Tryz.ntmps15
  go_wp2
  go_ret
  exact ⟨rfl, HN.out, (Below.refl _ _).alloc (Nat.le_refl _) _⟩
end Go.Proofs.YtefbakhhlonafaaGreat
end
