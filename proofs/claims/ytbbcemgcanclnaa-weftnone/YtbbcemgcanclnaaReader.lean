import Derived.Test.YtbbcemgcanclnaaWriter3
namespace Go.Proofs.Ytbbcemgcanclnaa
open Go.RowKit Go.Proofs Go.Proofs.PipeM Go.Proofs.PipeA

/-- A reader at a block, upon bytes, that has taken p bits. -/
structure RdIs (w : World) (b : Nat) (ao : Option Addr) (cap : Nat) (zs : List Nat) (p : Nat) (err : Int) : Prop where
  lt : b < w.heap.size
  c0 : w.cell? ⟨b, 0, none⟩ = some (.slice ao zs.length cap)
  c1 : w.cell? ⟨b, 1, none⟩ = some (.int .i64 p)
  c2 : w.cell? ⟨b, 2, none⟩ = some (.int .i64 err)
  f0 : w.frozen? ⟨b, 0, none⟩ = false
  f1 : w.frozen? ⟨b, 1, none⟩ = false
  f2 : w.frozen? ⟨b, 2, none⟩ = false
  data : BytesAt w ao zs
  apart : 0 < zs.length → ∀ g off, ao = some ⟨g, off, none⟩ → g ≠ b
  small : ∀ z ∈ zs, z < 256
  len : zs.length ≤ 100000000
  le : p ≤ 8 * zs.length

theorem BytesAt.keeps {w w' : World} {bs : List Nat} {ao : Option Addr} {zs : List Nat} (h : BytesAt w ao zs) (hk : Keeps bs w w') (hn : 0 < zs.length → ∀ g off, ao = some ⟨g, off, none⟩ → g ∉ bs) : BytesAt w' ao zs := by
  intro j hj
  obtain ⟨g, off, h1, h2, h3⟩ := h j hj
  exact ⟨g, off, h1, Nat.lt_of_lt_of_le h2 hk.size, by rw [hk.cell (p := ⟨g, off + j, none⟩) h2 (hn (by omega) g off h1), h3]⟩

theorem RdIs.keeps {w w' : World} {bs : List Nat} {b : Nat} {ao : Option Addr} {cap : Nat} {zs : List Nat} {p : Nat} {err : Int} (h : RdIs w b ao cap zs p err) (hk : Keeps bs w w') (hb : b ∉ bs)
    (hn : 0 < zs.length → ∀ g off, ao = some ⟨g, off, none⟩ → g ∉ bs) : RdIs w' b ao cap zs p err where
  lt := Nat.lt_of_lt_of_le h.lt hk.size
  c0 := (hk.cell (p := ⟨b, 0, none⟩) h.lt hb).trans h.c0
  c1 := (hk.cell (p := ⟨b, 1, none⟩) h.lt hb).trans h.c1
  c2 := (hk.cell (p := ⟨b, 2, none⟩) h.lt hb).trans h.c2
  f0 := (hk.frozen (p := ⟨b, 0, none⟩) h.lt hb).trans h.f0
  f1 := (hk.frozen (p := ⟨b, 1, none⟩) h.lt hb).trans h.f1
  f2 := (hk.frozen (p := ⟨b, 2, none⟩) h.lt hb).trans h.f2
  data := h.data.keeps hk hn
  apart := h.apart
  small := h.small
  len := h.len
  le := h.le

/-- What a reader's call leaves: so many bits taken; only the reader's block has turned. -/
def Took (w : World) (b : Nat) (ao : Option Addr) (cap : Nat) (zs : List Nat) (p : Nat) (err : Int) (w' : World) : Prop :=
  RdIs w' b ao cap zs p err ∧ Keeps [b] w w'

theorem keeps_drewN (w : World) (n : Nat) (bs : List Nat) : Keeps bs w (w.drewN n) := ⟨rfl, rfl, rfl, Nat.le_refl _, fun _ _ _ => rfl⟩
theorem RdIs.drewN {w : World} {b : Nat} {ao : Option Addr} {cap : Nat} {zs : List Nat} {p : Nat} {err : Int} (h : RdIs w b ao cap zs p err) (n : Nat) : RdIs (w.drewN n) b ao cap zs p err :=
  h.keeps (keeps_drewN w n []) (by simp) (by simp)

/-- A new reader, or a copy of one. -/
theorem rd_box {w : World} {ao : Option Addr} {cap : Nat} {zs : List Nat} {p : Nat} {err : Int} (hd : BytesAt w ao zs) (hs : ∀ z ∈ zs, z < 256) (hl : zs.length ≤ 100000000) (hp : p ≤ 8 * zs.length) :
    RdIs (w.alloc (.cells #[.slice ao zs.length cap, .int .i64 p, .int .i64 err] 64)) w.heap.size ao cap zs p err := by
  have hk : Keeps [] w (w.alloc (.cells #[.slice ao zs.length cap, .int .i64 p, .int .i64 err] 64)) := keeps_of_below ((Below.refl _ _).alloc (Nat.le_refl _) _) _
  refine ⟨by simp, by simp, by simp, by simp, by simp, by simp, by simp, hd.keeps hk (by simp), ?_, hs, hl, hp⟩
  intro h0 g off hg
  obtain ⟨g', off', h1, h2, _⟩ := hd 0 h0
  rw [hg] at h1
  simp at h1
  omega

set_option maxHeartbeats 400000 in
theorem rLeft (b : Nat) (ao : Option Addr) (cap : Nat) (zs : List Nat) (p : Nat) (err : Int) (w : World) (h : RdIs w b ao cap zs p err) :
    Calls Try.prog 19 #[.pointer (some ⟨b, 0, none⟩)] w fun e w' => e = .returned (.int .i64 ((8 * zs.length - p : Nat) : Int)) ∧ ∃ n, w' = w.drewN n := by
  have h0 := h.c0
  have h1 := h.c1
  have hl := h.len
  have hp := h.le
  obtain ⟨len, hlen⟩ : ∃ len, len = zs.length := ⟨_, rfl⟩
  rw [← hlen] at h0 hl hp ⊢
  clear h hlen
  go_enter Try.func19, Try.ntmps19
  go_wp2
  go_quiet (fail)
  go_wp2
  go_ret
  refine ⟨?_, _, rfl⟩
  show Ending.returned (Value.int .i64 (8 * (len : Int) - p)) = _
  congr 2
  omega

set_option maxHeartbeats 400000 in
theorem rFail (b : Nat) (ao : Option Addr) (cap : Nat) (zs : List Nat) (p : Nat) (err : Int) (w : World) (h : RdIs w b ao cap zs p err) :
    Calls Try.prog 18 #[.pointer (some ⟨b, 0, none⟩)] w fun e w' => e = .returned (.int .i64 err) ∧ w = w' := by
  have h2 := h.c2
  clear h
  go_enter Try.func18, Try.ntmps18
  go_wp2
  go_ret
  exact ⟨rfl, rfl⟩

theorem and_one_u8 (z k : Nat) (hz : z < 256) : bits BinOp.and IntKind.u8 ((z : Int) / 2 ^ k) 1 = (((z.testBit k).toNat : Nat) : Int) := by
  have e1 : ((z : Int) / 2 ^ k) = ((z / 2 ^ k : Nat) : Int) := by rw [Int.natCast_ediv, Int.natCast_pow]; rfl
  have h1 : z / 2 ^ k ≤ z := Nat.div_le_self _ _
  rw [e1, Nat.toNat_testBit]
  have := u8_and_nat (z / 2 ^ k) 1 (by omega) (by omega)
  rw [Nat.and_one_is_mod] at this
  exact this

theorem rd_moved {w : World} {b : Nat} {ao : Option Addr} {cap : Nat} {zs : List Nat} {p : Nat} {err : Int} (h : RdIs w b ao cap zs p err) (q m : Nat) (hq : q ≤ 8 * zs.length) :
    Took w b ao cap zs q err ((w.drewN m).setCell ⟨b, 1, none⟩ (.int .i64 (q : Int))) := by
  have hk : Keeps [b] w ((w.drewN m).setCell ⟨b, 1, none⟩ (.int .i64 (q : Int))) :=
    ⟨rfl, rfl, rfl, by simp, fun k _ hn => Below.heap_setCell (w.drewN m) _ _ _ (by simp at hn; simp; omega)⟩
  have hc1 : (w.drewN m).cell? ⟨b, 1, none⟩ = some (.int .i64 p) := h.c1
  refine ⟨⟨by simp; exact h.lt, ?_, ?_, ?_, ?_, ?_, ?_, h.data.keeps hk (fun h0 g off hg => by have := h.apart h0 g off hg; simp; exact this), h.apart, h.small, h.len, hq⟩, hk⟩
  · simp [World.cell?_setCell_other, h.c0]
  · rw [World.cell?_setCell_same _ _ _ hc1]
  · simp [World.cell?_setCell_other, h.c2]
  · simp [h.f0]
  · simp [h.f1]
  · simp [h.f2]

set_option maxHeartbeats 400000 in
theorem rNext (b : Nat) (ao : Option Addr) (cap : Nat) (zs : List Nat) (p : Nat) (err : Int) (w : World) (h : RdIs w b ao cap zs p err) (hp : p < 8 * zs.length) :
    Calls Try.prog 50 #[.pointer (some ⟨b, 0, none⟩)] w fun e w' => e = .returned (.int .u8 ((((zs.getD (p / 8) 0).testBit (7 - p % 8)).toNat : Nat) : Int)) ∧ Took w b ao cap zs (p + 1) err w' := by
  have h0 := h.c0
  have h1 := h.c1
  have f1 := h.f1
  have hl := h.len
  obtain ⟨g, off, rfl, hg, hc⟩ := h.data (p / 8) (by omega)
  have hz := getD_lt h.small (p / 8)
  have hne := h.apart (by omega) g off rfl
  have H := Lib.hid h
  obtain ⟨len, hlen⟩ : ∃ len, len = zs.length := ⟨_, rfl⟩
  obtain ⟨z, hzz⟩ : ∃ z, z = zs.getD (p / 8) 0 := ⟨_, rfl⟩
  rw [← hlen] at h0 hl hp
  rw [← hzz] at hz hc ⊢
  have HL := Lib.hid hlen
  have HA := Lib.hid (and_one_u8 z (7 - p % 8) hz)
  clear h hlen hzz
  go_enter Try.func50, Try.ntmps50
  go_wp2
  go_quiet (fail)
  go_wp2
  go_ret
  refine ⟨?_, ?_⟩
  · rw [← HA.out]; rfl
  · have := rd_moved H.out (p + 1) nq (by have := HL.out; omega)
    rw [Int.natCast_add] at this
    exact this

/-- The next n bits of bytes. -/
def bitsAt (zs : List Nat) (p n : Nat) : List Bool := ((bitsOf zs).drop p).take n

theorem bitsAt_length (zs : List Nat) (p n : Nat) (h : p + n ≤ 8 * zs.length) : (bitsAt zs p n).length = n := by
  simp [bitsAt, bitsOf_length]; omega

theorem bitsAt_succ (zs : List Nat) (p n : Nat) (h : p + n < 8 * zs.length) : bitsAt zs p (n + 1) = bitsAt zs p n ++ [(zs.getD ((p + n) / 8) 0).testBit (7 - (p + n) % 8)] := by
  have hl : n < ((bitsOf zs).drop p).length := by simp [bitsOf_length]; omega
  unfold bitsAt
  rw [List.take_succ_eq_append_getElem hl]
  have := bitsOf_get zs (p + n) h
  rw [List.getElem_drop]
  rw [List.getElem?_eq_getElem (by rw [bitsOf_length]; exact h)] at this
  simp only [Option.some.injEq] at this
  rw [this]

theorem num_bitsAt_lt (zs : List Nat) (p n : Nat) (hn : n ≤ 48) : num (bitsAt zs p n) < 281474976710656 := by
  refine Nat.lt_of_lt_of_le (num_lt _) ?_
  have h : (bitsAt zs p n).length ≤ 48 := by simp [bitsAt]; omega
  exact Nat.le_trans (Nat.pow_le_pow_right (by decide) h) (by decide)

theorem or_bit (x : Nat) (bit : Bool) (hx : x < 281474976710656) : bits BinOp.or IntKind.u64 ((x : Int) * 2) (IntKind.u64.wrap ((bit.toNat : Nat) : Int)) = ((2 * x + bit.toNat : Nat) : Int) := by
  have hb := Bool.toNat_le bit
  have e1 : IntKind.u64.wrap ((bit.toNat : Nat) : Int) = ((bit.toNat : Nat) : Int) := by
    rw [wrap_u64]; omega
  have e2 : ((x : Int) * 2) = ((2 * x : Nat) : Int) := by omega
  rw [e1, e2, bits_or_u64_nat _ _ (by omega) (by omega)]
  have e3 : (2 * x) ||| bit.toNat = 2 * x + bit.toNat := by
    have := Nat.two_pow_add_eq_or_of_lt (i := 1) (b := bit.toNat) (by omega) x
    simpa using this.symm
  rw [e3]

set_option maxHeartbeats 400000 in
theorem rTake (b : Nat) (ao : Option Addr) (cap : Nat) (zs : List Nat) (p n : Nat) (err : Int) (w : World) (h : RdIs w b ao cap zs p err) (hn : n ≤ 48) (hp : p + n ≤ 8 * zs.length) :
    Calls Try.prog 43 #[.pointer (some ⟨b, 0, none⟩), .int .i64 n] w fun e w' => e = .returned (.int .u64 (num (bitsAt zs p n))) ∧ Took w b ao cap zs (p + n) err w' := by
  have t1 : decide ((n : Int) < 0) = false := decide_eq_false (by omega)
  have t2 : decide ((48 : Int) < (n : Int)) = false := decide_eq_false (by omega)
  have H := Lib.hid h
  have HP := Lib.hid hp
  clear h hp
  go_enter Try.func43, Try.ntmps43
  go_wp2_with fail
  refine (rLeft b ao cap zs p err w H.out).mono ?_
  rintro e w1 ⟨rfl, m, rfl⟩
  have t3 : decide ((((8 * zs.length - p : Nat) : Int)) < (n : Int)) = false := decide_eq_false (by have := HP.out; omega)
  obtain ⟨x, hx⟩ : ∃ x : Int, x = ((8 * zs.length - p : Nat) : Int) := ⟨_, rfl⟩
  rw [← hx] at t3 ⊢
  clear hx
  go_wp2
  go_loopg [5, 21] n (fun gk v i wr => ∃ k : Nat, k ≤ n ∧ gk + k = n ∧ i = .int .i64 k ∧ v = .int .u64 (num (bitsAt zs p k)) ∧ Hid (Took w b ao cap zs (p + k) err wr))
  case atStart => exact ⟨0, Nat.zero_le _, by omega, rfl, by simp [bitsAt, num], ⟨H.out.drewN m, keeps_drewN w m _⟩⟩
  case round =>
    obtain ⟨k, hk, hgk, rfl, rfl, HT⟩ := hrel
    have hb := num_bitsAt_lt zs p k (by omega)
    obtain ⟨x, hx⟩ : ∃ x, x = num (bitsAt zs p k) := ⟨_, rfl⟩
    rw [← hx] at hb ⊢
    have HX := Lib.hid hx
    have HGK := Lib.hid hgk
    clear hx hgk
    by_cases hlt : k < n
    · go_wp2_with fail
      refine (rNext b ao cap zs (p + k) err wr HT.out.1 (by have := HP.out; omega)).mono ?_
      rintro e w2 ⟨rfl, ht2⟩
      have HT2 := Lib.hid ht2
      clear ht2
      obtain ⟨bit, hbit⟩ : ∃ bit, bit = (zs.getD ((p + k) / 8) 0).testBit (7 - (p + k) % 8) := ⟨_, rfl⟩
      rw [← hbit]
      have HB := Lib.hid hbit
      clear hbit
      go_wp2
      go_roundg (gk - 1)
      case rel =>
        refine ⟨k + 1, by omega, by have := HGK.out; omega, by go_num, ?_, ?_⟩
        · rw [bitsAt_succ zs p k (by have := HP.out; omega), num_snoc, ← HX.out, ← HB.out, ← or_bit x bit hb]
        · exact ⟨HT2.out.1, HT.out.2.trans HT2.out.2⟩
      case measure => have := HGK.out; omega
    · obtain rfl : k = n := by omega
      go_wp2
      go_ret
      exact ⟨by rw [← HX.out]; rfl, HT.out⟩

/-- How a reader that didn't fail ends. -/
def endFew (zs : List Nat) (p : Nat) : Int := if num (bitsAt zs p (8 * zs.length - p)) = 0 then 0 else 5
def endOf (zs : List Nat) (p : Nat) : Int := if 8 ≤ 8 * zs.length - p then 4 else endFew zs p

set_option maxHeartbeats 400000 in
theorem rOpen (ao : Option Addr) (cap : Nat) (zs : List Nat) (w : World) (hd : BytesAt w ao zs) (hs : ∀ z ∈ zs, z < 256) (hl : zs.length ≤ 100000000) :
    Calls Try.prog 14 #[.slice ao zs.length cap] w fun e w' => e = .returned (.pointer (some ⟨w.heap.size, 0, none⟩)) ∧ RdIs w' w.heap.size ao cap zs 0 0 ∧ Below w.heap.size w w' := by
  have HN := Lib.hid (rd_box hd hs hl (Nat.zero_le _) (w := w) (cap := cap) (err := 0) (p := 0))
  clear hd hs hl
  go_enter Try.func14, Try.ntmps14
  go_wp2
  go_ret
  exact ⟨rfl, HN.out, (Below.refl _ _).alloc (Nat.le_refl _) _⟩
end Go.Proofs.Ytbbcemgcanclnaa
