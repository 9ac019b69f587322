import Derived.Test.YtefbakhhlonafaaWriter2
import Derived.Deep.LoopGhost
import Derived.Laws.CopyOwn

section
namespace Go.Proofs.Ytefbakhhlonafaa
open Go.RowKit Go.Proofs Go.Proofs.PipeM Go.Proofs.PipeA

theorem pad_step (l : List Bool) (k : Nat) : (l ++ List.replicate k false) ++ [false] = l ++ List.replicate (k + 1) false := by
  rw [List.append_assoc, rep_snoc]

theorem own_shape {w : World} {base n : Nat} {e : TypeId} {xs : List Value} {v : Value} (h : w.ownsRow base e 1 v n xs) :
    ∃ ao cap, v = .slice ao n cap ∧ cap ≤ maxLen ∧ n ≤ cap ∧ (0 < n → ∃ g, ao = some ⟨g, 0, none⟩ ∧ g < w.heap.size ∧ ∀ j u, xs[j]? = some u → w.cell? ⟨g, j, none⟩ = some u) := by
  rcases h.2 with ⟨rfl, rfl⟩ | ⟨g, cap, cur, rfl, hb, hg, h1, h2, h3, h4⟩
  · exact ⟨none, 0, rfl, by unfold maxLen; omega, Nat.le_refl _, fun h => by omega⟩
  · refine ⟨some ⟨g, 0, none⟩, cap, rfl, h2, h1, fun _ => ⟨g, rfl, ?_, ?_⟩⟩
    · rcases Nat.lt_or_ge g w.heap.size with h5 | h5
      · exact h5
      · rw [Array.getElem?_eq_none h5] at hg; cases hg
    · intro j u hu
      have hj : j < xs.length := (List.getElem?_eq_some_iff.1 hu).1
      rw [h.cellAt j (by have := h.1; omega), hu]

theorem size_u8 : (Try.prog.info? 5).map (·.size) = some 1 := by kernel_rfl

theorem cellsOf_one (zs : List Nat) : ∀ u ∈ cellsOf zs, u.oneCell' = true := by
  intro u hu
  simp [cellsOf] at hu
  obtain ⟨z, _, rfl⟩ := hu
  rfl

theorem splice_all {α : Type} (L cs : List α) (h : L.length = cs.length) : splice L 0 cs = cs := by
  simp [splice, ← h]

set_option maxHeartbeats 800000 in
theorem wBytes (b : Nat) (v : Value) (l : List Bool) (zs : List Nat) (w : World) (hl : l.length ≤ 1000000) (h : WrIs w b v l zs) :
    Calls Try.prog 18 #[.pointer (some ⟨b, 0, none⟩)] w fun e w' => ∃ g, e = .returned (.slice (some ⟨g, 0, none⟩) zs.length zs.length) ∧ w'.ownsRow w.heap.size 5 1 (.slice (some ⟨g, 0, none⟩) zs.length zs.length) zs.length (cellsOf zs) ∧ Below w.heap.size w w' := by
  obtain ⟨i0, hi, hz0, hz1, hz2⟩ := info_parts info_u8
  obtain ⟨ao, cap, rfl, hc1, hc2, hc3⟩ := own_shape h.own
  unfold maxLen at hc1
  have hzl := h.packs.length
  have h0 := h.c0
  have hlt := h.lt
  obtain ⟨n, hn⟩ : ∃ n, n = zs.length := ⟨_, rfl⟩
  rw [← hn] at h0 hc2 hc3 hzl ⊢
  have hn1 : n ≤ 1000000 := by omega
  have HN := Lib.hid hn
  have HC := Lib.hid hc3
  clear hn hc3 hzl h
  go_enter Try.func18, Try.ntmps18
  go_wp2_with (at_make; refine wpList_make_full _ rfl _ _ 43 rfl w.heap.size 5 i0 (.int .u8 0) 1 und_bytes hi hz0 hz1 .i64 .i64 _ _ n rfl rfl rfl rfl ?m1 ?m2 ?m3 ?_)
  case m1 => rw [hz2]; omega
  case m2 => unfold maxLen; omega
  case m3 => exact Nat.le_refl _
  intro w1 hown1 hgrow1
  have hb1 : Below w.heap.size w w1 := (Below.refl _ _).grown hgrow1 (Nat.le_refl _) (fun k h => by cases h)
  have h01 : w1.cell? ⟨b, 0, none⟩ = some (.slice ao n cap) := (hb1.cell (p := ⟨b, 0, none⟩) hlt).trans h0
  obtain ⟨cur, hcur, hcs⟩ : ∃ cur : List Value, w1.heap[w.heap.size]? = some (.cells cur.toArray 5 (0, 0)) ∧ cur.length = n := by
    rcases hown1.2 with ⟨h', _⟩ | ⟨g', cap', cur, h', _, hg, _, _, hs, _⟩
    · simp at h'
    · simp only [Value.slice.injEq, Option.some.injEq, Addr.mk.injEq, and_true, true_and] at h'
      obtain ⟨rfl, rfl⟩ := h'
      exact ⟨cur.toList, by simpa using hg, by simpa using hs⟩
  have HCUR := Lib.hid hcur
  have HCS := Lib.hid hcs
  have HB1 := Lib.hid hb1
  clear hown1 hgrow1 h0 hcur hcs hb1
  go_wp2_with (with_reducible refine wpList_copy_splice rfl (.tmp 10) (.tmp 14) 43 43 rfl 5 und_bytes size_u8 _ _ _ _ _ _ rfl rfl w.heap.size 0 cur 5 HCUR.out (cellsOf zs) ?k1 ?k2 ?k3 (cellsOf_one zs) w.heap.size w HB1.out (Nat.le_refl _) ?_)
  case k1 => rw [cellsOf_length, ← HN.out]; exact (Nat.min_self n).symm
  case k2 =>
    intro hp
    rw [cellsOf_length, ← HN.out] at hp
    obtain ⟨g, rfl, hg1, hg2⟩ := HC.out hp
    refine ⟨_, rfl, fun j u hu => ?_⟩
    have e : (⟨g, 0, none⟩ : Addr).add j = ⟨g, j, none⟩ := by simp [Addr.add]; omega
    rw [e, HB1.out.cell (p := ⟨g, j, none⟩) hg1]
    exact hg2 j u hu
  case k3 => rw [cellsOf_length, ← HN.out, HCS.out]; omega
  intro w2 HR hb2
  go_wp2
  go_ret
  refine ⟨w.heap.size, rfl, ?_, hb2⟩
  have hr := HR.out
  rw [splice_all _ _ (by rw [HCS.out, cellsOf_length, HN.out])] at hr
  refine ⟨by rw [cellsOf_length, ← HN.out]; omega, Or.inr ⟨w.heap.size, n, _, rfl, Nat.le_refl _, hr, Nat.le_refl _, by unfold maxLen; omega, ?_, ?_⟩⟩
  · simp [cellsOf_length, HN.out]
  · rw [Nat.mul_one, HN.out, ← cellsOf_length, List.take_length]
end Go.Proofs.Ytefbakhhlonafaa
end

section
namespace Go.Proofs.Ytefbakhhlonafaa
open Go.RowKit Go.Proofs Go.Proofs.PipeM Go.Proofs.PipeA

/-- A reader at a block, upon bytes, that has taken p bits. -/
structure RdIs (w : World) (b : Nat) (ao : Option Addr) (cap : Nat) (zs : List Nat) (p : Nat) (err : Int) : Prop where
  lt : b < w.heap.size
  c0 : w.cell? ⟨b, 0, none⟩ = some (.slice ao zs.length cap)
  c1 : w.cell? ⟨b, 1, none⟩ = some (.int .i64 p)
  c2 : w.cell? ⟨b, 2, none⟩ = some (.int .i64 err)
  f0 : w.frozen? ⟨b, 0, none⟩ = false
  f1 : w.frozen? ⟨b, 1, none⟩ = false
  f2 : w.frozen? ⟨b, 2, none⟩ = false
  data : BytesAt w ao zs
  apart : 0 < zs.length → ∀ g off, ao = some ⟨g, off, none⟩ → g ≠ b
  small : ∀ z ∈ zs, z < 256
  len : zs.length ≤ 100000000
  le : p ≤ 8 * zs.length

theorem BytesAt.keeps {w w' : World} {bs : List Nat} {ao : Option Addr} {zs : List Nat} (h : BytesAt w ao zs) (hk : Keeps bs w w') (hn : 0 < zs.length → ∀ g off, ao = some ⟨g, off, none⟩ → g ∉ bs) : BytesAt w' ao zs := by
  intro j hj
  obtain ⟨g, off, h1, h2, h3⟩ := h j hj
  exact ⟨g, off, h1, Nat.lt_of_lt_of_le h2 hk.size, by rw [hk.cell (p := ⟨g, off + j, none⟩) h2 (hn (by omega) g off h1), h3]⟩

theorem RdIs.keeps {w w' : World} {bs : List Nat} {b : Nat} {ao : Option Addr} {cap : Nat} {zs : List Nat} {p : Nat} {err : Int} (h : RdIs w b ao cap zs p err) (hk : Keeps bs w w') (hb : b ∉ bs)
    (hn : 0 < zs.length → ∀ g off, ao = some ⟨g, off, none⟩ → g ∉ bs) : RdIs w' b ao cap zs p err where
  lt := Nat.lt_of_lt_of_le h.lt hk.size
  c0 := (hk.cell (p := ⟨b, 0, none⟩) h.lt hb).trans h.c0
  c1 := (hk.cell (p := ⟨b, 1, none⟩) h.lt hb).trans h.c1
  c2 := (hk.cell (p := ⟨b, 2, none⟩) h.lt hb).trans h.c2
  f0 := (hk.frozen (p := ⟨b, 0, none⟩) h.lt hb).trans h.f0
  f1 := (hk.frozen (p := ⟨b, 1, none⟩) h.lt hb).trans h.f1
  f2 := (hk.frozen (p := ⟨b, 2, none⟩) h.lt hb).trans h.f2
  data := h.data.keeps hk hn
  apart := h.apart
  small := h.small
  len := h.len
  le := h.le

/-- What a reader's call leaves: so many bits taken; only the reader's block has turned. -/
def Took (w : World) (b : Nat) (ao : Option Addr) (cap : Nat) (zs : List Nat) (p : Nat) (err : Int) (w' : World) : Prop :=
  RdIs w' b ao cap zs p err ∧ Keeps [b] w w'

theorem keeps_drewN (w : World) (n : Nat) (bs : List Nat) : Keeps bs w (w.drewN n) := ⟨rfl, rfl, rfl, Nat.le_refl _, fun _ _ _ => rfl⟩
theorem RdIs.drewN {w : World} {b : Nat} {ao : Option Addr} {cap : Nat} {zs : List Nat} {p : Nat} {err : Int} (h : RdIs w b ao cap zs p err) (n : Nat) : RdIs (w.drewN n) b ao cap zs p err :=
  h.keeps (keeps_drewN w n []) (by simp) (by simp)

theorem and_one_u8 (z k : Nat) (hz : z < 256) : bits BinOp.and IntKind.u8 ((z : Int) / 2 ^ k) 1 = (((z.testBit k).toNat : Nat) : Int) := by
  have e1 : ((z : Int) / 2 ^ k) = ((z / 2 ^ k : Nat) : Int) := by rw [Int.natCast_ediv, Int.natCast_pow]; rfl
  have h1 : z / 2 ^ k ≤ z := Nat.div_le_self _ _
  rw [e1, Nat.toNat_testBit]
  have := u8_and_nat (z / 2 ^ k) 1 (by omega) (by omega)
  rw [Nat.and_one_is_mod] at this
  exact this

theorem rd_moved {w : World} {b : Nat} {ao : Option Addr} {cap : Nat} {zs : List Nat} {p : Nat} {err : Int} (h : RdIs w b ao cap zs p err) (q m : Nat) (hq : q ≤ 8 * zs.length) :
    Took w b ao cap zs q err ((w.drewN m).setCell ⟨b, 1, none⟩ (.int .i64 (q : Int))) := by
  have hk : Keeps [b] w ((w.drewN m).setCell ⟨b, 1, none⟩ (.int .i64 (q : Int))) :=
    ⟨rfl, rfl, rfl, by simp, fun k _ hn => Below.heap_setCell (w.drewN m) _ _ _ (by simp at hn; simp; omega)⟩
  have hc1 : (w.drewN m).cell? ⟨b, 1, none⟩ = some (.int .i64 p) := h.c1
  refine ⟨⟨by simp; exact h.lt, ?_, ?_, ?_, ?_, ?_, ?_, h.data.keeps hk (fun h0 g off hg => by have := h.apart h0 g off hg; simp; exact this), h.apart, h.small, h.len, hq⟩, hk⟩
  · simp [World.cell?_setCell_other, h.c0]
  · rw [World.cell?_setCell_same _ _ _ hc1]
  · simp [World.cell?_setCell_other, h.c2]
  · simp [h.f0]
  · simp [h.f1]
  · simp [h.f2]

/-- The next n bits of bytes. -/
def bitsAt (zs : List Nat) (p n : Nat) : List Bool := ((bitsOf zs).drop p).take n

theorem bitsAt_length (zs : List Nat) (p n : Nat) (h : p + n ≤ 8 * zs.length) : (bitsAt zs p n).length = n := by
  simp [bitsAt, bitsOf_length]; omega

theorem bitsAt_succ (zs : List Nat) (p n : Nat) (h : p + n < 8 * zs.length) : bitsAt zs p (n + 1) = bitsAt zs p n ++ [(zs.getD ((p + n) / 8) 0).testBit (7 - (p + n) % 8)] := by
  have hl : n < ((bitsOf zs).drop p).length := by simp [bitsOf_length]; omega
  unfold bitsAt
  rw [List.take_succ_eq_append_getElem hl]
  have := bitsOf_get zs (p + n) h
  rw [List.getElem_drop]
  rw [List.getElem?_eq_getElem (by rw [bitsOf_length]; exact h)] at this
  simp only [Option.some.injEq] at this
  rw [this]

theorem num_bitsAt_lt (zs : List Nat) (p n : Nat) (hn : n ≤ 48) : num (bitsAt zs p n) < 281474976710656 := by
  refine Nat.lt_of_lt_of_le (num_lt _) ?_
  have h : (bitsAt zs p n).length ≤ 48 := by simp [bitsAt]; omega
  exact Nat.le_trans (Nat.pow_le_pow_right (by decide) h) (by decide)

theorem or_bit (x : Nat) (bit : Bool) (hx : x < 281474976710656) : bits BinOp.or IntKind.u64 ((x : Int) * 2) (IntKind.u64.wrap ((bit.toNat : Nat) : Int)) = ((2 * x + bit.toNat : Nat) : Int) := by
  have hb := Bool.toNat_le bit
  have e1 : IntKind.u64.wrap ((bit.toNat : Nat) : Int) = ((bit.toNat : Nat) : Int) := by
    rw [wrap_u64]; omega
  have e2 : ((x : Int) * 2) = ((2 * x : Nat) : Int) := by omega
  rw [e1, e2, bits_or_u64_nat _ _ (by omega) (by omega)]
  have e3 : (2 * x) ||| bit.toNat = 2 * x + bit.toNat := by
    have := Nat.two_pow_add_eq_or_of_lt (i := 1) (b := bit.toNat) (by omega) x
    simpa using this.symm
  rw [e3]

/-- How a reader that didn't fail ends. -/
def endFew (zs : List Nat) (p : Nat) : Int := if num (bitsAt zs p (8 * zs.length - p)) = 0 then 0 else 5
def endOf (zs : List Nat) (p : Nat) : Int := if 8 ≤ 8 * zs.length - p then 4 else endFew zs p

end Go.Proofs.Ytefbakhhlonafaa
end

section
namespace Go.Proofs.Ytefbakhhlonafaa
open Go.RowKit Go.Proofs Go.Proofs.PipeM Go.Proofs.PipeA

/-- Bit q of bytes. -/
def bitAt (zs : List Nat) (q : Nat) : Bool := (zs.getD (q / 8) 0).testBit (7 - q % 8)

/-- A number of n bits in two's complement. -/
def sgn (v n : Nat) : Int := if 2 ^ (n - 1) ≤ v then (v : Int) - 2 ^ n else v

end Go.Proofs.Ytefbakhhlonafaa
end

section
namespace Go.Proofs.Ytefbakhhlonafaa
open Go.RowKit Go.Proofs Go.Proofs.PipeM Go.Proofs.PipeA

/-- A reader as the document has it: the bits that are left; what it failed with (then it has none). -/
structure RS where
  bits : List Bool
  err : Int

def RS.give (s : RS) (e : Int) : RS := if e = 0 ∨ s.err ≠ 0 then s else ⟨[], e⟩

/-- A reader in memory, upon bytes that lie at ao. -/
def RdA (w : World) (b : Nat) (ao : Option Addr) (s : RS) : Prop :=
  ∃ ao' cap zs p, RdIs w b ao' cap zs p s.err ∧ s.bits = (bitsOf zs).drop p ∧ (0 < zs.length → ao' = ao) ∧ (s.err ≠ 0 → zs = [])

theorem RdA.lt {w : World} {b : Nat} {ao : Option Addr} {s : RS} (h : RdA w b ao s) : b < w.heap.size := by
  obtain ⟨_, _, _, _, h, _⟩ := h; exact h.lt

theorem RdA.len {w : World} {b : Nat} {ao : Option Addr} {s : RS} (h : RdA w b ao s) : s.bits.length ≤ 800000000 := by
  obtain ⟨_, _, zs, p, h, hb, _⟩ := h
  rw [hb]; have := h.len; simp [bitsOf_length]; omega

theorem RdA.spent {w : World} {b : Nat} {ao : Option Addr} {s : RS} (h : RdA w b ao s) (he : s.err ≠ 0) : s.bits = [] := by
  obtain ⟨_, _, zs, p, _, hb, _, hz⟩ := h
  rw [hb, hz he]; simp [bitsOf]

theorem RdA.keeps {w w' : World} {bs : List Nat} {b : Nat} {ao : Option Addr} {s : RS} (h : RdA w b ao s) (hk : Keeps bs w w') (hb : b ∉ bs)
    (hn : ∀ g off, ao = some ⟨g, off, none⟩ → g ∉ bs) : RdA w' b ao s := by
  obtain ⟨ao', cap, zs, p, h1, h2, h3, h4⟩ := h
  exact ⟨ao', cap, zs, p, h1.keeps hk hb (fun h0 g off hg => hn g off ((h3 h0).symm.trans hg)), h2, h3, h4⟩

/-- What a call of a reader leaves. -/
def Reads (w : World) (b : Nat) (ao : Option Addr) (s : RS) (w' : World) : Prop := RdA w' b ao s ∧ Keeps [b] w w'

theorem Reads.refl {w : World} {b : Nat} {ao : Option Addr} {s : RS} (h : RdA w b ao s) : Reads w b ao s w := ⟨h, Keeps.refl _ _⟩
theorem Reads.next {w w1 w2 : World} {b : Nat} {ao : Option Addr} {s s' : RS} (h : Reads w b ao s w1) (h2 : Reads w1 b ao s' w2) : Reads w b ao s' w2 := ⟨h2.1, h.2.trans h2.2⟩

theorem reads_took {w w' : World} {b : Nat} {ao ao' : Option Addr} {cap : Nat} {zs : List Nat} {p : Nat} {s : RS} (h : Took w b ao' cap zs p s.err w') (hb : s.bits = (bitsOf zs).drop p) (ha : 0 < zs.length → ao' = ao) (hz : s.err ≠ 0 → zs = []) : Reads w b ao s w' :=
  ⟨⟨ao', cap, zs, p, h.1, hb, ha, hz⟩, h.2⟩

/-- A reader that lets go of its bits. -/
theorem rd_failed {w : World} {b : Nat} {ao : Option Addr} {cap : Nat} {zs : List Nat} {p : Nat} {err : Int} (h : RdIs w b ao cap zs p err) (e : Int) :
    Took w b none 0 [] 0 e (((w.setCell ⟨b, 0, none⟩ (.slice none 0 0)).setCell ⟨b, 1, none⟩ (.int .i64 0)).setCell ⟨b, 2, none⟩ (.int .i64 e)) := by
  have k0 : (w.setCell ⟨b, 0, none⟩ (.slice none 0 0)).cell? ⟨b, 0, none⟩ = some (.slice none 0 0) := World.cell?_setCell_same _ _ _ h.c0
  have k1 : (w.setCell ⟨b, 0, none⟩ (.slice none 0 0)).cell? ⟨b, 1, none⟩ = some (.int .i64 p) := by simp [World.cell?_setCell_other, h.c1]
  have k2 : (w.setCell ⟨b, 0, none⟩ (.slice none 0 0)).cell? ⟨b, 2, none⟩ = some (.int .i64 err) := by simp [World.cell?_setCell_other, h.c2]
  have m0 : ((w.setCell ⟨b, 0, none⟩ (.slice none 0 0)).setCell ⟨b, 1, none⟩ (.int .i64 0)).cell? ⟨b, 0, none⟩ = some (.slice none 0 0) := by simp [World.cell?_setCell_other, k0]
  have m1 : ((w.setCell ⟨b, 0, none⟩ (.slice none 0 0)).setCell ⟨b, 1, none⟩ (.int .i64 0)).cell? ⟨b, 1, none⟩ = some (.int .i64 0) := World.cell?_setCell_same _ _ _ k1
  have m2 : ((w.setCell ⟨b, 0, none⟩ (.slice none 0 0)).setCell ⟨b, 1, none⟩ (.int .i64 0)).cell? ⟨b, 2, none⟩ = some (.int .i64 err) := by simp [World.cell?_setCell_other, k2]
  refine ⟨⟨by simp; exact h.lt, ?_, ?_, ?_, by simp [h.f0], by simp [h.f1], by simp [h.f2], fun j hj => by simp at hj, fun h0 => by simp at h0, fun z hz => by simp at hz, by simp, by simp⟩, ?_⟩
  · simpa [World.cell?_setCell_other] using m0
  · simpa [World.cell?_setCell_other] using m1
  · exact World.cell?_setCell_same _ _ _ m2
  · refine ⟨rfl, rfl, rfl, by simp, fun k _ hn => ?_⟩
    simp at hn
    rw [Below.heap_setCell _ _ _ _ (by simp; omega), Below.heap_setCell _ _ _ _ (by simp; omega), Below.heap_setCell _ _ _ _ (by simp; omega)]

theorem RdA.drewN {w : World} {b : Nat} {ao : Option Addr} {s : RS} (h : RdA w b ao s) (n : Nat) : RdA (w.drewN n) b ao s :=
  h.keeps (keeps_drewN w n []) (by simp) (by simp)

/-- Take: what it answers, and what it leaves. -/
def RS.takeOk (s : RS) (n : Int) : Prop := 0 ≤ n ∧ n ≤ 48 ∧ n ≤ s.bits.length
def RS.takeV (s : RS) (n : Int) : Nat := if 0 ≤ n ∧ n ≤ 48 ∧ n ≤ s.bits.length then num (s.bits.take n.toNat) else 0
def RS.takeS (s : RS) (n : Int) : RS :=
  if n < 0 ∨ 48 < n then s.give 1 else if (s.bits.length : Int) < n then s.give 3 else ⟨s.bits.drop n.toNat, s.err⟩

end Go.Proofs.Ytefbakhhlonafaa
end

section
namespace Go.Proofs.Ytefbakhhlonafaa
open Go.RowKit Go.Proofs Go.Proofs.PipeM Go.Proofs.PipeA

theorem takeV_lt (s : RS) (n : Int) : s.takeV n < 281474976710656 := by
  unfold RS.takeV
  split
  · refine Nat.lt_of_lt_of_le (num_lt _) ?_
    have h : (s.bits.take n.toNat).length ≤ 48 := by rw [List.length_take]; omega
    exact Nat.le_trans (Nat.pow_le_pow_right (by decide) h) (by decide)
  · omega

def RS.signedV (s : RS) (n : Int) : Int := if n < 1 ∨ 48 < n then 0 else sgn (s.takeV n) n.toNat
def RS.signedS (s : RS) (n : Int) : RS := if n < 1 ∨ 48 < n then s.give 1 else s.takeS n

/-- Zeros: how many, and what is left. -/
def zgo (most err : Int) : List Bool → Nat → Nat × RS
  | [], _ => (0, RS.give ⟨[], err⟩ 3)
  | true :: r, c => (c, ⟨r, err⟩)
  | false :: r, c => if most ≤ c then (0, RS.give ⟨r, err⟩ 1) else zgo most err r (c + 1)

end Go.Proofs.Ytefbakhhlonafaa
end

section
namespace Go.Proofs.Ytefbakhhlonafaa
open Go.RowKit Go.Proofs Go.Proofs.PipeM Go.Proofs.PipeA

/-- Align: so many bits are taken, if all are 0. -/
def ago (err : Int) : Nat → List Bool → RS
  | 0, l => ⟨l, err⟩
  | _ + 1, [] => ⟨[], err⟩
  | _ + 1, true :: r => RS.give ⟨r, err⟩ 5
  | k + 1, false :: r => ago err k r
def RS.align (s : RS) : RS := ago s.err (s.bits.length % 8) s.bits

/-- The cell that tells how many bits were taken. -/
theorem RdA.at {w : World} {b : Nat} {ao : Option Addr} {s : RS} (h : RdA w b ao s) : ∃ p : Nat, w.cell? ⟨b, 1, none⟩ = some (.int .i64 p) ∧ (p + s.bits.length) % 8 = 0 ∧ p ≤ 800000000 := by
  obtain ⟨ao', cap, zs, p, h1, h2, h3, h4⟩ := h
  have e : s.bits.length = 8 * zs.length - p := by rw [h2]; simp [bitsOf_length]
  have := h1.le
  have := h1.len
  exact ⟨p, h1.c1, by omega, by omega⟩

/-- How a reader ended. -/
def RS.endv (s : RS) : Int := if s.err ≠ 0 then s.err else if 8 ≤ s.bits.length then 4 else if num s.bits = 0 then 0 else 5

end Go.Proofs.Ytefbakhhlonafaa
end

section
namespace Go.Proofs.Ytefbakhhlonafaa
open Go.RowKit Go.Proofs Go.Proofs.PipeM Go.Proofs.PipeA

/-- The document's reader. -/
structure MR where
  bits : List Bool
  all : Int
  fail : Int

def MR.val (m : MR) : Value := .agg #[.string (str m.bits), .int .i64 m.all, .int .i64 m.fail]
def MR.give (m : MR) (e : Int) : MR := if m.fail = 0 then ⟨m.bits, m.all, e⟩ else m

theorem below2 (w : World) (o1 o2 : Obj) : Below w.heap.size w ((w.alloc o1).alloc o2) := ((Below.refl _ _).alloc (Nat.le_refl _) _).alloc (by simp) _

/-- Cells and marks of the two blocks that such a call lays first. -/
theorem two_cells {w w1 : World} {v0 v1 v2 u0 u1 u2 : Value} {t : TypeId} (hb : Below ((w.alloc (.cells #[v0, v1, v2] t)).alloc (.cells #[u0, u1, u2] t)).heap.size ((w.alloc (.cells #[v0, v1, v2] t)).alloc (.cells #[u0, u1, u2] t)) w1) :
    (w1.cell? ⟨w.heap.size, 0, none⟩ = some v0 ∧ w1.cell? ⟨w.heap.size, 1, none⟩ = some v1 ∧ w1.cell? ⟨w.heap.size, 2, none⟩ = some v2) ∧
    (w1.cell? ⟨w.heap.size + 1, 0, none⟩ = some u0 ∧ w1.cell? ⟨w.heap.size + 1, 1, none⟩ = some u1 ∧ w1.cell? ⟨w.heap.size + 1, 2, none⟩ = some u2) ∧
    (w1.frozen? ⟨w.heap.size, 0, none⟩ = false ∧ w1.frozen? ⟨w.heap.size, 1, none⟩ = false ∧ w1.frozen? ⟨w.heap.size, 2, none⟩ = false) ∧
    (w1.frozen? ⟨w.heap.size + 1, 0, none⟩ = false ∧ w1.frozen? ⟨w.heap.size + 1, 1, none⟩ = false ∧ w1.frozen? ⟨w.heap.size + 1, 2, none⟩ = false) := by
  refine ⟨⟨?_, ?_, ?_⟩, ⟨?_, ?_, ?_⟩, ⟨?_, ?_, ?_⟩, ⟨?_, ?_, ?_⟩⟩
  all_goals first
    | (rw [hb.cell (by simp; try omega)]; simp)
    | (rw [hb.frozen (by simp; try omega)]; simp)

/-- Take, of the document's reader. -/
def MR.take (m : MR) (n : Int) : MR × Nat :=
  if n < 0 ∨ 48 < n then (m.give 1, 0)
  else if (m.bits.length : Int) < n then (m.give 3, 0)
  else if m.fail ≠ 0 then (m, 0)
  else (⟨m.bits.drop n.toNat, m.all, m.fail⟩, num (m.bits.take n.toNat))

/-- A reader, and a number. -/
def MRes (m : MR) (v : Int) (w : World) (r : Ending) (w' : World) : Prop := r = .returned (.tuple #[m.val, .int .i64 v]) ∧ Below w.heap.size w w'

theorem below_set3 {w w1 : World} (hb : Below w.heap.size w w1) (b : Nat) (hB : w.heap.size ≤ b) (v0 v1 v2 : Value) :
    Below w.heap.size w (((w1.setCell ⟨b, 0, none⟩ v0).setCell ⟨b, 1, none⟩ v1).setCell ⟨b, 2, none⟩ v2) :=
  ((hb.setCell (p := ⟨b, 0, none⟩) hB v0).setCell (p := ⟨b, 1, none⟩) hB v1).setCell (p := ⟨b, 2, none⟩) hB v2

theorem set3_cells {w : World} {b : Nat} {u0 u1 u2 : Value} (h0 : w.cell? ⟨b, 0, none⟩ = some u0) (h1 : w.cell? ⟨b, 1, none⟩ = some u1) (h2 : w.cell? ⟨b, 2, none⟩ = some u2) (v0 v1 v2 : Value) :
    (((w.setCell ⟨b, 0, none⟩ v0).setCell ⟨b, 1, none⟩ v1).setCell ⟨b, 2, none⟩ v2).cell? ⟨b, 0, none⟩ = some v0 ∧
    (((w.setCell ⟨b, 0, none⟩ v0).setCell ⟨b, 1, none⟩ v1).setCell ⟨b, 2, none⟩ v2).cell? ⟨b, 1, none⟩ = some v1 ∧
    (((w.setCell ⟨b, 0, none⟩ v0).setCell ⟨b, 1, none⟩ v1).setCell ⟨b, 2, none⟩ v2).cell? ⟨b, 2, none⟩ = some v2 := by
  have k0 : (w.setCell ⟨b, 0, none⟩ v0).cell? ⟨b, 0, none⟩ = some v0 := World.cell?_setCell_same _ _ _ h0
  have k1 : (w.setCell ⟨b, 0, none⟩ v0).cell? ⟨b, 1, none⟩ = some u1 := by simp [World.cell?_setCell_other, h1]
  have k2 : (w.setCell ⟨b, 0, none⟩ v0).cell? ⟨b, 2, none⟩ = some u2 := by simp [World.cell?_setCell_other, h2]
  have m0 : ((w.setCell ⟨b, 0, none⟩ v0).setCell ⟨b, 1, none⟩ v1).cell? ⟨b, 0, none⟩ = some v0 := by simp [World.cell?_setCell_other, k0]
  have m1 : ((w.setCell ⟨b, 0, none⟩ v0).setCell ⟨b, 1, none⟩ v1).cell? ⟨b, 1, none⟩ = some v1 := World.cell?_setCell_same _ _ _ k1
  have m2 : ((w.setCell ⟨b, 0, none⟩ v0).setCell ⟨b, 1, none⟩ v1).cell? ⟨b, 2, none⟩ = some u2 := by simp [World.cell?_setCell_other, k2]
  refine ⟨?_, ?_, World.cell?_setCell_same _ _ _ m2⟩
  · simpa [World.cell?_setCell_other] using m0
  · simpa [World.cell?_setCell_other] using m1

theorem give_fail (m : MR) (e : Int) (he : e ≠ 0) : (m.give e).fail ≠ 0 := by
  unfold MR.give
  split
  · exact he
  · assumption

end Go.Proofs.Ytefbakhhlonafaa
end
