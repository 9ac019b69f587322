import Derived.Test.YtefbakhhlonafaaWriter2
import Derived.Deep.LoopGhost
import Derived.Laws.CopyOwn

section
namespace Go.Proofs.Ytefbakhhlonafaa
open Go.RowKit Go.Proofs Go.Proofs.PipeM Go.Proofs.PipeA

theorem own_shape {w : World} {base n : Nat} {e : TypeId} {xs : List Value} {v : Value} (h : w.ownsRow base e 1 v n xs) :
    ∃ ao cap, v = .slice ao n cap ∧ cap ≤ maxLen ∧ n ≤ cap ∧ (0 < n → ∃ g, ao = some ⟨g, 0, none⟩ ∧ g < w.heap.size ∧ ∀ j u, xs[j]? = some u → w.cell? ⟨g, j, none⟩ = some u) := by
  rcases h.2 with ⟨rfl, rfl⟩ | ⟨g, cap, cur, rfl, hb, hg, h1, h2, h3, h4⟩
  · exact ⟨none, 0, rfl, by unfold maxLen; omega, Nat.le_refl _, fun h => by omega⟩
  · refine ⟨some ⟨g, 0, none⟩, cap, rfl, h2, h1, fun _ => ⟨g, rfl, ?_, ?_⟩⟩
    · rcases Nat.lt_or_ge g w.heap.size with h5 | h5
      · exact h5
      · rw [Array.getElem?_eq_none h5] at hg; cases hg
    · intro j u hu
      have hj : j < xs.length := (List.getElem?_eq_some_iff.1 hu).1
      rw [h.cellAt j (by have := h.1; omega), hu]

theorem size_u8 : (Try.prog.info? 5).map (·.size) = some 1 := by kernel_rfl

theorem cellsOf_one (zs : List Nat) : ∀ u ∈ cellsOf zs, u.oneCell' = true := by
  intro u hu
  simp [cellsOf] at hu
  obtain ⟨z, _, rfl⟩ := hu
  rfl

theorem splice_all {α : Type} (L cs : List α) (h : L.length = cs.length) : splice L 0 cs = cs := by
  simp [splice, ← h]

set_option maxHeartbeats 800000 in
theorem wBytes (b : Nat) (v : Value) (l : List Bool) (zs : List Nat) (w : World) (hl : l.length ≤ 1000000) (h : WrIs w b v l zs) :
    Calls Try.prog 18 #[.pointer (some ⟨b, 0, none⟩)] w fun e w' => ∃ g, e = .returned (.slice (some ⟨g, 0, none⟩) zs.length zs.length) ∧ w'.ownsRow w.heap.size 5 1 (.slice (some ⟨g, 0, none⟩) zs.length zs.length) zs.length (cellsOf zs) ∧ Below w.heap.size w w' := by
  obtain ⟨i0, hi, hz0, hz1, hz2⟩ := info_parts info_u8
  obtain ⟨ao, cap, rfl, hc1, hc2, hc3⟩ := own_shape h.own
  unfold maxLen at hc1
  have hzl := h.packs.length
  have h0 := h.c0
  have hlt := h.lt
  obtain ⟨n, hn⟩ : ∃ n, n = zs.length := ⟨_, rfl⟩
  rw [← hn] at h0 hc2 hc3 hzl ⊢
  have hn1 : n ≤ 1000000 := by omega
  have HN := Lib.hid hn
  have HC := Lib.hid hc3
  clear hn hc3 hzl h
  go_enter Try.func18, Try.ntmps18
  go_wp2_with (at_make; refine wpList_make_full _ rfl _ _ 43 rfl w.heap.size 5 i0 (.int .u8 0) 1 und_bytes hi hz0 hz1 .i64 .i64 _ _ n rfl rfl rfl rfl ?m1 ?m2 ?m3 ?_)
  case m1 => rw [hz2]; omega
  case m2 => unfold maxLen; omega
  case m3 => exact Nat.le_refl _
  intro w1 hown1 hgrow1
  have hb1 : Below w.heap.size w w1 := (Below.refl _ _).grown hgrow1 (Nat.le_refl _) (fun k h => by cases h)
  have h01 : w1.cell? ⟨b, 0, none⟩ = some (.slice ao n cap) := (hb1.cell (p := ⟨b, 0, none⟩) hlt).trans h0
  obtain ⟨cur, hcur, hcs⟩ : ∃ cur : List Value, w1.heap[w.heap.size]? = some (.cells cur.toArray 5 (0, 0)) ∧ cur.length = n := by
    rcases hown1.2 with ⟨h', _⟩ | ⟨g', cap', cur, h', _, hg, _, _, hs, _⟩
    · simp at h'
    · simp only [Value.slice.injEq, Option.some.injEq, Addr.mk.injEq, and_true, true_and] at h'
      obtain ⟨rfl, rfl⟩ := h'
      exact ⟨cur.toList, by simpa using hg, by simpa using hs⟩
  have HCUR := Lib.hid hcur
  have HCS := Lib.hid hcs
  have HB1 := Lib.hid hb1
  clear hown1 hgrow1 h0 hcur hcs hb1
  go_wp2_with (with_reducible refine wpList_copy_splice rfl (.tmp 10) (.tmp 14) 43 43 rfl 5 und_bytes size_u8 _ _ _ _ _ _ rfl rfl w.heap.size 0 cur 5 HCUR.out (cellsOf zs) ?k1 ?k2 ?k3 (cellsOf_one zs) w.heap.size w HB1.out (Nat.le_refl _) ?_)
  case k1 => rw [cellsOf_length, ← HN.out]; exact (Nat.min_self n).symm
  case k2 =>
    intro hp
    rw [cellsOf_length, ← HN.out] at hp
    obtain ⟨g, rfl, hg1, hg2⟩ := HC.out hp
    refine ⟨_, rfl, fun j u hu => ?_⟩
    have e : (⟨g, 0, none⟩ : Addr).add j = ⟨g, j, none⟩ := by simp [Addr.add]; omega
    rw [e, HB1.out.cell (p := ⟨g, j, none⟩) hg1]
    exact hg2 j u hu
  case k3 => rw [cellsOf_length, ← HN.out, HCS.out]; omega
  intro w2 HR hb2
  go_wp2
  go_ret
  refine ⟨w.heap.size, rfl, ?_, hb2⟩
  have hr := HR.out
  rw [splice_all _ _ (by rw [HCS.out, cellsOf_length, HN.out])] at hr
  refine ⟨by rw [cellsOf_length, ← HN.out]; omega, Or.inr ⟨w.heap.size, n, _, rfl, Nat.le_refl _, hr, Nat.le_refl _, by unfold maxLen; omega, ?_, ?_⟩⟩
  · simp [cellsOf_length, HN.out]
  · rw [Nat.mul_one, HN.out, ← cellsOf_length, List.take_length]
end Go.Proofs.Ytefbakhhlonafaa
end

section
namespace Go.Proofs.Ytefbakhhlonafaa
open Go.RowKit Go.Proofs Go.Proofs.PipeM Go.Proofs.PipeA

/-- A reader at a block, upon bytes, that has taken p bits. -/
structure RdIs (w : World) (b : Nat) (ao : Option Addr) (cap : Nat) (zs : List Nat) (p : Nat) (err : Int) : Prop where
  lt : b < w.heap.size
  c0 : w.cell? ⟨b, 0, none⟩ = some (.slice ao zs.length cap)
  c1 : w.cell? ⟨b, 1, none⟩ = some (.int .i64 p)
  c2 : w.cell? ⟨b, 2, none⟩ = some (.int .i64 err)
  f0 : w.frozen? ⟨b, 0, none⟩ = false
  f1 : w.frozen? ⟨b, 1, none⟩ = false
  f2 : w.frozen? ⟨b, 2, none⟩ = false
  data : BytesAt w ao zs
  apart : 0 < zs.length → ∀ g off, ao = some ⟨g, off, none⟩ → g ≠ b
  small : ∀ z ∈ zs, z < 256
  len : zs.length ≤ 100000000
  le : p ≤ 8 * zs.length

theorem BytesAt.keeps {w w' : World} {bs : List Nat} {ao : Option Addr} {zs : List Nat} (h : BytesAt w ao zs) (hk : Keeps bs w w') (hn : 0 < zs.length → ∀ g off, ao = some ⟨g, off, none⟩ → g ∉ bs) : BytesAt w' ao zs := by
  intro j hj
  obtain ⟨g, off, h1, h2, h3⟩ := h j hj
  exact ⟨g, off, h1, Nat.lt_of_lt_of_le h2 hk.size, by rw [hk.cell (p := ⟨g, off + j, none⟩) h2 (hn (by omega) g off h1), h3]⟩

theorem RdIs.keeps {w w' : World} {bs : List Nat} {b : Nat} {ao : Option Addr} {cap : Nat} {zs : List Nat} {p : Nat} {err : Int} (h : RdIs w b ao cap zs p err) (hk : Keeps bs w w') (hb : b ∉ bs)
    (hn : 0 < zs.length → ∀ g off, ao = some ⟨g, off, none⟩ → g ∉ bs) : RdIs w' b ao cap zs p err where
  lt := Nat.lt_of_lt_of_le h.lt hk.size
  c0 := (hk.cell (p := ⟨b, 0, none⟩) h.lt hb).trans h.c0
  c1 := (hk.cell (p := ⟨b, 1, none⟩) h.lt hb).trans h.c1
  c2 := (hk.cell (p := ⟨b, 2, none⟩) h.lt hb).trans h.c2
  f0 := (hk.frozen (p := ⟨b, 0, none⟩) h.lt hb).trans h.f0
  f1 := (hk.frozen (p := ⟨b, 1, none⟩) h.lt hb).trans h.f1
  f2 := (hk.frozen (p := ⟨b, 2, none⟩) h.lt hb).trans h.f2
  data := h.data.keeps hk hn
  apart := h.apart
  small := h.small
  len := h.len
  le := h.le

theorem keeps_drewN (w : World) (n : Nat) (bs : List Nat) : Keeps bs w (w.drewN n) := ⟨rfl, rfl, rfl, Nat.le_refl _, fun _ _ _ => rfl⟩
theorem RdIs.drewN {w : World} {b : Nat} {ao : Option Addr} {cap : Nat} {zs : List Nat} {p : Nat} {err : Int} (h : RdIs w b ao cap zs p err) (n : Nat) : RdIs (w.drewN n) b ao cap zs p err :=
  h.keeps (keeps_drewN w n []) (by simp) (by simp)

end Go.Proofs.Ytefbakhhlonafaa
end

section
namespace Go.Proofs.Ytefbakhhlonafaa
open Go.RowKit Go.Proofs Go.Proofs.PipeM Go.Proofs.PipeA

end Go.Proofs.Ytefbakhhlonafaa
end

section
namespace Go.Proofs.Ytefbakhhlonafaa
open Go.RowKit Go.Proofs Go.Proofs.PipeM Go.Proofs.PipeA

/-- A reader as the document has it: the bits that are left; what it failed with (then it has none). -/
structure RS where
  bits : List Bool
  err : Int

def RS.give (s : RS) (e : Int) : RS := if e = 0 ∨ s.err ≠ 0 then s else ⟨[], e⟩

/-- A reader in memory, upon bytes that lie at ao. -/
def RdA (w : World) (b : Nat) (ao : Option Addr) (s : RS) : Prop :=
  ∃ ao' cap zs p, RdIs w b ao' cap zs p s.err ∧ s.bits = (bitsOf zs).drop p ∧ (0 < zs.length → ao' = ao) ∧ (s.err ≠ 0 → zs = [])

theorem RdA.lt {w : World} {b : Nat} {ao : Option Addr} {s : RS} (h : RdA w b ao s) : b < w.heap.size := by
  obtain ⟨_, _, _, _, h, _⟩ := h; exact h.lt

theorem RdA.len {w : World} {b : Nat} {ao : Option Addr} {s : RS} (h : RdA w b ao s) : s.bits.length ≤ 800000000 := by
  obtain ⟨_, _, zs, p, h, hb, _⟩ := h
  rw [hb]; have := h.len; simp [bitsOf_length]; omega

theorem RdA.spent {w : World} {b : Nat} {ao : Option Addr} {s : RS} (h : RdA w b ao s) (he : s.err ≠ 0) : s.bits = [] := by
  obtain ⟨_, _, zs, p, _, hb, _, hz⟩ := h
  rw [hb, hz he]; simp [bitsOf]

theorem RdA.keeps {w w' : World} {bs : List Nat} {b : Nat} {ao : Option Addr} {s : RS} (h : RdA w b ao s) (hk : Keeps bs w w') (hb : b ∉ bs)
    (hn : ∀ g off, ao = some ⟨g, off, none⟩ → g ∉ bs) : RdA w' b ao s := by
  obtain ⟨ao', cap, zs, p, h1, h2, h3, h4⟩ := h
  exact ⟨ao', cap, zs, p, h1.keeps hk hb (fun h0 g off hg => hn g off ((h3 h0).symm.trans hg)), h2, h3, h4⟩

/-- What a call of a reader leaves. -/
def Reads (w : World) (b : Nat) (ao : Option Addr) (s : RS) (w' : World) : Prop := RdA w' b ao s ∧ Keeps [b] w w'

theorem Reads.refl {w : World} {b : Nat} {ao : Option Addr} {s : RS} (h : RdA w b ao s) : Reads w b ao s w := ⟨h, Keeps.refl _ _⟩
theorem Reads.next {w w1 w2 : World} {b : Nat} {ao : Option Addr} {s s' : RS} (h : Reads w b ao s w1) (h2 : Reads w1 b ao s' w2) : Reads w b ao s' w2 := ⟨h2.1, h.2.trans h2.2⟩

theorem RdA.drewN {w : World} {b : Nat} {ao : Option Addr} {s : RS} (h : RdA w b ao s) (n : Nat) : RdA (w.drewN n) b ao s :=
  h.keeps (keeps_drewN w n []) (by simp) (by simp)

def RS.takeV (s : RS) (n : Int) : Nat := if 0 ≤ n ∧ n ≤ 48 ∧ n ≤ s.bits.length then num (s.bits.take n.toNat) else 0
def RS.takeS (s : RS) (n : Int) : RS :=
  if n < 0 ∨ 48 < n then s.give 1 else if (s.bits.length : Int) < n then s.give 3 else ⟨s.bits.drop n.toNat, s.err⟩

end Go.Proofs.Ytefbakhhlonafaa
end
