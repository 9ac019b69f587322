import Derived.Test.YtbbcemgcanclnaaRefReader
import Derived.Lib.Strings
namespace Go.Proofs.Ytbbcemgcanclnaa
open Go.RowKit Go.Proofs Go.Proofs.PipeM Go.Proofs.PipeA

/-- Zeros of the document's reader that hasn't failed. -/
def rgo (most all : Int) : List Bool → Nat → MR × Nat
  | [], _ => (⟨[], all, 3⟩, 0)
  | true :: r, c => (⟨r, all, 0⟩, c)
  | false :: r, c => if most ≤ c then (⟨r, all, 1⟩, 0) else rgo most all r (c + 1)
def MR.run (m : MR) (most : Int) : MR × Nat := if m.fail ≠ 0 then (m, 0) else rgo most m.all m.bits 0

/-- Two blocks of three cells, one behind the other. -/
structure Box2 (w : World) (b : Nat) (v0 v1 v2 u0 u1 u2 : Value) : Prop where
  lt : b + 1 < w.heap.size
  c0 : w.cell? ⟨b, 0, none⟩ = some v0
  c1 : w.cell? ⟨b, 1, none⟩ = some v1
  c2 : w.cell? ⟨b, 2, none⟩ = some v2
  d0 : w.cell? ⟨b + 1, 0, none⟩ = some u0
  d1 : w.cell? ⟨b + 1, 1, none⟩ = some u1
  d2 : w.cell? ⟨b + 1, 2, none⟩ = some u2
  f0 : w.frozen? ⟨b, 0, none⟩ = false
  f1 : w.frozen? ⟨b, 1, none⟩ = false
  f2 : w.frozen? ⟨b, 2, none⟩ = false
  g0 : w.frozen? ⟨b + 1, 0, none⟩ = false
  g1 : w.frozen? ⟨b + 1, 1, none⟩ = false
  g2 : w.frozen? ⟨b + 1, 2, none⟩ = false

theorem Box2.of (w : World) (v0 v1 v2 u0 u1 u2 : Value) (t : TypeId) : Box2 ((w.alloc (.cells #[v0, v1, v2] t)).alloc (.cells #[u0, u1, u2] t)) w.heap.size v0 v1 v2 u0 u1 u2 := by
  obtain ⟨⟨h0, h1, h2⟩, ⟨h3, h4, h5⟩, ⟨h6, h7, h8⟩, h9, h10, h11⟩ := two_cells (w := w) (v0 := v0) (v1 := v1) (v2 := v2) (u0 := u0) (u1 := u1) (u2 := u2) (t := t) (Below.refl _ _)
  exact ⟨by simp, h0, h1, h2, h3, h4, h5, h6, h7, h8, h9, h10, h11⟩

theorem Box2.set {w : World} {b : Nat} {v0 v1 v2 u0 u1 u2 : Value} (h : Box2 w b v0 v1 v2 u0 u1 u2) (v : Value) : Box2 (w.setCell ⟨b, 0, none⟩ v) b v v1 v2 u0 u1 u2 := by
  refine ⟨by simpa using h.lt, World.cell?_setCell_same _ _ _ h.c0, ?_, ?_, ?_, ?_, ?_, ?_, ?_, ?_, ?_, ?_, ?_⟩
  all_goals simp [World.cell?_setCell_other, h.c1, h.c2, h.d0, h.d1, h.d2, h.f0, h.f1, h.f2, h.g0, h.g1, h.g2]

theorem Box2.below {w w' : World} {b : Nat} {v0 v1 v2 u0 u1 u2 : Value} (h : Box2 w b v0 v1 v2 u0 u1 u2) (hb : Below w.heap.size w w') : Box2 w' b v0 v1 v2 u0 u1 u2 := by
  have h1 := h.lt
  have h2 : b < w.heap.size := by omega
  exact ⟨by have := hb.size; omega, (hb.cell (p := ⟨b, 0, none⟩) h2).trans h.c0, (hb.cell (p := ⟨b, 1, none⟩) h2).trans h.c1, (hb.cell (p := ⟨b, 2, none⟩) h2).trans h.c2,
    (hb.cell (p := ⟨b + 1, 0, none⟩) h1).trans h.d0, (hb.cell (p := ⟨b + 1, 1, none⟩) h1).trans h.d1, (hb.cell (p := ⟨b + 1, 2, none⟩) h1).trans h.d2,
    (hb.frozen (p := ⟨b, 0, none⟩) h2).trans h.f0, (hb.frozen (p := ⟨b, 1, none⟩) h2).trans h.f1, (hb.frozen (p := ⟨b, 2, none⟩) h2).trans h.f2,
    (hb.frozen (p := ⟨b + 1, 0, none⟩) h1).trans h.g0, (hb.frozen (p := ⟨b + 1, 1, none⟩) h1).trans h.g1, (hb.frozen (p := ⟨b + 1, 2, none⟩) h1).trans h.g2⟩

theorem str_head (b : Bool) (r : List Bool) (h : 0 < (str (b :: r)).size) : (str (b :: r))[0] = chr b := str_get (b :: r) 0 (by simp) h

set_option maxHeartbeats 800000 in
theorem mOpen (ao : Option Addr) (cap : Nat) (zs : List Nat) (w : World) (hl : zs.length ≤ 100000) (hz : ∀ z ∈ zs, z < 256) (hd : BytesAt w ao zs) :
    Calls Try.prog 17 #[.slice ao zs.length cap] w fun r w' => r = .returned (MR.mk (bitsOf zs) ((8 * zs.length : Nat) : Int) 0).val ∧ Below w.heap.size w w' := by
  have hk : Below w.heap.size w (w.alloc (.cells #[.string ⟨#[]⟩, .int .i64 0, .int .i64 0] 44)) := (Below.refl _ _).alloc (Nat.le_refl _) _
  have HB := Lib.hid (refBits ao cap zs _ hl hz (hd.below hk))
  have HK := Lib.hid hk
  have hsz : (str (bitsOf zs)).size = 8 * zs.length := by rw [str_size, bitsOf_length]
  obtain ⟨s, hs⟩ : ∃ s, s = str (bitsOf zs) := ⟨_, rfl⟩
  rw [← hs] at HB hsz
  have HS := Lib.hid hs
  have HSZ := Lib.hid hsz
  have hs1 : s.size ≤ 800000 := by omega
  clear hs hsz hd hz hk
  go_enter Try.func17, Try.ntmps17
  go_wp2_with fail
  refine HB.out.mono ?_
  rintro e w1 ⟨rfl, hb1⟩
  have d0 : w1.cell? ⟨w.heap.size, 0, none⟩ = some (.string ⟨#[]⟩) := by rw [hb1.cell (p := ⟨w.heap.size, 0, none⟩) (by simp)]; simp
  have d1 : w1.cell? ⟨w.heap.size, 1, none⟩ = some (.int .i64 0) := by rw [hb1.cell (p := ⟨w.heap.size, 1, none⟩) (by simp)]; simp
  have d2 : w1.cell? ⟨w.heap.size, 2, none⟩ = some (.int .i64 0) := by rw [hb1.cell (p := ⟨w.heap.size, 2, none⟩) (by simp)]; simp
  have g0 : w1.frozen? ⟨w.heap.size, 0, none⟩ = false := by rw [hb1.frozen (p := ⟨w.heap.size, 0, none⟩) (by simp)]; simp
  have g1 : w1.frozen? ⟨w.heap.size, 1, none⟩ = false := by rw [hb1.frozen (p := ⟨w.heap.size, 1, none⟩) (by simp)]; simp
  have g2 : w1.frozen? ⟨w.heap.size, 2, none⟩ = false := by rw [hb1.frozen (p := ⟨w.heap.size, 2, none⟩) (by simp)]; simp
  have HW1 : Hid (Below w.heap.size w w1) := HK.out.trans (hb1.mono HK.out.size)
  clear hb1
  go_wp2
  obtain ⟨q0, q1, q2⟩ := set3_cells d0 d1 d2 (.string s) (.int .i64 s.size) (.int .i64 0)
  refine bodyPost_ret (v := .agg #[.string s, .int .i64 s.size, .int .i64 0]) (by simp [results, Try.results17, go_sem, q0, q1, q2]) rfl ?_
  refine ⟨?_, below_set3 HW1.out _ (Nat.le_refl _) _ _ _⟩
  rw [HSZ.out, HS.out]; rfl
end Go.Proofs.Ytbbcemgcanclnaa
