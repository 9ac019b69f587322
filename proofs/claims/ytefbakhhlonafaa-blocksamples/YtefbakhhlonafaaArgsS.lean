import Derived.Test.YtefbakhhlonafaaRefReader
import Derived.Lib.Strings
import Derived.Test.YtefbakhhlonafaaAppend
import Derived.Deep.RegionWith
import Derived.WalkKit
import Derived.ProofKit
import Derived.OpenShut
import Derived.ShutString
import Derived.ChangeOld
import Derived.Below
import Derived.ChangeSame

section
namespace Go.Proofs.Ytefbakhhlonafaa
open Go.RowKit Go.Proofs Go.Proofs.PipeM Go.Proofs.PipeA

/-- Zeros of the document's reader that hasn't failed. -/
def rgo (most all : Int) : List Bool → Nat → MR × Nat
  | [], _ => (⟨[], all, 3⟩, 0)
  | true :: r, c => (⟨r, all, 0⟩, c)
  | false :: r, c => if most ≤ c then (⟨r, all, 1⟩, 0) else rgo most all r (c + 1)
def MR.run (m : MR) (most : Int) : MR × Nat := if m.fail ≠ 0 then (m, 0) else rgo most m.all m.bits 0

/-- Two blocks of three cells, one behind the other. -/
structure Box2 (w : World) (b : Nat) (v0 v1 v2 u0 u1 u2 : Value) : Prop where
  lt : b + 1 < w.heap.size
  c0 : w.cell? ⟨b, 0, none⟩ = some v0
  c1 : w.cell? ⟨b, 1, none⟩ = some v1
  c2 : w.cell? ⟨b, 2, none⟩ = some v2
  d0 : w.cell? ⟨b + 1, 0, none⟩ = some u0
  d1 : w.cell? ⟨b + 1, 1, none⟩ = some u1
  d2 : w.cell? ⟨b + 1, 2, none⟩ = some u2
  f0 : w.frozen? ⟨b, 0, none⟩ = false
  f1 : w.frozen? ⟨b, 1, none⟩ = false
  f2 : w.frozen? ⟨b, 2, none⟩ = false
  g0 : w.frozen? ⟨b + 1, 0, none⟩ = false
  g1 : w.frozen? ⟨b + 1, 1, none⟩ = false
  g2 : w.frozen? ⟨b + 1, 2, none⟩ = false

theorem Box2.of (w : World) (v0 v1 v2 u0 u1 u2 : Value) (t : TypeId) : Box2 ((w.alloc (.cells #[v0, v1, v2] t)).alloc (.cells #[u0, u1, u2] t)) w.heap.size v0 v1 v2 u0 u1 u2 := by
  obtain ⟨⟨h0, h1, h2⟩, ⟨h3, h4, h5⟩, ⟨h6, h7, h8⟩, h9, h10, h11⟩ := two_cells (w := w) (v0 := v0) (v1 := v1) (v2 := v2) (u0 := u0) (u1 := u1) (u2 := u2) (t := t) (Below.refl _ _)
  exact ⟨by simp, h0, h1, h2, h3, h4, h5, h6, h7, h8, h9, h10, h11⟩

theorem Box2.set {w : World} {b : Nat} {v0 v1 v2 u0 u1 u2 : Value} (h : Box2 w b v0 v1 v2 u0 u1 u2) (v : Value) : Box2 (w.setCell ⟨b, 0, none⟩ v) b v v1 v2 u0 u1 u2 := by
  refine ⟨by simpa using h.lt, World.cell?_setCell_same _ _ _ h.c0, ?_, ?_, ?_, ?_, ?_, ?_, ?_, ?_, ?_, ?_, ?_⟩
  all_goals simp [World.cell?_setCell_other, h.c1, h.c2, h.d0, h.d1, h.d2, h.f0, h.f1, h.f2, h.g0, h.g1, h.g2]

theorem Box2.below {w w' : World} {b : Nat} {v0 v1 v2 u0 u1 u2 : Value} (h : Box2 w b v0 v1 v2 u0 u1 u2) (hb : Below w.heap.size w w') : Box2 w' b v0 v1 v2 u0 u1 u2 := by
  have h1 := h.lt
  have h2 : b < w.heap.size := by omega
  exact ⟨by have := hb.size; omega, (hb.cell (p := ⟨b, 0, none⟩) h2).trans h.c0, (hb.cell (p := ⟨b, 1, none⟩) h2).trans h.c1, (hb.cell (p := ⟨b, 2, none⟩) h2).trans h.c2,
    (hb.cell (p := ⟨b + 1, 0, none⟩) h1).trans h.d0, (hb.cell (p := ⟨b + 1, 1, none⟩) h1).trans h.d1, (hb.cell (p := ⟨b + 1, 2, none⟩) h1).trans h.d2,
    (hb.frozen (p := ⟨b, 0, none⟩) h2).trans h.f0, (hb.frozen (p := ⟨b, 1, none⟩) h2).trans h.f1, (hb.frozen (p := ⟨b, 2, none⟩) h2).trans h.f2,
    (hb.frozen (p := ⟨b + 1, 0, none⟩) h1).trans h.g0, (hb.frozen (p := ⟨b + 1, 1, none⟩) h1).trans h.g1, (hb.frozen (p := ⟨b + 1, 2, none⟩) h1).trans h.g2⟩

theorem str_head (b : Bool) (r : List Bool) (h : 0 < (str (b :: r)).size) : (str (b :: r))[0] = chr b := str_get (b :: r) 0 (by simp) h

end Go.Proofs.Ytefbakhhlonafaa
end

section
namespace Go.Proofs.PipeM

/-- A number without a sign, and back. -/
def foldN (n : Int) : Nat := if n < 0 then (-2 * n - 1).toNat else (2 * n).toNat
def unfoldN (z : Nat) : Int := if z % 2 = 1 then -(((z + 1) / 2 : Nat) : Int) else ((z / 2 : Nat) : Int)
def InR (n : Int) : Prop := -8589934592 ≤ n ∧ n ≤ 8589934591

theorem foldN_lt {n : Int} (h : InR n) : foldN n < 17179869184 := by
  unfold foldN InR at *; split <;> omega
theorem unfold_fold (n : Int) : unfoldN (foldN n) = n := by
  unfold foldN unfoldN
  split
  · split <;> omega
  · split <;> omega
theorem fold_unfold (z : Nat) : foldN (unfoldN z) = z := by
  unfold foldN unfoldN
  split <;> split <;> omega
theorem unfold_inR {z : Nat} (h : z < 17179869184) : InR (unfoldN z) := by
  unfold unfoldN InR; split <;> omega

/-- How many bits a number's code has. -/
def costN (n : Int) (k : Nat) : Nat := if foldN n / 2 ^ k < 24 then foldN n / 2 ^ k + 1 + k else 59

/-- A number's code. -/
def codeZ (z k : Nat) : List Bool := if z / 2 ^ k < 24 then (List.replicate (z / 2 ^ k) false ++ [true]) ++ low (z % 2 ^ k) k else (List.replicate 24 false ++ [true]) ++ low z 34
def codeBits (n : Int) (k : Nat) : List Bool := codeZ (foldN n) k

theorem codeBits_length (n : Int) (k : Nat) : (codeBits n k).length = costN n k := by
  unfold codeBits codeZ costN
  split
  · simp [low_length]; omega
  · simp [low_length]

theorem costN_le (n : Int) (k : Nat) (hk : k ≤ 24) : costN n k ≤ 59 := by
  unfold costN
  generalize foldN n / 2 ^ k = q
  split <;> omega
theorem costN_pos (n : Int) (k : Nat) : 1 ≤ costN n k := by
  unfold costN
  generalize foldN n / 2 ^ k = q
  split <;> omega

def codeOk (n k : Int) : Bool := decide (-8589934592 ≤ n ∧ n ≤ 8589934591 ∧ 0 ≤ k ∧ k ≤ 24)
def codeOf (n k : Int) : List Bool := if codeOk n k then codeBits n k.toNat else []

/-- What all numbers cost. -/
def totalN (l : List Int) (k : Nat) : Nat := (l.map fun n => costN n k).sum
theorem totalN_snoc (l : List Int) (n : Int) (k : Nat) : totalN (l ++ [n]) k = totalN l k + costN n k := by simp [totalN]
theorem totalN_le (l : List Int) (k : Nat) (hk : k ≤ 24) : totalN l k ≤ 59 * l.length := by
  induction l with
  | nil => simp [totalN]
  | cons n l ih =>
    have := costN_le n k hk
    simp [totalN] at ih ⊢
    omega

/-- The least parameter of the fewest bits. -/
def IsBest (l : List Int) (k : Nat) : Prop := k ≤ 24 ∧ ∀ p, p ≤ 24 → totalN l k ≤ totalN l p ∧ (totalN l p = totalN l k → k ≤ p)
theorem IsBest.unique {l : List Int} {a b : Nat} (ha : IsBest l a) (hb : IsBest l b) : a = b := by
  have h1 := ha.2 b hb.1
  have h2 := hb.2 a ha.1
  have h3 := h1.2 (by omega)
  have h4 := h2.2 (by omega)
  omega
end Go.Proofs.PipeM
end

section
namespace Go.Proofs.Ytefbakhhlonafaa
open Go.RowKit Go.Proofs Go.Proofs.PipeM Go.Proofs.PipeA

set_option maxHeartbeats 400000 in
theorem refFold (n : Int) (w : World) (h : InR n) :
    Calls Try.prog 92 #[.int .i64 n] w fun e w' => e = .returned (.int .i64 (foldN n)) ∧ w = w' := by
  obtain ⟨h1, h2⟩ := h
  by_cases hn : n < 0
  · have HF : Hid ((foldN n : Int) = -(n + 1) * 2 + 1) := by show _ = _; unfold foldN; rw [if_pos hn]; omega
    go_enter Try.func92, Try.ntmps92
    go_wp2
    go_ret
    exact ⟨by rw [HF.out]; rfl, rfl⟩
  · have HF : Hid ((foldN n : Int) = n * 2) := by show _ = _; unfold foldN; rw [if_neg hn]; omega
    go_enter Try.func92, Try.ntmps92
    go_wp2
    go_ret
    exact ⟨by rw [HF.out]; rfl, rfl⟩

theorem pow24 (k : Nat) (hk : k ≤ 24) : 1 ≤ 2 ^ k ∧ 2 ^ k ≤ 16777216 := ⟨Nat.two_pow_pos k, Nat.le_trans (Nat.pow_le_pow_right (by decide) hk) (by decide)⟩

set_option maxHeartbeats 400000 in
theorem refLength (n : Int) (k : Nat) (w : World) (h : InR n) (hk : k ≤ 24) :
    Calls Try.prog 74 #[.int .i64 n, .int .i64 k] w fun e w' => e = .returned (.int .i64 (costN n k)) ∧ w = w' := by
  have HF := fun W => Lib.hid (refFold n W h)
  have HP := fun W => Lib.hid (refPower k W (by omega))
  obtain ⟨p1, p2⟩ := pow24 k hk
  have hz := foldN_lt h
  have hc : costN n k = if foldN n / 2 ^ k < 24 then foldN n / 2 ^ k + 1 + k else 59 := rfl
  obtain ⟨z, hzz⟩ : ∃ z, z = foldN n := ⟨_, rfl⟩
  obtain ⟨p, hp⟩ : ∃ p, p = 2 ^ k := ⟨_, rfl⟩
  rw [← hzz] at HF hz hc
  rw [← hp] at HP p1 p2 hc
  have hd : z / p ≤ z := Nat.div_le_self _ _
  obtain ⟨q, hq⟩ : ∃ q, q = z / p := ⟨_, rfl⟩
  have hqi : ((z : Int) / (p : Int)) = (q : Int) := by rw [hq, Int.natCast_ediv]
  rw [← hq] at hd hc
  by_cases hq24 : q < 24
  · have HC : Hid (costN n k = q + 1 + k) := by rw [hc, if_pos hq24]; rfl
    clear hc hzz hp hq h
    go_enter Try.func74, Try.ntmps74
    go_wp2_with (first | (go_at_call 92; refine (HF _).out.mono ?_; rintro e w1 ⟨rfl, rfl⟩) | (go_at_call 25; refine (HP _).out.mono ?_; rintro e w1 ⟨rfl, rfl⟩))
    go_ret
    refine ⟨?_, rfl⟩
    rw [HC.out]
    show Ending.returned (Value.int .i64 ((q : Int) + 1 + (k : Int))) = _
    congr 2
  · have HC : Hid (costN n k = 59) := by rw [hc, if_neg hq24]; rfl
    clear hc hzz hp hq h
    go_enter Try.func74, Try.ntmps74
    go_wp2_with (first | (go_at_call 92; refine (HF _).out.mono ?_; rintro e w1 ⟨rfl, rfl⟩) | (go_at_call 25; refine (HP _).out.mono ?_; rintro e w1 ⟨rfl, rfl⟩))
    go_ret
    exact ⟨by rw [HC.out]; rfl, rfl⟩

/-- Numbers that lie in memory. -/
def IntsAt (w : World) (ao : Option Addr) (l : List Int) : Prop :=
  ∀ j (h : j < l.length), ∃ b off, ao = some ⟨b, off, none⟩ ∧ b < w.heap.size ∧ w.cell? ⟨b, off + j, none⟩ = some (.int .i64 l[j])

theorem IntsAt.keeps {w w' : World} {bs : List Nat} {ao : Option Addr} {l : List Int} (h : IntsAt w ao l) (hk : Keeps bs w w') (hn : ∀ g off, ao = some ⟨g, off, none⟩ → g ∉ bs) : IntsAt w' ao l := by
  intro j hj
  obtain ⟨g, off, h1, h2, h3⟩ := h j hj
  exact ⟨g, off, h1, Nat.lt_of_lt_of_le h2 hk.size, by rw [hk.cell (p := ⟨g, off + j, none⟩) h2 (hn g off h1), h3]⟩
theorem IntsAt.below {w w' : World} {ao : Option Addr} {l : List Int} (h : IntsAt w ao l) (hb : Below w.heap.size w w') : IntsAt w' ao l := h.keeps (keeps_of_below hb []) (by simp)

set_option maxHeartbeats 400000 in
theorem refTotal (ao : Option Addr) (cap : Nat) (l : List Int) (k : Nat) (w : World) (hl : l.length ≤ 1000000) (hi : IntsAt w ao l) (hr : ∀ n ∈ l, InR n) (hk : k ≤ 24) :
    Calls Try.prog 55 #[.slice ao l.length cap, .int .i64 k] w fun e w' => e = .returned (.int .i64 (totalN l k)) ∧ w = w' := by
  have HI := Lib.hid hi
  have HR := Lib.hid hr
  clear hi hr
  go_enter Try.func55, Try.ntmps55
  go_wp2
  go_loopg [5, 6, 9] l.length (fun gk s q i wr => ∃ c : Nat, c ≤ l.length ∧ gk + c = l.length ∧ i = .int .i64 c ∧ s = .int .i64 (totalN (l.take c) k) ∧ wr = w)
  case atStart => exact ⟨0, Nat.zero_le _, by omega, rfl, rfl, rfl⟩
  case round =>
    obtain ⟨c, hc, hgk, rfl, rfl, rfl⟩ := hrel
    have HGK := Lib.hid hgk
    clear hgk
    have htl := totalN_le (l.take c) k hk
    rw [List.length_take] at htl
    obtain ⟨x, hx⟩ : ∃ x, x = totalN (l.take c) k := ⟨_, rfl⟩
    rw [← hx] at htl ⊢
    have HX := Lib.hid hx
    clear hx
    by_cases hlt : c < l.length
    · obtain ⟨g, off, rfl, hg, hcell⟩ := HI.out c hlt
      have hcl := costN_le l[c] k hk
      have hsn : totalN (l.take (c + 1)) k = totalN (l.take c) k + costN l[c] k := by rw [List.take_succ_eq_append_getElem hlt, totalN_snoc]
      have HL := fun W => Lib.hid (refLength l[c] k W (HR.out _ (List.getElem_mem hlt)) hk)
      obtain ⟨n, hn⟩ : ∃ n, n = l[c] := ⟨_, rfl⟩
      obtain ⟨y, hy⟩ : ∃ y, y = costN n k := ⟨_, rfl⟩
      rw [← hn] at hcell
      rw [← hn, ← hy] at hcl HL hsn
      have HSN := Lib.hid hsn
      clear hsn hn hy
      go_wp2_with (go_at_call 74; refine (HL _).out.mono ?_; rintro e w1 ⟨rfl, rfl⟩)
      go_roundg (gk - 1)
      case rel => exact ⟨c + 1, by omega, by have := HGK.out; omega, by go_num, by rw [HSN.out, ← HX.out]; go_num, rfl⟩
      case measure => have := HGK.out; omega
    · obtain rfl : c = l.length := by omega
      go_wp2
      go_ret
      exact ⟨by rw [show totalN l k = x by rw [HX.out, List.take_length]]; rfl, rfl⟩

/-- What the document's code answers. -/
def CodeIs (n k : Int) (w : World) (e : Ending) (w' : World) : Prop := e = .returned (.tuple #[.string (str (codeOf n k)), .bool (codeOk n k)]) ∧ Below w.heap.size w w'

end Go.Proofs.Ytefbakhhlonafaa
end

section
namespace Go.Proofs.Ytefbakhhlonafaa
open Go.ChangeShapes Go.WideShapes Go.ChangeAt Go.RowKit Go.Proofs.PipeM
set_option maxRecDepth 100000

/-- A slice of integers that came in: nil, or a row of cells, its elements and its spare room. -/
def IsRow (k : IntKind) (w : World) (a : Option Addr) (len cap : Nat) (zs : List Int) : Prop :=
  (a = none ∧ len = 0 ∧ cap = 0 ∧ zs = []) ∨
  ∃ x, a = some x ∧ len ≤ cap ∧ cap ≤ maxLen ∧ zs.length = cap ∧ (∀ i, i < zs.length → w.cell? (x.add i) = some (.int k (zs.getD i 0))) ∧ ∀ n ∈ zs, (Lit.int k n).wf = true

theorem bytes_of_row {w : World} {a : Option Addr} {len cap : Nat} {zs : List Int} (h : IsRow .u8 w a len cap zs) :
    ∃ ys : List Nat, len = ys.length ∧ (∀ z ∈ ys, z < 256) ∧ BytesAt w a ys := by
  rcases h with ⟨rfl, rfl, rfl, rfl⟩ | ⟨x, rfl, hl, hm, hz, hc, hw⟩
  · exact ⟨[], rfl, by simp, fun j hj => by simp at hj⟩
  · have hb : ∀ n ∈ zs, 0 ≤ n ∧ n ≤ 255 := fun n hn => by simpa [Lit.wf, IntKind.min, IntKind.max, IntKind.signed, IntKind.bits] using hw n hn
    refine ⟨(zs.take len).map Int.toNat, by simp; omega, ?_, ?_⟩
    · intro z hz
      simp only [List.mem_map] at hz
      obtain ⟨n, hn, rfl⟩ := hz
      have := hb n (List.mem_of_mem_take hn)
      omega
    · intro j hj
      simp at hj
      obtain ⟨b, off, rfl, hc2⟩ := ints_at hc (by omega)
      have hj2 : j < zs.length := by omega
      have hcj := hc2 j hj2
      refine ⟨b, off, rfl, World.block_lt_of_cell? _ _ hcj, ?_⟩
      rw [hcj]
      have hjz := hb zs[j] (List.getElem_mem hj2)
      have e1 : zs.getD j 0 = zs[j] := by simp [List.getD, hj2]
      have hj3 : j < len := by omega
      have e2 : ((zs.take len).map Int.toNat).getD j 0 = zs[j].toNat := by simp [List.getD, hj3, hj2]
      rw [e1, e2]
      congr 2
      omega

theorem ints_of_row {w : World} {a : Option Addr} {len cap : Nat} {zs : List Int} (h : IsRow .i64 w a len cap zs) :
    ∃ ys : List Int, len = ys.length ∧ (∀ n ∈ ys, -9223372036854775808 ≤ n ∧ n ≤ 9223372036854775807) ∧ IntsAt w a ys := by
  rcases h with ⟨rfl, rfl, rfl, rfl⟩ | ⟨x, rfl, hl, hm, hz, hc, hw⟩
  · exact ⟨[], rfl, by simp, fun j hj => by simp at hj⟩
  · have hb : ∀ n ∈ zs, -9223372036854775808 ≤ n ∧ n ≤ 9223372036854775807 := fun n hn => by simpa [Lit.wf, IntKind.min, IntKind.max, IntKind.signed, IntKind.bits] using hw n hn
    refine ⟨zs.take len, by simp; omega, fun n hn => hb n (List.mem_of_mem_take hn), ?_⟩
    intro j hj
    simp at hj
    obtain ⟨b, off, rfl, hc2⟩ := ints_at hc (by omega)
    have hj2 : j < zs.length := by omega
    have hcj := hc2 j hj2
    refine ⟨b, off, rfl, World.block_lt_of_cell? _ _ hcj, ?_⟩
    rw [hcj]
    have e1 : zs.getD j 0 = zs[j] := by simp [List.getD, hj2]
    rw [e1]
    simp

theorem u8_wf {a : Int} (h : (Lit.int .u8 a).wf = true) : ∃ n : Nat, a = n ∧ n ≤ 255 := by
  have hn : 0 ≤ a ∧ a ≤ 255 := by simpa [Lit.wf, IntKind.min, IntKind.max, IntKind.signed, IntKind.bits] using h
  obtain ⟨n, rfl⟩ := Int.eq_ofNat_of_zero_le hn.1
  exact ⟨n, rfl, by omega⟩
end Go.Proofs.Ytefbakhhlonafaa
end

section
namespace Go.Proofs.Ytefbakhhlonafaa
open Go.ChangeShapes Go.WideShapes Go.ChangeAt Go.RowKit Go.Proofs.PipeM
set_option maxRecDepth 100000

theorem cells_i : Try.prog.cellsOf 3 = 1 := by kernel_rfl
theorem cells_s : Try.prog.cellsOf 22 = 1 := by kernel_rfl
theorem cells_p : Try.prog.cellsOf 75 = 2 := by kernel_rfl

/-- Parts that came in. -/
theorem parts_of {H : Type} {enc : TypeId × Value → H} {W : World} {base : Nat} {held : Bool} {cs : Array Value} {d : DataW H} {ps : List MemPlace} (hsz : cs.size = Try.prog.cellsOf 75)
    (h : DataW.Trod enc Try.prog W base (fun _ => true) held 75 (.agg cs) d ps) :
    ∃ P a len cap zs, cs = #[.int .i64 P, .slice a len cap] ∧ (Lit.int .i64 P).wf = true ∧ IsRow .i64 W a len cap zs := by
  obtain ⟨fuel, hf⟩ := h
  rw [cells_p] at hsz
  obtain ⟨c0, c1, rfl⟩ : ∃ c0 c1, cs = #[c0, c1] := by
    obtain ⟨l⟩ := cs
    match l, hsz with
    | [c0, c1], _ => exact ⟨c0, c1, rfl⟩
  obtain ⟨y0, y1, n', _, _, h0, h1⟩ := trod_struct2 Try.underlying75 hf
  simp only [Value.cells, cells_i, cells_s, List.drop_zero, List.take_succ_cons, List.take_zero, List.drop_succ_cons] at h0 h1
  obtain ⟨k0, e0, _, w0⟩ := DataW.trod_int Try.underlying3 h0
  simp only [List.cons.injEq, and_true] at e0
  subst e0
  rcases open_ints Try.underlying22 Try.underlying3 (by kernel_rfl) h1 with ⟨hcs, _⟩ | ⟨x, l, c, zs, hcs, _, hl, hm, hz, _, hcell, hwz⟩
  · simp only [List.cons.injEq, and_true] at hcs
    subst hcs
    exact ⟨k0, none, 0, 0, [], rfl, w0, .inl ⟨rfl, rfl, rfl, rfl⟩⟩
  · simp only [List.cons.injEq, and_true] at hcs
    subst hcs
    exact ⟨k0, some x, l, c, zs, rfl, w0, .inr ⟨_, rfl, hl, hm, by simpa using hz, hcell, hwz⟩⟩

theorem row_cap {k : IntKind} {w : World} {a : Option Addr} {len cap : Nat} {zs : List Int} (h : IsRow k w a len cap zs) : len ≤ cap := by
  rcases h with ⟨_, rfl, rfl, _⟩ | ⟨_, _, h, _⟩
  · exact Nat.le_refl _
  · exact h
end Go.Proofs.Ytefbakhhlonafaa
end
