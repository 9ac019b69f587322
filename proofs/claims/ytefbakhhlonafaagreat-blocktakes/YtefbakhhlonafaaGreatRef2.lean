import Derived.Test.YtefbakhhlonafaaGreatRefReader
import Derived.Lib.Strings
import Derived.Test.YtefbakhhlonafaaGreatAppend
import Derived.Deep.RegionWith

section
namespace Go.Proofs.YtefbakhhlonafaaGreat
open Go.RowKit Go.Proofs Go.Proofs.PipeM Go.Proofs.PipeA

/-- Zeros of the document's reader that hasn't failed. -/
def rgo (most all : Int) : List Bool → Nat → MR × Nat
  | [], _ => (⟨[], all, 3⟩, 0)
  | true :: r, c => (⟨r, all, 0⟩, c)
  | false :: r, c => if most ≤ c then (⟨r, all, 1⟩, 0) else rgo most all r (c + 1)
def MR.run (m : MR) (most : Int) : MR × Nat := if m.fail ≠ 0 then (m, 0) else rgo most m.all m.bits 0

/-- Two blocks of three cells, one behind the other. -/
structure Box2 (w : World) (b : Nat) (v0 v1 v2 u0 u1 u2 : Value) : Prop where
  lt : b + 1 < w.heap.size
  c0 : w.cell? ⟨b, 0, none⟩ = some v0
  c1 : w.cell? ⟨b, 1, none⟩ = some v1
  c2 : w.cell? ⟨b, 2, none⟩ = some v2
  d0 : w.cell? ⟨b + 1, 0, none⟩ = some u0
  d1 : w.cell? ⟨b + 1, 1, none⟩ = some u1
  d2 : w.cell? ⟨b + 1, 2, none⟩ = some u2
  f0 : w.frozen? ⟨b, 0, none⟩ = false
  f1 : w.frozen? ⟨b, 1, none⟩ = false
  f2 : w.frozen? ⟨b, 2, none⟩ = false
  g0 : w.frozen? ⟨b + 1, 0, none⟩ = false
  g1 : w.frozen? ⟨b + 1, 1, none⟩ = false
  g2 : w.frozen? ⟨b + 1, 2, none⟩ = false

theorem Box2.of (w : World) (v0 v1 v2 u0 u1 u2 : Value) (t : TypeId) : Box2 ((w.alloc (.cells #[v0, v1, v2] t)).alloc (.cells #[u0, u1, u2] t)) w.heap.size v0 v1 v2 u0 u1 u2 := by
  obtain ⟨⟨h0, h1, h2⟩, ⟨h3, h4, h5⟩, ⟨h6, h7, h8⟩, h9, h10, h11⟩ := two_cells (w := w) (v0 := v0) (v1 := v1) (v2 := v2) (u0 := u0) (u1 := u1) (u2 := u2) (t := t) (Below.refl _ _)
  exact ⟨by simp, h0, h1, h2, h3, h4, h5, h6, h7, h8, h9, h10, h11⟩

theorem Box2.set {w : World} {b : Nat} {v0 v1 v2 u0 u1 u2 : Value} (h : Box2 w b v0 v1 v2 u0 u1 u2) (v : Value) : Box2 (w.setCell ⟨b, 0, none⟩ v) b v v1 v2 u0 u1 u2 := by
  refine ⟨by simpa using h.lt, World.cell?_setCell_same _ _ _ h.c0, ?_, ?_, ?_, ?_, ?_, ?_, ?_, ?_, ?_, ?_, ?_⟩
  all_goals simp [World.cell?_setCell_other, h.c1, h.c2, h.d0, h.d1, h.d2, h.f0, h.f1, h.f2, h.g0, h.g1, h.g2]

theorem Box2.below {w w' : World} {b : Nat} {v0 v1 v2 u0 u1 u2 : Value} (h : Box2 w b v0 v1 v2 u0 u1 u2) (hb : Below w.heap.size w w') : Box2 w' b v0 v1 v2 u0 u1 u2 := by
  have h1 := h.lt
  have h2 : b < w.heap.size := by omega
  exact ⟨by have := hb.size; omega, (hb.cell (p := ⟨b, 0, none⟩) h2).trans h.c0, (hb.cell (p := ⟨b, 1, none⟩) h2).trans h.c1, (hb.cell (p := ⟨b, 2, none⟩) h2).trans h.c2,
    (hb.cell (p := ⟨b + 1, 0, none⟩) h1).trans h.d0, (hb.cell (p := ⟨b + 1, 1, none⟩) h1).trans h.d1, (hb.cell (p := ⟨b + 1, 2, none⟩) h1).trans h.d2,
    (hb.frozen (p := ⟨b, 0, none⟩) h2).trans h.f0, (hb.frozen (p := ⟨b, 1, none⟩) h2).trans h.f1, (hb.frozen (p := ⟨b, 2, none⟩) h2).trans h.f2,
    (hb.frozen (p := ⟨b + 1, 0, none⟩) h1).trans h.g0, (hb.frozen (p := ⟨b + 1, 1, none⟩) h1).trans h.g1, (hb.frozen (p := ⟨b + 1, 2, none⟩) h1).trans h.g2⟩

set_option maxHeartbeats 800000 in
theorem mRun_failed (m : MR) (most : Int) (w : World) (hf : m.fail ≠ 0) :
    Calls Tryz.prog 100 #[m.val, .int .i64 most] w (MRes m 0 w) := by
  obtain ⟨l, all, fail⟩ := m
  simp only at hf
  show Calls Tryz.prog 100 #[.agg #[.string (str l), .int .i64 all, .int .i64 fail], .int .i64 most] w _
  obtain ⟨s, hs⟩ : ∃ s, s = str l := ⟨_, rfl⟩
  rw [← hs]
  have HS := Lib.hid hs
  have t4 : (fail == 0) = false := beq_eq_false_iff_ne.2 hf
  clear hs hf
  go_enter Tryz.func100, Tryz.ntmps100
  go_wp2
  have HB := Lib.hid (Box2.of w (.string s) (.int .i64 all) (.int .i64 fail) (.string ⟨#[]⟩) (.int .i64 0) (.int .i64 0) 50)
  have HBEL := Lib.hid (below2 w (.cells #[.string s, .int .i64 all, .int .i64 fail] 50) (.cells #[.string ⟨#[]⟩, .int .i64 0, .int .i64 0] 50))
  go_loopg [6] 0 (fun gk c wr => c = .int .i64 0 ∧ wr = ((w.alloc (.cells #[.string s, .int .i64 all, .int .i64 fail] 50)).alloc (.cells #[.string ⟨#[]⟩, .int .i64 0, .int .i64 0] 50)))
  case atStart => exact ⟨rfl, rfl⟩
  case round =>
    obtain ⟨rfl, rfl⟩ := hrel
    go_wp2
    refine bodyPost_ret (v := .tuple #[.agg #[.string s, .int .i64 all, .int .i64 fail], .int .i64 0]) (by simp [results, Tryz.results100, go_sem]) rfl ?_
    exact ⟨by rw [HS.out]; rfl, below2 _ _ _⟩

theorem str_head (b : Bool) (r : List Bool) (h : 0 < (str (b :: r)).size) : (str (b :: r))[0] = chr b := str_get (b :: r) 0 (by simp) h

set_option maxHeartbeats 1600000 in
theorem mRun_ok (l0 : List Bool) (all most : Int) (w : World) (hl : l0.length ≤ 1000000000) :
    Calls Tryz.prog 100 #[(MR.mk l0 all 0).val, .int .i64 most] w (MRes (rgo most all l0 0).1 (rgo most all l0 0).2 w) := by
  show Calls Tryz.prog 100 #[.agg #[.string (str l0), .int .i64 all, .int .i64 0], .int .i64 most] w _
  have HB := Lib.hid (Box2.of w (.string (str l0)) (.int .i64 all) (.int .i64 0) (.string ⟨#[]⟩) (.int .i64 0) (.int .i64 0) 50)
  have HBEL := Lib.hid (below2 w (.cells #[.string (str l0), .int .i64 all, .int .i64 0] 50) (.cells #[.string ⟨#[]⟩, .int .i64 0, .int .i64 0] 50))
  obtain ⟨s0, hs0⟩ : ∃ s0, s0 = str l0 := ⟨_, rfl⟩
  rw [← hs0] at HB HBEL ⊢
  have HS0 := Lib.hid hs0
  clear hs0
  go_enter Tryz.func100, Tryz.ntmps100
  go_wp2
  generalize hW : (w.alloc (.cells #[.string s0, .int .i64 all, .int .i64 0] 50)).alloc (.cells #[.string ⟨#[]⟩, .int .i64 0, .int .i64 0] 50) = W0 at HB HBEL ⊢
  generalize hB : w.heap.size = B at HB ⊢
  have HBB : Hid (w.heap.size ≤ B) := by rw [hB]; exact Nat.le_refl _
  clear hW
  have HB1 : Hid (Box2 W0 B (.string (str l0)) (.int .i64 all) (.int .i64 0) (.string ⟨#[]⟩) (.int .i64 0) (.int .i64 0)) := by rw [← HS0.out]; exact HB.out
  clear HB
  go_loopg [6, 7] l0.length (fun gk c one wr => ∃ (k : Nat) (l : List Bool), gk = l.length ∧ k + l.length ≤ l0.length ∧ c = .int .i64 k ∧ Hid (Box2 wr B (.string (str l)) (.int .i64 all) (.int .i64 0) (.string ⟨#[]⟩) (.int .i64 0) (.int .i64 0)) ∧ Hid (Below w.heap.size w wr) ∧ Hid (rgo most all l0 0 = rgo most all l k))
  case atStart => exact ⟨0, l0, rfl, by omega, rfl, HB1, HBEL, rfl⟩
  case round =>
    obtain ⟨k, l, hgk, hkl, rfl, HX, HW, HZ⟩ := hrel
    have HGK := Lib.hid hgk
    clear hgk HB1 HBEL hB
    have c0 := HX.out.c0
    have c1 := HX.out.c1
    have c2 := HX.out.c2
    cases l with
    | nil =>
      have e0 : str [] = ⟨#[]⟩ := rfl
      rw [e0] at c0
      have HG := fun W => Lib.hid (mGive ⟨[], all, 0⟩ 3 W)
      simp only [MR.val, e0] at HG
      go_wp2_with fail
      refine (HG _).out.mono ?_
      rintro e w1 ⟨rfl, hb1⟩
      have HX1 := HX.out.below hb1
      have d0 := HX1.d0
      have d1 := HX1.d1
      have d2 := HX1.d2
      have g0 := HX1.g0
      have g1 := HX1.g1
      have g2 := HX1.g2
      have HW1 : Hid (Below w.heap.size w w1) := HW.out.trans (hb1.mono HW.out.size)
      have HGV : Hid ((MR.give ⟨[], all, 0⟩ 3).val = .agg #[.string ⟨#[]⟩, .int .i64 all, .int .i64 3]) := rfl
      clear hb1 HX1
      rw [show Value.agg #[.string (str (MR.give ⟨[], all, 0⟩ 3).bits), .int .i64 (MR.give ⟨[], all, 0⟩ 3).all, .int .i64 (MR.give ⟨[], all, 0⟩ 3).fail] = .agg #[.string ⟨#[]⟩, .int .i64 all, .int .i64 3] from rfl]
      go_wp2
      obtain ⟨q0, q1, q2⟩ := set3_cells d0 d1 d2 (.string ⟨#[]⟩) (.int .i64 all) (.int .i64 3)
      refine bodyPost_ret (v := .tuple #[.agg #[.string ⟨#[]⟩, .int .i64 all, .int .i64 3], .int .i64 0]) (by simp [results, Tryz.results100, go_sem, q0, q1, q2]) rfl ?_
      exact ⟨by rw [HZ.out]; rfl, below_set3 HW1.out _ (by have := HBB.out; omega) _ _ _⟩
    | cons b r =>
      have hsz : (str (b :: r)).size = r.length + 1 := by rw [str_size]; simp
      have hx : (str (b :: r)).extract 1 (str (b :: r)).size = str r := by rw [str_extract, str_size, List.take_of_length_le]; rfl; simp
      have hg : ∀ h : 0 < (str (b :: r)).size, (str (b :: r))[0] = chr b := fun h => str_head b r h
      obtain ⟨s, hs⟩ : ∃ s, s = str (b :: r) := ⟨_, rfl⟩
      rw [← hs] at c0 hsz hx hg
      have hp : 0 < s.size := by omega
      have hne : s.toList.isEmpty = false := by
        rw [Lib.toList_data, List.isEmpty_eq_false_iff]
        intro h
        have : s.data.size = 0 := by rw [← Array.length_toList, h]; rfl
        have : s.size = 0 := this
        omega
      have HX1 : Hid (s.extract 1 s.size = str r) := hx
      have HG := Lib.hid (hg hp)
      have hp2 : s.size ≤ 1000000001 := by simp at hkl; omega
      have hkr : k + 1 + r.length ≤ l0.length := by simp at hkl; omega
      have f0 := HX.out.f0
      have d0 := HX.out.d0
      have d1 := HX.out.d1
      have d2 := HX.out.d2
      have g0 := HX.out.g0
      have g1 := HX.out.g1
      have g2 := HX.out.g2
      clear hsz hx hg hs hkl
      cases b with
      | true =>
        have t1 : ((s[0].toNat : Int) == 49) = true := by rw [HG.out]; rfl
        have hbx := HX.out.set (.string (s.extract 1 s.size))
        have HBX := Lib.hid hbx
        clear hbx
        go_wp2
        obtain ⟨q0, q1, q2⟩ := set3_cells HBX.out.d0 HBX.out.d1 HBX.out.d2 (.string (s.extract 1 s.size)) (.int .i64 all) (.int .i64 0)
        refine bodyPost_ret (v := .tuple #[.agg #[.string (s.extract 1 s.size), .int .i64 all, .int .i64 0], .int .i64 k]) (by simp [results, Tryz.results100, go_sem, q0, q1, q2]) rfl ?_
        refine ⟨?_, below_set3 (HW.out.setCell (p := ⟨B, 0, none⟩) HBB.out _) _ (by have := HBB.out; omega) _ _ _⟩
        rw [HZ.out, HX1.out]; rfl
      | false =>
        have t1 : ((s[0].toNat : Int) == 49) = false := by rw [HG.out]; rfl
        have hbx := HX.out.set (.string (s.extract 1 s.size))
        rw [HX1.out] at hbx
        have HBX := Lib.hid hbx
        clear hbx
        by_cases hmo : most ≤ (k : Int)
        · have HZ2 : Hid (rgo most all l0 0 = (⟨r, all, 1⟩, 0)) := by rw [HZ.out]; show _ = _; rw [rgo, if_pos hmo]
          have HGV := fun W => Lib.hid (mGive ⟨r, all, 0⟩ 1 W)
          have e1 : (MR.give ⟨r, all, 0⟩ 1) = ⟨r, all, 1⟩ := rfl
          rw [e1] at HGV
          simp only [MR.val] at HGV
          have HWS : Hid (Below w.heap.size w (wr.setCell ⟨B, 0, none⟩ (.string (str r)))) := HW.out.setCell (p := ⟨B, 0, none⟩) HBB.out _
          go_wp2_with fail
          rw [HX1.out]
          generalize wr.setCell ⟨B, 0, none⟩ (.string (str r)) = W1 at HBX HWS ⊢
          refine (HGV _).out.mono ?_
          rintro e w2 ⟨rfl, hb2⟩
          have HX2 := HBX.out.below hb2
          have HW2 : Hid (Below w.heap.size w w2) := HWS.out.trans (hb2.mono HWS.out.size)
          have d0' := HX2.d0
          have d1' := HX2.d1
          have d2' := HX2.d2
          have g0' := HX2.g0
          have g1' := HX2.g1
          have g2' := HX2.g2
          clear hb2 HX2 c0 c1 c2 f0 d0 d1 d2 g0 g1 g2
          go_wp2
          obtain ⟨q0, q1, q2⟩ := set3_cells d0' d1' d2' (.string (str r)) (.int .i64 all) (.int .i64 1)
          refine bodyPost_ret (v := .tuple #[.agg #[.string (str r), .int .i64 all, .int .i64 1], .int .i64 0]) (by simp [results, Tryz.results100, go_sem, q0, q1, q2]) rfl ?_
          refine ⟨?_, below_set3 HW2.out _ (by have := HBB.out; omega) _ _ _⟩
          rw [HZ2.out]; rfl
        · have HZ2 : Hid (rgo most all l0 0 = rgo most all r (k + 1)) := by rw [HZ.out]; show _ = _; rw [rgo, if_neg hmo]
          have HWS : Hid (Below w.heap.size w (wr.setCell ⟨B, 0, none⟩ (.string (str r)))) := HW.out.setCell (p := ⟨B, 0, none⟩) HBB.out _
          go_wp2
          rw [HX1.out]
          go_roundg r.length
          case rel => exact ⟨k + 1, r, rfl, hkr, by go_num, HBX, HWS, HZ2⟩
          case measure => have := HGK.out; simp at this; omega

theorem mRun (m : MR) (most : Int) (w : World) (hl : m.bits.length ≤ 1000000000) :
    Calls Tryz.prog 100 #[m.val, .int .i64 most] w (MRes (m.run most).1 (m.run most).2 w) := by
  by_cases hf : m.fail ≠ 0
  · have e : m.run most = (m, 0) := by unfold MR.run; rw [if_pos hf]
    rw [e]; exact mRun_failed m most w hf
  · have e : m.run most = rgo most m.all m.bits 0 := by unfold MR.run; rw [if_neg hf]
    rw [e]
    obtain ⟨l, all, fail⟩ := m
    have hf0 : fail = 0 := by simp at hf; exact hf
    subst hf0
    exact mRun_ok l all most w hl

set_option maxHeartbeats 800000 in
theorem mOpen (ao : Option Addr) (cap : Nat) (zs : List Nat) (w : World) (hl : zs.length ≤ 100000) (hz : ∀ z ∈ zs, z < 256) (hd : BytesAt w ao zs) :
    Calls Tryz.prog 21 #[.slice ao zs.length cap] w fun r w' => r = .returned (MR.mk (bitsOf zs) ((8 * zs.length : Nat) : Int) 0).val ∧ Below w.heap.size w w' := by
  have hk : Below w.heap.size w (w.alloc (.cells #[.string ⟨#[]⟩, .int .i64 0, .int .i64 0] 50)) := (Below.refl _ _).alloc (Nat.le_refl _) _
  have HB := Lib.hid (refBits ao cap zs _ hl hz (hd.below hk))
  have HK := Lib.hid hk
  have hsz : (str (bitsOf zs)).size = 8 * zs.length := by rw [str_size, bitsOf_length]
  obtain ⟨s, hs⟩ : ∃ s, s = str (bitsOf zs) := ⟨_, rfl⟩
  rw [← hs] at HB hsz
  have HS := Lib.hid hs
  have HSZ := Lib.hid hsz
  have hs1 : s.size ≤ 800000 := by omega
  clear hs hsz hd hz hk
  go_enter Tryz.func21, Tryz.ntmps21
  go_wp2_with fail
  refine HB.out.mono ?_
  rintro e w1 ⟨rfl, hb1⟩
  have d0 : w1.cell? ⟨w.heap.size, 0, none⟩ = some (.string ⟨#[]⟩) := by rw [hb1.cell (p := ⟨w.heap.size, 0, none⟩) (by simp)]; simp
  have d1 : w1.cell? ⟨w.heap.size, 1, none⟩ = some (.int .i64 0) := by rw [hb1.cell (p := ⟨w.heap.size, 1, none⟩) (by simp)]; simp
  have d2 : w1.cell? ⟨w.heap.size, 2, none⟩ = some (.int .i64 0) := by rw [hb1.cell (p := ⟨w.heap.size, 2, none⟩) (by simp)]; simp
  have g0 : w1.frozen? ⟨w.heap.size, 0, none⟩ = false := by rw [hb1.frozen (p := ⟨w.heap.size, 0, none⟩) (by simp)]; simp
  have g1 : w1.frozen? ⟨w.heap.size, 1, none⟩ = false := by rw [hb1.frozen (p := ⟨w.heap.size, 1, none⟩) (by simp)]; simp
  have g2 : w1.frozen? ⟨w.heap.size, 2, none⟩ = false := by rw [hb1.frozen (p := ⟨w.heap.size, 2, none⟩) (by simp)]; simp
  have HW1 : Hid (Below w.heap.size w w1) := HK.out.trans (hb1.mono HK.out.size)
  clear hb1
  go_wp2
  obtain ⟨q0, q1, q2⟩ := set3_cells d0 d1 d2 (.string s) (.int .i64 s.size) (.int .i64 0)
  refine bodyPost_ret (v := .agg #[.string s, .int .i64 s.size, .int .i64 0]) (by simp [results, Tryz.results21, go_sem, q0, q1, q2]) rfl ?_
  refine ⟨?_, below_set3 HW1.out _ (Nat.le_refl _) _ _ _⟩
  rw [HSZ.out, HS.out]; rfl
end Go.Proofs.YtefbakhhlonafaaGreat
end

section
namespace Go.Proofs.PipeM

/-- A number without a sign, and back. -/
def foldN (n : Int) : Nat := if n < 0 then (-2 * n - 1).toNat else (2 * n).toNat
def unfoldN (z : Nat) : Int := if z % 2 = 1 then -(((z + 1) / 2 : Nat) : Int) else ((z / 2 : Nat) : Int)
def InR (n : Int) : Prop := -8589934592 ≤ n ∧ n ≤ 8589934591

theorem foldN_lt {n : Int} (h : InR n) : foldN n < 17179869184 := by
  unfold foldN InR at *; split <;> omega
theorem fold_unfold (z : Nat) : foldN (unfoldN z) = z := by
  unfold foldN unfoldN
  split <;> split <;> omega
/-- How many bits a number's code has. -/
def costN (n : Int) (k : Nat) : Nat := if foldN n / 2 ^ k < 24 then foldN n / 2 ^ k + 1 + k else 59

/-- A number's code. -/
def codeZ (z k : Nat) : List Bool := if z / 2 ^ k < 24 then (List.replicate (z / 2 ^ k) false ++ [true]) ++ low (z % 2 ^ k) k else (List.replicate 24 false ++ [true]) ++ low z 34
def codeBits (n : Int) (k : Nat) : List Bool := codeZ (foldN n) k

theorem codeBits_length (n : Int) (k : Nat) : (codeBits n k).length = costN n k := by
  unfold codeBits codeZ costN
  split
  · simp [low_length]; omega
  · simp [low_length]

theorem costN_le (n : Int) (k : Nat) (hk : k ≤ 24) : costN n k ≤ 59 := by
  unfold costN
  generalize foldN n / 2 ^ k = q
  split <;> omega
theorem costN_pos (n : Int) (k : Nat) : 1 ≤ costN n k := by
  unfold costN
  generalize foldN n / 2 ^ k = q
  split <;> omega

def codeOk (n k : Int) : Bool := decide (-8589934592 ≤ n ∧ n ≤ 8589934591 ∧ 0 ≤ k ∧ k ≤ 24)
def codeOf (n k : Int) : List Bool := if codeOk n k then codeBits n k.toNat else []

/-- What all numbers cost. -/
def totalN (l : List Int) (k : Nat) : Nat := (l.map fun n => costN n k).sum
theorem totalN_snoc (l : List Int) (n : Int) (k : Nat) : totalN (l ++ [n]) k = totalN l k + costN n k := by simp [totalN]
theorem totalN_le (l : List Int) (k : Nat) (hk : k ≤ 24) : totalN l k ≤ 59 * l.length := by
  induction l with
  | nil => simp [totalN]
  | cons n l ih =>
    have := costN_le n k hk
    simp [totalN] at ih ⊢
    omega

/-- The least parameter of the fewest bits. -/
def IsBest (l : List Int) (k : Nat) : Prop := k ≤ 24 ∧ ∀ p, p ≤ 24 → totalN l k ≤ totalN l p ∧ (totalN l p = totalN l k → k ≤ p)
theorem IsBest.unique {l : List Int} {a b : Nat} (ha : IsBest l a) (hb : IsBest l b) : a = b := by
  have h1 := ha.2 b hb.1
  have h2 := hb.2 a ha.1
  have h3 := h1.2 (by omega)
  have h4 := h2.2 (by omega)
  omega
end Go.Proofs.PipeM
end

section
namespace Go.Proofs.YtefbakhhlonafaaGreat
open Go.RowKit Go.Proofs Go.Proofs.PipeM Go.Proofs.PipeA

set_option maxHeartbeats 400000 in
theorem refFold (n : Int) (w : World) (h : InR n) :
    Calls Tryz.prog 85 #[.int .i64 n] w fun e w' => e = .returned (.int .i64 (foldN n)) ∧ w = w' := by
  obtain ⟨h1, h2⟩ := h
  by_cases hn : n < 0
  · have HF : Hid ((foldN n : Int) = -(n + 1) * 2 + 1) := by show _ = _; unfold foldN; rw [if_pos hn]; omega
    go_enter Tryz.func85, Tryz.ntmps85
    go_wp2
    go_ret
    exact ⟨by rw [HF.out]; rfl, rfl⟩
  · have HF : Hid ((foldN n : Int) = n * 2) := by show _ = _; unfold foldN; rw [if_neg hn]; omega
    go_enter Tryz.func85, Tryz.ntmps85
    go_wp2
    go_ret
    exact ⟨by rw [HF.out]; rfl, rfl⟩

theorem pow24 (k : Nat) (hk : k ≤ 24) : 1 ≤ 2 ^ k ∧ 2 ^ k ≤ 16777216 := ⟨Nat.two_pow_pos k, Nat.le_trans (Nat.pow_le_pow_right (by decide) hk) (by decide)⟩

/-- Numbers that lie in memory. -/
def IntsAt (w : World) (ao : Option Addr) (l : List Int) : Prop :=
  ∀ j (h : j < l.length), ∃ b off, ao = some ⟨b, off, none⟩ ∧ b < w.heap.size ∧ w.cell? ⟨b, off + j, none⟩ = some (.int .i64 l[j])

theorem IntsAt.keeps {w w' : World} {bs : List Nat} {ao : Option Addr} {l : List Int} (h : IntsAt w ao l) (hk : Keeps bs w w') (hn : ∀ g off, ao = some ⟨g, off, none⟩ → g ∉ bs) : IntsAt w' ao l := by
  intro j hj
  obtain ⟨g, off, h1, h2, h3⟩ := h j hj
  exact ⟨g, off, h1, Nat.lt_of_lt_of_le h2 hk.size, by rw [hk.cell (p := ⟨g, off + j, none⟩) h2 (hn g off h1), h3]⟩
theorem IntsAt.below {w w' : World} {ao : Option Addr} {l : List Int} (h : IntsAt w ao l) (hb : Below w.heap.size w w') : IntsAt w' ao l := h.keeps (keeps_of_below hb []) (by simp)

/-- What the document's code answers. -/
def CodeIs (n k : Int) (w : World) (e : Ending) (w' : World) : Prop := e = .returned (.tuple #[.string (str (codeOf n k)), .bool (codeOk n k)]) ∧ Below w.heap.size w w'

set_option maxHeartbeats 400000 in
theorem refCode_no (n k : Int) (w : World) (h : codeOk n k = false) :
    Calls Tryz.prog 69 #[.int .i64 n, .int .i64 k] w (CodeIs n k w) := by
  have hno : ¬ (-8589934592 ≤ n ∧ n ≤ 8589934591 ∧ 0 ≤ k ∧ k ≤ 24) := of_decide_eq_false h
  have HC : Hid (codeOf n k = []) := by show _ = _; unfold codeOf; rw [h]; rfl
  have HO := Lib.hid h
  have t : decide (n < -8589934592) = true ∨ (decide (n < -8589934592) = false ∧ (decide (8589934591 < n) = true ∨ (decide (8589934591 < n) = false ∧ (decide (k < 0) = true ∨ (decide (k < 0) = false ∧ decide (24 < k) = true))))) := by
    by_cases h1 : n < -8589934592
    · exact Or.inl (decide_eq_true h1)
    · refine Or.inr ⟨decide_eq_false h1, ?_⟩
      by_cases h2 : 8589934591 < n
      · exact Or.inl (decide_eq_true h2)
      · refine Or.inr ⟨decide_eq_false h2, ?_⟩
        by_cases h3 : k < 0
        · exact Or.inl (decide_eq_true h3)
        · exact Or.inr ⟨decide_eq_false h3, decide_eq_true (by omega)⟩
  clear h hno
  rcases t with t1 | ⟨t1, t2 | ⟨t2, t3 | ⟨t3, t4⟩⟩⟩
  all_goals
    go_enter Tryz.func69, Tryz.ntmps69
    go_wp2
    go_ret2
    exact ⟨by rw [HC.out, HO.out]; rfl, Below.refl _ _⟩

set_option maxHeartbeats 800000 in
theorem refCode_yes (n : Int) (k : Nat) (w : World) (h : InR n) (hk : k ≤ 24) :
    Calls Tryz.prog 69 #[.int .i64 n, .int .i64 k] w (CodeIs n k w) := by
  have hok : codeOk n (k : Int) = true := by unfold codeOk; exact decide_eq_true ⟨h.1, h.2, by omega, by omega⟩
  have hco : codeOf n (k : Int) = codeZ (foldN n) k := by unfold codeOf; rw [hok]; simp [codeBits]
  have t1 : decide (n < -8589934592) = false := decide_eq_false (by have := h.1; omega)
  have t2 : decide (8589934591 < n) = false := decide_eq_false (by have := h.2; omega)
  have t3 : decide ((k : Int) < 0) = false := decide_eq_false (by omega)
  have t4 : decide ((24 : Int) < (k : Int)) = false := decide_eq_false (by omega)
  have HF := fun W => Lib.hid (refFold n W h)
  have HP := fun W => Lib.hid (refPower k W (by omega))
  obtain ⟨p1, p2⟩ := pow24 k hk
  have hz := foldN_lt h
  have HO := Lib.hid hok
  obtain ⟨z, hzz⟩ : ∃ z, z = foldN n := ⟨_, rfl⟩
  obtain ⟨p, hp⟩ : ∃ p, p = 2 ^ k := ⟨_, rfl⟩
  rw [← hzz] at HF hz hco
  have hcz : codeZ z k = if z / 2 ^ k < 24 then (List.replicate (z / 2 ^ k) false ++ [true]) ++ low (z % 2 ^ k) k else (List.replicate 24 false ++ [true]) ++ low z 34 := rfl
  rw [← hp] at HP p1 p2 hcz
  have hd : z / p ≤ z := Nat.div_le_self _ _
  have hm : z % p < p := Nat.mod_lt _ p1
  obtain ⟨q, hq⟩ : ∃ q, q = z / p := ⟨_, rfl⟩
  obtain ⟨r, hr⟩ : ∃ r, r = z % p := ⟨_, rfl⟩
  have hqi : ((z : Int) / (p : Int)) = (q : Int) := by rw [hq, Int.natCast_ediv]
  rw [← hq] at hd hcz
  rw [← hr] at hm hcz
  clear hzz hp h hok
  by_cases hq24 : q < 24
  · have HC : Hid (codeOf n (k : Int) = (List.replicate q false ++ [true]) ++ low r k) := by rw [hco, hcz, if_pos hq24]; rfl
    have hqt : (z : Int).tdiv (p : Int) = (q : Int) := by rw [Int.tdiv_eq_ediv_of_nonneg (by omega), hqi]
    have hrt : (z : Int).tmod (p : Int) = (r : Int) := by rw [Int.tmod_eq_emod_of_nonneg (by omega), hr, Int.natCast_emod]
    have hw : IntKind.i64.wrap (q : Int) = (q : Int) := IntWalk.i64_in _ (by omega)
    have hw2 : IntKind.i64.wrap (r : Int) = (r : Int) := IntWalk.i64_in _ (by omega)
    have HZ := fun W => Lib.hid (refZeros q W (by omega))
    have HU := fun W => Lib.hid (refPut r k W (by omega) (by omega))
    have hz1 : (str (List.replicate q false ++ [true])).size ≤ 25 := by rw [str_size]; simp; omega
    have hz2 : (str (low r k)).size ≤ 24 := by rw [str_size, low_length]; omega
    have hst : str (codeOf n (k : Int)) = str (List.replicate q false ++ [true]) ++ str (low r k) := by rw [HC.out, str_append]
    obtain ⟨s1, hs1⟩ : ∃ s1, s1 = str (List.replicate q false ++ [true]) := ⟨_, rfl⟩
    obtain ⟨s2, hs2⟩ : ∃ s2, s2 = str (low r k) := ⟨_, rfl⟩
    rw [← hs1] at HZ hz1 hst
    rw [← hs2] at HU hz2 hst
    have HST := Lib.hid hst
    clear hco hcz hq hr hs1 hs2 hst
    go_enter Tryz.func69, Tryz.ntmps69
    go_wp2_with (first | (go_at_call 85; refine (HF _).out.mono ?_; rintro e w1 ⟨rfl, rfl⟩) | (go_at_call 29; refine (HP _).out.mono ?_; rintro e w1 ⟨rfl, rfl⟩))
    go_region_with (first
      | (go_at_call 86; refine (HZ _).out.mono ?_; rintro e w2 ⟨rfl, rfl⟩)
      | (go_at_call 37; refine (HU _).out.mono ?_; rintro e w3 ⟨rfl, hb3⟩))
    all_goals
      go_wp2
      go_ret2
      refine ⟨?_, (Below.refl _ _).drew.trans hb3⟩
      rw [HST.out, HO.out]; rfl
  · have HC : Hid (codeOf n (k : Int) = (List.replicate 24 false ++ [true]) ++ low z 34) := by rw [hco, hcz, if_neg hq24]; rfl
    have HZ := fun W => Lib.hid (refZeros 24 W (by omega))
    have HU := fun W => Lib.hid (refPut z 34 W (by omega) (by omega))
    have hz1 : (str (List.replicate 24 false ++ [true])).size ≤ 25 := by rw [str_size]; simp
    have hz2 : (str (low z 34)).size ≤ 34 := by rw [str_size, low_length]; omega
    have hst : str (codeOf n (k : Int)) = str (List.replicate 24 false ++ [true]) ++ str (low z 34) := by rw [HC.out, str_append]
    obtain ⟨s1, hs1⟩ : ∃ s1, s1 = str (List.replicate 24 false ++ [true]) := ⟨_, rfl⟩
    obtain ⟨s2, hs2⟩ : ∃ s2, s2 = str (low z 34) := ⟨_, rfl⟩
    rw [← hs1] at HZ hz1 hst
    rw [← hs2] at HU hz2 hst
    have HST := Lib.hid hst
    clear hco hcz hq hr hs1 hs2 hst
    go_enter Tryz.func69, Tryz.ntmps69
    go_wp2_with (first | (go_at_call 85; refine (HF _).out.mono ?_; rintro e w1 ⟨rfl, rfl⟩) | (go_at_call 29; refine (HP _).out.mono ?_; rintro e w1 ⟨rfl, rfl⟩) | (go_at_call 86; refine (HZ _).out.mono ?_; rintro e w2 ⟨rfl, rfl⟩) | (go_at_call 37; refine (HU _).out.mono ?_; rintro e w3 ⟨rfl, hb3⟩))
    go_ret2
    refine ⟨?_, hb3⟩
    rw [HST.out, HO.out]; rfl

theorem refCode (n k : Int) (w : World) : Calls Tryz.prog 69 #[.int .i64 n, .int .i64 k] w (CodeIs n k w) := by
  by_cases h : codeOk n k = true
  · have h4 : -8589934592 ≤ n ∧ n ≤ 8589934591 ∧ 0 ≤ k ∧ k ≤ 24 := of_decide_eq_true h
    obtain ⟨m, rfl⟩ := Int.eq_ofNat_of_zero_le h4.2.2.1
    exact refCode_yes n m w ⟨h4.1, h4.2.1⟩ (by omega)
  · exact refCode_no n k w (by simpa using h)
end Go.Proofs.YtefbakhhlonafaaGreat
end
