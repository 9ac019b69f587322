import Derived.Test.YtefbakhhlonafaaGreatRef3a
import Derived.Test.YtefbakhhlonafaaGreatBlkG1

section
namespace Go.Proofs.YtefbakhhlonafaaGreat
open Go.RowKit Go.Proofs Go.Proofs.PipeM Go.Proofs.PipeA

/-- Could an act be? -/
def actOk (k v n : Int) : Bool :=
  if k = 1 then decide (0 ≤ n ∧ n ≤ 48 ∧ 0 ≤ v ∧ v < 2 ^ n.toNat)
  else if k = 2 then decide (1 ≤ n ∧ n ≤ 48 ∧ -(2 ^ (n.toNat - 1)) ≤ v ∧ v < 2 ^ (n.toNat - 1))
  else if k = 3 then decide (0 ≤ n ∧ n ≤ 1000)
  else true

/-- The bits behind an act. -/
def actBits (l : List Bool) (k v n : Int) : List Bool :=
  if actOk k v n = false then l
  else if k = 1 then l ++ low v.toNat n.toNat
  else if k = 2 then l ++ low (v % 2 ^ n.toNat).toNat n.toNat
  else if k = 3 then l ++ (List.replicate n.toNat false ++ [true])
  else if k = 4 then pad l
  else l

end Go.Proofs.YtefbakhhlonafaaGreat
end

section
namespace Go.Proofs.YtefbakhhlonafaaGreat
open Go.RowKit Go.Proofs Go.Proofs.PipeM Go.Proofs.PipeA

/-- What the document's act answers. -/
def PutOf (l : List Bool) (k x n : Int) (w : World) (e : Ending) (w' : World) : Prop :=
  e = .returned (.tuple #[.string (str (actBits l k x n)), .bool (actOk k x n)]) ∧ Below w.heap.size w w'

theorem PutOf.no {l : List Bool} {k x n : Int} {w w' : World} (h : actOk k x n = false) (hb : Below w.heap.size w w') : PutOf l k x n w (.returned (.tuple #[.string (str l), .bool false])) w' := by
  have : actBits l k x n = l := by unfold actBits; rw [h]; simp
  exact ⟨by rw [this, h], hb⟩

theorem pow_castA (m : Nat) : ((2 ^ m : Nat) : Int) = (2 : Int) ^ m := by rw [Int.natCast_pow]; rfl

theorem mod_pow (x : Int) (m : Nat) (h0 : -(2 ^ m) ≤ x) (h1 : x < 2 ^ m) : (x % 2 ^ m).toNat = if x < 0 then (x + 2 ^ m).toNat else x.toNat := by
  have hp := pow_castA m
  have hp2 := Nat.two_pow_pos m
  generalize (2 : Int) ^ m = P at *
  split
  · rename_i h
    have : x % P = x + P := by
      rw [← Int.add_emod_right, Int.emod_eq_of_lt (by omega) (by omega)]
    rw [this]
  · rw [Int.emod_eq_of_lt (by omega) (by omega)]

set_option maxHeartbeats 1000000 in
theorem refSigned (x : Int) (n : Nat) (w : World) (hn0 : 1 ≤ n) (hn : n ≤ 48) (h0 : -(2 ^ (n - 1)) ≤ x) (h1 : x < 2 ^ (n - 1)) :
    Calls Tryz.prog 38 #[.int .i64 x, .int .i64 n] w fun e w' => e = .returned (.string (str (low (x % 2 ^ n).toNat n))) ∧ Below w.heap.size w w' := by
  have hpc := pow_castA n
  have hpc1 := pow_castA (n - 1)
  have hdbl : 2 ^ n = 2 * 2 ^ (n - 1) := by
    have e : n = (n - 1) + 1 := by omega
    rw [e, Nat.pow_succ]; simp; omega
  have hq48 : 2 ^ n ≤ 2 ^ 48 := Nat.pow_le_pow_right (by decide) hn
  have hmp := mod_pow x n (by omega) (by omega)
  rw [hmp]
  have HP := fun W => Lib.hid (refPower n W (by omega))
  rw [← hpc]
  rw [← hpc1] at h0 h1
  obtain ⟨q, hq⟩ : ∃ q, q = 2 ^ n := ⟨_, rfl⟩
  obtain ⟨r, hr⟩ : ∃ r, r = 2 ^ (n - 1) := ⟨_, rfl⟩
  rw [← hq] at HP hq48 ⊢
  rw [← hr] at h0 h1
  have hq1 : q ≤ 2 * r := by omega
  have hq2 : 2 * r ≤ q := by omega
  clear hpc hpc1 hdbl hmp hq hr
  by_cases hx : x < 0
  · rw [if_pos hx]
    have e1 : x + (q : Int) = (((x + (q : Int)).toNat : Nat) : Int) := by omega
    have HE := Lib.hid e1
    have HR := fun W => Lib.hid (refPut (x + (q : Int)).toNat n W (by omega) (by omega))
    clear e1
    go_enter Tryz.func38, Tryz.ntmps38
    go_wp2_with fail
    refine (HP _).out.mono ?_
    rintro e w1 ⟨rfl, rfl⟩
    go_wp2_with fail
    rw [HE.out]
    refine (HR _).out.mono ?_
    rintro e w1 ⟨rfl, hb1⟩
    have HB1 := Lib.hid hb1
    clear hb1
    go_wp2
    go_ret
    exact ⟨rfl, HB1.out⟩
  · rw [if_neg hx]
    obtain ⟨y, rfl⟩ := Int.eq_ofNat_of_zero_le (show 0 ≤ x by omega)
    rw [Int.toNat_natCast]
    have HR := fun W => Lib.hid (refPut y n W (by omega) (by omega))
    go_enter Tryz.func38, Tryz.ntmps38
    go_wp2_with fail
    refine (HR _).out.mono ?_
    rintro e w1 ⟨rfl, hb1⟩
    have HB1 := Lib.hid hb1
    clear hb1
    go_wp2
    go_ret
    exact ⟨rfl, HB1.out⟩

end Go.Proofs.YtefbakhhlonafaaGreat
end

section
namespace Go.Proofs.YtefbakhhlonafaaGreat
open Go.RowKit Go.Proofs Go.Proofs.PipeM Go.Proofs.PipeA Go.Proofs.BlkM
open Go.Proofs.LatM (goodL)
open Go.Proofs.LagM (goodT)
set_option maxRecDepth 100000

theorem flat_take {α : Type} {l : List Int} {c : Nat} (f : Int → List α) (h : c < l.length) : (l.take (c + 1)).flatMap f = (l.take c).flatMap f ++ f l[c] := by
  rw [List.take_succ_eq_append_getElem h, List.flatMap_append]; simp
theorem flat_le (d : Nat) (l : List Int) (c : Nat) : ((l.take c).flatMap (sg d)).length ≤ l.length * d := by
  rw [flat_sg, List.length_take]
  exact Nat.mul_le_mul_right _ (by omega)
/-- A sample's text. -/
theorem refSg (x : Int) (m : Nat) (w : World) (h1 : 8 ≤ m) (h2 : m ≤ 26) (h : hasP (halfOf (m : Int)) x = true) :
    Calls Tryz.prog 38 #[.int .i64 x, .int .i64 m] w fun e w' => e = .returned (.string (str (sg m x))) ∧ Below w.heap.size w w' := by
  have hb := of_decide_eq_true h
  rw [hp_nat (by omega)] at hb
  have := refSigned x m w (by omega) (by omega) hb.1 hb.2
  exact this

set_option maxHeartbeats 3200000 in
theorem rPut_few (b : Blk) (ia ra da : Option Addr) (ic rc dc : Nat) (k m : Nat) (w : World) (hm1 : 8 ≤ m) (hm2 : m ≤ 26) (hk1 : 1 ≤ k) (hk : k ≤ 1024) (h : Shape k m b) (h2 : b.kind ≠ 2) (hall : (outB b k).all (hasP (halfOf (m : Int))) = true) (hI : BlkIn w b ia ra da ic rc dc) :
    Calls Tryz.prog 11 #[blkV b ia ra da ic rc dc, .int .i64 m] w fun e w' => e = .returned (.string (str (bitsB b m))) ∧ Below w.heap.size w w' := by
  have HB := fun o => Lib.hid (box_below w o)
  cases h with
  | zero =>
    have HO : Hid (bitsB ⟨0, 0, 0, [], 0, 0, 0, [], []⟩ m = low 0 2) := by show _ = _; simp [bitsB]
    generalize bitsB ⟨0, 0, 0, [], 0, 0, 0, [], []⟩ m = L at *
    have HP := fun W => Lib.hid (refPut 0 2 W (by omega) (by omega))
    unfold blkV
    dsimp only [List.length_nil]
    clear h2 hall hI
    go_enter Tryz.func11, Tryz.ntmps11
    go_wp2_with fail
    refine (HP _).out.mono ?_
    rintro e w1 ⟨rfl, hb1⟩
    have HB1 := Lib.hid ((HB _).out.trans (hb1.mono (HB _).out.size))
    have k0 := (hb1.cell (p := ⟨w.heap.size, 0, none⟩) (by simp)).trans (by go_simp : _ = some (.int .i64 0))
    clear hb1
    go_wp2
    go_ret
    exact ⟨by rw [HO.out]; rfl, HB1.out⟩
  | const v =>
    have hv : hasP (halfOf (m : Int)) v = true := by
      rw [List.all_eq_true] at hall
      exact hall v (by simp [outB]; omega)
    have HO : Hid (str (low 1 2) ++ str (sg m v) = str (bitsB ⟨1, v, 0, [], 0, 0, 0, [], []⟩ m)) := by show _ = _; rw [← str_append]; simp [bitsB]
    generalize bitsB ⟨1, v, 0, [], 0, 0, 0, [], []⟩ m = L at *
    have HP := fun W => Lib.hid (refPut 1 2 W (by omega) (by omega))
    have HS := fun W => Lib.hid (refSg v m W hm1 hm2 hv)
    have hz1 : (str (low 1 2)).size = 2 := by rw [str_size, low_length]
    have hz2 : (str (sg m v)).size ≤ 26 := by rw [str_size, sg_length]; exact hm2
    generalize str (sg m v) = tv at *
    generalize str (low 1 2) = t0 at *
    unfold blkV
    dsimp only [List.length_nil]
    clear h2 hall hI hv
    obtain ⟨w0, hw0⟩ : ∃ w0, w0 = w.alloc (.cells #[.int .i64 1, .int .i64 v, .int .i64 0, .slice ia 0 ic, .int .i64 0, .int .i64 0, .int .i64 0, .slice ra 0 rc, .slice da 0 dc] 24) := ⟨_, rfl⟩
    have hnw := World.alloc_heap_new w (.cells #[.int .i64 1, .int .i64 v, .int .i64 0, .slice ia 0 ic, .int .i64 0, .int .i64 0, .int .i64 0, .slice ra 0 rc, .slice da 0 dc] 24)
    have HB0 : Hid (Below w.heap.size w w0) := by rw [hw0]; exact (HB _).out
    rw [← hw0] at hnw
    have K : Hid (∀ W, Below w0.heap.size w0 W → ∀ j u, (#[.int .i64 1, .int .i64 v, .int .i64 0, .slice ia 0 ic, .int .i64 0, .int .i64 0, .int .i64 0, .slice ra 0 rc, .slice da 0 dc] : Array Value)[j]? = some u → W.cell? ⟨w.heap.size, j, none⟩ = some u) := fun W hW j u hj => by
      rw [hW.cell (p := ⟨w.heap.size, j, none⟩) (Array.getElem?_eq_some_iff.1 hnw).1, cell_of_heap hnw]
      exact hj
    have HW0 := Lib.hid hw0
    clear hw0 hnw
    go_enter Tryz.func11, Tryz.ntmps11
    go_wp2_with fail
    rw [← HW0.out]
    refine (HP _).out.mono ?_
    rintro e w1 ⟨rfl, hb1⟩
    have HB1 := Lib.hid hb1
    have k0 := K.out w1 hb1 0 _ rfl
    have k1 := K.out w1 hb1 1 _ rfl
    clear hb1
    go_wp2_with fail
    refine (HS _).out.mono ?_
    rintro e w2 ⟨rfl, hb2⟩
    have hb02 := HB1.out.trans (hb2.mono HB1.out.size)
    have k0' := K.out w2 hb02 0 _ rfl
    have HB2 := Lib.hid (HB0.out.trans (hb02.mono HB0.out.size))
    clear hb2 hb02 k0 k1
    go_wp2
    go_ret
    exact ⟨by rw [← HO.out]; rfl, HB2.out⟩
  | raw data h =>
    have hv : ∀ x ∈ data, hasP (halfOf (m : Int)) x = true := by
      rw [List.all_eq_true] at hall
      intro x hx
      exact hall x (by simp [outB]; exact hx)
    have HO : Hid (low 3 2 ++ (data.take k).flatMap (sg m) = bitsB ⟨3, 0, 0, [], 0, 0, 0, [], data⟩ m) := by show _ = _; rw [← h, List.take_length]; simp [bitsB]
    generalize bitsB ⟨3, 0, 0, [], 0, 0, 0, [], data⟩ m = L at *
    have HP := fun W => Lib.hid (refPut 3 2 W (by omega) (by omega))
    have HSV : Hid (∀ c (hc : c < data.length) W, Calls Tryz.prog 38 #[.int .i64 data[c], .int .i64 m] W fun e w' => e = .returned (.string (str (sg m data[c]))) ∧ Below W.heap.size W w') := fun c hc W => refSg _ m W hm1 hm2 (hv _ (List.getElem_mem _))
    have HID := Lib.hid hI.d
    have hz1 : (str (low 3 2)).size = 2 := by rw [str_size, low_length]
    have HLN : Hid (data.length = k) := h
    unfold blkV
    dsimp only [List.length_nil]
    simp only [h]
    obtain ⟨w0, hw0⟩ : ∃ w0, w0 = w.alloc (.cells #[.int .i64 3, .int .i64 0, .int .i64 0, .slice ia 0 ic, .int .i64 0, .int .i64 0, .int .i64 0, .slice ra 0 rc, .slice da k dc] 24) := ⟨_, rfl⟩
    have hnw := World.alloc_heap_new w (.cells #[.int .i64 3, .int .i64 0, .int .i64 0, .slice ia 0 ic, .int .i64 0, .int .i64 0, .int .i64 0, .slice ra 0 rc, .slice da k dc] 24)
    have HB0 : Hid (Below w.heap.size w w0) := by rw [hw0]; exact (HB _).out
    rw [← hw0] at hnw
    have K : Hid (∀ W, Below w0.heap.size w0 W → ∀ j u, (#[.int .i64 3, .int .i64 0, .int .i64 0, .slice ia 0 ic, .int .i64 0, .int .i64 0, .int .i64 0, .slice ra 0 rc, .slice da k dc] : Array Value)[j]? = some u → W.cell? ⟨w.heap.size, j, none⟩ = some u) := fun W hW j u hj => by
      rw [hW.cell (p := ⟨w.heap.size, j, none⟩) (Array.getElem?_eq_some_iff.1 hnw).1, cell_of_heap hnw]
      exact hj
    have HW0 := Lib.hid hw0
    clear hw0 hnw h2 hall hI hv h
    go_enter Tryz.func11, Tryz.ntmps11
    go_wp2_with fail
    rw [← HW0.out]
    refine (HP _).out.mono ?_
    rintro e w1 ⟨rfl, hb1⟩
    have HB1 := Lib.hid hb1
    have k0 := K.out w1 hb1 0 _ rfl
    have k8 := K.out w1 hb1 8 _ rfl
    clear hb1 hz1
    go_wp2
    clear k0 k8
    go_loopg [5, 6, 28] k (fun gk va q1 i wr => ∃ c : Nat, c ≤ k ∧ gk + c = k ∧ i = .int .i64 c ∧ va = .string (str (low 3 2 ++ (data.take c).flatMap (sg m))) ∧ Hid (Below w0.heap.size w0 wr))
    case atStart => exact ⟨0, Nat.zero_le _, by omega, rfl, by simp, HB1.out⟩
    case round =>
      obtain ⟨c, hc, hgk, rfl, rfl, HW⟩ := hrel
      have HGK := Lib.hid hgk
      clear hgk
      have k8 := K.out wr HW.out 8 _ rfl
      by_cases hlt : c < k
      · obtain ⟨b, off, rfl, hb, hcell⟩ := (HID.out.below (HB0.out.trans (HW.out.mono HB0.out.size))) c (by rw [HLN.out]; exact hlt)
        have HS := Lib.hid (HSV.out c (by rw [HLN.out]; exact hlt) wr)
        have hsz : (str (low 3 2 ++ (data.take c).flatMap (sg m))).size ≤ 30000 := by
          rw [str_size, List.length_append, low_length]
          have h1 := flat_le m data c
          have h2 : data.length * m ≤ 1024 * 26 := by rw [HLN.out]; exact Nat.mul_le_mul hk hm2
          omega
        have HSN : Hid (str (low 3 2 ++ (data.take c).flatMap (sg m)) ++ str (sg m (data[c]'(by rw [HLN.out]; exact hlt))) = str (low 3 2 ++ (data.take (c + 1)).flatMap (sg m))) := by
          show _ = _
          rw [flat_take (sg m) (by rw [HLN.out]; exact hlt), ← str_append, List.append_assoc]
        have hs2 : (str (sg m (data[c]'(by rw [HLN.out]; exact hlt)))).size ≤ 26 := by rw [str_size, sg_length]; exact hm2
        generalize data[c]'(by rw [HLN.out]; exact hlt) = x at *
        generalize str (sg m x) = tx at *
        generalize str (low 3 2 ++ (data.take c).flatMap (sg m)) = t1 at *
        clear hb
        go_wp2_with fail
        refine HS.out.mono ?_
        rintro e w4 ⟨rfl, hb4⟩
        have HW4 := Lib.hid (HW.out.trans (hb4.mono HW.out.size))
        clear hb4
        go_wp2
        go_roundg (gk - 1)
        case rel => exact ⟨c + 1, by omega, by have := HGK.out; omega, by go_num, by rw [← HSN.out], HW4⟩
        case measure => have := HGK.out; omega
      · obtain rfl : c = k := by omega
        have k0 := K.out wr HW.out 0 _ rfl
        have HF := Lib.hid (HB0.out.trans (HW.out.mono HB0.out.size))
        rw [HO.out]
        go_wp2
        go_ret
        exact ⟨rfl, HF.out⟩
  | normal => exact absurd rfl h2
end Go.Proofs.YtefbakhhlonafaaGreat
end

section
namespace Go.Proofs.YtefbakhhlonafaaGreat
open Go.RowKit Go.Proofs Go.Proofs.PipeM Go.Proofs.PipeA Go.Proofs.BlkM Go.Proofs.BlkB
open Go.Proofs.LatM (goodL)
open Go.Proofs.LagM (goodT)
set_option maxRecDepth 100000

/-- What was written stays written, whatever memory is made. -/
theorem Wrote.still {w W W1 : World} {b : Nat} {v : Value} {l : List Bool} (h : Wrote w b v l W) (hb : Below W.heap.size W W1) : Wrote w b v l W1 := by
  obtain ⟨v1, zs1, h1, hk, ho⟩ := h
  exact ⟨v1, zs1, h1.keeps (keeps_of_below hb []) (by simp) (by simp), hk.trans (keeps_of_below hb _), ho⟩
theorem Wrote.cell {w W : World} {b : Nat} {v : Value} {l : List Bool} (h : Wrote w b v l W) {g off : Nat} (hg : g < w.heap.size) (ho : Off b v g) : W.cell? ⟨g, off, none⟩ = w.cell? ⟨g, off, none⟩ := by
  obtain ⟨v1, zs1, h1, hk, _⟩ := h
  exact hk.cell (p := ⟨g, off, none⟩) hg ho
theorem Wrote.ints {w W : World} {b : Nat} {v : Value} {l : List Bool} (h : Wrote w b v l W) {ao : Option Addr} {m : List Int} (hi : IntsAt w ao m) (ho : ∀ g off, 0 < m.length → ao = some ⟨g, off, none⟩ → Off b v g) : IntsAt W ao m := by
  obtain ⟨v1, zs1, h1, hk, _⟩ := h
  intro j hj
  exact hi.keeps hk (fun g off e => ho g off (by omega) e) j hj
theorem ints_lt {w : World} {ao : Option Addr} {m : List Int} (hi : IntsAt w ao m) {g off : Nat} (hl : 0 < m.length) (e : ao = some ⟨g, off, none⟩) : g < w.heap.size := by
  obtain ⟨g', off', e', hh, _⟩ := hi 0 hl
  rw [e] at e'
  cases e'
  exact hh
theorem Wrote.off {w W : World} {b : Nat} {v : Value} {l : List Bool} (h : Wrote w b v l W) : ∃ v1 zs1, WrIs W b v1 l zs1 ∧ (∀ g, g < w.heap.size → Off b v g → Off b v1 g) ∧ (∀ (l2 : List Bool) W2, Wrote W b v1 l2 W2 → Wrote w b v l2 W2) := by
  obtain ⟨v1, zs1, h1, hk, ho⟩ := h
  exact ⟨v1, zs1, h1, fun g hg hoff => hoff.next hg ho, fun l2 W2 h2 => Wrote.next hk ho h2⟩

set_option maxHeartbeats 1600000 in
theorem cPutEach (b : Nat) (v : Value) (l0 : List Bool) (zs : List Nat) (ao : Option Addr) (cap : Nat) (l : List Int) (d : Nat) (w : World) (hd1 : 1 ≤ d) (hd : d ≤ 26) (hin : ∀ x ∈ l, -(2 ^ (d - 1)) ≤ x ∧ x < 2 ^ (d - 1)) (hl : l.length ≤ 1000000) (hl0 : l0.length + l.length * d ≤ 100000) (hw : WrIs w b v l0 zs) (hi : IntsAt w ao l) (hoff : ∀ g off, 0 < l.length → ao = some ⟨g, off, none⟩ → Off b v g) :
    Calls Tryz.prog 35 #[.pointer (some ⟨b, 0, none⟩), .slice ao l.length cap, .int .i64 (d : Int)] w (Pushed w b v (l0 ++ l.flatMap (sg d))) := by
  have HW0 := Lib.hid (Wrote.refl hw)
  have HI := Lib.hid hi
  have HOF := Lib.hid hoff
  have HIN := Lib.hid hin
  have HSG := fun v1 l1 zs1 x W (h1 : -(2 ^ (d - 1)) ≤ x) (h2 : x < 2 ^ (d - 1)) (h3 : List.length l1 ≤ 100000) (h : WrIs W b v1 l1 zs1) => Lib.hid (wSigned_yes b v1 l1 zs1 x d W hd1 (by omega) h1 h2 h3 h)
  have HLD := Lib.hid hl0
  clear hi hoff hin hw hl0 hd hd1
  go_enter Tryz.func35, Tryz.ntmps35
  go_wp2
  go_loopg [7, 10] l.length (fun gk q i wr => ∃ c : Nat, c ≤ l.length ∧ gk + c = l.length ∧ i = .int .i64 c ∧ Hid (Wrote w b v (l0 ++ (l.take c).flatMap (sg d)) wr))
  case atStart => exact ⟨0, Nat.zero_le _, by omega, rfl, by simpa [Hid] using HW0.out⟩
  case round =>
    obtain ⟨c, hc, hgk, rfl, HT⟩ := hrel
    have HGK := Lib.hid hgk
    clear hgk
    by_cases hlt : c < l.length
    · obtain ⟨g, off, rfl, hg, hcell⟩ := (HT.out.ints HI.out HOF.out) c hlt
      have hx := HIN.out _ (List.getElem_mem hlt)
      obtain ⟨v1, zs1, hw1, _, hnx⟩ := HT.out.off
      have hl1 : (l0 ++ (l.take c).flatMap (sg d)).length ≤ 100000 := by
        have e : ((l.take c).flatMap (sg d)).length = c * d := by
          have : ∀ m : List Int, (m.flatMap (sg d)).length = m.length * d := fun m => by
            induction m with
            | nil => simp
            | cons y r ih => rw [List.flatMap_cons, List.length_append, ih, List.length_cons]; unfold sg; rw [low_length, Nat.succ_mul]; omega
          rw [this, List.length_take, Nat.min_eq_left (by omega)]
        have h2 : c * d ≤ l.length * d := Nat.mul_le_mul_right _ (by omega)
        have h3 := HLD.out
        rw [List.length_append, e]
        omega
      have HCA := HSG v1 _ zs1 l[c] wr hx.1 hx.2 hl1 hw1
      have HNX := Lib.hid hnx
      have HST : Hid ((l.take (c + 1)).flatMap (sg d) = (l.take c).flatMap (sg d) ++ sg d l[c]) := by
        show _ = _
        rw [List.take_succ_eq_append_getElem hlt, List.flatMap_append]
        simp
      generalize l[c] = x at hcell HCA HST
      have HEQ : Hid (sg d x = low ((x % 2 ^ d).toNat) d) := rfl
      clear hx hw1 hnx hl1 hg
      go_wp2_with fail
      refine HCA.out.mono ?_
      rintro e w2 ⟨rfl, hw2⟩
      have HW2 : Hid (Wrote w b v (l0 ++ (l.take (c + 1)).flatMap (sg d)) w2) := by
        have := HNX.out _ _ hw2
        rw [← HEQ.out, List.append_assoc, ← HST.out] at this
        exact this
      clear hw2 HCA
      go_wp2
      go_roundg (gk - 1)
      case rel => exact ⟨c + 1, by omega, by have := HGK.out; omega, by go_num, HW2⟩
      case measure => have := HGK.out; omega
    · obtain rfl : c = l.length := by omega
      have HF : Hid (Wrote w b v (l0 ++ l.flatMap (sg d)) wr) := by have := HT.out; rw [List.take_length] at this; exact this
      go_wp2
      go_end0
      exact ⟨rfl, HF.out⟩

/-- A term's bits. -/
def termBits (a g : Nat) : List Bool := if a = 0 then [false] else true :: (low a 8 ++ low g 4)
set_option maxHeartbeats 1600000 in
theorem cPutTerm (b : Nat) (v : Value) (l0 : List Bool) (zs : List Nat) (a g : Nat) (w : World) (ha : a ≤ 255) (hg : g ≤ 15) (hz : a = 0 → g = 0) (hl0 : l0.length ≤ 90000) (hw : WrIs w b v l0 zs) :
    Calls Tryz.prog 64 #[.pointer (some ⟨b, 0, none⟩), .agg #[.int .i64 (a : Int), .int .i64 (g : Int)]] w (Pushed w b v (l0 ++ termBits a g)) := by
  obtain ⟨W0, hW0⟩ : ∃ W0, W0 = w.alloc (.cells #[.int .i64 (a : Int), .int .i64 (g : Int)] 98) := ⟨_, rfl⟩
  have hb0 := box_below w (.cells #[.int .i64 (a : Int), .int .i64 (g : Int)] 98)
  have hn0 := World.alloc_heap_new w (.cells #[.int .i64 (a : Int), .int .i64 (g : Int)] 98)
  rw [← hW0] at hb0 hn0
  have hwr0 : Wrote w b v l0 W0 := (Wrote.refl hw).still hb0
  have hoffB : Off b v w.heap.size := Off.new hw (Nat.le_refl _)
  by_cases h0 : a = 0
  · obtain rfl := hz h0
    subst h0
    obtain ⟨v1, zs1, hw1, _, hnx⟩ := hwr0.off
    have HP := Lib.hid (wPut_yes b v1 l0 zs1 0 1 W0 (by omega) (by decide) (by omega) hw1)
    have HNX := Lib.hid hnx
    have HW0 : Hid (W0 = w.alloc (.cells #[.int .i64 0, .int .i64 0] 98)) := hW0
    have HE : Hid (termBits 0 0 = low 0 1) := rfl
    clear hb0 hn0 hwr0 hw1 hnx hW0 hw hz ha hg hoffB
    go_enter Tryz.func64, Tryz.ntmps64
    go_wp2_with fail
    rw [← HW0.out]
    refine HP.out.mono ?_
    rintro e w2 ⟨rfl, hw2⟩
    have HW2 := Lib.hid (HNX.out _ _ hw2)
    clear hw2
    go_wp2
    refine bodyPost_ret (results_none rfl _ _ _) rfl ?_
    exact ⟨rfl, by rw [HE.out]; exact HW2.out⟩
  · have t1 : ((a : Int) == (0 : Int)) = false := by rw [beq_eq_false_iff_ne]; omega
    have HCE : Hid (∀ (W : World) j val, W0.cell? ⟨w.heap.size, j, none⟩ = some val → ∀ l1, Wrote W0 b v l1 W → W.cell? ⟨w.heap.size, j, none⟩ = some val) := fun W j val h l1 hwr => (hwr.cell (g := w.heap.size) (off := j) (Array.getElem?_eq_some_iff.1 hn0).1 hoffB).trans h
    have hwi : WrIs W0 b v l0 zs := hw.keeps (keeps_of_below hb0 []) (by simp) (by simp)
    have HS : Hid (∀ l1 W, Wrote W0 b v l1 W → Wrote w b v l1 W) := fun l1 W h => Wrote.later (keeps_of_below hb0 []) h
    have HP := Lib.hid (wPut_yes b v l0 zs 1 1 W0 (by omega) (by decide) (by omega) hwi)
    have HP2 : Hid (∀ (x n : Nat) (l1 : List Bool) (W : World), n ≤ 48 → x < 2 ^ n → l1.length ≤ 100000 → Wrote W0 b v l1 W → Calls Tryz.prog 32 #[.pointer (some ⟨b, 0, none⟩), .int .u64 x, .int .i64 n] W fun e W' => e = .returned (.bool true) ∧ Wrote W0 b v (l1 ++ low x n) W') := fun x n l1 W h1 h2 h3 hwr => by
      obtain ⟨v1, zs1, hw1, _, hnx⟩ := hwr.off
      refine (wPut_yes b v1 l1 zs1 x n W h1 h2 h3 hw1).mono ?_
      rintro e W' ⟨h4, h5⟩
      exact ⟨h4, hnx _ _ h5⟩
    have hk0 : W0.cell? ⟨w.heap.size, 0, none⟩ = some (.int .i64 (a : Int)) := by rw [cell_of_heap hn0]; rfl
    have hk1 : W0.cell? ⟨w.heap.size, 1, none⟩ = some (.int .i64 (g : Int)) := by rw [cell_of_heap hn0]; rfl
    have HK0 := Lib.hid hk0
    have HK1 := Lib.hid hk1
    have HW0 := Lib.hid hW0
    have HE : Hid (((l0 ++ low 1 1) ++ low a 8) ++ low g 4 = l0 ++ termBits a g) := by
      show _ = _
      unfold termBits
      rw [if_neg h0, show low 1 1 = [true] from rfl]
      simp
    have HL1 : Hid ((l0 ++ low 1 1).length ≤ 100000) := by show _ ≤ _; rw [List.length_append, low_length]; omega
    have HL2 : Hid (((l0 ++ low 1 1) ++ low a 8).length ≤ 100000) := by show _ ≤ _; rw [List.length_append, List.length_append, low_length, low_length]; omega
    have ha8 : a < 2 ^ 8 := by omega
    have hg4 : g < 2 ^ 4 := by omega
    have HA8 := Lib.hid ha8
    have HG4 := Lib.hid hg4
    have hau : IntKind.u64.wrap (a : Int) = (a : Int) := by rw [IntKind.wrap_u64]; omega
    have hgu : IntKind.u64.wrap (g : Int) = (g : Int) := by rw [IntKind.wrap_u64]; omega
    clear hb0 hn0 hwr0 hW0 hw hz hg hoffB hwi hk0 hk1 ha8 hg4 h0
    go_enter Tryz.func64, Tryz.ntmps64
    go_wp2_with fail
    rw [← HW0.out]
    refine HP.out.mono ?_
    rintro e w2 ⟨rfl, hw2⟩
    have HW2 := Lib.hid hw2
    have k0 := HCE.out w2 0 _ HK0.out _ hw2
    clear hw2
    go_wp2_with fail
    refine (HP2.out a 8 _ w2 (by omega) HA8.out HL1.out HW2.out).mono ?_
    rintro e w3 ⟨rfl, hw3⟩
    have HW3 := Lib.hid hw3
    have k1 := HCE.out w3 1 _ HK1.out _ hw3
    clear hw3 k0
    go_wp2_with fail
    refine (HP2.out g 4 _ w3 (by omega) HG4.out HL2.out HW3.out).mono ?_
    rintro e w4 ⟨rfl, hw4⟩
    rw [HE.out] at hw4
    have HW4 := Lib.hid (HS.out _ _ hw4)
    clear hw4 k1
    go_wp2
    go_end0
    exact ⟨rfl, HW4.out⟩
end Go.Proofs.YtefbakhhlonafaaGreat
end
