import Derived.Test.YtefbakhhlonafaaGreatActs2
import Derived.Test.YtefbakhhlonafaaGreatRef3g

section
namespace Go.Proofs.YtefbakhhlonafaaGreat
open Go.RowKit Go.Proofs Go.Proofs.PipeM Go.Proofs.PipeA Go.Proofs.BlkM
open Go.Proofs.LatM (goodL)
open Go.Proofs.LagM (goodT)
set_option maxRecDepth 100000

theorem flat_take {α : Type} {l : List Int} {c : Nat} (f : Int → List α) (h : c < l.length) : (l.take (c + 1)).flatMap f = (l.take c).flatMap f ++ f l[c] := by
  rw [List.take_succ_eq_append_getElem h, List.flatMap_append]; simp
theorem flat_le (d : Nat) (l : List Int) (c : Nat) : ((l.take c).flatMap (sg d)).length ≤ l.length * d := by
  rw [flat_sg, List.length_take]
  exact Nat.mul_le_mul_right _ (by omega)
/-- A sample's text. -/
theorem refSg (x : Int) (m : Nat) (w : World) (h1 : 8 ≤ m) (h2 : m ≤ 26) (h : hasP (halfOf (m : Int)) x = true) :
    Calls Tryz.prog 38 #[.int .i64 x, .int .i64 m] w fun e w' => e = .returned (.string (str (sg m x))) ∧ Below w.heap.size w w' := by
  have hb := of_decide_eq_true h
  rw [hp_nat (by omega)] at hb
  have := refSigned x m w (by omega) (by omega) hb.1 hb.2
  exact this

set_option maxHeartbeats 3200000 in
theorem rPut_few (b : Blk) (ia ra da : Option Addr) (ic rc dc : Nat) (k m : Nat) (w : World) (hm1 : 8 ≤ m) (hm2 : m ≤ 26) (hk1 : 1 ≤ k) (hk : k ≤ 1024) (h : Shape k m b) (h2 : b.kind ≠ 2) (hall : (outB b k).all (hasP (halfOf (m : Int))) = true) (hI : BlkIn w b ia ra da ic rc dc) :
    Calls Tryz.prog 11 #[blkV b ia ra da ic rc dc, .int .i64 m] w fun e w' => e = .returned (.string (str (bitsB b m))) ∧ Below w.heap.size w w' := by
  have HB := fun o => Lib.hid (box_below w o)
  cases h with
  | zero =>
    have HO : Hid (bitsB ⟨0, 0, 0, [], 0, 0, 0, [], []⟩ m = low 0 2) := by show _ = _; simp [bitsB]
    generalize bitsB ⟨0, 0, 0, [], 0, 0, 0, [], []⟩ m = L at *
    have HP := fun W => Lib.hid (refPut 0 2 W (by omega) (by omega))
    unfold blkV
    dsimp only [List.length_nil]
    clear h2 hall hI
    go_enter Tryz.func11, Tryz.ntmps11
    go_wp2_with fail
    refine (HP _).out.mono ?_
    rintro e w1 ⟨rfl, hb1⟩
    have HB1 := Lib.hid ((HB _).out.trans (hb1.mono (HB _).out.size))
    have k0 := (hb1.cell (p := ⟨w.heap.size, 0, none⟩) (by simp)).trans (by go_simp : _ = some (.int .i64 0))
    clear hb1
    go_wp2
    go_ret
    exact ⟨by rw [HO.out]; rfl, HB1.out⟩
  | const v =>
    have hv : hasP (halfOf (m : Int)) v = true := by
      rw [List.all_eq_true] at hall
      exact hall v (by simp [outB]; omega)
    have HO : Hid (str (low 1 2) ++ str (sg m v) = str (bitsB ⟨1, v, 0, [], 0, 0, 0, [], []⟩ m)) := by show _ = _; rw [← str_append]; simp [bitsB]
    generalize bitsB ⟨1, v, 0, [], 0, 0, 0, [], []⟩ m = L at *
    have HP := fun W => Lib.hid (refPut 1 2 W (by omega) (by omega))
    have HS := fun W => Lib.hid (refSg v m W hm1 hm2 hv)
    have hz1 : (str (low 1 2)).size = 2 := by rw [str_size, low_length]
    have hz2 : (str (sg m v)).size ≤ 26 := by rw [str_size, sg_length]; exact hm2
    generalize str (sg m v) = tv at *
    generalize str (low 1 2) = t0 at *
    unfold blkV
    dsimp only [List.length_nil]
    clear h2 hall hI hv
    obtain ⟨w0, hw0⟩ : ∃ w0, w0 = w.alloc (.cells #[.int .i64 1, .int .i64 v, .int .i64 0, .slice ia 0 ic, .int .i64 0, .int .i64 0, .int .i64 0, .slice ra 0 rc, .slice da 0 dc] 24) := ⟨_, rfl⟩
    have hnw := World.alloc_heap_new w (.cells #[.int .i64 1, .int .i64 v, .int .i64 0, .slice ia 0 ic, .int .i64 0, .int .i64 0, .int .i64 0, .slice ra 0 rc, .slice da 0 dc] 24)
    have HB0 : Hid (Below w.heap.size w w0) := by rw [hw0]; exact (HB _).out
    rw [← hw0] at hnw
    have K : Hid (∀ W, Below w0.heap.size w0 W → ∀ j u, (#[.int .i64 1, .int .i64 v, .int .i64 0, .slice ia 0 ic, .int .i64 0, .int .i64 0, .int .i64 0, .slice ra 0 rc, .slice da 0 dc] : Array Value)[j]? = some u → W.cell? ⟨w.heap.size, j, none⟩ = some u) := fun W hW j u hj => by
      rw [hW.cell (p := ⟨w.heap.size, j, none⟩) (Array.getElem?_eq_some_iff.1 hnw).1, cell_of_heap hnw]
      exact hj
    have HW0 := Lib.hid hw0
    clear hw0 hnw
    go_enter Tryz.func11, Tryz.ntmps11
    go_wp2_with fail
    rw [← HW0.out]
    refine (HP _).out.mono ?_
    rintro e w1 ⟨rfl, hb1⟩
    have HB1 := Lib.hid hb1
    have k0 := K.out w1 hb1 0 _ rfl
    have k1 := K.out w1 hb1 1 _ rfl
    clear hb1
    go_wp2_with fail
    refine (HS _).out.mono ?_
    rintro e w2 ⟨rfl, hb2⟩
    have hb02 := HB1.out.trans (hb2.mono HB1.out.size)
    have k0' := K.out w2 hb02 0 _ rfl
    have HB2 := Lib.hid (HB0.out.trans (hb02.mono HB0.out.size))
    clear hb2 hb02 k0 k1
    go_wp2
    go_ret
    exact ⟨by rw [← HO.out]; rfl, HB2.out⟩
  | raw data h =>
    have hv : ∀ x ∈ data, hasP (halfOf (m : Int)) x = true := by
      rw [List.all_eq_true] at hall
      intro x hx
      exact hall x (by simp [outB]; exact hx)
    have HO : Hid (low 3 2 ++ (data.take k).flatMap (sg m) = bitsB ⟨3, 0, 0, [], 0, 0, 0, [], data⟩ m) := by show _ = _; rw [← h, List.take_length]; simp [bitsB]
    generalize bitsB ⟨3, 0, 0, [], 0, 0, 0, [], data⟩ m = L at *
    have HP := fun W => Lib.hid (refPut 3 2 W (by omega) (by omega))
    have HSV : Hid (∀ c (hc : c < data.length) W, Calls Tryz.prog 38 #[.int .i64 data[c], .int .i64 m] W fun e w' => e = .returned (.string (str (sg m data[c]))) ∧ Below W.heap.size W w') := fun c hc W => refSg _ m W hm1 hm2 (hv _ (List.getElem_mem _))
    have HID := Lib.hid hI.d
    have hz1 : (str (low 3 2)).size = 2 := by rw [str_size, low_length]
    have HLN : Hid (data.length = k) := h
    unfold blkV
    dsimp only [List.length_nil]
    simp only [h]
    obtain ⟨w0, hw0⟩ : ∃ w0, w0 = w.alloc (.cells #[.int .i64 3, .int .i64 0, .int .i64 0, .slice ia 0 ic, .int .i64 0, .int .i64 0, .int .i64 0, .slice ra 0 rc, .slice da k dc] 24) := ⟨_, rfl⟩
    have hnw := World.alloc_heap_new w (.cells #[.int .i64 3, .int .i64 0, .int .i64 0, .slice ia 0 ic, .int .i64 0, .int .i64 0, .int .i64 0, .slice ra 0 rc, .slice da k dc] 24)
    have HB0 : Hid (Below w.heap.size w w0) := by rw [hw0]; exact (HB _).out
    rw [← hw0] at hnw
    have K : Hid (∀ W, Below w0.heap.size w0 W → ∀ j u, (#[.int .i64 3, .int .i64 0, .int .i64 0, .slice ia 0 ic, .int .i64 0, .int .i64 0, .int .i64 0, .slice ra 0 rc, .slice da k dc] : Array Value)[j]? = some u → W.cell? ⟨w.heap.size, j, none⟩ = some u) := fun W hW j u hj => by
      rw [hW.cell (p := ⟨w.heap.size, j, none⟩) (Array.getElem?_eq_some_iff.1 hnw).1, cell_of_heap hnw]
      exact hj
    have HW0 := Lib.hid hw0
    clear hw0 hnw h2 hall hI hv h
    go_enter Tryz.func11, Tryz.ntmps11
    go_wp2_with fail
    rw [← HW0.out]
    refine (HP _).out.mono ?_
    rintro e w1 ⟨rfl, hb1⟩
    have HB1 := Lib.hid hb1
    have k0 := K.out w1 hb1 0 _ rfl
    have k8 := K.out w1 hb1 8 _ rfl
    clear hb1 hz1
    go_wp2
    clear k0 k8
    go_loopg [5, 6, 28] k (fun gk va q1 i wr => ∃ c : Nat, c ≤ k ∧ gk + c = k ∧ i = .int .i64 c ∧ va = .string (str (low 3 2 ++ (data.take c).flatMap (sg m))) ∧ Hid (Below w0.heap.size w0 wr))
    case atStart => exact ⟨0, Nat.zero_le _, by omega, rfl, by simp, HB1.out⟩
    case round =>
      obtain ⟨c, hc, hgk, rfl, rfl, HW⟩ := hrel
      have HGK := Lib.hid hgk
      clear hgk
      have k8 := K.out wr HW.out 8 _ rfl
      by_cases hlt : c < k
      · obtain ⟨b, off, rfl, hb, hcell⟩ := (HID.out.below (HB0.out.trans (HW.out.mono HB0.out.size))) c (by rw [HLN.out]; exact hlt)
        have HS := Lib.hid (HSV.out c (by rw [HLN.out]; exact hlt) wr)
        have hsz : (str (low 3 2 ++ (data.take c).flatMap (sg m))).size ≤ 30000 := by
          rw [str_size, List.length_append, low_length]
          have h1 := flat_le m data c
          have h2 : data.length * m ≤ 1024 * 26 := by rw [HLN.out]; exact Nat.mul_le_mul hk hm2
          omega
        have HSN : Hid (str (low 3 2 ++ (data.take c).flatMap (sg m)) ++ str (sg m (data[c]'(by rw [HLN.out]; exact hlt))) = str (low 3 2 ++ (data.take (c + 1)).flatMap (sg m))) := by
          show _ = _
          rw [flat_take (sg m) (by rw [HLN.out]; exact hlt), ← str_append, List.append_assoc]
        have hs2 : (str (sg m (data[c]'(by rw [HLN.out]; exact hlt)))).size ≤ 26 := by rw [str_size, sg_length]; exact hm2
        generalize data[c]'(by rw [HLN.out]; exact hlt) = x at *
        generalize str (sg m x) = tx at *
        generalize str (low 3 2 ++ (data.take c).flatMap (sg m)) = t1 at *
        clear hb
        go_wp2_with fail
        refine HS.out.mono ?_
        rintro e w4 ⟨rfl, hb4⟩
        have HW4 := Lib.hid (HW.out.trans (hb4.mono HW.out.size))
        clear hb4
        go_wp2
        go_roundg (gk - 1)
        case rel => exact ⟨c + 1, by omega, by have := HGK.out; omega, by go_num, by rw [← HSN.out], HW4⟩
        case measure => have := HGK.out; omega
      · obtain rfl : c = k := by omega
        have k0 := K.out wr HW.out 0 _ rfl
        have HF := Lib.hid (HB0.out.trans (HW.out.mono HB0.out.size))
        rw [HO.out]
        go_wp2
        go_ret
        exact ⟨rfl, HF.out⟩
  | normal => exact absurd rfl h2
end Go.Proofs.YtefbakhhlonafaaGreat
end

section
namespace Go.Proofs.YtefbakhhlonafaaGreat
open Go.RowKit Go.Proofs Go.Proofs.PipeM Go.Proofs.PipeA Go.Proofs.BlkM Go.Proofs.BlkB
open Go.Proofs.LatM (goodL)
open Go.Proofs.LagM (goodT)
set_option maxRecDepth 100000

/-- What was written stays written, whatever memory is made. -/
theorem Wrote.still {w W W1 : World} {b : Nat} {v : Value} {l : List Bool} (h : Wrote w b v l W) (hb : Below W.heap.size W W1) : Wrote w b v l W1 := by
  obtain ⟨v1, zs1, h1, hk, ho⟩ := h
  exact ⟨v1, zs1, h1.keeps (keeps_of_below hb []) (by simp) (by simp), hk.trans (keeps_of_below hb _), ho⟩
theorem Wrote.cell {w W : World} {b : Nat} {v : Value} {l : List Bool} (h : Wrote w b v l W) {g off : Nat} (hg : g < w.heap.size) (ho : Off b v g) : W.cell? ⟨g, off, none⟩ = w.cell? ⟨g, off, none⟩ := by
  obtain ⟨v1, zs1, h1, hk, _⟩ := h
  exact hk.cell (p := ⟨g, off, none⟩) hg ho
theorem Wrote.ints {w W : World} {b : Nat} {v : Value} {l : List Bool} (h : Wrote w b v l W) {ao : Option Addr} {m : List Int} (hi : IntsAt w ao m) (ho : ∀ g off, 0 < m.length → ao = some ⟨g, off, none⟩ → Off b v g) : IntsAt W ao m := by
  obtain ⟨v1, zs1, h1, hk, _⟩ := h
  intro j hj
  exact hi.keeps hk (fun g off e => ho g off (by omega) e) j hj
theorem Wrote.off {w W : World} {b : Nat} {v : Value} {l : List Bool} (h : Wrote w b v l W) : ∃ v1 zs1, WrIs W b v1 l zs1 ∧ (∀ g, g < w.heap.size → Off b v g → Off b v1 g) ∧ (∀ (l2 : List Bool) W2, Wrote W b v1 l2 W2 → Wrote w b v l2 W2) := by
  obtain ⟨v1, zs1, h1, hk, ho⟩ := h
  exact ⟨v1, zs1, h1, fun g hg hoff => hoff.next hg ho, fun l2 W2 h2 => Wrote.next hk ho h2⟩

/-- A term's bits. -/
def termBits (a g : Nat) : List Bool := if a = 0 then [false] else true :: (low a 8 ++ low g 4)
end Go.Proofs.YtefbakhhlonafaaGreat
end

section
namespace Go.Proofs.YtefbakhhlonafaaGreat
open Go.RowKit Go.Proofs Go.Proofs.PipeM Go.Proofs.PipeA Go.Proofs.BlkM
open Go.Proofs.LatM (goodL)
set_option maxRecDepth 100000

theorem bits_normal_str (s a g : Nat) (part : Int) (index rice data : List Int) (m : Nat) : str (bitsB ⟨2, 0, s, index, a, g, part, rice, data⟩ m) = str (low 2 2) ++ str (low s 5) ++ str (low index.length 5) ++ str (index.flatMap (sg 7)) ++ (if a = 0 then ByteArray.mk #[48] else ByteArray.mk #[49] ++ str (low a 8) ++ str (low g 4)) ++ str (slideBits data part rice) := by
  have e : bitsB ⟨2, 0, s, index, a, g, part, rice, data⟩ m = low 2 2 ++ (low s 5 ++ (low index.length 5 ++ (index.flatMap (sg 7) ++ ((if a = 0 then [false] else true :: (low a 8 ++ low g 4)) ++ slideBits data part rice)))) := by
    unfold bitsB
    rw [if_neg (by simp), if_neg (by simp), if_pos rfl]
    by_cases h : a = 0
    · subst h; rfl
    · rw [if_neg (show ¬ ((a : Int) = 0) by omega), if_neg h]; rfl
  rw [e]
  by_cases h : a = 0
  · rw [if_pos h, if_pos h]
    have : ByteArray.mk #[48] = str [false] := rfl
    rw [this]
    simp only [str_append, ByteArray.append_assoc]
  · rw [if_neg h, if_neg h]
    have : ByteArray.mk #[49] = str [true] := rfl
    rw [this]
    have e2 : true :: (low a 8 ++ low g 4) = [true] ++ (low a 8 ++ low g 4) := rfl
    rw [e2]
    simp only [str_append, ByteArray.append_assoc]
theorem slide_size {data rice : List Int} {part : Int} (hp : slideOk data part rice = true) : (slideBits data part rice).length ≤ 1000000 := by
  obtain ⟨p, rfl, h3, hk1, hk8, hk0, hl1, hl2, hs1, hs2, hsp, hks, hin⟩ := slide_parts hp
  have := elemBits_len (data.length / rice.length) rice data data.length
  unfold slideBits
  rw [if_pos hp, listBits, ← elem_body _ (by omega) rice data hsp, List.length_append, low_length]
  omega
theorem good_ix {l : List Int} (h : goodL l = true) : ∀ x ∈ l, -64 ≤ x ∧ x < 64 := fun x hx => by
  unfold goodL at h
  rw [Bool.and_eq_true] at h
  have := of_decide_eq_true (List.all_eq_true.1 h.1 x hx)
  omega

set_option maxHeartbeats 6400000 in
theorem rPut_normal (s a g : Nat) (part : Int) (index rice data : List Int) (ia ra da : Option Addr) (ic rc dc : Nat) (m : Nat) (w : World) (hs : s < 100) (ha : a ≤ 255) (hg : g ≤ 15) (hgl : goodL index = true) (hp : slideOk data part rice = true) (hI : BlkIn w ⟨2, 0, s, index, a, g, part, rice, data⟩ ia ra da ic rc dc) :
    Calls Tryz.prog 11 #[blkV ⟨2, 0, s, index, a, g, part, rice, data⟩ ia ra da ic rc dc, .int .i64 m] w fun e w' => e = .returned (.string (str (bitsB ⟨2, 0, s, index, a, g, part, rice, data⟩ m))) ∧ Below w.heap.size w w' := by
  have hix := LatM.good_len hgl
  have hbx := box_below w (.cells #[.int .i64 2, .int .i64 0, .int .i64 s, .slice ia index.length ic, .int .i64 a, .int .i64 g, .int .i64 part, .slice ra rice.length rc, .slice da data.length dc] 24)
  have HB := Lib.hid hbx
  obtain ⟨w0, hw0⟩ : ∃ w0, w0 = w.alloc (.cells #[.int .i64 2, .int .i64 0, .int .i64 s, .slice ia index.length ic, .int .i64 a, .int .i64 g, .int .i64 part, .slice ra rice.length rc, .slice da data.length dc] 24) := ⟨_, rfl⟩
  have hnw := World.alloc_heap_new w (.cells #[.int .i64 2, .int .i64 0, .int .i64 s, .slice ia index.length ic, .int .i64 a, .int .i64 g, .int .i64 part, .slice ra rice.length rc, .slice da data.length dc] 24)
  rw [← hw0] at HB hnw
  have hI0 := hI.below HB.out
  have K : Hid (∀ W, Below w0.heap.size w0 W → ∀ j v, (#[.int .i64 2, .int .i64 0, .int .i64 s, .slice ia index.length ic, .int .i64 a, .int .i64 g, .int .i64 part, .slice ra rice.length rc, .slice da data.length dc] : Array Value)[j]? = some v → W.cell? ⟨w.heap.size, j, none⟩ = some v) := fun W hW j v hj => by
    rw [hW.cell (p := ⟨w.heap.size, j, none⟩) (Array.getElem?_eq_some_iff.1 hnw).1, cell_of_heap hnw]
    exact hj
  have HPA : Hid (∀ W, Calls Tryz.prog 40 #[blkV ⟨2, 0, s, index, a, g, part, rice, data⟩ ia ra da ic rc dc] W fun e w' => e = .returned (.agg #[.int .i64 part, .slice ra rice.length rc]) ∧ Below W.heap.size W w') := fun W => rParts ⟨2, 0, s, index, a, g, part, rice, data⟩ ia ra da ic rc dc W
  have HSL : Hid (∀ W, Below w0.heap.size w0 W → Calls Tryz.prog 39 #[.slice da data.length dc, .agg #[.int .i64 part, .slice ra rice.length rc]] W fun e w' => e = .returned (.tuple #[.string (str (slideBits data part rice)), .bool true]) ∧ Below W.heap.size W w') := fun W hW => by
    have := refSlide da ra dc rc data part rice W hI.dl hI.rl (hI0.d.below hW) (hI0.r.below hW)
    unfold SlideIs at this
    rw [hp] at this
    exact this
  have hO := bits_normal_str s a g part index rice data m
  have hzs : (str (slideBits data part rice)).size ≤ 1000000 := by rw [str_size]; exact slide_size hp
  have HP0 := fun W => Lib.hid (refPut 2 2 W (by omega) (by omega))
  have HP1 := fun W => Lib.hid (refPut s 5 W (by omega) (by omega))
  have HP2 := fun W => Lib.hid (refPut index.length 5 W (by omega) (by omega))
  have HP3 := fun W => Lib.hid (refPut a 8 W (by omega) (by omega))
  have HP4 := fun W => Lib.hid (refPut g 4 W (by omega) (by omega))
  have hz0 : (str (low 2 2)).size = 2 := by rw [str_size, low_length]
  have hz1 : (str (low s 5)).size = 5 := by rw [str_size, low_length]
  have hz2 : (str (low index.length 5)).size = 5 := by rw [str_size, low_length]
  have hz3 : (str (low a 8)).size = 8 := by rw [str_size, low_length]
  have hz4 : (str (low g 4)).size = 4 := by rw [str_size, low_length]
  have HSG : Hid (∀ c (hc : c < index.length) W, Calls Tryz.prog 38 #[.int .i64 index[c], .int .i64 7] W fun e w' => e = .returned (.string (str (sg 7 index[c]))) ∧ Below W.heap.size W w') := fun c hc W => by
    have hb := good_ix hgl _ (List.getElem_mem hc)
    exact refSigned _ 7 W (by omega) (by omega) hb.1 hb.2
  have HID := Lib.hid hI0.i
  generalize bitsB ⟨2, 0, s, index, a, g, part, rice, data⟩ m = L at *
  generalize str (slideBits data part rice) = ts at *
  generalize str (low 2 2) = t0 at *
  generalize str (low s 5) = t1 at *
  generalize str (low index.length 5) = t2 at *
  generalize str (low a 8) = t3 at *
  generalize str (low g 4) = t4 at *
  obtain ⟨tA, htA⟩ : ∃ tA, tA = t0 ++ t1 ++ t2 := ⟨_, rfl⟩
  rw [← htA] at hO
  have hzA : tA.size ≤ 12 := by rw [htA, ByteArray.size_append, ByteArray.size_append]; omega
  have HTA : Hid (t0 ++ t1 ++ t2 = tA) := htA.symm
  unfold blkV at HPA ⊢
  dsimp only at HPA ⊢
  have HW0 := Lib.hid hw0
  obtain ⟨il, hil⟩ : ∃ il, il = index.length := ⟨_, rfl⟩
  have HIL := Lib.hid hil
  rw [← hil] at HPA HW0 HP2 hix K ⊢
  generalize rice.length = rl at *
  generalize data.length = dl at *
  clear hbx hw0 hnw hI hI0 hp htA hil
  go_enter Tryz.func11, Tryz.ntmps11
  go_wp2_with fail
  rw [← HW0.out]
  refine (HP0 _).out.mono ?_
  rintro e w1 ⟨rfl, hb1⟩
  have HB1 := Lib.hid hb1
  have k0 := K.out w1 hb1 0 _ rfl
  clear hb1
  go_wp2_with fail
  go_region_held3 (fun w' => w'.cell? ⟨w.heap.size, 2, none⟩ = some (.int .i64 s) ∧ w'.cell? ⟨w.heap.size, 3, none⟩ = some (.slice ia il ic))
    (first
      | exact ⟨K.out _ HB1.out 2 _ rfl, K.out _ HB1.out 3 _ rfl⟩
      | exact ⟨K.out _ hq6.out 2 _ rfl, K.out _ hq6.out 3 _ rfl⟩
      | exact ⟨K.out _ hq5.out 2 _ rfl, K.out _ hq5.out 3 _ rfl⟩
      | fail)
    (first
      | (go_at_call 37; have hz := hq5; clear hz; refine (HP2 _).out.mono ?_; rintro e w6 ⟨rfl, hb6⟩; have hq6 := Lib.hid (hq5.out.trans (hb6.mono hq5.out.size)); clear hb6)
      | (go_at_call 37; refine (HP1 _).out.mono ?_; rintro e w5 ⟨rfl, hb5⟩; have hq5 := Lib.hid (HB1.out.trans (((keeps_drew_b w1 []).below (Nat.le_refl _) (by simp)).trans hb5 |>.mono HB1.out.size)); clear hb5)
      | fail)
  have k3 := K.out w6 hq6.out 3 _ rfl
  clear k0
  go_wp2
  rw [HTA.out]
  clear k3
  go_loopg [5, 7, 57] il (fun gk va q1 i wr => ∃ c : Nat, c ≤ il ∧ gk + c = il ∧ i = .int .i64 c ∧ va = .string (tA ++ str ((index.take c).flatMap (sg 7))) ∧ Hid (Below w0.heap.size w0 wr))
  case atStart => exact ⟨0, Nat.zero_le _, by omega, rfl, by simp [str]; exact (ByteArray.append_empty).symm, hq6.out⟩
  case round =>
    obtain ⟨c, hc, hgk, rfl, rfl, HW⟩ := hrel
    have HGK := Lib.hid hgk
    clear hgk
    have hszc : (str ((index.take c).flatMap (sg 7))).size ≤ 112 := by
      rw [str_size]
      have h1 := flat_le 7 index c
      have := HIL.out
      omega
    by_cases hlt : c < il
    · have k3 := K.out wr HW.out 3 _ rfl
      obtain ⟨b, off, rfl, hb, hcell⟩ := (HID.out.below HW.out) c (by rw [← HIL.out]; exact hlt)
      have HS := Lib.hid (HSG.out c (by rw [← HIL.out]; exact hlt) wr)
      have HSN : Hid (tA ++ str ((index.take c).flatMap (sg 7)) ++ str (sg 7 (index[c]'(by rw [← HIL.out]; exact hlt))) = tA ++ str ((index.take (c + 1)).flatMap (sg 7))) := by
        show _ = _
        rw [flat_take (sg 7) (by rw [← HIL.out]; exact hlt), str_append, ByteArray.append_assoc]
      have hs2 : (str (sg 7 (index[c]'(by rw [← HIL.out]; exact hlt)))).size = 7 := by rw [str_size, sg_length]
      have hsz : (tA ++ str ((index.take c).flatMap (sg 7))).size ≤ 200 := by rw [ByteArray.size_append]; omega
      generalize index[c]'(by rw [← HIL.out]; exact hlt) = x at *
      generalize str (sg 7 x) = tx at *
      generalize tA ++ str ((index.take c).flatMap (sg 7)) = tc at *
      clear hb hszc
      go_wp2_with fail
      refine HS.out.mono ?_
      rintro e w7 ⟨rfl, hb7⟩
      have HW7 := Lib.hid (HW.out.trans (hb7.mono HW.out.size))
      clear hb7
      go_wp2
      go_roundg (gk - 1)
      case rel => exact ⟨c + 1, by omega, by have := HGK.out; omega, by go_num, by rw [← HSN.out], HW7⟩
      case measure => have := HGK.out; omega
    · obtain rfl : c = il := by omega
      have hO2 := hO
      have htk : index.take c = index := by rw [HIL.out, List.take_length]
      rw [htk] at hszc ⊢
      obtain ⟨tB, htB⟩ : ∃ tB, tB = tA ++ str (index.flatMap (sg 7)) := ⟨_, rfl⟩
      have hzB : tB.size ≤ 200 := by rw [htB, ByteArray.size_append]; omega
      rw [← htB] at hO2 ⊢
      have k4 := K.out wr HW.out 4 _ rfl
      clear hO htk hszc hlt hc HGK HSG htB hzA HIL
      by_cases h0 : a = 0
      · rw [if_pos h0] at hO2
        subst h0
        have HO : Hid (tB ++ ByteArray.mk #[48] ++ ts = str L) := hO2.symm
        clear hO2
        go_wp2_with fail
        go_region_held3 (fun w' => w'.cell? ⟨w.heap.size, 0, none⟩ = some (.int .i64 2) ∧ w'.cell? ⟨w.heap.size, 1, none⟩ = some (.int .i64 0) ∧ w'.cell? ⟨w.heap.size, 2, none⟩ = some (.int .i64 s) ∧ w'.cell? ⟨w.heap.size, 3, none⟩ = some (.slice ia c ic) ∧ w'.cell? ⟨w.heap.size, 4, none⟩ = some (.int .i64 0) ∧ w'.cell? ⟨w.heap.size, 5, none⟩ = some (.int .i64 g) ∧ w'.cell? ⟨w.heap.size, 6, none⟩ = some (.int .i64 part) ∧ w'.cell? ⟨w.heap.size, 7, none⟩ = some (.slice ra rl rc) ∧ w'.cell? ⟨w.heap.size, 8, none⟩ = some (.slice da dl dc))
          (first
            | exact ⟨K.out _ HW.out 0 _ rfl, K.out _ HW.out 1 _ rfl, K.out _ HW.out 2 _ rfl, K.out _ HW.out 3 _ rfl, K.out _ HW.out 4 _ rfl, K.out _ HW.out 5 _ rfl, K.out _ HW.out 6 _ rfl, K.out _ HW.out 7 _ rfl, K.out _ HW.out 8 _ rfl⟩
            | exact ⟨K.out _ hq9.out 0 _ rfl, K.out _ hq9.out 1 _ rfl, K.out _ hq9.out 2 _ rfl, K.out _ hq9.out 3 _ rfl, K.out _ hq9.out 4 _ rfl, K.out _ hq9.out 5 _ rfl, K.out _ hq9.out 6 _ rfl, K.out _ hq9.out 7 _ rfl, K.out _ hq9.out 8 _ rfl⟩
            | exact ⟨K.out _ hq8.out 0 _ rfl, K.out _ hq8.out 1 _ rfl, K.out _ hq8.out 2 _ rfl, K.out _ hq8.out 3 _ rfl, K.out _ hq8.out 4 _ rfl, K.out _ hq8.out 5 _ rfl, K.out _ hq8.out 6 _ rfl, K.out _ hq8.out 7 _ rfl, K.out _ hq8.out 8 _ rfl⟩
            | fail)
          (first
            | (go_at_call 40; refine (HPA.out _).mono ?_; rintro e w8 ⟨rfl, hb8⟩; have hq8 := Lib.hid (HW.out.trans (((keeps_drew_b wr []).below (Nat.le_refl _) (by simp)).trans hb8 |>.mono HW.out.size)); clear hb8)
            | (go_at_call 39; refine (HSL.out _ hq8.out).mono ?_; rintro e w9 ⟨rfl, hb9⟩; have hq9 := Lib.hid (hq8.out.trans (hb9.mono hq8.out.size)); clear hb9)
            | fail)
        have HF := Lib.hid (HB.out.trans (hq9.out.mono HB.out.size))
        go_wp2
        go_ret
        exact ⟨by rw [← HO.out]; rfl, HF.out⟩
      · rw [if_neg h0] at hO2
        have t8 : ((a : Int) == 0) = false := beq_eq_false_iff_ne.2 (by omega)
        have HO : Hid (tB ++ ByteArray.mk #[49] ++ t3 ++ t4 ++ ts = str L) := by
          show _ = _
          rw [hO2]
          simp only [ByteArray.append_assoc]
        have q1 : (9223372036854775807 < tB.size + 1) = False := eq_false (by omega)
        have q2 : (9223372036854775807 < tB.size + 1 + 8) = False := eq_false (by omega)
        have q3 : (9223372036854775807 < tB.size + 1 + 8 + 4) = False := eq_false (by omega)
        clear hO2 h0
        go_wp2_with fail
        go_region_held3 (fun w' => w'.cell? ⟨w.heap.size, 4, none⟩ = some (.int .i64 a) ∧ w'.cell? ⟨w.heap.size, 5, none⟩ = some (.int .i64 g))
          (first
            | exact ⟨K.out _ HW.out 4 _ rfl, K.out _ HW.out 5 _ rfl⟩
            | exact ⟨K.out _ hq11.out 4 _ rfl, K.out _ hq11.out 5 _ rfl⟩
            | exact ⟨K.out _ hq10.out 4 _ rfl, K.out _ hq10.out 5 _ rfl⟩
            | fail)
          (first
            | (go_at_call 37; have hz := hq10; clear hz; refine (HP4 _).out.mono ?_; rintro e w11 ⟨rfl, hb11⟩; have hq11 := Lib.hid (hq10.out.trans (hb11.mono hq10.out.size)); clear hb11)
            | (go_at_call 37; refine (HP3 _).out.mono ?_; rintro e w10 ⟨rfl, hb10⟩; have hq10 := Lib.hid (HW.out.trans (((keeps_drew_b wr []).below (Nat.le_refl _) (by simp)).trans hb10 |>.mono HW.out.size)); clear hb10)
            | fail)
        clear k4
        go_wp2_with fail
        go_region_held3 (fun w' => w'.cell? ⟨w.heap.size, 0, none⟩ = some (.int .i64 2) ∧ w'.cell? ⟨w.heap.size, 1, none⟩ = some (.int .i64 0) ∧ w'.cell? ⟨w.heap.size, 2, none⟩ = some (.int .i64 s) ∧ w'.cell? ⟨w.heap.size, 3, none⟩ = some (.slice ia c ic) ∧ w'.cell? ⟨w.heap.size, 4, none⟩ = some (.int .i64 a) ∧ w'.cell? ⟨w.heap.size, 5, none⟩ = some (.int .i64 g) ∧ w'.cell? ⟨w.heap.size, 6, none⟩ = some (.int .i64 part) ∧ w'.cell? ⟨w.heap.size, 7, none⟩ = some (.slice ra rl rc) ∧ w'.cell? ⟨w.heap.size, 8, none⟩ = some (.slice da dl dc))
          (first
            | exact ⟨K.out _ hq11.out 0 _ rfl, K.out _ hq11.out 1 _ rfl, K.out _ hq11.out 2 _ rfl, K.out _ hq11.out 3 _ rfl, K.out _ hq11.out 4 _ rfl, K.out _ hq11.out 5 _ rfl, K.out _ hq11.out 6 _ rfl, K.out _ hq11.out 7 _ rfl, K.out _ hq11.out 8 _ rfl⟩
            | exact ⟨K.out _ hq9.out 0 _ rfl, K.out _ hq9.out 1 _ rfl, K.out _ hq9.out 2 _ rfl, K.out _ hq9.out 3 _ rfl, K.out _ hq9.out 4 _ rfl, K.out _ hq9.out 5 _ rfl, K.out _ hq9.out 6 _ rfl, K.out _ hq9.out 7 _ rfl, K.out _ hq9.out 8 _ rfl⟩
            | exact ⟨K.out _ hq8.out 0 _ rfl, K.out _ hq8.out 1 _ rfl, K.out _ hq8.out 2 _ rfl, K.out _ hq8.out 3 _ rfl, K.out _ hq8.out 4 _ rfl, K.out _ hq8.out 5 _ rfl, K.out _ hq8.out 6 _ rfl, K.out _ hq8.out 7 _ rfl, K.out _ hq8.out 8 _ rfl⟩
            | fail)
          (first
            | (go_at_call 40; refine (HPA.out _).mono ?_; rintro e w8 ⟨rfl, hb8⟩; have hq8 := Lib.hid (hq11.out.trans (((keeps_drew_b w11 []).below (Nat.le_refl _) (by simp)).trans hb8 |>.mono hq11.out.size)); clear hb8)
            | (go_at_call 39; refine (HSL.out _ hq8.out).mono ?_; rintro e w9 ⟨rfl, hb9⟩; have hq9 := Lib.hid (hq8.out.trans (hb9.mono hq8.out.size)); clear hb9)
            | fail)
        have HF := Lib.hid (HB.out.trans (hq9.out.mono HB.out.size))
        go_wp2
        go_ret
        exact ⟨by rw [← HO.out]; rfl, HF.out⟩
end Go.Proofs.YtefbakhhlonafaaGreat
end
