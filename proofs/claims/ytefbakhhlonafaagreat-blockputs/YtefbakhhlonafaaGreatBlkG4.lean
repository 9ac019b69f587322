import Derived.Test.YtefbakhhlonafaaGreatBlkP1
import Derived.Test.YtefbakhhlonafaaGreatRef3d
import Derived.Test.YtefbakhhlonafaaGreatSlideC4

section
namespace Go.Proofs.YtefbakhhlonafaaGreat
open Go.RowKit Go.Proofs Go.Proofs.PipeM Go.Proofs.PipeA Go.Proofs.BlkM
open Go.Proofs.LatM (goodL)
set_option maxRecDepth 100000

theorem bits_normal_str (s a g : Nat) (part : Int) (index rice data : List Int) (m : Nat) : str (bitsB ⟨2, 0, s, index, a, g, part, rice, data⟩ m) = str (low 2 2) ++ str (low s 5) ++ str (low index.length 5) ++ str (index.flatMap (sg 7)) ++ (if a = 0 then ByteArray.mk #[48] else ByteArray.mk #[49] ++ str (low a 8) ++ str (low g 4)) ++ str (slideBits data part rice) := by
  have e : bitsB ⟨2, 0, s, index, a, g, part, rice, data⟩ m = low 2 2 ++ (low s 5 ++ (low index.length 5 ++ (index.flatMap (sg 7) ++ ((if a = 0 then [false] else true :: (low a 8 ++ low g 4)) ++ slideBits data part rice)))) := by
    unfold bitsB
    rw [if_neg (by simp), if_neg (by simp), if_pos rfl]
    by_cases h : a = 0
    · subst h; rfl
    · rw [if_neg (show ¬ ((a : Int) = 0) by omega), if_neg h]; rfl
  rw [e]
  by_cases h : a = 0
  · rw [if_pos h, if_pos h]
    have : ByteArray.mk #[48] = str [false] := rfl
    rw [this]
    simp only [str_append, ByteArray.append_assoc]
  · rw [if_neg h, if_neg h]
    have : ByteArray.mk #[49] = str [true] := rfl
    rw [this]
    have e2 : true :: (low a 8 ++ low g 4) = [true] ++ (low a 8 ++ low g 4) := rfl
    rw [e2]
    simp only [str_append, ByteArray.append_assoc]
theorem slide_size {data rice : List Int} {part : Int} (hp : slideOk data part rice = true) : (slideBits data part rice).length ≤ 1000000 := by
  obtain ⟨p, rfl, h3, hk1, hk8, hk0, hl1, hl2, hs1, hs2, hsp, hks, hin⟩ := slide_parts hp
  have := elemBits_len (data.length / rice.length) rice data data.length
  unfold slideBits
  rw [if_pos hp, listBits, ← elem_body _ (by omega) rice data hsp, List.length_append, low_length]
  omega
theorem good_ix {l : List Int} (h : goodL l = true) : ∀ x ∈ l, -64 ≤ x ∧ x < 64 := fun x hx => by
  unfold goodL at h
  rw [Bool.and_eq_true] at h
  have := of_decide_eq_true (List.all_eq_true.1 h.1 x hx)
  omega

set_option maxHeartbeats 6400000 in
theorem rPut_normal (s a g : Nat) (part : Int) (index rice data : List Int) (ia ra da : Option Addr) (ic rc dc : Nat) (m : Nat) (w : World) (hs : s < 100) (ha : a ≤ 255) (hg : g ≤ 15) (hgl : goodL index = true) (hp : slideOk data part rice = true) (hI : BlkIn w ⟨2, 0, s, index, a, g, part, rice, data⟩ ia ra da ic rc dc) :
    Calls Tryz.prog 11 #[blkV ⟨2, 0, s, index, a, g, part, rice, data⟩ ia ra da ic rc dc, .int .i64 m] w fun e w' => e = .returned (.string (str (bitsB ⟨2, 0, s, index, a, g, part, rice, data⟩ m))) ∧ Below w.heap.size w w' := by
  have hix := LatM.good_len hgl
  have hbx := box_below w (.cells #[.int .i64 2, .int .i64 0, .int .i64 s, .slice ia index.length ic, .int .i64 a, .int .i64 g, .int .i64 part, .slice ra rice.length rc, .slice da data.length dc] 24)
  have HB := Lib.hid hbx
  obtain ⟨w0, hw0⟩ : ∃ w0, w0 = w.alloc (.cells #[.int .i64 2, .int .i64 0, .int .i64 s, .slice ia index.length ic, .int .i64 a, .int .i64 g, .int .i64 part, .slice ra rice.length rc, .slice da data.length dc] 24) := ⟨_, rfl⟩
  have hnw := World.alloc_heap_new w (.cells #[.int .i64 2, .int .i64 0, .int .i64 s, .slice ia index.length ic, .int .i64 a, .int .i64 g, .int .i64 part, .slice ra rice.length rc, .slice da data.length dc] 24)
  rw [← hw0] at HB hnw
  have hI0 := hI.below HB.out
  have K : Hid (∀ W, Below w0.heap.size w0 W → ∀ j v, (#[.int .i64 2, .int .i64 0, .int .i64 s, .slice ia index.length ic, .int .i64 a, .int .i64 g, .int .i64 part, .slice ra rice.length rc, .slice da data.length dc] : Array Value)[j]? = some v → W.cell? ⟨w.heap.size, j, none⟩ = some v) := fun W hW j v hj => by
    rw [hW.cell (p := ⟨w.heap.size, j, none⟩) (Array.getElem?_eq_some_iff.1 hnw).1, cell_of_heap hnw]
    exact hj
  have HPA : Hid (∀ W, Calls Tryz.prog 40 #[blkV ⟨2, 0, s, index, a, g, part, rice, data⟩ ia ra da ic rc dc] W fun e w' => e = .returned (.agg #[.int .i64 part, .slice ra rice.length rc]) ∧ Below W.heap.size W w') := fun W => rParts ⟨2, 0, s, index, a, g, part, rice, data⟩ ia ra da ic rc dc W
  have HSL : Hid (∀ W, Below w0.heap.size w0 W → Calls Tryz.prog 39 #[.slice da data.length dc, .agg #[.int .i64 part, .slice ra rice.length rc]] W fun e w' => e = .returned (.tuple #[.string (str (slideBits data part rice)), .bool true]) ∧ Below W.heap.size W w') := fun W hW => by
    have := refSlide da ra dc rc data part rice W hI.dl hI.rl (hI0.d.below hW) (hI0.r.below hW)
    unfold SlideIs at this
    rw [hp] at this
    exact this
  have hO := bits_normal_str s a g part index rice data m
  have hzs : (str (slideBits data part rice)).size ≤ 1000000 := by rw [str_size]; exact slide_size hp
  have HP0 := fun W => Lib.hid (refPut 2 2 W (by omega) (by omega))
  have HP1 := fun W => Lib.hid (refPut s 5 W (by omega) (by omega))
  have HP2 := fun W => Lib.hid (refPut index.length 5 W (by omega) (by omega))
  have HP3 := fun W => Lib.hid (refPut a 8 W (by omega) (by omega))
  have HP4 := fun W => Lib.hid (refPut g 4 W (by omega) (by omega))
  have hz0 : (str (low 2 2)).size = 2 := by rw [str_size, low_length]
  have hz1 : (str (low s 5)).size = 5 := by rw [str_size, low_length]
  have hz2 : (str (low index.length 5)).size = 5 := by rw [str_size, low_length]
  have hz3 : (str (low a 8)).size = 8 := by rw [str_size, low_length]
  have hz4 : (str (low g 4)).size = 4 := by rw [str_size, low_length]
  have HSG : Hid (∀ c (hc : c < index.length) W, Calls Tryz.prog 38 #[.int .i64 index[c], .int .i64 7] W fun e w' => e = .returned (.string (str (sg 7 index[c]))) ∧ Below W.heap.size W w') := fun c hc W => by
    have hb := good_ix hgl _ (List.getElem_mem hc)
    exact refSigned _ 7 W (by omega) (by omega) hb.1 hb.2
  have HID := Lib.hid hI0.i
  generalize bitsB ⟨2, 0, s, index, a, g, part, rice, data⟩ m = L at *
  generalize str (slideBits data part rice) = ts at *
  generalize str (low 2 2) = t0 at *
  generalize str (low s 5) = t1 at *
  generalize str (low index.length 5) = t2 at *
  generalize str (low a 8) = t3 at *
  generalize str (low g 4) = t4 at *
  obtain ⟨tA, htA⟩ : ∃ tA, tA = t0 ++ t1 ++ t2 := ⟨_, rfl⟩
  rw [← htA] at hO
  have hzA : tA.size ≤ 12 := by rw [htA, ByteArray.size_append, ByteArray.size_append]; omega
  have HTA : Hid (t0 ++ t1 ++ t2 = tA) := htA.symm
  unfold blkV at HPA ⊢
  dsimp only at HPA ⊢
  have HW0 := Lib.hid hw0
  obtain ⟨il, hil⟩ : ∃ il, il = index.length := ⟨_, rfl⟩
  have HIL := Lib.hid hil
  rw [← hil] at HPA HW0 HP2 hix K ⊢
  generalize rice.length = rl at *
  generalize data.length = dl at *
  clear hbx hw0 hnw hI hI0 hp htA hil
  go_enter Tryz.func11, Tryz.ntmps11
  go_wp2_with fail
  rw [← HW0.out]
  refine (HP0 _).out.mono ?_
  rintro e w1 ⟨rfl, hb1⟩
  have HB1 := Lib.hid hb1
  have k0 := K.out w1 hb1 0 _ rfl
  clear hb1
  go_wp2_with fail
  go_region_held3 (fun w' => w'.cell? ⟨w.heap.size, 2, none⟩ = some (.int .i64 s) ∧ w'.cell? ⟨w.heap.size, 3, none⟩ = some (.slice ia il ic))
    (first
      | exact ⟨K.out _ HB1.out 2 _ rfl, K.out _ HB1.out 3 _ rfl⟩
      | exact ⟨K.out _ hq6.out 2 _ rfl, K.out _ hq6.out 3 _ rfl⟩
      | exact ⟨K.out _ hq5.out 2 _ rfl, K.out _ hq5.out 3 _ rfl⟩
      | fail)
    (first
      | (go_at_call 37; have hz := hq5; clear hz; refine (HP2 _).out.mono ?_; rintro e w6 ⟨rfl, hb6⟩; have hq6 := Lib.hid (hq5.out.trans (hb6.mono hq5.out.size)); clear hb6)
      | (go_at_call 37; refine (HP1 _).out.mono ?_; rintro e w5 ⟨rfl, hb5⟩; have hq5 := Lib.hid (HB1.out.trans (((keeps_drew_b w1 []).below (Nat.le_refl _) (by simp)).trans hb5 |>.mono HB1.out.size)); clear hb5)
      | fail)
  have k3 := K.out w6 hq6.out 3 _ rfl
  clear k0
  go_wp2
  rw [HTA.out]
  clear k3
  go_loopg [5, 7, 57] il (fun gk va q1 i wr => ∃ c : Nat, c ≤ il ∧ gk + c = il ∧ i = .int .i64 c ∧ va = .string (tA ++ str ((index.take c).flatMap (sg 7))) ∧ Hid (Below w0.heap.size w0 wr))
  case atStart => exact ⟨0, Nat.zero_le _, by omega, rfl, by simp [str]; exact (ByteArray.append_empty).symm, hq6.out⟩
  case round =>
    obtain ⟨c, hc, hgk, rfl, rfl, HW⟩ := hrel
    have HGK := Lib.hid hgk
    clear hgk
    have hszc : (str ((index.take c).flatMap (sg 7))).size ≤ 112 := by
      rw [str_size]
      have h1 := flat_le 7 index c
      have := HIL.out
      omega
    by_cases hlt : c < il
    · have k3 := K.out wr HW.out 3 _ rfl
      obtain ⟨b, off, rfl, hb, hcell⟩ := (HID.out.below HW.out) c (by rw [← HIL.out]; exact hlt)
      have HS := Lib.hid (HSG.out c (by rw [← HIL.out]; exact hlt) wr)
      have HSN : Hid (tA ++ str ((index.take c).flatMap (sg 7)) ++ str (sg 7 (index[c]'(by rw [← HIL.out]; exact hlt))) = tA ++ str ((index.take (c + 1)).flatMap (sg 7))) := by
        show _ = _
        rw [flat_take (sg 7) (by rw [← HIL.out]; exact hlt), str_append, ByteArray.append_assoc]
      have hs2 : (str (sg 7 (index[c]'(by rw [← HIL.out]; exact hlt)))).size = 7 := by rw [str_size, sg_length]
      have hsz : (tA ++ str ((index.take c).flatMap (sg 7))).size ≤ 200 := by rw [ByteArray.size_append]; omega
      generalize index[c]'(by rw [← HIL.out]; exact hlt) = x at *
      generalize str (sg 7 x) = tx at *
      generalize tA ++ str ((index.take c).flatMap (sg 7)) = tc at *
      clear hb hszc
      go_wp2_with fail
      refine HS.out.mono ?_
      rintro e w7 ⟨rfl, hb7⟩
      have HW7 := Lib.hid (HW.out.trans (hb7.mono HW.out.size))
      clear hb7
      go_wp2
      go_roundg (gk - 1)
      case rel => exact ⟨c + 1, by omega, by have := HGK.out; omega, by go_num, by rw [← HSN.out], HW7⟩
      case measure => have := HGK.out; omega
    · obtain rfl : c = il := by omega
      have hO2 := hO
      have htk : index.take c = index := by rw [HIL.out, List.take_length]
      rw [htk] at hszc ⊢
      obtain ⟨tB, htB⟩ : ∃ tB, tB = tA ++ str (index.flatMap (sg 7)) := ⟨_, rfl⟩
      have hzB : tB.size ≤ 200 := by rw [htB, ByteArray.size_append]; omega
      rw [← htB] at hO2 ⊢
      have k4 := K.out wr HW.out 4 _ rfl
      clear hO htk hszc hlt hc HGK HSG htB hzA HIL
      by_cases h0 : a = 0
      · rw [if_pos h0] at hO2
        subst h0
        have HO : Hid (tB ++ ByteArray.mk #[48] ++ ts = str L) := hO2.symm
        clear hO2
        go_wp2_with fail
        go_region_held3 (fun w' => w'.cell? ⟨w.heap.size, 0, none⟩ = some (.int .i64 2) ∧ w'.cell? ⟨w.heap.size, 1, none⟩ = some (.int .i64 0) ∧ w'.cell? ⟨w.heap.size, 2, none⟩ = some (.int .i64 s) ∧ w'.cell? ⟨w.heap.size, 3, none⟩ = some (.slice ia c ic) ∧ w'.cell? ⟨w.heap.size, 4, none⟩ = some (.int .i64 0) ∧ w'.cell? ⟨w.heap.size, 5, none⟩ = some (.int .i64 g) ∧ w'.cell? ⟨w.heap.size, 6, none⟩ = some (.int .i64 part) ∧ w'.cell? ⟨w.heap.size, 7, none⟩ = some (.slice ra rl rc) ∧ w'.cell? ⟨w.heap.size, 8, none⟩ = some (.slice da dl dc))
          (first
            | exact ⟨K.out _ HW.out 0 _ rfl, K.out _ HW.out 1 _ rfl, K.out _ HW.out 2 _ rfl, K.out _ HW.out 3 _ rfl, K.out _ HW.out 4 _ rfl, K.out _ HW.out 5 _ rfl, K.out _ HW.out 6 _ rfl, K.out _ HW.out 7 _ rfl, K.out _ HW.out 8 _ rfl⟩
            | exact ⟨K.out _ hq9.out 0 _ rfl, K.out _ hq9.out 1 _ rfl, K.out _ hq9.out 2 _ rfl, K.out _ hq9.out 3 _ rfl, K.out _ hq9.out 4 _ rfl, K.out _ hq9.out 5 _ rfl, K.out _ hq9.out 6 _ rfl, K.out _ hq9.out 7 _ rfl, K.out _ hq9.out 8 _ rfl⟩
            | exact ⟨K.out _ hq8.out 0 _ rfl, K.out _ hq8.out 1 _ rfl, K.out _ hq8.out 2 _ rfl, K.out _ hq8.out 3 _ rfl, K.out _ hq8.out 4 _ rfl, K.out _ hq8.out 5 _ rfl, K.out _ hq8.out 6 _ rfl, K.out _ hq8.out 7 _ rfl, K.out _ hq8.out 8 _ rfl⟩
            | fail)
          (first
            | (go_at_call 40; refine (HPA.out _).mono ?_; rintro e w8 ⟨rfl, hb8⟩; have hq8 := Lib.hid (HW.out.trans (((keeps_drew_b wr []).below (Nat.le_refl _) (by simp)).trans hb8 |>.mono HW.out.size)); clear hb8)
            | (go_at_call 39; refine (HSL.out _ hq8.out).mono ?_; rintro e w9 ⟨rfl, hb9⟩; have hq9 := Lib.hid (hq8.out.trans (hb9.mono hq8.out.size)); clear hb9)
            | fail)
        have HF := Lib.hid (HB.out.trans (hq9.out.mono HB.out.size))
        go_wp2
        go_ret
        exact ⟨by rw [← HO.out]; rfl, HF.out⟩
      · rw [if_neg h0] at hO2
        have t8 : ((a : Int) == 0) = false := beq_eq_false_iff_ne.2 (by omega)
        have HO : Hid (tB ++ ByteArray.mk #[49] ++ t3 ++ t4 ++ ts = str L) := by
          show _ = _
          rw [hO2]
          simp only [ByteArray.append_assoc]
        have q1 : (9223372036854775807 < tB.size + 1) = False := eq_false (by omega)
        have q2 : (9223372036854775807 < tB.size + 1 + 8) = False := eq_false (by omega)
        have q3 : (9223372036854775807 < tB.size + 1 + 8 + 4) = False := eq_false (by omega)
        clear hO2 h0
        go_wp2_with fail
        go_region_held3 (fun w' => w'.cell? ⟨w.heap.size, 4, none⟩ = some (.int .i64 a) ∧ w'.cell? ⟨w.heap.size, 5, none⟩ = some (.int .i64 g))
          (first
            | exact ⟨K.out _ HW.out 4 _ rfl, K.out _ HW.out 5 _ rfl⟩
            | exact ⟨K.out _ hq11.out 4 _ rfl, K.out _ hq11.out 5 _ rfl⟩
            | exact ⟨K.out _ hq10.out 4 _ rfl, K.out _ hq10.out 5 _ rfl⟩
            | fail)
          (first
            | (go_at_call 37; have hz := hq10; clear hz; refine (HP4 _).out.mono ?_; rintro e w11 ⟨rfl, hb11⟩; have hq11 := Lib.hid (hq10.out.trans (hb11.mono hq10.out.size)); clear hb11)
            | (go_at_call 37; refine (HP3 _).out.mono ?_; rintro e w10 ⟨rfl, hb10⟩; have hq10 := Lib.hid (HW.out.trans (((keeps_drew_b wr []).below (Nat.le_refl _) (by simp)).trans hb10 |>.mono HW.out.size)); clear hb10)
            | fail)
        clear k4
        go_wp2_with fail
        go_region_held3 (fun w' => w'.cell? ⟨w.heap.size, 0, none⟩ = some (.int .i64 2) ∧ w'.cell? ⟨w.heap.size, 1, none⟩ = some (.int .i64 0) ∧ w'.cell? ⟨w.heap.size, 2, none⟩ = some (.int .i64 s) ∧ w'.cell? ⟨w.heap.size, 3, none⟩ = some (.slice ia c ic) ∧ w'.cell? ⟨w.heap.size, 4, none⟩ = some (.int .i64 a) ∧ w'.cell? ⟨w.heap.size, 5, none⟩ = some (.int .i64 g) ∧ w'.cell? ⟨w.heap.size, 6, none⟩ = some (.int .i64 part) ∧ w'.cell? ⟨w.heap.size, 7, none⟩ = some (.slice ra rl rc) ∧ w'.cell? ⟨w.heap.size, 8, none⟩ = some (.slice da dl dc))
          (first
            | exact ⟨K.out _ hq11.out 0 _ rfl, K.out _ hq11.out 1 _ rfl, K.out _ hq11.out 2 _ rfl, K.out _ hq11.out 3 _ rfl, K.out _ hq11.out 4 _ rfl, K.out _ hq11.out 5 _ rfl, K.out _ hq11.out 6 _ rfl, K.out _ hq11.out 7 _ rfl, K.out _ hq11.out 8 _ rfl⟩
            | exact ⟨K.out _ hq9.out 0 _ rfl, K.out _ hq9.out 1 _ rfl, K.out _ hq9.out 2 _ rfl, K.out _ hq9.out 3 _ rfl, K.out _ hq9.out 4 _ rfl, K.out _ hq9.out 5 _ rfl, K.out _ hq9.out 6 _ rfl, K.out _ hq9.out 7 _ rfl, K.out _ hq9.out 8 _ rfl⟩
            | exact ⟨K.out _ hq8.out 0 _ rfl, K.out _ hq8.out 1 _ rfl, K.out _ hq8.out 2 _ rfl, K.out _ hq8.out 3 _ rfl, K.out _ hq8.out 4 _ rfl, K.out _ hq8.out 5 _ rfl, K.out _ hq8.out 6 _ rfl, K.out _ hq8.out 7 _ rfl, K.out _ hq8.out 8 _ rfl⟩
            | fail)
          (first
            | (go_at_call 40; refine (HPA.out _).mono ?_; rintro e w8 ⟨rfl, hb8⟩; have hq8 := Lib.hid (hq11.out.trans (((keeps_drew_b w11 []).below (Nat.le_refl _) (by simp)).trans hb8 |>.mono hq11.out.size)); clear hb8)
            | (go_at_call 39; refine (HSL.out _ hq8.out).mono ?_; rintro e w9 ⟨rfl, hb9⟩; have hq9 := Lib.hid (hq8.out.trans (hb9.mono hq8.out.size)); clear hb9)
            | fail)
        have HF := Lib.hid (HB.out.trans (hq9.out.mono HB.out.size))
        go_wp2
        go_ret
        exact ⟨by rw [← HO.out]; rfl, HF.out⟩
end Go.Proofs.YtefbakhhlonafaaGreat
end

section
namespace Go.Proofs.YtefbakhhlonafaaGreat
open Go.RowKit Go.Proofs Go.Proofs.PipeM Go.Proofs.PipeA Go.Proofs.BlkM Go.Proofs.BlkB
open Go.Proofs.LatM (goodL)
open Go.Proofs.LagM (goodT)
set_option maxRecDepth 100000

/-- A Normal's bits, behind its Kind's. -/
def normalBits (s a g : Nat) (part : Int) (index rice data : List Int) : List Bool := low s 5 ++ (low index.length 5 ++ (index.flatMap (sg 7) ++ (termBits a g ++ slideBits data part rice)))

set_option maxHeartbeats 6400000 in
theorem cPutNormal (b : Nat) (v : Value) (l0 : List Bool) (zs : List Nat) (s a g : Nat) (part : Int) (index rice data : List Int) (ia ra da : Option Addr) (ic rc dc : Nat) (w : World) (hs : s ≤ 25) (ha : a ≤ 255) (hg : g ≤ 15) (hz : a = 0 → g = 0) (hgl : goodL index = true) (hp : slideOk data part rice = true) (hl0 : l0.length ≤ 18000) (hw : WrIs w b v l0 zs)
    (hI : BlkIn w ⟨2, 0, s, index, a, g, part, rice, data⟩ ia ra da ic rc dc) (hoi : ∀ h off, 0 < index.length → ia = some ⟨h, off, none⟩ → Off b v h) (hor : ∀ h off, 0 < rice.length → ra = some ⟨h, off, none⟩ → Off b v h) (hod : ∀ h off, 0 < data.length → da = some ⟨h, off, none⟩ → Off b v h) :
    Calls Tryz.prog 34 #[.pointer (some ⟨b, 0, none⟩), blkV ⟨2, 0, s, index, a, g, part, rice, data⟩ ia ra da ic rc dc] w (Pushed w b v (l0 ++ normalBits s a g part index rice data)) := by
  have hil16 : index.length ≤ 16 := by
    unfold goodL at hgl
    rw [Bool.and_eq_true] at hgl
    exact of_decide_eq_true hgl.2
  have hix := good_ix hgl
  obtain ⟨W0, hW0⟩ : ∃ W0, W0 = w.alloc (.cells #[.int .i64 2, .int .i64 0, .int .i64 s, .slice ia index.length ic, .int .i64 a, .int .i64 g, .int .i64 part, .slice ra rice.length rc, .slice da data.length dc] 24) := ⟨_, rfl⟩
  have hb0 := box_below w (.cells #[.int .i64 2, .int .i64 0, .int .i64 s, .slice ia index.length ic, .int .i64 a, .int .i64 g, .int .i64 part, .slice ra rice.length rc, .slice da data.length dc] 24)
  have hn0 := World.alloc_heap_new w (.cells #[.int .i64 2, .int .i64 0, .int .i64 s, .slice ia index.length ic, .int .i64 a, .int .i64 g, .int .i64 part, .slice ra rice.length rc, .slice da data.length dc] 24)
  rw [← hW0] at hb0 hn0
  have hI0 := hI.below hb0
  have hwi : WrIs W0 b v l0 zs := hw.keeps (keeps_of_below hb0 []) (by simp) (by simp)
  have HW0R : Hid (Wrote W0 b v l0 W0) := Wrote.refl hwi
  have hoffB : Off b v w.heap.size := Off.new hw (Nat.le_refl _)
  have hlt0 : w.heap.size < W0.heap.size := (Array.getElem?_eq_some_iff.1 hn0).1
  have HS : Hid (∀ l1 W, Wrote W0 b v l1 W → Wrote w b v l1 W) := fun l1 W h => Wrote.later (keeps_of_below hb0 []) h
  have HCE : Hid (∀ (W : World) l1, Wrote W0 b v l1 W → ∀ j val, (#[.int .i64 2, .int .i64 0, .int .i64 s, .slice ia index.length ic, .int .i64 a, .int .i64 g, .int .i64 part, .slice ra rice.length rc, .slice da data.length dc] : Array Value)[j]? = some val → W.cell? ⟨w.heap.size, j, none⟩ = some val) := fun W l1 hwr j val h => by
    rw [hwr.cell (g := w.heap.size) (off := j) hlt0 hoffB, cell_of_heap hn0]
    exact h
  have HP2 : Hid (∀ (x n : Nat) (l1 : List Bool) (W : World), n ≤ 48 → x < 2 ^ n → l1.length ≤ 100000 → Wrote W0 b v l1 W → Calls Tryz.prog 32 #[.pointer (some ⟨b, 0, none⟩), .int .u64 x, .int .i64 n] W fun e W' => e = .returned (.bool true) ∧ Wrote W0 b v (l1 ++ low x n) W') := fun x n l1 W h1 h2 h3 hwr => by
    obtain ⟨v1, zs1, hw1, _, hnx⟩ := hwr.off
    refine (wPut_yes b v1 l1 zs1 x n W h1 h2 h3 hw1).mono ?_
    rintro e W' ⟨h4, h5⟩
    exact ⟨h4, hnx _ _ h5⟩
  have HPE : Hid (∀ (l1 : List Bool) (W : World), l1.length ≤ 90000 → Wrote W0 b v l1 W → Calls Tryz.prog 35 #[.pointer (some ⟨b, 0, none⟩), .slice ia index.length ic, .int .i64 7] W fun e W' => e = .returned (.tuple #[]) ∧ Wrote W0 b v (l1 ++ index.flatMap (sg 7)) W') := fun l1 W h3 hwr => by
    obtain ⟨v1, zs1, hw1, hof, hnx⟩ := hwr.off
    refine (cPutEach b v1 l1 zs1 ia ic index 7 W (by omega) (by omega) (fun x hx => by have := hix x hx; omega) (by omega) (by omega) hw1 (hwr.ints hI0.i hoi) (fun h off h0 e => hof h (ints_lt hI0.i h0 e) (hoi h off h0 e))).mono ?_
    rintro e W' ⟨h4, h5⟩
    exact ⟨h4, hnx _ _ h5⟩
  have HPT : Hid (∀ (l1 : List Bool) (W : World), l1.length ≤ 90000 → Wrote W0 b v l1 W → Calls Tryz.prog 64 #[.pointer (some ⟨b, 0, none⟩), .agg #[.int .i64 (a : Int), .int .i64 (g : Int)]] W fun e W' => e = .returned (.tuple #[]) ∧ Wrote W0 b v (l1 ++ termBits a g) W') := fun l1 W h3 hwr => by
    obtain ⟨v1, zs1, hw1, hof, hnx⟩ := hwr.off
    refine (cPutTerm b v1 l1 zs1 a g W ha hg hz h3 hw1).mono ?_
    rintro e W' ⟨h4, h5⟩
    exact ⟨h4, hnx _ _ h5⟩
  have HPS : Hid (∀ (l1 : List Bool) (W : World), l1.length ≤ 20000 → Wrote W0 b v l1 W → Calls Tryz.prog 66 #[.pointer (some ⟨b, 0, none⟩), .slice da data.length dc, .agg #[.int .i64 part, .slice ra rice.length rc]] W fun e W' => e = .returned (.bool true) ∧ Wrote W0 b v (l1 ++ slideBits data part rice) W') := fun l1 W h3 hwr => by
    obtain ⟨v1, zs1, hw1, hof, hnx⟩ := hwr.off
    obtain ⟨p, _, _, _, _, hk0, hl1, _⟩ := slide_parts hp
    refine (cSPut b v1 l1 zs1 da ra dc rc data part rice W h3 hI.dc hI.dl hI.rl hw1 (hwr.ints hI0.d hod) (hwr.ints hI0.r hor) (fun h off e => hof h (ints_lt hI0.d hl1 e) (hod h off hl1 e)) (fun h off e => hof h (ints_lt hI0.r hk0 e) (hor h off hk0 e))).mono ?_
    rintro e W' ⟨h4, h5⟩
    rw [hp] at h4
    exact ⟨h4, hnx _ _ h5⟩
  have HTO := fun W => Lib.hid (cTermOf ⟨2, 0, s, index, a, g, part, rice, data⟩ ia ra da ic rc dc W)
  have HPO := fun W => Lib.hid (cPartsOf ⟨2, 0, s, index, a, g, part, rice, data⟩ ia ra da ic rc dc W)
  have hsu : IntKind.u64.wrap (s : Int) = (s : Int) := by rw [IntKind.wrap_u64]; omega
  have hiu : IntKind.u64.wrap (index.length : Int) = (index.length : Int) := by rw [IntKind.wrap_u64]; omega
  have hs5 : s < 2 ^ 5 := by omega
  have hi5 : index.length < 2 ^ 5 := by omega
  have hf7 : (index.flatMap (sg 7)).length ≤ 200 := by
    have : ∀ m : List Int, (m.flatMap (sg 7)).length = m.length * 7 := fun m => by
      induction m with
      | nil => simp
      | cons y r ih => rw [List.flatMap_cons, List.length_append, ih, List.length_cons]; unfold sg; rw [low_length, Nat.succ_mul]; omega
    rw [this]; omega
  have htb : (termBits a g).length ≤ 13 := by
    unfold termBits
    split
    · simp
    · simp [low_length]
  have HL1 : Hid (l0.length ≤ 100000) := by show _ ≤ _; omega
  have HL2 : Hid ((l0 ++ low s 5).length ≤ 100000) := by show _ ≤ _; rw [List.length_append, low_length]; omega
  have HL3 : Hid (((l0 ++ low s 5) ++ low index.length 5).length ≤ 90000) := by show _ ≤ _; rw [List.length_append, List.length_append, low_length, low_length]; omega
  have HL4 : Hid ((((l0 ++ low s 5) ++ low index.length 5) ++ index.flatMap (sg 7)).length ≤ 90000) := by show _ ≤ _; rw [List.length_append, List.length_append, List.length_append, low_length, low_length]; omega
  have HL5 : Hid (((((l0 ++ low s 5) ++ low index.length 5) ++ index.flatMap (sg 7)) ++ termBits a g).length ≤ 20000) := by show _ ≤ _; rw [List.length_append, List.length_append, List.length_append, List.length_append, low_length, low_length]; omega
  have HE : Hid (((((l0 ++ low s 5) ++ low index.length 5) ++ index.flatMap (sg 7)) ++ termBits a g) ++ slideBits data part rice = l0 ++ normalBits s a g part index rice data) := by
    show _ = _
    unfold normalBits
    simp only [List.append_assoc]
  have HS5 := Lib.hid hs5
  have HI5 := Lib.hid hi5
  have HW0 := Lib.hid hW0
  unfold blkV at HTO HPO ⊢
  dsimp only at HTO HPO ⊢
  generalize normalBits s a g part index rice data = NB at *
  generalize slideBits data part rice = SB at *
  generalize termBits a g = TB at *
  generalize index.flatMap (sg 7) = FB at *
  have hil : index.length ≤ 16 := hil16
  generalize index.length = il at *
  generalize rice.length = rl at *
  generalize data.length = dl at *
  clear hb0 hn0 hI0 hwi hoffB hlt0 hil16 hix hgl hp hw hI hoi hor hod hW0 hs5 hi5 hf7 htb hl0
  go_enter Tryz.func34, Tryz.ntmps34
  go_wp2_with fail
  rw [← HW0.out]
  refine (HP2.out s 5 _ W0 (by omega) HS5.out HL1.out HW0R.out).mono ?_
  rintro e w1 ⟨rfl, hw1⟩
  have HW1 := Lib.hid hw1
  have k3 := HCE.out w1 _ hw1 3 (.slice ia il ic) rfl
  clear hw1
  go_wp2_with fail
  refine (HP2.out il 5 _ w1 (by omega) HI5.out HL2.out HW1.out).mono ?_
  rintro e w2 ⟨rfl, hw2⟩
  have HW2 := Lib.hid hw2
  have k3 := HCE.out w2 _ hw2 3 (.slice ia il ic) rfl
  clear hw2
  go_wp2_with fail
  refine (HPE.out _ w2 HL3.out HW2.out).mono ?_
  rintro e w3 ⟨rfl, hw3⟩
  have HW3 := Lib.hid hw3
  have k0 := HCE.out w3 _ hw3 0 (.int .i64 2) rfl
  have k1 := HCE.out w3 _ hw3 1 (.int .i64 0) rfl
  have k2 := HCE.out w3 _ hw3 2 (.int .i64 s) rfl
  have k3 := HCE.out w3 _ hw3 3 (.slice ia il ic) rfl
  have k4 := HCE.out w3 _ hw3 4 (.int .i64 a) rfl
  have k5 := HCE.out w3 _ hw3 5 (.int .i64 g) rfl
  have k6 := HCE.out w3 _ hw3 6 (.int .i64 part) rfl
  have k7 := HCE.out w3 _ hw3 7 (.slice ra rl rc) rfl
  have k8 := HCE.out w3 _ hw3 8 (.slice da dl dc) rfl
  clear hw3
  go_wp2_with fail
  refine (HTO _).out.mono ?_
  rintro e w4 ⟨rfl, hb4⟩
  have HW4 := Lib.hid (HW3.out.still hb4)
  clear hb4 k0 k1 k2 k3 k4 k5 k6 k7 k8
  go_wp2_with fail
  refine (HPT.out _ w4 HL4.out HW4.out).mono ?_
  rintro e w5 ⟨rfl, hw5⟩
  have HW5 := Lib.hid hw5
  have HSK : Hid (∀ W l1, Wrote W0 b v l1 W → W.cell? ⟨w.heap.size, 0, none⟩ = some (.int .i64 2) ∧ W.cell? ⟨w.heap.size, 1, none⟩ = some (.int .i64 0) ∧ W.cell? ⟨w.heap.size, 2, none⟩ = some (.int .i64 s) ∧ W.cell? ⟨w.heap.size, 3, none⟩ = some (.slice ia il ic) ∧ W.cell? ⟨w.heap.size, 4, none⟩ = some (.int .i64 a) ∧ W.cell? ⟨w.heap.size, 5, none⟩ = some (.int .i64 g) ∧ W.cell? ⟨w.heap.size, 6, none⟩ = some (.int .i64 part) ∧ W.cell? ⟨w.heap.size, 7, none⟩ = some (.slice ra rl rc) ∧ W.cell? ⟨w.heap.size, 8, none⟩ = some (.slice da dl dc)) := fun W l1 h => ⟨HCE.out W l1 h 0 _ rfl, HCE.out W l1 h 1 _ rfl, HCE.out W l1 h 2 _ rfl, HCE.out W l1 h 3 _ rfl, HCE.out W l1 h 4 _ rfl, HCE.out W l1 h 5 _ rfl, HCE.out W l1 h 6 _ rfl, HCE.out W l1 h 7 _ rfl, HCE.out W l1 h 8 _ rfl⟩
  have ps := HSK.out w5 _ hw5
  clear hw5
  have HD5 := Lib.hid (HW5.out.still ((keeps_drew_b w5 []).below (Nat.le_refl _) (by simp)))
  go_wp2_with fail
  go_region_held3 (fun W => W.cell? ⟨w.heap.size, 0, none⟩ = some (.int .i64 2) ∧ W.cell? ⟨w.heap.size, 1, none⟩ = some (.int .i64 0) ∧ W.cell? ⟨w.heap.size, 2, none⟩ = some (.int .i64 s) ∧ W.cell? ⟨w.heap.size, 3, none⟩ = some (.slice ia il ic) ∧ W.cell? ⟨w.heap.size, 4, none⟩ = some (.int .i64 a) ∧ W.cell? ⟨w.heap.size, 5, none⟩ = some (.int .i64 g) ∧ W.cell? ⟨w.heap.size, 6, none⟩ = some (.int .i64 part) ∧ W.cell? ⟨w.heap.size, 7, none⟩ = some (.slice ra rl rc) ∧ W.cell? ⟨w.heap.size, 8, none⟩ = some (.slice da dl dc))
    (first | exact ps | exact p0 | exact p1 | fail)
    (first
      | (go_at_call 67; refine (HPO _).out.mono ?_; rintro e w6 ⟨rfl, hb6⟩; have HW6 := Lib.hid (HD5.out.still hb6); have p0 := HSK.out w6 _ HW6.out; clear hb6)
      | (go_at_call 66; refine (HPS.out _ _ HL5.out HW6.out).mono ?_; rintro e w7 ⟨rfl, hw7⟩; have p1 := HSK.out w7 _ hw7; have HW7 := Lib.hid (HS.out _ _ hw7); clear hw7)
      | fail)
  clear ps p0 p1
  go_wp2
  go_end0
  exact ⟨rfl, by rw [← HE.out]; exact HW7.out⟩
end Go.Proofs.YtefbakhhlonafaaGreat
end

section
namespace Go.Proofs.YtefbakhhlonafaaGreat
open Go.RowKit Go.Proofs Go.Proofs.PipeM Go.Proofs.PipeA Go.Proofs.BlkM
set_option maxRecDepth 100000

/-- The document's bits of a right block, their number, and whether two are the same. -/
theorem rPut10 (b : Blk) (ia ra da : Option Addr) (ic rc dc : Nat) (n : Int) (m : Nat) (w : World) (h : codeB b n m = 0) (hI : BlkIn w b ia ra da ic rc dc) :
    Calls Tryz.prog 11 #[blkV b ia ra da ic rc dc, .int .i64 m] w fun e w' => e = .returned (.string (str (bitsB b m))) ∧ Below w.heap.size w w' := by
  obtain ⟨k, m', rfl, hm, hk1, hk, hm1, hm2, hf, _, hall⟩ := right_of h
  obtain rfl : m = m' := by omega
  have hs := shape_of hf
  by_cases h2 : b.kind = 2
  · cases hs with
    | zero => exact absurd h2 (by decide)
    | const v => exact absurd h2 (by simp)
    | raw data h => exact absurd h2 (by simp)
    | normal s a g part index rice data h hs ha hg hz hi ht hp => exact rPut_normal s a g part index rice data ia ra da ic rc dc m w (by omega) ha hg hi hp hI
  · exact rPut_few b ia ra da ic rc dc k m w hm1 hm2 hk1 hk hs h2 hall hI
theorem rBits10 (b : Blk) (ia ra da : Option Addr) (ic rc dc : Nat) (n : Int) (m : Nat) (w : World) (h : codeB b n m = 0) (hI : BlkIn w b ia ra da ic rc dc) :
    Calls Tryz.prog 12 #[blkV b ia ra da ic rc dc, .int .i64 m] w fun e w' => e = .returned (.int .i64 ((bitsB b m).length : Nat)) ∧ Below w.heap.size w w' := by
  obtain ⟨k, m', rfl, hm, hk1, hk, hm1, hm2, hf, _, _⟩ := right_of h
  obtain rfl : m = m' := by omega
  have hs := shape_of hf
  by_cases h2 : b.kind = 2
  · cases hs with
    | zero => exact absurd h2 (by decide)
    | const v => exact absurd h2 (by simp)
    | raw data h => exact absurd h2 (by simp)
    | normal s a g part index rice data h hs ha hg hz hi ht hp => exact rBits_normal s a g part index rice data ia ra da ic rc dc m w ha (by have := LatM.good_len hi; omega) hp hI
  · exact rBits_few b ia ra da ic rc dc k m w hm2 hk hs h2

set_option maxHeartbeats 3200000 in
theorem rSame10 (b : Blk) (ia ra da ja sa ea : Option Addr) (ic rc dc jc sc ec : Nat) (w : World) (hI : BlkIn w b ia ra da ic rc dc) (hJ : BlkIn w b ja sa ea jc sc ec) :
    Calls Tryz.prog 18 #[blkV b ia ra da ic rc dc, blkV b ja sa ea jc sc ec] w fun e w' => e = .returned (.bool true) ∧ Below w.heap.size w w' := by
  have HB := fun o1 o2 => Lib.hid (below2 w o1 o2)
  obtain ⟨kind, value, shift, index, lag, gain, part, rice, data⟩ := b
  have HS1 : Hid (∀ W, Below w.heap.size w W → Calls Tryz.prog 19 #[.slice ia index.length ic, .slice ja index.length jc] W fun e w' => e = .returned (.bool true) ∧ ∃ k, w' = W.drewN k) := fun W hW => by
    have := refSame ia ja ic jc index index W (by have := hI.il; simp only at this; omega) (hI.i.below hW) (hJ.i.below hW)
    rwa [decide_eq_true rfl] at this
  have HS2 : Hid (∀ W, Below w.heap.size w W → Calls Tryz.prog 19 #[.slice ra rice.length rc, .slice sa rice.length sc] W fun e w' => e = .returned (.bool true) ∧ ∃ k, w' = W.drewN k) := fun W hW => by
    have := refSame ra sa rc sc rice rice W (by have := hI.rl; simp only at this; omega) (hI.r.below hW) (hJ.r.below hW)
    rwa [decide_eq_true rfl] at this
  have HS3 : Hid (∀ W, Below w.heap.size w W → Calls Tryz.prog 19 #[.slice da data.length dc, .slice ea data.length ec] W fun e w' => e = .returned (.bool true) ∧ ∃ k, w' = W.drewN k) := fun W hW => by
    have := refSame da ea dc ec data data W (by have := hI.dl; simp only at this; omega) (hI.d.below hW) (hJ.d.below hW)
    rwa [decide_eq_true rfl] at this
  clear hI hJ
  unfold blkV
  dsimp only
  generalize index.length = il at *
  generalize rice.length = rl at *
  generalize data.length = dl at *
  go_enter Tryz.func18, Tryz.ntmps18
  go_wp2_with fail
  refine (HS1.out _ (HB _ _).out).mono ?_
  rintro e w1 ⟨rfl, m1, rfl⟩
  go_wp2_with fail
  refine (HS2.out _ (below_drewN (HB _ _).out _)).mono ?_
  rintro e w2 ⟨rfl, m2, rfl⟩
  go_wp2_with fail
  refine (HS3.out _ (below_drewN (HB _ _).out _)).mono ?_
  rintro e w3 ⟨rfl, m3, rfl⟩
  go_wp2
  go_ret
  exact ⟨rfl, below_drewN (HB _ _).out _⟩
end Go.Proofs.YtefbakhhlonafaaGreat
end
