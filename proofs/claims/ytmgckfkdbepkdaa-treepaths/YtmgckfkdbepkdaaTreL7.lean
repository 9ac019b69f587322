import Derived.Test.YtmgckfkdbepkdaaTreL1
import Derived.Test.YtmgckfkdbepkdaaTreY3
namespace Go.Proofs.Ytmgckfkdbepkdaa
open Go.RowKit Go.Proofs Go.Proofs.PipeM Go.Proofs.PipeA Go.Proofs.TreM
set_option maxRecDepth 100000

set_option maxHeartbeats 1600000 in
theorem treePaths_much (s : List UInt8) (size : Int) (y : Nat) (w : World) (hs : s.length ≤ 9223372036854775807) (h : 200 < s.length) :
    Calls Try.prog 8 #[.string (bs s), .int .i64 size, .int .u8 (y : Int)] w fun e w' => e = .returned (.bool true) ∧ Below w.heap.size w w' := by
  have HA := fun W => Lib.hid (awake9 W)
  have HB0 := Lib.hid (box_below w (.cells #[.int .i64 size] 3))
  obtain ⟨S, hS⟩ : ∃ S, S = bs s := ⟨_, rfl⟩
  have h1 : 200 < S.size := by rw [hS, bs_size]; exact h
  have h2 : S.size ≤ 9223372036854775807 := by rw [hS, bs_size]; exact hs
  rw [← hS]
  clear hS hs h
  go_enter Try.func8, Try.ntmps8
  go_wp2_with fail
  refine (HA _).out.mono ?_
  rintro e w1 ⟨rfl, hb1⟩
  have HB1 := Lib.hid (HB0.out.trans (hb1.mono HB0.out.size))
  clear hb1
  go_wp2_with fail
  refine (HA _).out.mono ?_
  rintro e w2 ⟨rfl, hb2⟩
  have HB2 := Lib.hid (HB1.out.trans (hb2.mono HB1.out.size))
  clear hb2
  go_wp2
  go_ret
  exact ⟨rfl, HB2.out⟩

/-- Five objects, one behind the other. -/
structure Five (w A : World) (o1 o2 o3 o4 o5 : Obj) : Prop where
  h1 : A.heap[w.heap.size]? = some o1
  h2 : A.heap[w.heap.size + 1]? = some o2
  h3 : A.heap[w.heap.size + 1 + 1]? = some o3
  h4 : A.heap[w.heap.size + 1 + 1 + 1]? = some o4
  h5 : A.heap[w.heap.size + 1 + 1 + 1 + 1]? = some o5
  size : A.heap.size = w.heap.size + 5
  below : Below w.heap.size w A
theorem five (w : World) (o1 o2 o3 o4 o5 : Obj) : Five w (((((w.alloc o1).alloc o2).alloc o3).alloc o4).alloc o5) o1 o2 o3 o4 o5 := by
  have a1 := World.alloc_heap_new w o1
  have a2 := World.alloc_heap_new (w.alloc o1) o2
  have a3 := World.alloc_heap_new ((w.alloc o1).alloc o2) o3
  have a4 := World.alloc_heap_new (((w.alloc o1).alloc o2).alloc o3) o4
  have a5 := World.alloc_heap_new ((((w.alloc o1).alloc o2).alloc o3).alloc o4) o5
  have z1 : (w.alloc o1).heap.size = w.heap.size + 1 := by simp
  have z2 : ((w.alloc o1).alloc o2).heap.size = w.heap.size + 1 + 1 := by simp
  have z3 : (((w.alloc o1).alloc o2).alloc o3).heap.size = w.heap.size + 1 + 1 + 1 := by simp
  have z4 : ((((w.alloc o1).alloc o2).alloc o3).alloc o4).heap.size = w.heap.size + 1 + 1 + 1 + 1 := by simp
  have b2 := box_below (w.alloc o1) o2
  have b3 := box_below ((w.alloc o1).alloc o2) o3
  have b4 := box_below (((w.alloc o1).alloc o2).alloc o3) o4
  have b5 := box_below ((((w.alloc o1).alloc o2).alloc o3).alloc o4) o5
  have b45 := b4.trans (b5.mono b4.size)
  have b345 := b3.trans (b45.mono b3.size)
  have b2345 := b2.trans (b345.mono b2.size)
  rw [z1] at a2
  rw [z2] at a3
  rw [z3] at a4
  rw [z4] at a5
  refine ⟨(b2345.block _ (by omega)).trans a1, (b345.block _ (by omega)).trans a2, (b45.block _ (by omega)).trans a3, (b5.block _ (by omega)).trans a4, a5, by simp, (box_below w o1).trans (b2345.mono (by omega))⟩

set_option maxHeartbeats 3200000 in
theorem treePaths_no (s : List UInt8) (size : Int) (y : Nat) (w : World) (hz : -9223372036854775808 ≤ size ∧ size ≤ 9223372036854775807) (hy : y < 256) (hs : s.length ≤ 200) (hc : codeL size s ≠ 0) :
    Calls Try.prog 8 #[.string (bs s), .int .i64 size, .int .u8 (y : Int)] w fun e w' => e = .returned (.bool true) ∧ Below w.heap.size w w' := by
  have HA := fun W => Lib.hid (awake9 W)
  have hbx := box_below w (.cells #[.int .i64 size] 3)
  have hn := World.alloc_heap_new w (.cells #[.int .i64 size] 3)
  have HR := fun W => Lib.hid (rLeaves size s W hz (by omega))
  have HNO := fun yv TB SB W h1 h2 => Lib.hid (cPaths_no s size yv TB SB W (by omega) hc h1 h2)
  have HC := Lib.hid hc
  obtain ⟨m, hm, hm19⟩ : ∃ m : Nat, (y : Int) % 20 = (m : Int) ∧ m ≤ 19 := ⟨y % 20, by omega, by omega⟩
  have HM := Lib.hid hm
  obtain ⟨S, hS⟩ : ∃ S, S = bs s := ⟨_, rfl⟩
  have h1 : S.size ≤ 200 := by rw [hS, bs_size]; exact hs
  rw [← hS] at HR HNO ⊢
  obtain ⟨cd, hcd⟩ : ∃ cd, cd = codeL size s := ⟨_, rfl⟩
  have HCD := Lib.hid hcd
  have t1 : (cd == 0) = false := by rw [hcd]; exact beq_eq_false_iff_ne.2 hc
  have HB0 := Lib.hid hbx
  have HW0LT : Hid (∀ W, Below (w.alloc (.cells #[.int .i64 size] 3)).heap.size (w.alloc (.cells #[.int .i64 size] 3)) W → w.heap.size < W.heap.size) := fun W hW => Nat.lt_of_lt_of_le (by simp) hW.size
  have k4 : Hid (∀ W, Below (w.alloc (.cells #[.int .i64 size] 3)).heap.size (w.alloc (.cells #[.int .i64 size] 3)) W → W.cell? ⟨w.heap.size, 0, none⟩ = some (.int .i64 size)) := fun W hW => (hW.cell (p := ⟨w.heap.size, 0, none⟩) (by simp)).trans (cell_of_heap hn 0)
  obtain ⟨w0, hw0⟩ : ∃ w0, w0 = w.alloc (.cells #[.int .i64 size] 3) := ⟨_, rfl⟩
  have HW0 := Lib.hid hw0
  rw [← hw0] at HB0 k4 HW0LT
  clear hS hs hc hbx hn hcd hm hw0
  go_enter Try.func8, Try.ntmps8
  go_wp2_with fail
  rw [← HW0.out]
  refine (HA _).out.mono ?_
  rintro e w1 ⟨rfl, hb1⟩
  have HB1 := Lib.hid hb1
  have e4 := k4.out w1 hb1
  clear hb1
  go_wp2_with fail
  refine (HR _).out.mono ?_
  rintro e w2 (⟨_, rfl, hb2⟩ | ⟨h, _⟩)
  · have HB2 := Lib.hid (HB1.out.trans (hb2.mono HB1.out.size))
    have e42 := k4.out w2 HB2.out
    rw [← HCD.out]
    clear hb2 e4
    have hf := five w2 (.cells #[.slice none 0 0] 23) (.cells #[.slice none 0 0] 58) (.cells #[.int .i64 0] 3) (.cells #[.int .i64 ((y : Int) % 20)] 3) (.cells #[.bool true] 4)
    obtain ⟨A, hA⟩ : ∃ A, A = ((((w2.alloc (.cells #[.slice none 0 0] 23)).alloc (.cells #[.slice none 0 0] 58)).alloc (.cells #[.int .i64 0] 3)).alloc (.cells #[.int .i64 ((y : Int) % 20)] 3)).alloc (.cells #[.bool true] 4) := ⟨_, rfl⟩
    rw [← hA] at hf
    have HA2 := Lib.hid hA
    have HF := Lib.hid hf
    have e4A : A.cell? ⟨w.heap.size, 0, none⟩ = some (.int .i64 size) := (hf.below.cell (p := ⟨w.heap.size, 0, none⟩) (by show w.heap.size < _; exact HW0LT.out w2 HB2.out)).trans e42
    rw [hA] at e4A
    have HB3 : Hid (Below w0.heap.size w0 A) := HB2.out.trans (hf.below.mono HB2.out.size)
    have HP := Lib.hid (cTPaths S size A)
    clear hA hf e42
    go_wp2_with fail
    rw [← HA2.out]
    refine HP.out.mono ?_
    rintro e w3 ⟨rfl, rfl⟩
    have b1 := box_below A (.cells #[.string S] 9)
    have n1 := World.alloc_heap_new A (.cells #[.string S] 9)
    have b2 := box_below (A.alloc (.cells #[.string S] 9)) (.cells #[.int .i64 size] 3)
    have n2 := World.alloc_heap_new (A.alloc (.cells #[.string S] 9)) (.cells #[.int .i64 size] 3)
    have z1 : (A.alloc (.cells #[.string S] 9)).heap.size = A.heap.size + 1 := by simp
    rw [z1] at n2
    have bb := b1.trans (b2.mono b1.size)
    have m1 := (b2.block A.heap.size (by omega)).trans n1
    generalize (A.alloc (.cells #[.string S] 9)).alloc (.cells #[.int .i64 size] 3) = w3 at *
    have HN3 := fun yv => Lib.hid (HNO yv A.heap.size (A.heap.size + 1) w3 (pbox_cell m1) (pbox_cell n2)).out
    have HB4 := Lib.hid bb
    clear b1 n1 b2 n2 z1 bb m1 HNO HP
    go_wp2_with fail
    refine (HN3 _).out.mono ?_
    rintro e w4 ⟨⟨v4, rfl⟩, hb4⟩
    have hbA : Below A.heap.size A w4 := HB4.out.trans (hb4.mono HB4.out.size)
    have HB5 : Hid (Below w.heap.size w w4) := HB0.out.trans ((HB3.out.trans (hbA.mono HB3.out.size)).mono HB0.out.size)
    have hsz := HF.out.size
    have c5 := pbox_cell ((hbA.block _ (by omega)).trans HF.out.h5)
    have c4 := pbox_cell ((hbA.block _ (by omega)).trans HF.out.h4)
    have c3 := pbox_cell ((hbA.block _ (by omega)).trans HF.out.h3)
    have c2 := pbox_cell ((hbA.block _ (by omega)).trans HF.out.h2)
    rw [HM.out] at c4
    clear hb4 hbA hsz HN3 HB4 e4A
    rw [HM.out]
    go_wp2
    all_goals
      go_ret
      exact ⟨rfl, HB5.out⟩
  · exact absurd h HC.out

/-- Three objects, one behind the other. -/
structure Three (w A : World) (o1 o2 o3 : Obj) : Prop where
  h1 : A.heap[w.heap.size]? = some o1
  h2 : A.heap[w.heap.size + 1]? = some o2
  h3 : A.heap[w.heap.size + 1 + 1]? = some o3
  size : A.heap.size = w.heap.size + 3
  below : Below w.heap.size w A
theorem three (w : World) (o1 o2 o3 : Obj) : Three w (((w.alloc o1).alloc o2).alloc o3) o1 o2 o3 := by
  have a1 := World.alloc_heap_new w o1
  have a2 := World.alloc_heap_new (w.alloc o1) o2
  have a3 := World.alloc_heap_new ((w.alloc o1).alloc o2) o3
  have z1 : (w.alloc o1).heap.size = w.heap.size + 1 := by simp
  have z2 : ((w.alloc o1).alloc o2).heap.size = w.heap.size + 1 + 1 := by simp
  have b2 := box_below (w.alloc o1) o2
  have b3 := box_below ((w.alloc o1).alloc o2) o3
  have b23 := b2.trans (b3.mono b2.size)
  rw [z1] at a2
  rw [z2] at a3
  exact ⟨(b23.block _ (by omega)).trans a1, (b3.block _ (by omega)).trans a2, a3, by simp, (box_below w o1).trans (b23.mono (by omega))⟩

set_option maxHeartbeats 3200000 in
theorem treePaths_yes (s : List UInt8) (size : Int) (y : Nat) (w : World) (hz : -9223372036854775808 ≤ size ∧ size ≤ 9223372036854775807) (hy : y < 256) (hs : s.length ≤ 200) (hc : codeL size s = 0) :
    Calls Try.prog 8 #[.string (bs s), .int .i64 size, .int .u8 (y : Int)] w fun e w' => e = .returned (.bool true) ∧ Below w.heap.size w w' := by
  have HA := fun W => Lib.hid (awake9 W)
  obtain ⟨n, rfl, hn1, hn2, lv0, hlv0⟩ := codeL_zero hc
  have hrd := leavesOf_some.1 hlv0
  have hbx := box_below w (.cells #[.int .i64 (n : Int)] 3)
  have hn := World.alloc_heap_new w (.cells #[.int .i64 (n : Int)] 3)
  have HR := fun W => Lib.hid (rLeaves (n : Int) s W hz (by omega))
  have HRP := fun W => Lib.hid (rPaths 4 n s [] [] lv0 W (by omega) hn2 (by omega) (by simp) hrd)
  have HC := Lib.hid hc
  have HLV := Lib.hid hlv0
  have HRD := Lib.hid hrd
  have HSL := Lib.hid hs
  obtain ⟨m, hm, hm19⟩ : ∃ m : Nat, (y : Int) % 20 = (m : Int) ∧ m ≤ 19 := ⟨y % 20, by omega, by omega⟩
  have HM := Lib.hid hm
  obtain ⟨ws, hws⟩ : ∃ ws, ws = (pth 4 n s []).1 := ⟨_, rfl⟩
  have HWS := Lib.hid hws
  have hwl : ws.length = lv0.length := by
    obtain ⟨v, e, hl, _⟩ := pth_like 4 n s lv0 [] [] hrd
    rw [hws, e]; exact hl
  have HWL := Lib.hid hwl
  rw [← hws] at HRP
  obtain ⟨S, hS⟩ : ∃ S, S = bs s := ⟨_, rfl⟩
  have h1 : S.size ≤ 200 := by rw [hS, bs_size]; exact hs
  have HSS := Lib.hid hS
  rw [← hS] at HR HRP ⊢
  have HB0 := Lib.hid hbx
  have HW0LT : Hid (∀ W, Below (w.alloc (.cells #[.int .i64 (n : Int)] 3)).heap.size (w.alloc (.cells #[.int .i64 (n : Int)] 3)) W → w.heap.size < W.heap.size) := fun W hW => Nat.lt_of_lt_of_le (by simp) hW.size
  have k4 : Hid (∀ W, Below (w.alloc (.cells #[.int .i64 (n : Int)] 3)).heap.size (w.alloc (.cells #[.int .i64 (n : Int)] 3)) W → W.cell? ⟨w.heap.size, 0, none⟩ = some (.int .i64 (n : Int))) := fun W hW => (hW.cell (p := ⟨w.heap.size, 0, none⟩) (by simp)).trans (cell_of_heap hn 0)
  obtain ⟨w0, hw0⟩ : ∃ w0, w0 = w.alloc (.cells #[.int .i64 (n : Int)] 3) := ⟨_, rfl⟩
  have HW0 := Lib.hid hw0
  rw [← hw0] at HB0 k4 HW0LT
  have hmz : ((m : Nat) : Int) ≤ 19 := by omega
  clear hS hs hc hbx hn hm hw0 hlv0 hrd hws hwl
  go_enter Try.func8, Try.ntmps8
  go_wp2_with fail
  rw [← HW0.out]
  refine (HA _).out.mono ?_
  rintro e w1 ⟨rfl, hb1⟩
  have HB1 := Lib.hid hb1
  have e4 := k4.out w1 hb1
  clear hb1
  go_wp2_with fail
  refine (HR _).out.mono ?_
  rintro e w2 (⟨h, _⟩ | ⟨_, lao, lcap, lv, hlv, rfl, hlI, _, hl16, hb2⟩)
  · exact absurd HC.out h
  · rw [Int.toNat_natCast] at hlv
    obtain rfl : lv = lv0 := Option.some.inj (hlv.symm.trans HLV.out)
    have HB2 := Lib.hid (HB1.out.trans (hb2.mono HB1.out.size))
    have e42 := k4.out w2 HB2.out
    have HLI := Lib.hid hlI
    obtain ⟨nl, hnl⟩ : ∃ nl, nl = lv.length := ⟨_, rfl⟩
    have HNL := Lib.hid hnl
    have HL16 := Lib.hid hl16
    rw [← hnl]
    have b1 := box_below w2 (.cells #[.slice lao nl lcap] 23)
    have n1 := World.alloc_heap_new w2 (.cells #[.slice lao nl lcap] 23)
    have b2 := box_below (w2.alloc (.cells #[.slice lao nl lcap] 23)) (.cells #[.slice none 0 0] 58)
    have n2 := World.alloc_heap_new (w2.alloc (.cells #[.slice lao nl lcap] 23)) (.cells #[.slice none 0 0] 58)
    have z1 : (w2.alloc (.cells #[.slice lao nl lcap] 23)).heap.size = w2.heap.size + 1 := by simp
    rw [z1] at n2
    have bb := b1.trans (b2.mono b1.size)
    have m1 := (b2.block w2.heap.size (by omega)).trans n1
    have e4A : ((w2.alloc (.cells #[.slice lao nl lcap] 23)).alloc (.cells #[.slice none 0 0] 58)).cell? ⟨w.heap.size, 0, none⟩ = some (.int .i64 (n : Int)) := (bb.cell (p := ⟨w.heap.size, 0, none⟩) (by show w.heap.size < _; exact HW0LT.out w2 HB2.out)).trans e42
    obtain ⟨w4, hw4⟩ : ∃ w4, w4 = (w2.alloc (.cells #[.slice lao nl lcap] 23)).alloc (.cells #[.slice none 0 0] 58) := ⟨_, rfl⟩
    have HW4 := Lib.hid hw4
    have z4 : w4.heap.size = w2.heap.size + 1 + 1 := by rw [hw4]; simp
    rw [← hw4] at bb m1 n2
    have HBB := Lib.hid bb
    have HM1 := Lib.hid m1
    have HN2 := Lib.hid n2
    have HZ4 := Lib.hid z4
    clear hlv hlI hl16 hb2 hnl e4 e42 b1 n1 b2 z1 bb m1 n2 hw4 z4
    go_wp2_with fail
    rw [← HW4.out]
    refine (HRP _).out.mono ?_
    rintro e w5 ⟨v, rfl, hown, hq0, hq16, hb5⟩
    obtain ⟨wao, wcap, rfl⟩ := own_sl hown
    have hz4 := HZ4.out
    have p9 := (hb5.block _ (by omega)).trans HN2.out
    have p7 := (hb5.block w2.heap.size (by omega)).trans HM1.out
    have s9 := pbox_cell p9
    have f9 := frozen_of_heap p9 0
    have hs5 := hb5.size
    have q9 := pbox_set (.slice wao ws.length wcap) p9
    have q7 := pset_other (B := w2.heap.size + 1) (off := 0) (.slice wao ws.length wcap) p7 (by omega)
    have z6 : (w5.setCell ⟨w2.heap.size + 1, 0, none⟩ (.slice wao ws.length wcap)).heap.size = w5.heap.size := by simp
    have hb26 : Below w2.heap.size w2 (w5.setCell ⟨w2.heap.size + 1, 0, none⟩ (.slice wao ws.length wcap)) := (HBB.out.trans (hb5.mono HBB.out.size)).setCell (p := ⟨w2.heap.size + 1, 0, none⟩) (by show _ ≤ w2.heap.size + 1; omega) _
    have hown6 := ownsRow_keeps hown (keeps_setCell w5 (w2.heap.size + 1) 0 (.slice wao ws.length wcap)) (fun g hg => by have := (own_block_lt hown g hg).1; simp; omega)
    have T := three (w5.setCell ⟨w2.heap.size + 1, 0, none⟩ (.slice wao ws.length wcap)) (.cells #[.int .i64 0] 3) (.cells #[.int .i64 ((y : Int) % 20)] 3) (.cells #[.bool true] 4)
    have hws4 : Below w0.heap.size w0 (w5.setCell ⟨w2.heap.size + 1, 0, none⟩ (.slice wao ws.length wcap)) := HB2.out.trans (hb26.mono HB2.out.size)
    obtain ⟨A, hA⟩ : ∃ A, A = (((w5.setCell ⟨w2.heap.size + 1, 0, none⟩ (.slice wao ws.length wcap)).alloc (.cells #[.int .i64 0] 3)).alloc (.cells #[.int .i64 ((y : Int) % 20)] 3)).alloc (.cells #[.bool true] 4) := ⟨_, rfl⟩
    rw [← hA] at T
    have e4B : A.cell? ⟨w.heap.size, 0, none⟩ = some (.int .i64 (n : Int)) := k4.out A (hws4.trans (T.below.mono hws4.size))
    have HA6 := Lib.hid hA
    rw [hA] at e4B
    have E : PEnv (w5.setCell ⟨w2.heap.size + 1, 0, none⟩ (.slice wao ws.length wcap)) w.heap.size w2.heap.size (w2.heap.size + 1) w5.heap.size (w5.heap.size + 1) (w5.heap.size + 1 + 1) wao wcap lao lcap ws lv m n := by
      refine ⟨k4.out _ hws4, ?_, pbox_cell q9, ?_, by omega, by omega, strs_own hown6, HLI.out.below hb26, by omega, by omega, by omega, by omega, by omega, by omega, HWL.out, by simpa using hq16, hn2, hm19⟩
      · rw [← HNL.out]; exact pbox_cell q7
      · have := HW0LT.out _ hws4; exact this
    have HE := Lib.hid E
    have hP0 : PSt (w5.setCell ⟨w2.heap.size + 1, 0, none⟩ (.slice wao ws.length wcap)) w5.heap.size (w5.heap.size + 1) (w5.heap.size + 1 + 1) m 0 A := by
      have t1 := T.h1
      have t2 := T.h2
      have t3 := T.h3
      rw [z6] at t1 t2 t3
      rw [HM.out] at t2
      exact ⟨t3, t1, t2, T.below⟩
    have HP0 := Lib.hid hP0
    have HBA : Hid (Below w.heap.size w A) := HB0.out.trans ((hws4.trans (T.below.mono hws4.size)).mono HB0.out.size)
    have HQ9 := Lib.hid q9
    have HBW : Hid (∀ W, Below (w5.setCell ⟨w2.heap.size + 1, 0, none⟩ (.slice wao ws.length wcap)).heap.size (w5.setCell ⟨w2.heap.size + 1, 0, none⟩ (.slice wao ws.length wcap)) W → Below w.heap.size w W) := fun W hW => HB0.out.trans ((hws4.trans (hW.mono hws4.size)).mono HB0.out.size)
    have hl9 : w2.heap.size + 1 < (w5.setCell ⟨w2.heap.size + 1, 0, none⟩ (.slice wao ws.length wcap)).heap.size := by omega
    have HL9 := Lib.hid hl9
    obtain ⟨q, hq⟩ : ∃ q, q = ws.length := ⟨_, rfl⟩
    have HQ := Lib.hid hq
    have hq1 : 1 ≤ q := by omega
    have hq2 : q ≤ 16 := by rw [hq]; simpa using hq16
    have HP := Lib.hid (cTPaths S (n : Int) A)
    rw [← hq] at HA6 e4B ⊢
    generalize bs (pth 4 n s []).2 = RT at *
    clear hown hq0 hq16 hb5 hz4 p9 p7 hs5 q9 q7 z6 hb26 hown6 T hws4 hA E hP0 hl9 hq
    go_wp2_with fail
    rw [← HA6.out]
    refine HP.out.mono ?_
    rintro e w7 ⟨rfl, hw7⟩
    have b1 := box_below A (.cells #[.string S] 9)
    have n1 := World.alloc_heap_new A (.cells #[.string S] 9)
    have b2 := box_below (A.alloc (.cells #[.string S] 9)) (.cells #[.int .i64 (n : Int)] 3)
    have n2 := World.alloc_heap_new (A.alloc (.cells #[.string S] 9)) (.cells #[.int .i64 (n : Int)] 3)
    have z1 : (A.alloc (.cells #[.string S] 9)).heap.size = A.heap.size + 1 := by simp
    rw [z1] at n2
    have bb := b1.trans (b2.mono b1.size)
    have m1 := (b2.block A.heap.size (by omega)).trans n1
    rw [← hw7] at n2 bb m1
    have HRUN := Lib.hid (cPaths_yes HE.out s A.heap.size (A.heap.size + 1) w7 hn1 (by have := HSL.out; omega) HRD.out HWS.out.symm (by rw [← HSS.out]; exact pbox_cell m1) (Array.getElem?_eq_some_iff.1 m1).1 (pbox_cell n2) (Array.getElem?_eq_some_iff.1 n2).1
      (HP0.out.keeps (keeps_of_below bb []) (by simp) (by simp) (by simp) (by simp)))
    have HB7 := Lib.hid (HBA.out.trans (bb.mono HBA.out.size))
    clear b1 n1 b2 n2 z1 bb m1 hw7 HP
    go_wp2_with fail
    refine HRUN.out.mono ?_
    rintro e w8 ⟨⟨v8, rfl⟩, hp8⟩
    have c12 := pbox_cell hp8.ok
    have c11 := pbox_cell hp8.m
    have c10 := pbox_cell hp8.n
    have c9 := (hp8.below.cell (p := ⟨w2.heap.size + 1, 0, none⟩) HL9.out).trans (pbox_cell HQ9.out)
    rw [← HQ.out] at c9 c10
    have HB8 : Hid (Below w.heap.size w w8) := HBW.out w8 hp8.below
    clear hp8 HRUN e4B
    rw [HM.out]
    have hcase : (m = 0 ∧ min q (max m 1) = 1) ∨ (1 ≤ m ∧ m ≤ q ∧ min q (max m 1) = m) ∨ (1 ≤ m ∧ q < m ∧ min q (max m 1) = q) := by omega
    rcases hcase with ⟨h, hr⟩ | ⟨h, h2, hr⟩ | ⟨h, h2, hr⟩
    · subst h
      rw [hr] at c10
      clear hr
      go_wp2
      all_goals
        go_ret
        refine ⟨?_, HB8.out⟩
        first
          | rfl
          | (obtain rfl : q = 1 := by omega
             rfl)
    · rw [hr] at c10
      clear hr
      go_wp2
      all_goals
        go_ret
        refine ⟨?_, HB8.out⟩
        first
          | rfl
          | (obtain rfl : m = q := by omega
             simp [go_sem])
    · rw [hr] at c10
      clear hr
      go_wp2
      all_goals
        go_ret
        exact ⟨rfl, HB8.out⟩

theorem treePaths (s : List UInt8) (size : Int) (y : Nat) (w : World) (hz : -9223372036854775808 ≤ size ∧ size ≤ 9223372036854775807) (hy : y < 256) (hs : s.length ≤ 9223372036854775807) :
    Calls Try.prog 8 #[.string (bs s), .int .i64 size, .int .u8 (y : Int)] w fun e w' => e = .returned (.bool true) ∧ Below w.heap.size w w' := by
  by_cases h : s.length ≤ 200
  · by_cases hc : codeL size s = 0
    · exact treePaths_yes s size y w hz hy h hc
    · exact treePaths_no s size y w hz hy h hc
  · exact treePaths_much s size y w hs (by omega)
end Go.Proofs.Ytmgckfkdbepkdaa
