import Derived.Test.YtengpeaagfilmaaLatL6
namespace Go.Proofs.Ytengpeaagfilmaa
open Go.RowKit Go.Proofs Go.Proofs.PipeA Go.Proofs.LatM
set_option maxRecDepth 100000

/-- Where a slice of a slice lies. -/
def cutA (a : Option Addr) (cap lo : Nat) : Option Addr := if cap = lo then a else a.map (fun x => x.add lo)
theorem cut_left0 (a : Option Addr) (len cap hi : Nat) (h2 : hi ≤ cap) (W : World) :
    (Instr.slice 22 (.slice a len cap) none (some (.int .i64 (hi : Int))) none).run Try.prog W = .ok (.slice (cutA a cap 0) hi cap) W := by
  simp [Instr.slice, run_underlying Try.underlying22, Instr.sliceBounds, Instr.sliceBound, asIntOf, h2, cutA]
theorem IntsAt.cut0 {W : World} {a : Option Addr} {l : List Int} (h : IntsAt W a l) (cap c : Nat) : IntsAt W (cutA a cap 0) (l.take c) := by
  intro j hj
  have hj' : j < l.length := by simp at hj; omega
  obtain ⟨b, off, rfl, hb, hcell⟩ := h j hj'
  refine ⟨b, off, ?_, hb, ?_⟩
  · unfold cutA
    split
    · rfl
    · simp [Addr.add_lit]
  · rw [hcell]; simp
theorem good_take {l : List Int} (h : goodL l = true) (c : Nat) : goodL (l.take c) = true := by
  have hl := good_len h
  unfold goodL at h ⊢
  rw [Bool.and_eq_true] at h ⊢
  exact ⟨List.all_eq_true.2 fun x hx => List.all_eq_true.1 h.1 x (List.mem_of_mem_take hx), decide_eq_true (by simp; omega)⟩

/-- Where the law's closure stands when it was called a number of times. -/
structure LS (w : World) (b2 b5 b6 b7 : Nat) (lo : Option Addr) (lcap m : Nat) (l : List Int) (c : Nat) (W : World) : Prop where
  ok : W.heap[b7]? = some (.cells #[.bool true] 4)
  n : W.heap[b5]? = some (.cells #[.int .i64 (c : Int)] 3)
  l : W.heap[b2]? = some (.cells #[.slice lo l.length lcap] 22)
  m : W.heap[b6]? = some (.cells #[.int .i64 (m : Int)] 3)
  below : Below w.heap.size w W
theorem LS.mono {w A C : World} {b2 b5 b6 b7 lcap m c : Nat} {lo : Option Addr} {l : List Int} (h : LS w b2 b5 b6 b7 lo lcap m l c A) (hb : Below A.heap.size A C) : LS w b2 b5 b6 b7 lo lcap m l c C :=
  ⟨(hb.block _ (Array.getElem?_eq_some_iff.1 h.ok).1).trans h.ok, (hb.block _ (Array.getElem?_eq_some_iff.1 h.n).1).trans h.n, (hb.block _ (Array.getElem?_eq_some_iff.1 h.l).1).trans h.l, (hb.block _ (Array.getElem?_eq_some_iff.1 h.m).1).trans h.m, h.below.trans (hb.mono h.below.size)⟩
theorem box_cell {W : World} {b : Nat} {v : Value} {t : TypeId} (h : W.heap[b]? = some (.cells #[v] t)) : W.cell? ⟨b, 0, none⟩ = some v := by rw [cell_of_heap h]; rfl
theorem box_set' {W : World} {B : Nat} {x : Value} (v : Value) {t : TypeId} (h : W.heap[B]? = some (.cells #[x] t)) : (W.setCell ⟨B, 0, none⟩ v).heap[B]? = some (.cells #[v] t) := box_set v h
theorem set_other {W : World} {B B' off : Nat} {o : Obj} (v : Value) (h : W.heap[B']? = some o) (hne : B' ≠ B) : (W.setCell ⟨B, off, none⟩ v).heap[B']? = some o := (Below.heap_setCell _ _ _ _ hne).trans h

set_option maxHeartbeats 3200000 in
theorem steps1 (w : World) (b2 b5 b6 b7 : Nat) (lo : Option Addr) (lcap m : Nat) (l : List Int) (c : Nat) (ao : Option Addr) (cap : Nat) (W : World) (hc : c ≤ l.length) (hlc : l.length ≤ lcap) (hgd : goodL l = true)
    (hw : w.heap.size ≤ b2) (h25 : b2 < b5) (h56 : b5 < b6) (h67 : b6 < b7)
    (hl0 : IntsAt w lo l) (hLS : LS w b2 b5 b6 b7 lo lcap m l c W) (hi : IntsAt W ao (cf l c)) (bs : List Nat) (hk : ∃ f g, (∀ t, t < c → ao = some ⟨g, 0, none⟩) ∧ (0 < c → bs = [g, b7, b5]) ∧ (c = 0 → bs = [b7, b5]) ∧ (0 < c → b7 < g) ∧ KeysAt W g c f ∧ (0 < c → g < W.heap.size)) :
    Calls Try.prog 18 #[.int .i64 (c : Int), .slice ao c cap, .pointer (some ⟨b7, 0, none⟩), .pointer (some ⟨b5, 0, none⟩), .pointer (some ⟨b2, 0, none⟩), .pointer (some ⟨b6, 0, none⟩)] W
      fun e W' => e = .returned (.bool (decide (c + 1 < m))) ∧ LS w b2 b5 b6 b7 lo lcap m l (c + 1) W' ∧ Keeps bs W W' := by
  obtain ⟨f, g, hg1, hg2, hg3, hg4, hKA, hg5⟩ := hk
  have hl16 := good_len hgd
  have hcut := cut_left0 lo l.length lcap c (by omega)
  have kok := box_cell hLS.ok
  have kn := box_cell hLS.n
  have kl := box_cell hLS.l
  have hlen : (l.take c).length = c := by simp; omega
  have HRC := Lib.hid (rCoefs (cutA lo lcap 0) lcap (l.take c) W (good_take hgd c) ((hl0.below hLS.below).cut0 lcap c))
  rw [hlen, cf_take l (Nat.le_refl c)] at HRC
  have HLS := Lib.hid hLS
  have HI := Lib.hid hi
  have HKA := Lib.hid hKA
  have HG1 := Lib.hid hg1
  have HG2 := Lib.hid hg2
  have HG3 := Lib.hid hg3
  have HG4 := Lib.hid hg4
  have HG5 := Lib.hid hg5
  generalize cutA lo lcap 0 = lo' at hcut HRC
  clear hLS hi hl0 hgd hlen hKA hg1 hg2 hg3 hg4 hg5
  go_enter Try.func18, Try.ntmps18
  go_wp2_with fail
  refine HRC.out.mono ?_
  rintro e w2 ⟨ao2, cap2, rfl, hi2, hb2⟩
  rw [cf_length]
  have HSM := Lib.hid (refSame ao ao2 cap cap2 (cf l c) (cf l c) w2 (by rw [cf_length]; omega) (HI.out.below hb2) hi2)
  rw [decide_eq_true rfl, cf_length] at HSM
  have HLS2 := Lib.hid (HLS.out.mono hb2)
  have HB2 := Lib.hid hb2
  have HKA2 : Hid (KeysAt w2 g c f) := fun j hj => by
    have h := HKA.out j hj
    have hlt := HG5.out (by omega)
    exact ⟨(hb2.cell (p := ⟨g, j, none⟩) hlt).trans h.1, ((keeps_of_below hb2 []).frozen (p := ⟨g, j, none⟩) hlt (by simp)).trans h.2⟩
  have HG52 : Hid (0 < c → g < w2.heap.size) := fun h => by have h1 := HG5.out h; have h2 := hb2.size; omega
  clear hi2 hb2 HRC HKA kok kn kl hcut
  go_wp2_with fail
  refine HSM.out.mono ?_
  rintro e w3 ⟨rfl, k3, hw3⟩
  have HLS3 : Hid (LS w b2 b5 b6 b7 lo lcap m l c w3) := by
    have h := HLS2.out
    show LS _ _ _ _ _ _ _ _ _ _ _
    rw [hw3]
    exact ⟨h.ok, h.n, h.l, h.m, below_drewN h.below k3⟩
  have HK3 : Hid (Keeps bs W w3) := by
    show Keeps _ _ _
    rw [hw3]
    exact (keeps_of_below HB2.out bs).trans (keeps_drewN w2 k3 bs)
  have HKA3 : Hid (KeysAt w3 g c f) := by rw [hw3]; exact HKA2.out
  have HG53 : Hid (0 < c → g < w3.heap.size) := by rw [hw3]; exact HG52.out
  have kok3 := box_cell HLS3.out.ok
  have kfk3 := frozen_of_heap HLS3.out.ok 0
  clear hw3 HSM HLS2 HKA2 HB2 HG52 HLS HI HG5
  have HB7 : Hid (b7 ∈ bs ∧ b5 ∈ bs) := by
    show _ ∧ _
    by_cases h : c = 0
    · rw [HG3.out h]; simp
    · rw [HG2.out (by omega)]; simp
  have HLS4 : Hid (LS w b2 b5 b6 b7 lo lcap m l c (w3.setCell ⟨b7, 0, none⟩ (.bool true))) := by
    have h := HLS3.out
    exact ⟨box_set _ h.ok, set_other _ h.n (by omega), set_other _ h.l (by omega), set_other _ h.m (by omega), h.below.setCell (p := ⟨b7, 0, none⟩) (by show _ ≤ b7; omega) _⟩
  have HK4 : Hid (Keeps bs W (w3.setCell ⟨b7, 0, none⟩ (.bool true))) := HK3.out.trans ((keeps_setCell w3 b7 0 _).wide (by intro x hx; obtain rfl := List.mem_singleton.1 hx; exact HB7.out.1))
  have HKA4 : Hid (KeysAt (w3.setCell ⟨b7, 0, none⟩ (.bool true)) g c f) := by
    intro j hj
    have h4 := HG4.out (by omega)
    exact (HKA3.out.keeps (keeps_setCell w3 b7 0 _) (by simp; omega) (HG53.out (by omega))) j hj
  have HG54 : Hid (0 < c → g < (w3.setCell ⟨b7, 0, none⟩ (.bool true)).heap.size) := fun h => by simpa using HG53.out h
  clear HLS3 HK3 HKA3 HG53
  go_wp2
  go_loopg [9, 35] c (fun gk q i wr => ∃ j : Nat, j ≤ c ∧ gk + j = c ∧ i = .int .i64 j ∧ Hid (LS w b2 b5 b6 b7 lo lcap m l c wr) ∧ Hid (Keeps bs W wr) ∧ (∃ f, Hid (KeysAt wr g c f)) ∧ Hid (0 < c → g < wr.heap.size))
  case atStart => exact ⟨0, Nat.zero_le _, by omega, rfl, HLS4, HK4, ⟨f, HKA4⟩, HG54⟩
  case round =>
    clear HLS4 HK4 HKA4 HG54 kok3 kfk3
    obtain ⟨j, hj, hgk, rfl, HLS, HK, ⟨f', HKA⟩, HG5⟩ := hrel
    have HGK := Lib.hid hgk
    clear hgk
    by_cases hlt : j < c
    · have hao := HG1.out j hlt
      subst hao
      obtain ⟨kc, kf⟩ := HKA.out j hlt
      have h4 := HG4.out (by omega)
      have HLS5 : Hid (LS w b2 b5 b6 b7 lo lcap m l c (wr.setCell ⟨g, j, none⟩ (.int .i64 7))) := by
        have h := HLS.out
        exact ⟨set_other _ h.ok (by omega), set_other _ h.n (by omega), set_other _ h.l (by omega), set_other _ h.m (by omega), h.below.setCell (p := ⟨g, j, none⟩) (by show _ ≤ g; omega) _⟩
      have HK5 : Hid (Keeps bs W (wr.setCell ⟨g, j, none⟩ (.int .i64 7))) := HK.out.trans ((keeps_setCell wr g j _).wide (by intro x hx; obtain rfl := List.mem_singleton.1 hx; rw [HG2.out (by omega)]; simp))
      have HKA5 := Lib.hid (HKA.out.set hlt (.int .i64 7))
      have HG55 : Hid (0 < c → g < (wr.setCell ⟨g, j, none⟩ (.int .i64 7)).heap.size) := fun h => by simpa using HG5.out h
      go_wp2
      go_roundg (gk - 1)
      case rel => exact ⟨j + 1, by omega, by have := HGK.out; omega, by go_num, HLS5, HK5, ⟨_, HKA5⟩, HG55⟩
      case measure => have := HGK.out; omega
    · obtain rfl : j = c := by omega
      have kn := box_cell HLS.out.n
      have kfn := frozen_of_heap HLS.out.n 0
      have HLS6 : Hid (LS w b2 b5 b6 b7 lo lcap m l (j + 1) (wr.setCell ⟨b5, 0, none⟩ (.int .i64 ((j : Int) + 1)))) := by
        have h := HLS.out
        exact ⟨set_other _ h.ok (by omega), box_set _ h.n, set_other _ h.l (by omega), set_other _ h.m (by omega), h.below.setCell (p := ⟨b5, 0, none⟩) (by show _ ≤ b5; omega) _⟩
      have HK6 : Hid (Keeps bs W (wr.setCell ⟨b5, 0, none⟩ (.int .i64 ((j : Int) + 1)))) := HK.out.trans ((keeps_setCell wr b5 0 _).wide (by intro x hx; obtain rfl := List.mem_singleton.1 hx; exact HB7.out.2))
      have kok6 := box_cell HLS6.out.ok
      have kn6 := box_cell HLS6.out.n
      have km6 := box_cell HLS6.out.m
      rw [show ((j + 1 : Nat) : Int) = (j : Int) + 1 from rfl] at kn6
      obtain ⟨t, ht⟩ : ∃ t, t = decide (j + 1 < m) := ⟨_, rfl⟩
      have tt : decide ((j : Int) + 1 < (m : Int)) = t := by rw [ht]; exact decide_eq_decide.2 (by omega)
      have tt2 : decide (j + 1 < m) = t := ht.symm
      have HTT := Lib.hid ht
      clear ht
      go_wp2
      go_ret
      exact ⟨by rw [← HTT.out]; rfl, HLS6.out, HK6.out⟩
end Go.Proofs.Ytengpeaagfilmaa
