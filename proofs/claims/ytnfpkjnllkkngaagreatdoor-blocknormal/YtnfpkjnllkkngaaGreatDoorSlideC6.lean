import Derived.Test.YtnfpkjnllkkngaaGreatDoorHeapR2
import Derived.Laws.MakeOwn
import Derived.Test.YtnfpkjnllkkngaaGreatDoorHeap

section
namespace Go.Proofs.YtnfpkjnllkkngaaGreatDoor
open Go.RowKit Go.Proofs Go.Proofs.PipeM Go.Proofs.PipeA Go.Proofs.HeapM
set_option maxRecDepth 100000

/-- What Best answers. -/
def BestIs (l : List Int) (w : World) (e : Ending) (w' : World) : Prop :=
  ∃ k, e = .returned (.tuple #[.int .i64 (k : Nat), .int .i64 (totalN l k : Nat)]) ∧ IsBest l k ∧ Below w.heap.size w w'

def tried (l : List Int) (c : Nat) : List (Nat × Nat) := (List.range c).map fun k => (k, totalN l k)
theorem tried_succ (l : List Int) (c : Nat) : (tried l c ++ [(c, totalN l c)]) = tried l (c + 1) := by simp [tried, List.range_succ]
theorem tried_length (l : List Int) (c : Nat) : (tried l c).length = c := by simp [tried]
theorem tried_mem (l : List Int) (c : Nat) (x : Nat × Nat) : x ∈ tried l c ↔ x.1 < c ∧ x.2 = totalN l x.1 := by
  obtain ⟨a, b⟩ := x
  simp only [tried, List.mem_map, List.mem_range, Prod.mk.injEq]
  constructor
  · rintro ⟨k, h, rfl, rfl⟩; exact ⟨h, rfl⟩
  · rintro ⟨h, rfl⟩; exact ⟨a, h, rfl, rfl⟩

theorem best_of_heap (l : List Int) (tl : List (Nat × Nat)) (hp : tl.Perm (tried l 25)) (hh : IsHeap tBefore tl) : IsBest l tl[0]!.1 ∧ tl[0]!.2 = totalN l tl[0]!.1 := by
  have hlen : tl.length = 25 := by rw [hp.length_eq, tried_length]
  have hm : tl[0]! ∈ tl := by rw [get_eq tl 0 (by omega)]; exact List.getElem_mem _
  have hm2 := (tried_mem l 25 _).1 (hp.mem_iff.1 hm)
  refine ⟨⟨by omega, fun p hp24 => ?_⟩, hm2.2⟩
  have hpm : (p, totalN l p) ∈ tl := hp.mem_iff.2 ((tried_mem l 25 _).2 ⟨by simp; omega, rfl⟩)
  have hle := heap_root_mem tOrder hh _ hpm
  unfold le tBefore at hle
  rw [hm2.2] at hle
  obtain ⟨k, hk⟩ : ∃ k, k = tl[0]!.1 := ⟨_, rfl⟩
  rw [← hk] at hle ⊢
  simp only at hle
  by_cases e : totalN l p = totalN l k
  · rw [if_neg (by simpa using e)] at hle
    have := of_decide_eq_false hle
    exact ⟨by omega, fun _ => by omega⟩
  · rw [if_pos e] at hle
    have := of_decide_eq_false hle
    exact ⟨by omega, fun h => absurd h e⟩

set_option maxHeartbeats 800000 in
theorem cFirst (b : Nat) (v : Value) (tl : List (Nat × Nat)) (w : World) (h0 : 0 < tl.length) (h : TrAt w b v tl) (hh : IsHeap tBefore tl) :
    Calls Tryz.prog 97 #[.pointer (some ⟨b, 0, none⟩)] w fun e w' => e = .returned (.agg #[.int .i64 (tl[0]!.1 : Nat), .int .i64 (tl[0]!.2 : Nat)]) ∧ Below b w w' := by
  have hblt := h.lt
  have hge := ownBlock_ge h.own
  have hol := own_block_lt h.own
  have hbw := (Below.refl w.heap.size w).alloc (Nat.le_refl _) (.cells #[.int .i64 0, .int .i64 0] 123)
  have HP := Lib.hid (heapPop (riceOps (fun k => k < w.heap.size + 1 ∧ k ≠ b ∧ v.ownBlock ≠ some k) b) tl (w.alloc (.cells #[.int .i64 0, .int .i64 0] 123)) (by decide) h0 ⟨v, h.below hbw, fun hs => hs.2.1 rfl, fun k hs => by simpa using hs.1, fun g hg hs => hs.2.2 hg⟩ hh)
  have HS : Hid (∀ k, k < b → (k < w.heap.size + 1 ∧ k ≠ b ∧ v.ownBlock ≠ some k)) := fun k hk => ⟨by omega, by omega, fun e => by have := hge k (by rw [e]; simp); omega⟩
  have HSB : Hid (w.heap.size < w.heap.size + 1 ∧ w.heap.size ≠ b ∧ v.ownBlock ≠ some w.heap.size) := ⟨by omega, by omega, fun e => by have := (hol _ e).2; omega⟩
  have HBW := Lib.hid hbw
  unfold trialV trialsV at HP
  obtain ⟨⟨x1, x2⟩, hx⟩ : ∃ x, x = tl[0]! := ⟨_, rfl⟩
  rw [← hx] at HP ⊢
  have hta : ∀ W : World, (Instr.typeAssert (.iface 123 (.agg #[.int .i64 (x1 : Nat), .int .i64 (x2 : Nat)])) 20 123 false).run Tryz.prog W = .ok (.agg #[.int .i64 (x1 : Nat), .int .i64 (x2 : Nat)]) W := fun _ => by kernel_rfl
  clear hx h hh h0 hge hol hbw
  go_enter Tryz.func97, Tryz.ntmps97
  go_wp2_with fail
  refine HP.out.mono ?_
  rintro e w1 ⟨rfl, l', _, _, _, hb⟩
  have q0 : w1.cell? ⟨w.heap.size, 0, none⟩ = some (.int .i64 0) := (hb.cell (p := ⟨w.heap.size, 0, none⟩) HSB.out).trans (by simp)
  have q1 : w1.cell? ⟨w.heap.size, 1, none⟩ = some (.int .i64 0) := (hb.cell (p := ⟨w.heap.size, 1, none⟩) HSB.out).trans (by simp)
  have f0 : w1.frozen? ⟨w.heap.size, 0, none⟩ = false := (hb.frozen (p := ⟨w.heap.size, 0, none⟩) HSB.out).trans (by simp)
  have f1 : w1.frozen? ⟨w.heap.size, 1, none⟩ = false := (hb.frozen (p := ⟨w.heap.size, 1, none⟩) HSB.out).trans (by simp)
  have HB : Hid (Below b w w1) := ⟨hb.os, hb.tape, hb.output, Nat.le_trans (by simp) hb.size, fun k hk => (hb.block k (HS.out k hk)).trans (HBW.out.block k (by omega))⟩
  clear hb
  have hs0 : ((w1.setCell ⟨w.heap.size, 0, none⟩ (.int .i64 (x1 : Nat))).setCell ⟨w.heap.size, 1, none⟩ (.int .i64 (x2 : Nat))).cell? ⟨w.heap.size, 0, none⟩ = some (.int .i64 (x1 : Nat)) := by
    rw [World.cell?_setCell_other _ _ _ _ (by simp), World.cell?_setCell_same _ _ _ q0]
  have hs1 : ((w1.setCell ⟨w.heap.size, 0, none⟩ (.int .i64 (x1 : Nat))).setCell ⟨w.heap.size, 1, none⟩ (.int .i64 (x2 : Nat))).cell? ⟨w.heap.size, 1, none⟩ = some (.int .i64 (x2 : Nat)) := by
    rw [World.cell?_setCell_same _ _ _ ((World.cell?_setCell_other _ _ _ _ (by simp)).trans q1)]
  have HH := Lib.hid hs0
  have HH1 := Lib.hid hs1
  clear hs0 hs1
  go_wp2
  refine bodyPost_ret (v := .agg #[.int .i64 (x1 : Nat), .int .i64 (x2 : Nat)]) (by simp [results, Tryz.results97, go_sem, HH.out, HH1.out]) rfl ?_
  exact ⟨rfl, (HB.out.setCell (by simp; omega) _).setCell (by simp; omega) _⟩

theorem trS_of {w : World} {b : Nat} {v : Value} {l : List (Nat × Nat)} (h : TrAt w b v l) : TrS (fun k => k < b) b l w := by
  have hge := ownBlock_ge h.own
  exact ⟨v, h, Nat.lt_irrefl _, fun k hk => Nat.lt_trans hk h.lt, fun g hg hs => by have := hge g (by rw [hg]; simp); omega⟩
theorem HoldsS.below {b : Nat} {w w' : World} (h : HoldsS (fun k => k < b) w w') : Below b w w' := ⟨h.os, h.tape, h.output, h.size, h.block⟩

def BestRel (l : List Int) (w : World) (b c : Nat) (tl : List (Nat × Nat)) (wr : World) : Prop :=
  tl.Perm (tried l c) ∧ IsHeap tBefore tl ∧ (∃ v, TrAt wr b v tl) ∧ Below b w wr

set_option maxHeartbeats 1600000 in
theorem cBest (ao : Option Addr) (cap : Nat) (l : List Int) (w : World) (hl : l.length ≤ 100000) (hi : IntsAt w ao l) (hr : ∀ n ∈ l, InR n) :
    Calls Tryz.prog 78 #[.slice ao l.length cap] w (BestIs l w) := by
  have hmf : ∀ (fn : Fn) (first cap : Array Value) (w : World), (Instr.makeFunc fn first cap).run Tryz.prog w = .ok (.func fn first cap) w := fun _ _ _ _ => rfl
  have HI := Lib.hid hi
  have HR := Lib.hid hr
  clear hi hr
  go_enter Tryz.func78, Tryz.ntmps78
  go_wp2
  have HT : Hid (TrAt (w.alloc (.cells #[.slice none 0 0, .func (.func 94) #[] #[]] 126)) w.heap.size (.slice none 0 0) []) := by
    refine ⟨by simp, by simp, by simp, by simp, World.ownsRow_nil _ _ _ _, by simp⟩
  have HB : Hid (Below w.heap.size w (w.alloc (.cells #[.slice none 0 0, .func (.func 94) #[] #[]] 126))) := (Below.refl _ _).alloc (Nat.le_refl _) _
  generalize w.alloc (.cells #[.slice none 0 0, .func (.func 94) #[] #[]] 126) = W1 at HT HB ⊢
  obtain ⟨b, hb⟩ : ∃ b, b = w.heap.size := ⟨_, rfl⟩
  rw [← hb] at HT ⊢
  have HBE := Lib.hid hb
  clear hb
  have hbe := HBE.out
  go_loopg [5, 9] 25 (fun gk kk i wr => ∃ (c : Nat) (tl : List (Nat × Nat)), c ≤ 25 ∧ gk + c = 25 ∧ i = .int .i64 c ∧ Hid (BestRel l w b c tl wr))
  case atStart => exact ⟨0, [], by omega, by omega, rfl, List.Perm.refl _, isHeap_nil, ⟨_, HT.out⟩, by rw [HBE.out]; exact HB.out⟩
  case round =>
    obtain ⟨c, tl, hc, hgk, rfl, HREL⟩ := hrel
    have HGK := Lib.hid hgk
    clear hgk hbe
    by_cases hlt : c < 25
    · have HBR : Hid (Below w.heap.size w wr) := by have h := HREL.out.2.2.2; rw [HBE.out] at h; exact h
      have HC := Lib.hid (cTotal ao cap l c wr hl (HI.out.below HBR.out) HR.out (by omega))
      obtain ⟨t, ht⟩ : ∃ t, t = totalN l c := ⟨_, rfl⟩
      rw [← ht] at HC
      have HTT := Lib.hid ht
      clear ht
      go_wp2_with fail
      refine HC.out.mono ?_
      rintro e w2 ⟨rfl, hb2⟩
      obtain ⟨v, hv⟩ := HREL.out.2.2.1
      have HV2 := Lib.hid (hv.below hb2)
      have HB2 := Lib.hid (HREL.out.2.2.2.trans (hb2.mono (Nat.le_of_lt hv.lt)))
      have hlen : tl.length = c := by rw [HREL.out.1.length_eq, tried_length]
      have HP := Lib.hid (heapPush (riceOps (fun k => k < b) b) tl (c, t) w2 (by decide) (by omega) (trS_of HV2.out) HREL.out.2.1)
      unfold trialV trialsV at HP
      clear hv hb2 hlen
      go_wp2_with fail
      refine HP.out.mono ?_
      rintro e w3 ⟨rfl, tl2, hp2, hh2, hs2, hb3⟩
      have HREL2 : Hid (BestRel l w b (c + 1) tl2 w3) := by
        refine ⟨?_, hh2, ?_, HB2.out.trans hb3.below⟩
        · rw [← tried_succ, ← HTT.out]
          exact hp2.trans (((HREL.out.1).cons _).trans (List.perm_append_singleton _ _).symm)
        · obtain ⟨v2, h2, _⟩ := hs2
          exact ⟨v2, h2⟩
      clear hp2 hh2 hs2 hb3
      go_wp2
      go_roundg (gk - 1)
      case rel => exact ⟨c + 1, tl2, by omega, by have := HGK.out; omega, by go_num, HREL2⟩
      case measure => have := HGK.out; omega
    · obtain rfl : c = 25 := by omega
      obtain ⟨v, hv⟩ := HREL.out.2.2.1
      have hbest := best_of_heap l tl HREL.out.1 HREL.out.2.1
      have hlen : tl.length = 25 := by rw [HREL.out.1.length_eq, tried_length]
      have HF := Lib.hid (cFirst b v tl wr (by omega) hv HREL.out.2.1)
      obtain ⟨⟨k, t⟩, hx⟩ : ∃ x, x = tl[0]! := ⟨_, rfl⟩
      rw [← hx] at hbest HF
      have HBS := Lib.hid hbest
      have HBR := Lib.hid HREL.out.2.2.2
      have hvl := hv.lt
      clear hbest hx hlen hv
      go_wp2_with fail
      refine HF.out.mono ?_
      rintro e w4 ⟨rfl, hb4⟩
      have HB4 := Lib.hid (HBR.out.trans hb4)
      have hsz := HB4.out.size
      clear hb4
      go_wp2_with fail
      go_quiet (fail)
      go_wp2
      go_ret2
      have h2 := HBS.out.2
      refine ⟨k, by rw [← h2]; rfl, HBS.out.1, ?_⟩
      have h3 := HB4.out
      rw [HBE.out] at h3
      exact (h3.alloc h3.size _).trans ((keeps_drewN _ _ []).below (Nat.le_trans h3.size (by simp)) (by simp))
end Go.Proofs.YtnfpkjnllkkngaaGreatDoor
end

section
namespace Go.Proofs.YtnfpkjnllkkngaaGreatDoor
open Go.RowKit Go.Shelf Go.Proofs Go.Proofs.PipeM Go.Proofs.PipeA
set_option maxRecDepth 100000

/-- The best parameter, as a function. -/
def bestTo (l : List Int) : Nat → Nat
  | 0 => 0
  | i + 1 => if totalN l (i + 1) < totalN l (bestTo l i) then i + 1 else bestTo l i
theorem bestTo_is (l : List Int) : ∀ i, bestTo l i ≤ i ∧ ∀ p, p ≤ i → totalN l (bestTo l i) ≤ totalN l p ∧ (totalN l p = totalN l (bestTo l i) → bestTo l i ≤ p)
  | 0 => ⟨Nat.le_refl _, fun p hp => by have : p = 0 := by omega
                                        subst this; exact ⟨Nat.le_refl _, fun _ => Nat.le_refl _⟩⟩
  | i + 1 => by
    obtain ⟨h1, h2⟩ := bestTo_is l i
    unfold bestTo
    split
    · rename_i h
      refine ⟨Nat.le_refl _, fun p hp => ?_⟩
      by_cases e : p = i + 1
      · subst e; exact ⟨Nat.le_refl _, fun _ => Nat.le_refl _⟩
      · have h3 := h2 p (by omega)
        exact ⟨by omega, fun h4 => by omega⟩
    · rename_i h
      refine ⟨by omega, fun p hp => ?_⟩
      by_cases e : p = i + 1
      · subst e; exact ⟨by omega, fun _ => by omega⟩
      · exact h2 p (by omega)
def bestN (l : List Int) : Nat := bestTo l 24
theorem bestN_is (l : List Int) : IsBest l (bestN l) := by
  obtain ⟨h1, h2⟩ := bestTo_is l 24
  exact ⟨h1, h2⟩
theorem isBest_eq {l : List Int} {k : Nat} (h : IsBest l k) : k = bestN l := h.unique (bestN_is l)
def bestKs (size : Nat) (l : List Int) (m : Nat) : List Int := (List.range m).map fun j => ((bestN (partNo size l j) : Nat) : Int)
theorem bestKs_length (size : Nat) (l : List Int) (m : Nat) : (bestKs size l m).length = m := by simp [bestKs]
theorem bestKs_get (size : Nat) (l : List Int) (m j : Nat) (h : j < (bestKs size l m).length) : (bestKs size l m)[j] = ((bestN (partNo size l j) : Nat) : Int) := by simp [bestKs]
theorem bestKs_ok (size : Nat) (l : List Int) (m : Nat) : ∀ k ∈ bestKs size l m, 0 ≤ k ∧ k ≤ 24 := by
  intro k hk
  simp only [bestKs, List.mem_map] at hk
  obtain ⟨j, _, rfl⟩ := hk
  have := (bestN_is (partNo size l j)).1
  omega

theorem info_int : (Tryz.prog.info? 3).map (fun i => (i.zero, i.size, i.bytes)) = some (some (.int .i64 0), 1, 8) := by kernel_rfl
theorem makeInts (m : Nat) (hm : m ≤ 100000) : ∃ cs : Array Value, (∀ j, j < m → cs[j]? = some (.int .i64 0)) ∧ ∀ W, (Instr.makeSlice 22 (.int .i64 (m : Int)) (.int .i64 (m : Int))).run Tryz.prog W = .ok (.slice (some ⟨W.heap.size, 0, none⟩) m m) (W.alloc (.cells cs 3)) := by
  obtain ⟨i0, hi, hz0, hz1, hz2⟩ := info_parts info_int
  refine ⟨madeCells (Value.cells (.int .i64 0)) (m * i0.size), ?_, fun W => ?_⟩
  · intro j hj
    rw [hz1]
    simp [madeCells, Value.cells, hj]
    rw [Nat.mod_one]; rfl
  · have := run_make (P := Tryz.prog) W 22 3 i0 (.int .i64 0) Tryz.underlying22 hi hz0 .i64 .i64 m m (by omega) (Int.le_refl _) (by rw [hz2]; omega) (by omega)
    simpa using this
end Go.Proofs.YtnfpkjnllkkngaaGreatDoor
end
