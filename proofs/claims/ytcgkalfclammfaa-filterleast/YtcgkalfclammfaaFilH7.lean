import Derived.Test.YtcgkalfclammfaaFilH6
import Derived.Test.YtcgkalfclammfaaFilF2
namespace Go.Proofs.Ytcgkalfclammfaa
open Go.RowKit Go.Proofs Go.Proofs.PipeA Go.Proofs.LatM Go.Proofs.FilM Go.Proofs.HeapM
set_option maxRecDepth 100000

theorem cutP0 (G len pcap hi : Nat) (h : hi ≤ pcap) (W : World) :
    (Instr.slice 42 (.slice (some ⟨G, 0, none⟩) len pcap) none (some (.int .i64 (hi : Int))) none).run Try.prog W = .ok (.slice (some ⟨G, 0, none⟩) hi pcap) W := by
  simp [Instr.slice, run_underlying Try.underlying42, Instr.sliceBounds, Instr.sliceBound, asIntOf, h, Addr.add_lit]
theorem cutP (G len pcap n : Nat) (h : n + 1 ≤ pcap) (W : World) :
    (Instr.slice 42 (.slice (some ⟨G, 0, none⟩) len pcap) none (some (.int .i64 ((n : Int) + 1))) none).run Try.prog W = .ok (.slice (some ⟨G, 0, none⟩) (n + 1) pcap) W := cutP0 G len pcap (n + 1) h W

/-- The blocks that the heap of trials leaves. -/
def Others (n b g : Nat) (k : Nat) : Prop := k < n ∧ k ≠ b ∧ k ≠ g

theorem PredAt.holds {A C : World} {G n b g m : Nat} {l : List Int} (h : PredAt A G l m) (hk : HoldsS (Others n b g) A C) (hG : Others n b g G) (hn : n = A.heap.size) (hb : ∀ off k, A.cell? ⟨b, off, none⟩ ≠ some (.int .i64 k)) (hg : ∀ off k, A.cell? ⟨g, off, none⟩ ≠ some (.int .i64 k)) : PredAt C G l m := by
  refine ⟨Nat.lt_of_lt_of_le h.lt hk.size, fun j hj => ?_⟩
  obtain ⟨ao, cap, h1, h2⟩ := h.row j hj
  refine ⟨ao, cap, (hk.cell (p := ⟨G, j, none⟩) hG).trans h1, fun i hi => ?_⟩
  obtain ⟨b', off, rfl, hlt, hc⟩ := h2 i hi
  have hS : Others n b g b' := ⟨by omega, fun e => hb _ _ (by rw [← e]; exact hc), fun e => hg _ _ (by rw [← e]; exact hc)⟩
  exact ⟨b', off, rfl, Nat.lt_of_lt_of_le hlt hk.size, (hk.cell (p := ⟨b', off + i, none⟩) hS).trans hc⟩
theorem HoldsS.of_below {S : Nat → Prop} {w w' : World} (h : Below w.heap.size w w') (hS : ∀ k, S k → k < w.heap.size) : HoldsS S w w' :=
  ⟨h.os, h.tape, h.output, h.size, fun k hk => h.block k (hS k hk)⟩

/-- Where Least stands when a number of trials are pushed. -/
structure LeastIs (l xs : List Int) (w1 : World) (m b g c : Nat) (tl : List (Nat × Nat)) (wr : World) : Prop where
  perm : tl.Perm (tried l xs c)
  heap : IsHeap tBefore tl
  at_ : ∃ v, TrAt wr m b v tl ∧ ∀ k, v.ownBlock = some k → ¬ Others w1.heap.size b g k
  holds : HoldsS (Others w1.heap.size b g) w1 wr

set_option maxHeartbeats 3200000 in
theorem cLeast (ao bo : Option Addr) (cap cap2 : Nat) (l xs : List Int) (w : World) (hgd : goodL l = true) (hs : xs.all isS = true) (hll : l.length ≤ 9223372036854775807) (hxl : xs.length ≤ 1000) (hcap2 : xs.length ≤ cap2) (hi : IntsAt w ao l) (hj : IntsAt w bo xs) :
    Calls Try.prog 17 #[.slice ao l.length cap, .slice bo xs.length cap2] w fun e w' => ∃ k : Nat, e = .returned (.int .i64 (k : Int)) ∧ IsLeast l xs k ∧ Below w.heap.size w w' := by
  have hl16 := good_len hgd
  have hmf : ∀ (fn : Fn) (first cap : Array Value) (w : World), (Instr.makeFunc fn first cap).run Try.prog w = .ok (.func fn first cap) w := fun _ _ _ _ => rfl
  have HG := Lib.hid (cGood ao cap l w hll hi)
  rw [hgd] at HG
  obtain ⟨w0, hw0⟩ : ∃ w0, w0 = (w.alloc (.cells #[] 56)).alloc (.cells #[.slice (some ⟨w.heap.size, 0, none⟩) 0 0] 49) := ⟨_, rfl⟩
  have hb0 : Below w.heap.size w w0 := by rw [hw0]; exact below2 w _ _
  have h00 : w0.heap[w.heap.size]? = some (.cells #[] 56) := by rw [hw0]; exact (Below.heap_alloc _ _ _ (by simp)).trans (World.alloc_heap_new w _)
  have h01 : w0.heap[w.heap.size + 1]? = some (.cells #[.slice (some ⟨w.heap.size, 0, none⟩) 0 0] 49) := by rw [hw0]; have := World.alloc_heap_new (w.alloc (.cells #[] 56)) (.cells #[.slice (some ⟨w.heap.size, 0, none⟩) 0 0] 49); rwa [World.size_alloc] at this
  have hsz0 : w0.heap.size = w.heap.size + 2 := by rw [hw0]; simp
  have HP := Lib.hid (cPredictorOf ao cap l w0 hgd (hi.below hb0))
  have HB0 := Lib.hid hb0
  have H00 := Lib.hid h00
  have H01 := Lib.hid h01
  have HJ := Lib.hid hj
  have HGD := Lib.hid hgd
  have HSS := Lib.hid hs
  clear hi hj hgd hs hb0 h00 h01
  go_enter Try.func17, Try.ntmps17
  go_wp2_with fail
  refine HG.out.mono ?_
  rintro e w1 ⟨rfl, rfl⟩
  go_wp2_with fail
  rw [← hw0]
  refine HP.out.mono ?_
  rintro e w1 ⟨G, pcap, rfl, hP, hG, hpc, hb1⟩
  have hL : LeastIs l xs w1 w.heap.size (w.heap.size + 1) w.heap.size 0 [] w1 := by
    have hm0 := hb1.block w.heap.size (by omega)
    have hm1 := hb1.block (w.heap.size + 1) (by omega)
    rw [H00.out] at hm0
    rw [H01.out] at hm1
    refine ⟨List.Perm.refl _, isHeap_nil, ⟨.slice (some ⟨w.heap.size, 0, none⟩) 0 0, ⟨by have := hb1.size; omega, by rw [cell_of_heap hm1]; rfl, frozen_of_heap hm1 0, ⟨rfl, .inr ⟨w.heap.size, 0, #[], rfl, Nat.le_refl _, hm0, Nat.le_refl _, by unfold maxLen; omega, rfl, rfl⟩⟩, by simp [Value.ownBlock], by omega, by simp⟩, fun k hk => ?_⟩, HoldsS.refl _ _⟩
    simp [Value.ownBlock] at hk
    subst hk
    exact fun h => h.2.2 rfl
  have HNB : Hid (∀ off k, w1.cell? ⟨w.heap.size + 1, off, none⟩ ≠ some (.int .i64 k)) := fun off k => by
    have hm1 := hb1.block (w.heap.size + 1) (by omega)
    rw [H01.out] at hm1
    rw [cell_of_heap hm1]
    cases off <;> simp
  have HNG : Hid (∀ off k, w1.cell? ⟨w.heap.size, off, none⟩ ≠ some (.int .i64 k)) := fun off k => by
    have hm0 := hb1.block w.heap.size (by omega)
    rw [H00.out] at hm0
    rw [cell_of_heap hm0]
    simp
  have HL := Lib.hid hL
  have HP1 := Lib.hid hP
  have HB1 := Lib.hid (HB0.out.trans (hb1.mono (by omega)))
  have hsz1 := hb1.size
  have hGlt := hP.lt
  clear hL hP hb1 HP HG H00 H01 HB0 hw0
  obtain ⟨m, hm⟩ : ∃ m, m = w.heap.size := ⟨_, rfl⟩
  rw [← hm] at HL HNB HNG ⊢
  have HME := Lib.hid hm
  have hmle : m + 2 ≤ w1.heap.size := by omega
  have hmG : m + 2 ≤ G := by omega
  clear hm hsz0 hG
  go_wp2
  go_loopg [7, 8, 18] (l.length + 1) (fun gk q1 q2 i wr => ∃ (c : Nat) (tl : List (Nat × Nat)), c ≤ l.length + 1 ∧ gk + c = l.length + 1 ∧ i = .int .i64 c ∧ Hid (LeastIs l xs w1 m (m + 1) m c tl wr))
  case atStart => exact ⟨0, [], by omega, by omega, rfl, HL.out⟩
  case round =>
    obtain ⟨c, tl, hc, hgk, rfl, HREL⟩ := hrel
    have HGK := Lib.hid hgk
    clear hgk
    by_cases hlt : c < l.length + 1
    · obtain ⟨v, hv, hvo⟩ := HREL.out.at_
      have hszr := HREL.out.holds.size
      have hcut := cutP G (l.length + 1) pcap c (by omega)
      have hbox := box_below wr (.cells #[.slice (some ⟨G, 0, none⟩) (c + 1) pcap, .slice bo xs.length cap2] 45)
      obtain ⟨w2, hw2⟩ : ∃ w2, w2 = wr.alloc (.cells #[.slice (some ⟨G, 0, none⟩) (c + 1) pcap, .slice bo xs.length cap2] 45) := ⟨_, rfl⟩
      rw [← hw2] at hbox
      have hholds : HoldsS (Others w1.heap.size (m + 1) m) w1 w2 := HREL.out.holds.trans (HoldsS.of_below hbox (fun k hk => by have := hk.1; omega))
      have hP2 : PredAt w2 G l l.length := HP1.out.holds hholds ⟨hGlt, by omega, by omega⟩ rfl HNB.out HNG.out
      have hJ2 : IntsAt w2 bo xs := by
        intro i hi
        obtain ⟨b, off, h1, h2, h3⟩ := HJ.out i hi
        refine ⟨b, off, h1, by have := HB1.out.size; have := hholds.size; omega, ?_⟩
        have hS : Others w1.heap.size (m + 1) m b := ⟨by have := HB1.out.size; omega, by have := HME.out; omega, by have := HME.out; omega⟩
        rw [hholds.cell (p := ⟨b, off + i, none⟩) hS, HB1.out.cell (p := ⟨b, off + i, none⟩) h2, h3]
      have hgt := good_take HGD.out c
      have HC : Hid (Calls Try.prog 30 #[.int .i64 (xs.length : Int), tellV (courseV G pcap c bo xs.length cap2)] w2 fun e w' => e = .returned (sizeV (costN l xs c)) ∧ Below w2.heap.size w2 w') := by
        have := cSizes (courseV G pcap c bo xs.length cap2) (res (l.take c) xs) w2 (by rw [res_length]; omega) (fun x hx => by
          obtain ⟨i, hi, rfl⟩ := List.getElem_of_mem hx
          have hi' : i < xs.length := by rw [res_length] at hi; exact hi
          rw [res_at hi']
          have := res_small hgt HSS.out hi'
          omega) (fun i h W hW => by
          have h' : i < xs.length := by rw [res_length] at h; exact h
          have := cUnforeseen G pcap c bo cap2 i l xs W HGD.out (by omega) h' (by omega) hcap2 HSS.out ((hP2.below hW).less (by omega)) (hJ2.below hW)
          rw [foreM_take (by omega)] at this
          rw [res_at h']
          exact this)
        rw [res_length] at this
        exact this
      unfold tellV courseV sizeV at HC
      obtain ⟨t, ht⟩ : ∃ t, t = costN l xs c := ⟨_, rfl⟩
      rw [← ht] at HC
      have HTT := Lib.hid ht
      have HV2 := Lib.hid (hv.below hbox)
      have HH2 := Lib.hid hholds
      have hlen : tl.length = c := by rw [HREL.out.perm.length_eq, tried_length]
      have HVO := Lib.hid hvo
      have hsz2 := hholds.size
      clear ht hv hbox hholds hP2 hJ2 hgt hvo
      go_wp2_with fail
      rw [← hw2]
      refine HC.out.mono ?_
      rintro e w3 ⟨rfl, hb3⟩
      have HV3 := HV2.out.below hb3
      have HH3 := Lib.hid (HH2.out.trans (HoldsS.of_below hb3 (fun k hk => by have := hk.1; omega)))
      have hsz3 := hb3.size
      have HP := Lib.hid (heapPush (filterOps (Others w1.heap.size (m + 1) m) m (m + 1)) tl (c, t) w3 (by decide) (by omega) ⟨v, HV3, fun h => h.2.1 rfl, fun k hk => by have := hk.1; omega, HVO.out⟩ HREL.out.heap)
      unfold trialV trialsV at HP
      clear HV3 HV2 HH2 hb3 hw2 HC hcut HVO
      go_wp2_with fail
      refine HP.out.mono ?_
      rintro e w4 ⟨rfl, tl2, hp2, hh2, ⟨v2, hv2, _, _, hvo2⟩, hh4⟩
      have HREL2 : Hid (LeastIs l xs w1 m (m + 1) m (c + 1) tl2 w4) := by
        refine ⟨?_, hh2, ⟨v2, hv2, hvo2⟩, HH3.out.trans hh4⟩
        rw [← tried_succ, ← HTT.out]
        exact hp2.trans (((HREL.out.perm).cons _).trans (List.perm_append_singleton _ _).symm)
      clear hp2 hh2 hv2 hvo2 hh4
      go_wp2
      go_roundg (gk - 1)
      case rel => exact ⟨c + 1, tl2, by omega, by have := HGK.out; omega, by go_num, HREL2⟩
      case measure => have := HGK.out; omega
    · obtain rfl : c = l.length + 1 := by omega
      obtain ⟨v, hv, _⟩ := HREL.out.at_
      have hbest := best_of_heap l xs tl HREL.out.perm HREL.out.heap
      have hlen : tl.length = l.length + 1 := by rw [HREL.out.perm.length_eq, tried_length]
      have HF := Lib.hid (cFirst m (m + 1) v tl wr (by omega) hv HREL.out.heap)
      obtain ⟨⟨k, t⟩, hx⟩ : ∃ x, x = tl[0]! := ⟨_, rfl⟩
      rw [← hx] at hbest HF
      have HBS := Lib.hid hbest
      have HBR : Hid (Below m w wr) := by
        have h1 := HB1.out
        have h2 := HREL.out.holds
        rw [← HME.out] at h1
        exact h1.trans ⟨h2.os, h2.tape, h2.output, h2.size, fun k hk => h2.block k ⟨by omega, by omega, by omega⟩⟩
      unfold trialV at HF
      clear hbest hx hlen hv
      go_wp2_with fail
      refine HF.out.mono ?_
      rintro e w4 ⟨rfl, hb4⟩
      have HB4 : Hid (Below w.heap.size w w4) := by rw [← HME.out]; exact HBR.out.trans hb4
      have hfd : ∀ W : World, (Instr.field 56 (.agg #[.int .i64 (k : Nat), .int .u64 0, .int .u64 (t : Nat)]) 0).run Try.prog W = .ok (.int .i64 (k : Nat)) W := fun _ => by kernel_rfl
      clear hb4
      go_wp2
      go_ret
      exact ⟨k, rfl, HBS.out, HB4.out⟩
end Go.Proofs.Ytcgkalfclammfaa
