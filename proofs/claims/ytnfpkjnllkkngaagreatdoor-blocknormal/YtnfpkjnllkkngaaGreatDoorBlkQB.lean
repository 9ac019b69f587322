import Derived.Test.YtnfpkjnllkkngaaGreatDoorBlkN1
import Derived.Test.YtnfpkjnllkkngaaGreatDoorGxLagC4N
import Derived.Test.YtnfpkjnllkkngaaGreatDoorBlkC9

section
namespace Go.Proofs.YtnfpkjnllkkngaaGreatDoor
open Go.RowKit Go.Proofs Go.Proofs.PipeM Go.Proofs.PipeA Go.Proofs.BlkM Go.Proofs.BlkB Go.Proofs.LatM Go.Proofs.FilM Go.Proofs.LagM
set_option maxRecDepth 100000

set_option maxHeartbeats 3200000 in
theorem cLeft (lo io : Option Addr) (lcap icap : Nat) (l index : List Int) (a g : Int) (s : Nat) (w : World) (hs : s ≤ 62) (hl1 : 1 ≤ l.length) (hl : l.length ≤ 1024) (hil : index.length ≤ 100000) (hi : IntsAt w lo l) (hj : IntsAt w io index) (hcr : codeR index (lowS s l) = 0) :
    Calls Tryz.prog 18 #[.slice lo l.length lcap, .slice io index.length icap, .agg #[.int .i64 a, .int .i64 g], .int .i64 s] w (Gx.OutN (codeT a g (rsdN index s l)) (dataN a g index s l) w) := by
  have hb0 := box_below w (.cells #[.int .i64 a, .int .i64 g] 32)
  have hn0 := World.alloc_heap_new w (.cells #[.int .i64 a, .int .i64 g] 32)
  obtain ⟨W0, hW0⟩ : ∃ W0, W0 = w.alloc (.cells #[.int .i64 a, .int .i64 g] 32) := ⟨_, rfl⟩
  rw [← hW0] at hb0 hn0
  have hlt0 : w.heap.size < W0.heap.size := (Array.getElem?_eq_some_iff.1 hn0).1
  obtain ⟨g0, o0, rfl, hg0, _⟩ := hi 0 (by omega)
  have HCL := Lib.hid (Gx.cClone ⟨g0, o0, none⟩ lcap l W0 (by omega) (hi.below hb0))
  have HW0 := Lib.hid hW0
  have HB0 := Lib.hid hb0
  have HTB : Hid (∀ W, Below W0.heap.size W0 W → W.cell? ⟨w.heap.size, 0, none⟩ = some (.int .i64 a) ∧ W.cell? ⟨w.heap.size, 1, none⟩ = some (.int .i64 g)) := fun W hb =>
    ⟨(hb.cell (p := ⟨w.heap.size, 0, none⟩) hlt0).trans (cell_of_heap hn0 0), (hb.cell (p := ⟨w.heap.size, 1, none⟩) hlt0).trans (cell_of_heap hn0 1)⟩
  have HIX : Hid (∀ W, Below W0.heap.size W0 W → IntsAt W io index) := fun W hb => (hj.below hb0).below hb
  have HCR := Lib.hid hcr
  clear hi hj hW0 hb0 hn0 hcr hg0
  go_enter Tryz.func18, Tryz.ntmps18
  go_wp2_with fail
  rw [← HW0.out]
  refine HCL.out.mono ?_
  rintro e w1 ⟨H, cap, rfl, hi1, hcur, hcap, hH1, hH2, hb1⟩
  have HKS : Hid (Gx.KeysAt w1 H l.length (Gx.fillF (fun j => l.getD j 0 / 2 ^ s) l 0)) := by
    obtain ⟨cur, hcu⟩ := hcur
    exact Gx.fill_start hi1 hcu (fun j hj => absurd hj (by omega))
  have HB1 := Lib.hid hb1
  have HC1 := Lib.hid hcap
  have hs1 := hb1.size
  clear hi1 hcur hb1 hcap
  have hs64 : decide ((s : Int) < 0) = false := decide_eq_false (by omega)
  go_wp2
  go_loopg [11, 18] l.length (fun gk q i wr => ∃ c : Nat, c ≤ l.length ∧ gk + c = l.length ∧ i = .int .i64 c ∧ Hid (Gx.KeysAt wr H l.length (Gx.fillF (fun j => l.getD j 0 / 2 ^ s) l c)) ∧ Hid (Keeps [H] w1 wr))
  case atStart => exact ⟨0, Nat.zero_le _, by omega, rfl, HKS, Keeps.refl _ _⟩
  case round =>
    obtain ⟨c, hc, hgk, rfl, HKC, HKW⟩ := hrel
    have HGK := Lib.hid hgk
    clear hgk
    by_cases hlt : c < l.length
    · obtain ⟨c0, f0⟩ := Gx.fill_at HKC.out hlt (l.getD c 0) (by rw [if_neg (by omega)])
      have HK2 := Lib.hid (Gx.fill_set HKC.out hlt)
      have HW2 := Lib.hid (HKW.out.trans (keeps_setCell_b wr H c (.int .i64 (l.getD c 0 / 2 ^ s))))
      generalize l.getD c 0 = x at *
      go_wp2
      go_roundg (gk - 1)
      case rel => exact ⟨c + 1, by omega, by have := HGK.out; omega, by go_num, HK2, HW2⟩
      case measure => have := HGK.out; omega
    · obtain rfl : c = l.length := by omega
      have hHw : H < wr.heap.size := Nat.lt_of_lt_of_le hH2 HKW.out.size
      have HLI : Hid (IntsAt wr (some ⟨H, 0, none⟩) (lowS s l)) := Gx.fill_end (m := lowS s l) HKC.out (Nat.le_refl _) (lowS_length s l) (fun j hj => lowS_at (by rw [lowS_length] at hj; exact hj)) hHw
      have HBR : Hid (Below W0.heap.size W0 wr) := HB1.out.trans (HKW.out.below hs1 (by simp; omega))
      have HRS := Lib.hid (Fx.cResiduals io (some ⟨H, 0, none⟩) icap cap index (lowS s l) wr (by omega) (by rw [lowS_length]; omega) (by rw [lowS_length]; exact HC1.out) (HIX.out wr HBR.out) HLI.out)
      rw [lowS_length] at HRS
      go_wp2_with fail
      refine HRS.out.mono ?_
      rintro e w5 (⟨hno, _⟩ | ⟨_, R, rfl, hiR, _, _, hb5⟩)
      · exact absurd HCR.out hno
      have HB5 : Hid (Below W0.heap.size W0 w5) := HBR.out.trans (hb5.mono HBR.out.size)
      have hiR2 : IntsAt w5 (some ⟨R, 0, none⟩) (rsdN index s l) := hiR
      have HOF := Lib.hid (Gx.cOffN a g (some ⟨R, 0, none⟩) (lowS s l).length (rsdN index s l) w5 (by rw [rsdN_length]; omega) hiR2)
      unfold Gx.termV at HOF
      rw [rsdN_length, lowS_length] at HOF
      rw [lowS_length]
      obtain ⟨d0, d1⟩ := HTB.out w5 HB5.out
      clear hiR hiR2 hb5
      go_wp2_with fail
      refine HOF.out.mono ?_
      rintro e w6 (⟨hcd, rfl, hb6⟩ | ⟨hcd, ao, oc, rfl, hi6, hoc, hb6, hfr⟩)
      · have HB6 : Hid (Below w.heap.size w w6) := HB0.out.trans ((HB5.out.trans (hb6.mono HB5.out.size)).mono (Nat.le_of_lt hlt0))
        have HCD := Lib.hid hcd
        clear hcd hb6
        go_wp2
        refine bodyPost_ret (v := .tuple #[.slice none 0 0, .int .i64 (codeT a g (rsdN index s l))]) (by simp [results, Tryz.results18, go_sem]) rfl ?_
        exact .inl ⟨HCD.out, rfl, HB6.out⟩
      · have HB6 : Hid (Below w.heap.size w w6) := HB0.out.trans ((HB5.out.trans (hb6.mono HB5.out.size)).mono (Nat.le_of_lt hlt0))
        have HCD := Lib.hid hcd
        have HI6 := Lib.hid hi6
        have HOC := Lib.hid hoc
        have HFR : Hid (∀ g off, ao = some ⟨g, off, none⟩ → w.heap.size ≤ g) := fun g off e => by have := hfr g off e; have := HB5.out.size; omega
        clear hcd hb6 hi6 hoc hfr
        go_wp2
        refine bodyPost_ret (v := .tuple #[.slice ao (offL a.toNat g (rsdN index s l)).length oc, .int .i64 0]) (by simp [results, Tryz.results18, go_sem]) rfl ?_
        exact .inr ⟨HCD.out, ao, oc, rfl, HI6.out, HOC.out, HB6.out, HFR.out⟩
end Go.Proofs.YtnfpkjnllkkngaaGreatDoor
end

section
namespace Go.Proofs.YtnfpkjnllkkngaaGreatDoor
open Go.RowKit Go.Proofs Go.Proofs.PipeM Go.Proofs.PipeA Go.Proofs.BlkM
set_option maxRecDepth 100000

/-- Nine cells of a block. -/
structure Box9 (W : World) (B : Nat) (cs : Array Value) : Prop where
  lt : B < W.heap.size
  c : ∀ j v, cs[j]? = some v → W.cell? ⟨B, j, none⟩ = some v
  f : ∀ j, j < 9 → W.frozen? ⟨B, j, none⟩ = false
theorem Box9.keeps {W W' : World} {B : Nat} {cs : Array Value} {bs : List Nat} (h : Box9 W B cs) (hk : Keeps bs W W') (hb : B ∉ bs) : Box9 W' B cs :=
  ⟨Nat.lt_of_lt_of_le h.lt hk.size, fun j v hj => (hk.cell (p := ⟨B, j, none⟩) h.lt hb).trans (h.c j v hj), fun j hj => (hk.frozen (p := ⟨B, j, none⟩) h.lt hb).trans (h.f j hj)⟩
theorem Box9.set {W : World} {B : Nat} {cs : Array Value} (h : Box9 W B cs) (j : Nat) (v : Value) (hj : j < cs.size) : Box9 (W.setCell ⟨B, j, none⟩ v) B (cs.setIfInBounds j v) := by
  refine ⟨by simpa using h.lt, fun i u hi => ?_, fun i hi => by rw [World.frozen?_setCell]; exact h.f i hi⟩
  by_cases e : i = j
  · subst e
    have h0 : cs[i]? = some cs[i] := Array.getElem?_eq_getElem _
    have h1 : u = v := by
      rw [Array.getElem?_setIfInBounds_self_of_lt hj] at hi
      cases hi; rfl
    subst h1
    exact World.cell?_setCell_same _ _ _ (h.c i _ h0)
  · rw [Array.getElem?_setIfInBounds_ne (fun h => e h.symm)] at hi
    rw [World.cell?_setCell_other _ _ _ _ (by simp)]
    exact h.c i u hi
theorem Box9.setTo {W : World} {B : Nat} {cs cs' : Array Value} (h : Box9 W B cs) (j : Nat) (v : Value) (hj : j < cs.size) (hc : cs' = cs.setIfInBounds j v) : Box9 (W.setCell ⟨B, j, none⟩ v) B cs' := by
  rw [hc]; exact h.set j v hj
def set9 (W : World) (B : Nat) (v0 v1 v2 v3 v4 v5 v6 v7 v8 : Value) : World :=
  ((((((((W.setCell ⟨B, 0, none⟩ v0).setCell ⟨B, 1, none⟩ v1).setCell ⟨B, 2, none⟩ v2).setCell ⟨B, 3, none⟩ v3).setCell ⟨B, 4, none⟩ v4).setCell ⟨B, 5, none⟩ v5).setCell ⟨B, 6, none⟩ v6).setCell ⟨B, 7, none⟩ v7).setCell ⟨B, 8, none⟩ v8
theorem Box9.set9 {W : World} {B : Nat} {u0 u1 u2 u3 u4 u5 u6 u7 u8 : Value} (h : Box9 W B #[u0, u1, u2, u3, u4, u5, u6, u7, u8]) (v0 v1 v2 v3 v4 v5 v6 v7 v8 : Value) :
    Box9 (set9 W B v0 v1 v2 v3 v4 v5 v6 v7 v8) B #[v0, v1, v2, v3, v4, v5, v6, v7, v8] ∧ Keeps [B] W (set9 W B v0 v1 v2 v3 v4 v5 v6 v7 v8) := by
  constructor
  · have h0 := h
    have h1 := h0.setTo 0 v0 (by simp) (show #[v0, u1, u2, u3, u4, u5, u6, u7, u8] = (#[u0, u1, u2, u3, u4, u5, u6, u7, u8] : Array Value).setIfInBounds 0 v0 from rfl)
    have h2 := h1.setTo 1 v1 (by simp) (show #[v0, v1, u2, u3, u4, u5, u6, u7, u8] = (#[v0, u1, u2, u3, u4, u5, u6, u7, u8] : Array Value).setIfInBounds 1 v1 from rfl)
    have h3 := h2.setTo 2 v2 (by simp) (show #[v0, v1, v2, u3, u4, u5, u6, u7, u8] = (#[v0, v1, u2, u3, u4, u5, u6, u7, u8] : Array Value).setIfInBounds 2 v2 from rfl)
    have h4 := h3.setTo 3 v3 (by simp) (show #[v0, v1, v2, v3, u4, u5, u6, u7, u8] = (#[v0, v1, v2, u3, u4, u5, u6, u7, u8] : Array Value).setIfInBounds 3 v3 from rfl)
    have h5 := h4.setTo 4 v4 (by simp) (show #[v0, v1, v2, v3, v4, u5, u6, u7, u8] = (#[v0, v1, v2, v3, u4, u5, u6, u7, u8] : Array Value).setIfInBounds 4 v4 from rfl)
    have h6 := h5.setTo 5 v5 (by simp) (show #[v0, v1, v2, v3, v4, v5, u6, u7, u8] = (#[v0, v1, v2, v3, v4, u5, u6, u7, u8] : Array Value).setIfInBounds 5 v5 from rfl)
    have h7 := h6.setTo 6 v6 (by simp) (show #[v0, v1, v2, v3, v4, v5, v6, u7, u8] = (#[v0, v1, v2, v3, v4, v5, u6, u7, u8] : Array Value).setIfInBounds 6 v6 from rfl)
    have h8 := h7.setTo 7 v7 (by simp) (show #[v0, v1, v2, v3, v4, v5, v6, v7, u8] = (#[v0, v1, v2, v3, v4, v5, v6, u7, u8] : Array Value).setIfInBounds 7 v7 from rfl)
    have h9 := h8.setTo 8 v8 (by simp) (show #[v0, v1, v2, v3, v4, v5, v6, v7, v8] = (#[v0, v1, v2, v3, v4, v5, v6, v7, u8] : Array Value).setIfInBounds 8 v8 from rfl)
    exact h9
  · unfold Go.Proofs.YtnfpkjnllkkngaaGreatDoor.set9
    exact ((((((((keeps_setCell _ _ _ _).trans (keeps_setCell _ _ _ _)).trans (keeps_setCell _ _ _ _)).trans (keeps_setCell _ _ _ _)).trans (keeps_setCell _ _ _ _)).trans (keeps_setCell _ _ _ _)).trans (keeps_setCell _ _ _ _)).trans (keeps_setCell _ _ _ _)).trans (keeps_setCell _ _ _ _)

theorem box9_new (w : World) (v0 v1 v2 v3 v4 v5 v6 v7 v8 : Value) (t : TypeId) : Box9 (w.alloc (.cells #[v0, v1, v2, v3, v4, v5, v6, v7, v8] t)) w.heap.size #[v0, v1, v2, v3, v4, v5, v6, v7, v8] := by
  have h := World.alloc_heap_new w (.cells #[v0, v1, v2, v3, v4, v5, v6, v7, v8] t)
  exact ⟨(Array.getElem?_eq_some_iff.1 h).1, fun j v hj => by rw [cell_of_heap h]; exact hj, fun j _ => frozen_of_heap h _⟩
end Go.Proofs.YtnfpkjnllkkngaaGreatDoor
end
