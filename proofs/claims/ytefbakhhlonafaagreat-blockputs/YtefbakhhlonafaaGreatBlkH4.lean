import Derived.Test.YtefbakhhlonafaaGreatBlkT1
import Derived.Test.YtefbakhhlonafaaGreatBlkC8
import Derived.Test.YtefbakhhlonafaaGreatBlkC4

section
namespace Go.Proofs.YtefbakhhlonafaaGreat
open Go.RowKit Go.Proofs Go.Proofs.PipeM Go.Proofs.PipeA Go.Proofs.BlkM Go.Proofs.BlkB
set_option maxRecDepth 100000

/-- Numbers that came, in memory that is new. -/
def EachIs (w : World) (b : Nat) (ao : Option Addr) (r : RS × List Int) (e : Ending) (w' : World) : Prop :=
  ∃ la lc, e = .returned (.slice la r.2.length lc) ∧ RdA w' b ao r.1 ∧ IntsAt w' la r.2 ∧ FreshOf w la ∧ r.2.length ≤ lc ∧ Keeps [b] w w'

set_option maxHeartbeats 3200000 in
theorem cTakeEach (b : Nat) (ao : Option Addr) (s : RS) (n d : Nat) (w : World) (hn : n ≤ 1024) (h : RdA w b ao s) (ha : ∀ g off, ao = some ⟨g, off, none⟩ → g < w.heap.size) :
    Calls Tryz.prog 73 #[.pointer (some ⟨b, 0, none⟩), .int .i64 n, .int .i64 d] w (EachIs w b ao (s.intsS d n)) := by
  obtain ⟨cs, hcs, hmk⟩ := makeInts n (by omega)
  have hb := h.lt
  have hbx := box_below w (.cells cs 3)
  have hn1 := World.alloc_heap_new w (.cells cs 3)
  have hlt1 := (Array.getElem?_eq_some_iff.1 hn1).1
  have hf : ∀ j, j < n → ((s.intsS d n).2).getD j 0 = (s.adv d j).signedV d := fun j hj => by
    unfold RS.intsS
    rw [List.getD, List.getElem?_map, List.getElem?_range hj]; rfl
  have HK0 : Hid (Gx.KeysAt (w.alloc (.cells cs 3)) w.heap.size n (Gx.fillF (fun j => (s.intsS d n).2.getD j 0) (List.replicate n 0) 0)) := by
    intro j hj
    refine ⟨?_, frozen_of_heap hn1 _⟩
    rw [cell_of_heap hn1, hcs j hj]
    unfold Gx.fillF
    rw [if_neg (Nat.not_lt_zero _), LagM.getD_lt (by simpa using hj), List.getElem_replicate]
  have HR0 : Hid (RdA (w.alloc (.cells cs 3)) b ao (s.adv d 0)) := h.keeps (keeps_of_below hbx []) (by simp) (by simp)
  have HSG := fun W s' (h' : RdA W b ao s') => Lib.hid (aSigned b ao s' (d : Int) W h')
  have HA := Lib.hid ha
  have HF := Lib.hid hf
  have hlen := intsS_length d n s
  have HX : Hid (∀ wr, Below w.heap.size w (w.alloc (.cells cs 3)) → Keeps [b, w.heap.size] (w.alloc (.cells cs 3)) wr → Keeps [b] w wr) := fun wr h1 h2 => (keeps_of_below h1 [b]).trans_new h2 (by intro x hx; simp at hx; rcases hx with rfl | rfl; exact .inl (by simp); exact .inr (Nat.le_refl _))
  have HBX := Lib.hid hbx
  obtain ⟨w1, hw1⟩ : ∃ w1, w1 = w.alloc (.cells cs 3) := ⟨_, rfl⟩
  rw [← hw1] at HK0 HR0 HX HBX hlt1
  have HW1 := Lib.hid hw1
  have HE : Hid (s.intsS d n = (s.adv d n, (s.intsS d n).2)) := rfl
  generalize hL : (s.intsS d n).2 = L at *
  have HLN := Lib.hid hlen
  rw [HE.out]
  clear hcs hn1 h ha hf hlen hbx hw1 HE hL
  go_enter Tryz.func73, Tryz.ntmps73
  go_wp2
  rw [← HW1.out]
  go_loopg [8, 13] n (fun gk q i wr => ∃ c : Nat, c ≤ n ∧ gk + c = n ∧ i = .int .i64 c ∧ Hid (RdA wr b ao (s.adv d c)) ∧ Hid (Gx.KeysAt wr w.heap.size n (Gx.fillF (fun j => L.getD j 0) (List.replicate n 0) c)) ∧ Hid (Keeps [b, w.heap.size] w1 wr))
  case atStart => exact ⟨0, Nat.zero_le _, by omega, rfl, HR0, HK0, Keeps.refl _ _⟩
  case round =>
    obtain ⟨c, hc, hgk, rfl, HRC, HKC, HWC⟩ := hrel
    have HGK := Lib.hid hgk
    clear hgk HK0 HR0
    have hHwr : w.heap.size < wr.heap.size := Nat.lt_of_lt_of_le hlt1 HWC.out.size
    by_cases hlt : c < n
    · have HCA := HSG wr (s.adv d c) HRC.out
      obtain ⟨z, hz⟩ : ∃ z, z = (s.adv d c).signedV d := ⟨_, rfl⟩
      have HZ : Hid (L.getD c 0 = z) := (HF.out c hlt).trans hz.symm
      rw [← hz] at HCA
      clear hz
      go_wp2_with fail
      refine HCA.out.mono ?_
      rintro e w2 ⟨rfl, hr2, hk2⟩
      have HR2 : Hid (RdA w2 b ao (s.adv d (c + 1))) := hr2
      have hbn : b ≠ w.heap.size := by omega
      have HK2 : Hid (Gx.KeysAt w2 w.heap.size n (Gx.fillF (fun j => L.getD j 0) (List.replicate n 0) c)) := fun j hj => ⟨(hk2.cell (p := ⟨w.heap.size, j, none⟩) hHwr (by simp; omega)).trans (HKC.out j hj).1, (hk2.frozen (p := ⟨w.heap.size, j, none⟩) hHwr (by simp; omega)).trans (HKC.out j hj).2⟩
      have HW2 : Hid (Keeps [b, w.heap.size] w1 w2) := HWC.out.trans (hk2.mono (by simp))
      have hsz2 : w.heap.size < w2.heap.size := Nat.lt_of_lt_of_le hHwr hk2.size
      obtain ⟨c0, f0⟩ := Gx.fill_at HK2.out hlt 0 (by rw [if_neg (Nat.lt_irrefl _), LagM.getD_lt (by simpa using hlt), List.getElem_replicate])
      have HK6 : Hid (Gx.KeysAt (w2.setCell ⟨w.heap.size, c, none⟩ (.int .i64 z)) w.heap.size n (Gx.fillF (fun j => L.getD j 0) (List.replicate n 0) (c + 1))) := by have := Gx.fill_set HK2.out hlt; rw [HZ.out] at this; exact this
      have HW6 : Hid (Keeps [b, w.heap.size] w1 (w2.setCell ⟨w.heap.size, c, none⟩ (.int .i64 z))) := HW2.out.trans ((keeps_setCell_b _ _ _ _).mono (by simp))
      have HR6 : Hid (RdA (w2.setCell ⟨w.heap.size, c, none⟩ (.int .i64 z)) b ao (s.adv d (c + 1))) := HR2.out.keeps (keeps_setCell_b _ _ _ _) (by simp; omega) (fun g off e => by have := HA.out g off e; simp; omega)
      clear hr2 hk2
      go_wp2
      go_roundg (gk - 1)
      case rel => exact ⟨c + 1, by omega, by have := HGK.out; omega, by go_num, HR6, HK6, HW6⟩
      case measure => have := HGK.out; omega
    · obtain rfl : c = n := by omega
      have HI : Hid (IntsAt wr (some ⟨w.heap.size, 0, none⟩) L) := by
        have := Gx.fill_end (l := List.replicate c 0) (m := L) (by rw [List.length_replicate]; exact HKC.out) (by rw [List.length_replicate]; exact Nat.le_refl _) (by rw [List.length_replicate]; exact HLN.out) (fun j hj => by rw [LagM.getD_lt hj]) hHwr
        exact this
      have HKW := Lib.hid (HX.out wr HBX.out HWC.out)
      go_wp2
      go_ret
      exact ⟨some ⟨w.heap.size, 0, none⟩, c, by rw [HLN.out]; rfl, HRC.out, HI.out, fun g off e => by cases e; exact Nat.le_refl _, by rw [HLN.out]; exact Nat.le_refl _, HKW.out⟩

theorem takeV_lt2 (s : RS) (n : Nat) : s.takeV n < 2 ^ n := by
  unfold RS.takeV
  split
  · have := num_lt (s.bits.take (n : Int).toNat)
    refine Nat.lt_of_lt_of_le this (Nat.pow_le_pow_right (by decide) ?_)
    rw [List.length_take]
    omega
  · exact Nat.two_pow_pos n

set_option maxHeartbeats 1600000 in
theorem cTakeIndex (b : Nat) (ao : Option Addr) (s : RS) (w : World) (h : RdA w b ao s) (ha : ∀ g off, ao = some ⟨g, off, none⟩ → g < w.heap.size) :
    Calls Tryz.prog 88 #[.pointer (some ⟨b, 0, none⟩)] w (EachIs w b ao s.idx) := by
  have HT := Lib.hid (aTake b ao s 5 w h)
  have hlt : s.takeV 5 < 2 ^ 5 := takeV_lt2 s 5
  have HE : Hid (s.idx = if 16 < s.takeV 5 then ((s.takeS 5).give 2, []) else (s.takeS 5).intsS 7 (s.takeV 5)) := rfl
  have HEA : Hid (∀ W (n : Nat), n ≤ 1024 → RdA W b ao (s.takeS 5) → (∀ g off, ao = some ⟨g, off, none⟩ → g < W.heap.size) → Calls Tryz.prog 73 #[.pointer (some ⟨b, 0, none⟩), .int .i64 (n : Int), .int .i64 7] W (EachIs W b ao ((s.takeS 5).intsS 7 n))) := fun W n hn hr hg => cTakeEach b ao (s.takeS 5) n 7 W hn hr hg
  have HGV := fun W (hr : RdA W b ao (s.takeS 5)) => Lib.hid (aGive b ao (s.takeS 5) 2 W hr)
  have HA := Lib.hid ha
  generalize s.takeV 5 = v at *
  generalize s.idx = R at *
  clear h ha
  have hv : IntKind.i64.wrap (v : Int) = (v : Int) := IntWalk.i64_in _ (by omega)
  by_cases h16 : 16 < v
  · have hR : R = ((s.takeS 5).give 2, []) := by rw [HE.out, if_pos h16]
    subst hR
    have t1 : decide (16 < (v : Int)) = true := decide_eq_true (by omega)
    clear HE hlt h16
    go_enter Tryz.func88, Tryz.ntmps88
    go_wp2_with fail
    refine HT.out.mono ?_
    rintro e w1 ⟨rfl, hr1, hk1⟩
    have HG1 := HGV w1 hr1
    have HK1 := Lib.hid hk1
    clear hr1 hk1
    go_wp2_with fail
    refine HG1.out.mono ?_
    rintro e w2 ⟨rfl, hr2, hk2⟩
    have HR2 := Lib.hid hr2
    have HK2 := Lib.hid (HK1.out.trans hk2)
    clear hr2 hk2
    go_wp2
    refine bodyPost_ret (v := .slice none 0 0) (by simp [results, Tryz.results88, go_sem]) rfl ?_
    exact ⟨none, 0, rfl, HR2.out, (fun j hj => by simp at hj), fresh_none w, Nat.le_refl _, HK2.out⟩
  · have hR : R = (s.takeS 5).intsS 7 v := by rw [HE.out, if_neg h16]
    subst hR
    have t1 : decide (16 < (v : Int)) = false := decide_eq_false (by omega)
    have HL := Lib.hid (intsS_length 7 v (s.takeS 5))
    clear HE hlt
    go_enter Tryz.func88, Tryz.ntmps88
    go_wp2_with fail
    refine HT.out.mono ?_
    rintro e w1 ⟨rfl, hr1, hk1⟩
    have HE1 := Lib.hid (HEA.out w1 v (by omega) hr1 (fun g off e => Nat.lt_of_lt_of_le (HA.out g off e) hk1.size))
    have HK1 := Lib.hid hk1
    clear hr1 hk1 h16
    go_wp2_with fail
    refine HE1.out.mono ?_
    rintro e w2 ⟨la, lc, he, hr2, hi2, hf2, hc2, hk2⟩
    rw [HL.out] at he
    subst he
    have HR2 := Lib.hid hr2
    have HI2 := Lib.hid hi2
    have HF2 : Hid (FreshOf w la) := fun g off e => Nat.le_trans HK1.out.size (hf2 g off e)
    have HC2 := Lib.hid hc2
    have HK2 := Lib.hid (HK1.out.trans hk2)
    clear hr2 hi2 hf2 hc2 hk2
    go_wp2
    refine bodyPost_ret (v := .slice la v lc) (by simp [results, Tryz.results88, go_sem]) rfl ?_
    exact ⟨la, lc, by rw [HL.out], HR2.out, HI2.out, HF2.out, HC2.out, HK2.out⟩
end Go.Proofs.YtefbakhhlonafaaGreat
end

section
namespace Go.Proofs.YtefbakhhlonafaaGreat
open Go.RowKit Go.Proofs Go.Proofs.PipeM Go.Proofs.PipeA Go.Proofs.BlkM
set_option maxRecDepth 100000

/-- Nine cells of a block. -/
structure Box9 (W : World) (B : Nat) (cs : Array Value) : Prop where
  lt : B < W.heap.size
  c : ∀ j v, cs[j]? = some v → W.cell? ⟨B, j, none⟩ = some v
  f : ∀ j, j < 9 → W.frozen? ⟨B, j, none⟩ = false
theorem Box9.keeps {W W' : World} {B : Nat} {cs : Array Value} {bs : List Nat} (h : Box9 W B cs) (hk : Keeps bs W W') (hb : B ∉ bs) : Box9 W' B cs :=
  ⟨Nat.lt_of_lt_of_le h.lt hk.size, fun j v hj => (hk.cell (p := ⟨B, j, none⟩) h.lt hb).trans (h.c j v hj), fun j hj => (hk.frozen (p := ⟨B, j, none⟩) h.lt hb).trans (h.f j hj)⟩
theorem Box9.set {W : World} {B : Nat} {cs : Array Value} (h : Box9 W B cs) (j : Nat) (v : Value) (hj : j < cs.size) : Box9 (W.setCell ⟨B, j, none⟩ v) B (cs.setIfInBounds j v) := by
  refine ⟨by simpa using h.lt, fun i u hi => ?_, fun i hi => by rw [World.frozen?_setCell]; exact h.f i hi⟩
  by_cases e : i = j
  · subst e
    have h0 : cs[i]? = some cs[i] := Array.getElem?_eq_getElem _
    have h1 : u = v := by
      rw [Array.getElem?_setIfInBounds_self_of_lt hj] at hi
      cases hi; rfl
    subst h1
    exact World.cell?_setCell_same _ _ _ (h.c i _ h0)
  · rw [Array.getElem?_setIfInBounds_ne (fun h => e h.symm)] at hi
    rw [World.cell?_setCell_other _ _ _ _ (by simp)]
    exact h.c i u hi
theorem Box9.setTo {W : World} {B : Nat} {cs cs' : Array Value} (h : Box9 W B cs) (j : Nat) (v : Value) (hj : j < cs.size) (hc : cs' = cs.setIfInBounds j v) : Box9 (W.setCell ⟨B, j, none⟩ v) B cs' := by
  rw [hc]; exact h.set j v hj
def set9 (W : World) (B : Nat) (v0 v1 v2 v3 v4 v5 v6 v7 v8 : Value) : World :=
  ((((((((W.setCell ⟨B, 0, none⟩ v0).setCell ⟨B, 1, none⟩ v1).setCell ⟨B, 2, none⟩ v2).setCell ⟨B, 3, none⟩ v3).setCell ⟨B, 4, none⟩ v4).setCell ⟨B, 5, none⟩ v5).setCell ⟨B, 6, none⟩ v6).setCell ⟨B, 7, none⟩ v7).setCell ⟨B, 8, none⟩ v8
theorem Box9.set9 {W : World} {B : Nat} {u0 u1 u2 u3 u4 u5 u6 u7 u8 : Value} (h : Box9 W B #[u0, u1, u2, u3, u4, u5, u6, u7, u8]) (v0 v1 v2 v3 v4 v5 v6 v7 v8 : Value) :
    Box9 (set9 W B v0 v1 v2 v3 v4 v5 v6 v7 v8) B #[v0, v1, v2, v3, v4, v5, v6, v7, v8] ∧ Keeps [B] W (set9 W B v0 v1 v2 v3 v4 v5 v6 v7 v8) := by
  constructor
  · have h0 := h
    have h1 := h0.setTo 0 v0 (by simp) (show #[v0, u1, u2, u3, u4, u5, u6, u7, u8] = (#[u0, u1, u2, u3, u4, u5, u6, u7, u8] : Array Value).setIfInBounds 0 v0 from rfl)
    have h2 := h1.setTo 1 v1 (by simp) (show #[v0, v1, u2, u3, u4, u5, u6, u7, u8] = (#[v0, u1, u2, u3, u4, u5, u6, u7, u8] : Array Value).setIfInBounds 1 v1 from rfl)
    have h3 := h2.setTo 2 v2 (by simp) (show #[v0, v1, v2, u3, u4, u5, u6, u7, u8] = (#[v0, v1, u2, u3, u4, u5, u6, u7, u8] : Array Value).setIfInBounds 2 v2 from rfl)
    have h4 := h3.setTo 3 v3 (by simp) (show #[v0, v1, v2, v3, u4, u5, u6, u7, u8] = (#[v0, v1, v2, u3, u4, u5, u6, u7, u8] : Array Value).setIfInBounds 3 v3 from rfl)
    have h5 := h4.setTo 4 v4 (by simp) (show #[v0, v1, v2, v3, v4, u5, u6, u7, u8] = (#[v0, v1, v2, v3, u4, u5, u6, u7, u8] : Array Value).setIfInBounds 4 v4 from rfl)
    have h6 := h5.setTo 5 v5 (by simp) (show #[v0, v1, v2, v3, v4, v5, u6, u7, u8] = (#[v0, v1, v2, v3, v4, u5, u6, u7, u8] : Array Value).setIfInBounds 5 v5 from rfl)
    have h7 := h6.setTo 6 v6 (by simp) (show #[v0, v1, v2, v3, v4, v5, v6, u7, u8] = (#[v0, v1, v2, v3, v4, v5, u6, u7, u8] : Array Value).setIfInBounds 6 v6 from rfl)
    have h8 := h7.setTo 7 v7 (by simp) (show #[v0, v1, v2, v3, v4, v5, v6, v7, u8] = (#[v0, v1, v2, v3, v4, v5, v6, u7, u8] : Array Value).setIfInBounds 7 v7 from rfl)
    have h9 := h8.setTo 8 v8 (by simp) (show #[v0, v1, v2, v3, v4, v5, v6, v7, v8] = (#[v0, v1, v2, v3, v4, v5, v6, v7, u8] : Array Value).setIfInBounds 8 v8 from rfl)
    exact h9
  · unfold Go.Proofs.YtefbakhhlonafaaGreat.set9
    exact ((((((((keeps_setCell _ _ _ _).trans (keeps_setCell _ _ _ _)).trans (keeps_setCell _ _ _ _)).trans (keeps_setCell _ _ _ _)).trans (keeps_setCell _ _ _ _)).trans (keeps_setCell _ _ _ _)).trans (keeps_setCell _ _ _ _)).trans (keeps_setCell _ _ _ _)).trans (keeps_setCell _ _ _ _)

/-- What the document's Take leaves. -/
def BTakeIs (r : MR × Blk × List Int) (w : World) (e : Ending) (w' : World) : Prop :=
  ∃ ia ra da oa ic rc dc oc, e = .returned (.tuple #[r.1.val, blkV r.2.1 ia ra da ic rc dc, .slice oa r.2.2.length oc]) ∧ BlkIn w' r.2.1 ia ra da ic rc dc ∧ IntsAt w' oa r.2.2 ∧ r.2.2.length ≤ oc ∧ Below w.heap.size w w'
theorem blkIn_none (w : World) : BlkIn w Blk.none none none none 0 0 0 :=
  ⟨fun j hj => by simp [Blk.none] at hj, fun j hj => by simp [Blk.none] at hj, fun j hj => by simp [Blk.none] at hj, Nat.zero_le _, Nat.zero_le _, Nat.zero_le _, Nat.le_refl _, Nat.le_refl _, Nat.le_refl _⟩
theorem BTakeIs.none {m : MR} {w w' : World} (hb : Below w.heap.size w w') : BTakeIs (m, Blk.none, []) w (.returned (.tuple #[m.val, .agg #[.int .i64 0, .int .i64 0, .int .i64 0, .slice Option.none 0 0, .int .i64 0, .int .i64 0, .int .i64 0, .slice Option.none 0 0, .slice Option.none 0 0], .slice Option.none 0 0])) w' :=
  ⟨Option.none, Option.none, Option.none, Option.none, 0, 0, 0, 0, rfl, blkIn_none _, fun j hj => by simp at hj, Nat.le_refl _, hb⟩

/-- The result's two blocks, as they are laid first. -/
structure OutB (W : World) (R B : Nat) : Prop where
  r : Box3 W R (.string ⟨#[]⟩) (.int .i64 0) (.int .i64 0)
  b : Box9 W B #[.int .i64 0, .int .i64 0, .int .i64 0, .slice none 0 0, .int .i64 0, .int .i64 0, .int .i64 0, .slice none 0 0, .slice none 0 0]
  ne : R ≠ B
theorem OutB.keeps {W W' : World} {R B : Nat} {bs : List Nat} (h : OutB W R B) (hk : Keeps bs W W') (hr : R ∉ bs) (hb : B ∉ bs) : OutB W' R B := ⟨h.r.keeps hk hr, h.b.keeps hk hb, h.ne⟩
theorem outb_new (w : World) (o : Obj) : OutB (((w.alloc o).alloc (.cells #[.string ⟨#[]⟩, .int .i64 0, .int .i64 0] 50)).alloc (.cells #[.int .i64 0, .int .i64 0, .int .i64 0, .slice none 0 0, .int .i64 0, .int .i64 0, .int .i64 0, .slice none 0 0, .slice none 0 0] 24)) (w.heap.size + 1) (w.heap.size + 1 + 1) ∧
    Below w.heap.size w (((w.alloc o).alloc (.cells #[.string ⟨#[]⟩, .int .i64 0, .int .i64 0] 50)).alloc (.cells #[.int .i64 0, .int .i64 0, .int .i64 0, .slice none 0 0, .int .i64 0, .int .i64 0, .int .i64 0, .slice none 0 0, .slice none 0 0] 24)) := by
  obtain ⟨_, h2, h3, hz, hb⟩ := alloc3h w o (.cells #[.string ⟨#[]⟩, .int .i64 0, .int .i64 0] 50) (.cells #[.int .i64 0, .int .i64 0, .int .i64 0, .slice none 0 0, .int .i64 0, .int .i64 0, .int .i64 0, .slice none 0 0, .slice none 0 0] 24)
  exact ⟨⟨⟨by omega, cell_of_heap h2 0, cell_of_heap h2 1, cell_of_heap h2 2, frozen_of_heap h2 0, frozen_of_heap h2 1, frozen_of_heap h2 2⟩, ⟨by omega, fun j v hj => (cell_of_heap h3 j).trans hj, fun j _ => frozen_of_heap h3 j⟩, by omega⟩, hb⟩
end Go.Proofs.YtefbakhhlonafaaGreat
end
