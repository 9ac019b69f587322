import Derived.Test.YtefbakhhlonafaaGreatBlkH2

section
namespace Go.Proofs.YtefbakhhlonafaaGreat
open Go.RowKit Go.Proofs Go.Proofs.PipeM Go.Proofs.PipeA Go.Proofs.BlkM
set_option maxRecDepth 100000

/-- A Normal that comes; a block that comes; with its samples. -/
def MR.head (m : MR) : MR × Nat × List Int :=
  let a := m.take 5
  let o := a.1.take 5
  let x := MR.ints 7 o.2 (if 16 < o.2 then o.1.give 2 else o.1)
  (x.1, a.2, x.2)
def MR.term (m : MR) : MR × Nat × Nat :=
  let f := m.take 1
  let l := f.1.take 8
  let g := l.1.take 4
  if f.2 = 1 then (if l.2 = 0 ∨ g.2 = 0 then g.1.give 2 else g.1, l.2, g.2) else (f.1, 0, 0)
def MR.normB (m : MR) (n : Nat) : MR × Blk :=
  let h := m.head
  let t := h.1.term
  let s := t.1.slide n
  (s.1, ⟨2, 0, h.2.1, h.2.2, t.2.1, t.2.2, s.2.2.1, s.2.2.2, s.2.1⟩)
def MR.kindB (m : MR) (n d : Nat) : MR × Blk :=
  let k := m.take 2
  if k.2 = 1 then ((k.1.take d).1, ⟨1, k.1.intV d, 0, [], 0, 0, 0, [], []⟩)
  else if k.2 = 3 then ((MR.ints d n k.1).1, ⟨3, 0, 0, [], 0, 0, 0, [], (MR.ints d n k.1).2⟩)
  else if k.2 = 2 then k.1.normB n
  else (k.1, ⟨k.2, 0, 0, [], 0, 0, 0, [], []⟩)
def MR.block (m : MR) (n d : Int) : MR × Blk × List Int :=
  if !(sizeN n && depthB d) then (m.give 1, Blk.none, [])
  else
    let r := m.kindB n.toNat d.toNat
    if r.1.fail ≠ 0 then (r.1, Blk.none, [])
    else if codeB r.2 n d ≠ 0 then (r.1.give (codeB r.2 n d), Blk.none, [])
    else (r.1, r.2, outB r.2 n.toNat)

/-- A block's cells. -/
def blkCs (b : Blk) (ia ra da : Option Addr) (ic rc dc : Nat) : Array Value :=
  #[.int .i64 b.kind, .int .i64 b.value, .int .i64 b.shift, .slice ia b.index.length ic, .int .i64 b.lag, .int .i64 b.gain, .int .i64 b.part, .slice ra b.rice.length rc, .slice da b.data.length dc]
theorem blkCs_size (b : Blk) (ia ra da : Option Addr) (ic rc dc : Nat) : (blkCs b ia ra da ic rc dc).size = 9 := rfl
theorem BlkIn.keeps {W W' : World} {b : Blk} {ia ra da : Option Addr} {ic rc dc : Nat} {bs : List Nat} (h : BlkIn W b ia ra da ic rc dc) (hk : Keeps bs W W') {W0 : World} (fi : FreshOf W0 ia) (fr : FreshOf W0 ra) (fd : FreshOf W0 da) (hbs : ∀ x ∈ bs, x < W0.heap.size) : BlkIn W' b ia ra da ic rc dc :=
  ⟨h.i.keeps hk fun g off e hm => by have := fi g off e; have := hbs g hm; omega, h.r.keeps hk fun g off e hm => by have := fr g off e; have := hbs g hm; omega, h.d.keeps hk fun g off e hm => by have := fd g off e; have := hbs g hm; omega, h.il, h.rl, h.dl, h.ic, h.rc, h.dc⟩

/-- A reader in its box, and the block that grows in another. -/
structure TakeAt (W0 : World) (RB BB : Nat) (m : MR) (b : Blk) (ia ra da : Option Addr) (ic rc dc : Nat) (W : World) : Prop where
  kp : Keeps [RB, BB] W0 W
  r : Box3 W RB (.string (str m.bits)) (.int .i64 m.all) (.int .i64 m.fail)
  c : ∀ j v, (blkCs b ia ra da ic rc dc)[j]? = some v → W.cell? ⟨BB, j, none⟩ = some v
  f : ∀ j, j < 9 → W.frozen? ⟨BB, j, none⟩ = false
  bi : BlkIn W b ia ra da ic rc dc
  fi : FreshOf W0 ia
  fr : FreshOf W0 ra
  fd : FreshOf W0 da
  lr : RB < W0.heap.size
  lb : BB < W0.heap.size
  ne : RB ≠ BB
theorem TakeAt.call {W0 : World} {RB BB : Nat} {m : MR} {b : Blk} {ia ra da : Option Addr} {ic rc dc : Nat} {W W1 : World} (h : TakeAt W0 RB BB m b ia ra da ic rc dc W) (hb : Below W.heap.size W W1) : TakeAt W0 RB BB m b ia ra da ic rc dc W1 := by
  have hlb : BB < W.heap.size := Nat.lt_of_lt_of_le h.lb h.kp.size
  exact ⟨h.kp.trans (keeps_of_below hb _), h.r.keeps (keeps_of_below hb []) (by simp), fun j v hj => (hb.cell (p := ⟨BB, j, none⟩) hlb).trans (h.c j v hj), fun j hj => (hb.frozen (p := ⟨BB, j, none⟩) hlb).trans (h.f j hj), h.bi.below hb, h.fi, h.fr, h.fd, h.lr, h.lb, h.ne⟩
theorem TakeAt.read {W0 : World} {RB BB : Nat} {m : MR} {b : Blk} {ia ra da : Option Addr} {ic rc dc : Nat} {W : World} (h : TakeAt W0 RB BB m b ia ra da ic rc dc W) (m' : MR) :
    TakeAt W0 RB BB m' b ia ra da ic rc dc (((W.setCell ⟨RB, 0, none⟩ (.string (str m'.bits))).setCell ⟨RB, 1, none⟩ (.int .i64 m'.all)).setCell ⟨RB, 2, none⟩ (.int .i64 m'.fail)) := by
  obtain ⟨hbx, hk⟩ := h.r.set3 (.string (str m'.bits)) (.int .i64 m'.all) (.int .i64 m'.fail)
  have hlb : BB < W.heap.size := Nat.lt_of_lt_of_le h.lb h.kp.size
  have hne : BB ∉ [RB] := by have := h.ne; simp; omega
  exact ⟨h.kp.trans (hk.mono (by simp)), hbx, fun j v hj => (hk.cell (p := ⟨BB, j, none⟩) hlb hne).trans (h.c j v hj), fun j hj => (hk.frozen (p := ⟨BB, j, none⟩) hlb hne).trans (h.f j hj), h.bi.keeps hk h.fi h.fr h.fd (by have := h.lr; simp; omega), h.fi, h.fr, h.fd, h.lr, h.lb, h.ne⟩
/-- A field is stored: the new block's slices must lie well in the world ahead of the store. -/
theorem TakeAt.store {W0 : World} {RB BB : Nat} {m : MR} {b b' : Blk} {ia ra da ia' ra' da' : Option Addr} {ic rc dc ic' rc' dc' : Nat} {W : World} (h : TakeAt W0 RB BB m b ia ra da ic rc dc W) (j : Nat) (v : Value)
    (hc : blkCs b' ia' ra' da' ic' rc' dc' = (blkCs b ia ra da ic rc dc).setIfInBounds j v) (hj : j < 9) (bi : BlkIn W b' ia' ra' da' ic' rc' dc') (fi : FreshOf W0 ia') (fr : FreshOf W0 ra') (fd : FreshOf W0 da') :
    TakeAt W0 RB BB m b' ia' ra' da' ic' rc' dc' (W.setCell ⟨BB, j, none⟩ v) := by
  have hk := keeps_setCell W BB j v
  refine ⟨h.kp.trans (hk.mono (by simp)), h.r.keeps hk (by have := h.ne; simp; exact this), fun i u hi => ?_, fun i hi => by rw [World.frozen?_setCell]; exact h.f i hi, bi.keeps hk fi fr fd (by have := h.lb; simp; omega), fi, fr, fd, h.lr, h.lb, h.ne⟩
  rw [hc] at hi
  by_cases e : i = j
  · subst e
    have h0 : (blkCs b ia ra da ic rc dc)[i]? = some ((blkCs b ia ra da ic rc dc)[i]'(by rw [blkCs_size]; exact hj)) := Array.getElem?_eq_getElem _
    have h1 : u = v := by
      rw [Array.getElem?_setIfInBounds_self_of_lt (by rw [blkCs_size]; exact hj)] at hi
      cases hi; rfl
    subst h1
    exact World.cell?_setCell_same _ _ _ (h.c i _ h0)
  · rw [Array.getElem?_setIfInBounds_ne (fun h => e h.symm)] at hi
    rw [World.cell?_setCell_other _ _ _ _ (by simp)]
    exact h.c i u hi
end Go.Proofs.YtefbakhhlonafaaGreat
end

section
namespace Go.Proofs.YtefbakhhlonafaaGreat
open Go.RowKit Go.Proofs Go.Proofs.PipeM Go.Proofs.PipeA Go.Proofs.BlkM
set_option maxRecDepth 100000

/-- Nine cells of a block. -/
structure Box9 (W : World) (B : Nat) (cs : Array Value) : Prop where
  lt : B < W.heap.size
  c : ∀ j v, cs[j]? = some v → W.cell? ⟨B, j, none⟩ = some v
  f : ∀ j, j < 9 → W.frozen? ⟨B, j, none⟩ = false
theorem Box9.keeps {W W' : World} {B : Nat} {cs : Array Value} {bs : List Nat} (h : Box9 W B cs) (hk : Keeps bs W W') (hb : B ∉ bs) : Box9 W' B cs :=
  ⟨Nat.lt_of_lt_of_le h.lt hk.size, fun j v hj => (hk.cell (p := ⟨B, j, none⟩) h.lt hb).trans (h.c j v hj), fun j hj => (hk.frozen (p := ⟨B, j, none⟩) h.lt hb).trans (h.f j hj)⟩
theorem Box9.set {W : World} {B : Nat} {cs : Array Value} (h : Box9 W B cs) (j : Nat) (v : Value) (hj : j < cs.size) : Box9 (W.setCell ⟨B, j, none⟩ v) B (cs.setIfInBounds j v) := by
  refine ⟨by simpa using h.lt, fun i u hi => ?_, fun i hi => by rw [World.frozen?_setCell]; exact h.f i hi⟩
  by_cases e : i = j
  · subst e
    have h0 : cs[i]? = some cs[i] := Array.getElem?_eq_getElem _
    have h1 : u = v := by
      rw [Array.getElem?_setIfInBounds_self_of_lt hj] at hi
      cases hi; rfl
    subst h1
    exact World.cell?_setCell_same _ _ _ (h.c i _ h0)
  · rw [Array.getElem?_setIfInBounds_ne (fun h => e h.symm)] at hi
    rw [World.cell?_setCell_other _ _ _ _ (by simp)]
    exact h.c i u hi
theorem Box9.setTo {W : World} {B : Nat} {cs cs' : Array Value} (h : Box9 W B cs) (j : Nat) (v : Value) (hj : j < cs.size) (hc : cs' = cs.setIfInBounds j v) : Box9 (W.setCell ⟨B, j, none⟩ v) B cs' := by
  rw [hc]; exact h.set j v hj
def set9 (W : World) (B : Nat) (v0 v1 v2 v3 v4 v5 v6 v7 v8 : Value) : World :=
  ((((((((W.setCell ⟨B, 0, none⟩ v0).setCell ⟨B, 1, none⟩ v1).setCell ⟨B, 2, none⟩ v2).setCell ⟨B, 3, none⟩ v3).setCell ⟨B, 4, none⟩ v4).setCell ⟨B, 5, none⟩ v5).setCell ⟨B, 6, none⟩ v6).setCell ⟨B, 7, none⟩ v7).setCell ⟨B, 8, none⟩ v8
theorem Box9.set9 {W : World} {B : Nat} {u0 u1 u2 u3 u4 u5 u6 u7 u8 : Value} (h : Box9 W B #[u0, u1, u2, u3, u4, u5, u6, u7, u8]) (v0 v1 v2 v3 v4 v5 v6 v7 v8 : Value) :
    Box9 (set9 W B v0 v1 v2 v3 v4 v5 v6 v7 v8) B #[v0, v1, v2, v3, v4, v5, v6, v7, v8] ∧ Keeps [B] W (set9 W B v0 v1 v2 v3 v4 v5 v6 v7 v8) := by
  constructor
  · have h0 := h
    have h1 := h0.setTo 0 v0 (by simp) (show #[v0, u1, u2, u3, u4, u5, u6, u7, u8] = (#[u0, u1, u2, u3, u4, u5, u6, u7, u8] : Array Value).setIfInBounds 0 v0 from rfl)
    have h2 := h1.setTo 1 v1 (by simp) (show #[v0, v1, u2, u3, u4, u5, u6, u7, u8] = (#[v0, u1, u2, u3, u4, u5, u6, u7, u8] : Array Value).setIfInBounds 1 v1 from rfl)
    have h3 := h2.setTo 2 v2 (by simp) (show #[v0, v1, v2, u3, u4, u5, u6, u7, u8] = (#[v0, v1, u2, u3, u4, u5, u6, u7, u8] : Array Value).setIfInBounds 2 v2 from rfl)
    have h4 := h3.setTo 3 v3 (by simp) (show #[v0, v1, v2, v3, u4, u5, u6, u7, u8] = (#[v0, v1, v2, u3, u4, u5, u6, u7, u8] : Array Value).setIfInBounds 3 v3 from rfl)
    have h5 := h4.setTo 4 v4 (by simp) (show #[v0, v1, v2, v3, v4, u5, u6, u7, u8] = (#[v0, v1, v2, v3, u4, u5, u6, u7, u8] : Array Value).setIfInBounds 4 v4 from rfl)
    have h6 := h5.setTo 5 v5 (by simp) (show #[v0, v1, v2, v3, v4, v5, u6, u7, u8] = (#[v0, v1, v2, v3, v4, u5, u6, u7, u8] : Array Value).setIfInBounds 5 v5 from rfl)
    have h7 := h6.setTo 6 v6 (by simp) (show #[v0, v1, v2, v3, v4, v5, v6, u7, u8] = (#[v0, v1, v2, v3, v4, v5, u6, u7, u8] : Array Value).setIfInBounds 6 v6 from rfl)
    have h8 := h7.setTo 7 v7 (by simp) (show #[v0, v1, v2, v3, v4, v5, v6, v7, u8] = (#[v0, v1, v2, v3, v4, v5, v6, u7, u8] : Array Value).setIfInBounds 7 v7 from rfl)
    have h9 := h8.setTo 8 v8 (by simp) (show #[v0, v1, v2, v3, v4, v5, v6, v7, v8] = (#[v0, v1, v2, v3, v4, v5, v6, v7, u8] : Array Value).setIfInBounds 8 v8 from rfl)
    exact h9
  · unfold Go.Proofs.YtefbakhhlonafaaGreat.set9
    exact ((((((((keeps_setCell _ _ _ _).trans (keeps_setCell _ _ _ _)).trans (keeps_setCell _ _ _ _)).trans (keeps_setCell _ _ _ _)).trans (keeps_setCell _ _ _ _)).trans (keeps_setCell _ _ _ _)).trans (keeps_setCell _ _ _ _)).trans (keeps_setCell _ _ _ _)).trans (keeps_setCell _ _ _ _)

/-- What the document's Take leaves. -/
def BTakeIs (r : MR × Blk × List Int) (w : World) (e : Ending) (w' : World) : Prop :=
  ∃ ia ra da oa ic rc dc oc, e = .returned (.tuple #[r.1.val, blkV r.2.1 ia ra da ic rc dc, .slice oa r.2.2.length oc]) ∧ BlkIn w' r.2.1 ia ra da ic rc dc ∧ IntsAt w' oa r.2.2 ∧ r.2.2.length ≤ oc ∧ Below w.heap.size w w'
theorem blkIn_none (w : World) : BlkIn w Blk.none none none none 0 0 0 :=
  ⟨fun j hj => by simp [Blk.none] at hj, fun j hj => by simp [Blk.none] at hj, fun j hj => by simp [Blk.none] at hj, Nat.zero_le _, Nat.zero_le _, Nat.zero_le _, Nat.le_refl _, Nat.le_refl _, Nat.le_refl _⟩
theorem BTakeIs.none {m : MR} {w w' : World} (hb : Below w.heap.size w w') : BTakeIs (m, Blk.none, []) w (.returned (.tuple #[m.val, .agg #[.int .i64 0, .int .i64 0, .int .i64 0, .slice Option.none 0 0, .int .i64 0, .int .i64 0, .int .i64 0, .slice Option.none 0 0, .slice Option.none 0 0], .slice Option.none 0 0])) w' :=
  ⟨Option.none, Option.none, Option.none, Option.none, 0, 0, 0, 0, rfl, blkIn_none _, fun j hj => by simp at hj, Nat.le_refl _, hb⟩

/-- The result's two blocks, as they are laid first. -/
structure OutB (W : World) (R B : Nat) : Prop where
  r : Box3 W R (.string ⟨#[]⟩) (.int .i64 0) (.int .i64 0)
  b : Box9 W B #[.int .i64 0, .int .i64 0, .int .i64 0, .slice none 0 0, .int .i64 0, .int .i64 0, .int .i64 0, .slice none 0 0, .slice none 0 0]
  ne : R ≠ B
theorem OutB.keeps {W W' : World} {R B : Nat} {bs : List Nat} (h : OutB W R B) (hk : Keeps bs W W') (hr : R ∉ bs) (hb : B ∉ bs) : OutB W' R B := ⟨h.r.keeps hk hr, h.b.keeps hk hb, h.ne⟩
theorem outb_new (w : World) (o : Obj) : OutB (((w.alloc o).alloc (.cells #[.string ⟨#[]⟩, .int .i64 0, .int .i64 0] 50)).alloc (.cells #[.int .i64 0, .int .i64 0, .int .i64 0, .slice none 0 0, .int .i64 0, .int .i64 0, .int .i64 0, .slice none 0 0, .slice none 0 0] 24)) (w.heap.size + 1) (w.heap.size + 1 + 1) ∧
    Below w.heap.size w (((w.alloc o).alloc (.cells #[.string ⟨#[]⟩, .int .i64 0, .int .i64 0] 50)).alloc (.cells #[.int .i64 0, .int .i64 0, .int .i64 0, .slice none 0 0, .int .i64 0, .int .i64 0, .int .i64 0, .slice none 0 0, .slice none 0 0] 24)) := by
  obtain ⟨_, h2, h3, hz, hb⟩ := alloc3h w o (.cells #[.string ⟨#[]⟩, .int .i64 0, .int .i64 0] 50) (.cells #[.int .i64 0, .int .i64 0, .int .i64 0, .slice none 0 0, .int .i64 0, .int .i64 0, .int .i64 0, .slice none 0 0, .slice none 0 0] 24)
  exact ⟨⟨⟨by omega, cell_of_heap h2 0, cell_of_heap h2 1, cell_of_heap h2 2, frozen_of_heap h2 0, frozen_of_heap h2 1, frozen_of_heap h2 2⟩, ⟨by omega, fun j v hj => (cell_of_heap h3 j).trans hj, fun j _ => frozen_of_heap h3 j⟩, by omega⟩, hb⟩
end Go.Proofs.YtefbakhhlonafaaGreat
end

section
namespace Go.Proofs.YtefbakhhlonafaaGreat
open Go.RowKit Go.Proofs Go.Proofs.PipeM Go.Proofs.PipeA Go.Proofs.BlkM
set_option maxRecDepth 100000

set_option maxHeartbeats 3200000 in
theorem rTake_size (m : MR) (n d : Int) (w : World) (h : (sizeN n && depthB d) = false) :
    Calls Tryz.prog 20 #[m.val, .int .i64 n, .int .i64 d] w (BTakeIs (m.block n d) w) := by
  have hv : m.block n d = (m.give 1, Blk.none, []) := by unfold MR.block; rw [h]; rfl
  rw [hv]
  have t : decide (n < 1) = true ∨ (decide (n < 1) = false ∧ decide (1024 < n) = true) ∨ (decide (n < 1) = false ∧ decide (1024 < n) = false ∧ depthB d = false) := by
    by_cases h1 : n < 1
    · exact .inl (decide_eq_true h1)
    · by_cases h2 : 1024 < n
      · exact .inr (.inl ⟨decide_eq_false h1, decide_eq_true h2⟩)
      · refine .inr (.inr ⟨decide_eq_false h1, decide_eq_false h2, ?_⟩)
        have : sizeN n = true := decide_eq_true (by omega)
        rw [this] at h
        simpa using h
  have HD := fun W => Lib.hid (rDepth d W)
  have HG := fun W => Lib.hid (mGive m 1 W)
  have HV : Hid (m.val = .agg #[.string (str m.bits), .int .i64 m.all, .int .i64 m.fail]) := Lib.hid rfl
  rw [HV.out] at HG ⊢
  obtain ⟨gm, hgm⟩ : ∃ gm, gm = m.give 1 := ⟨_, rfl⟩
  rw [← hgm] at HG ⊢
  generalize str m.bits = st at HG ⊢
  generalize m.all = al at HG ⊢
  generalize m.fail = fa at HG ⊢
  obtain ⟨ho0, hb0⟩ := outb_new w (.cells #[.string st, .int .i64 al, .int .i64 fa] 50)
  have HO0 := Lib.hid ho0
  have HB0 := Lib.hid hb0
  clear hgm HV hv h ho0 hb0
  go_enter Tryz.func20, Tryz.ntmps20
  rcases t with t | ⟨t, t'⟩ | ⟨t, t', t''⟩
  all_goals
    go_wp2_with (go_at_call 25; refine (HD _).out.mono ?_; rw [t'']; rintro e w1 ⟨rfl, rfl⟩)
    refine (HG _).out.mono ?_
    rintro e w1 ⟨rfl, hb1⟩
    have ho := HO0.out.keeps (keeps_of_below hb1 []) (by simp) (by simp)
    have HB1 : Hid (Below w.heap.size w w1) := HB0.out.trans (hb1.mono HB0.out.size)
    have hk1 := ho.r.set3 (.string (str gm.bits)) (.int .i64 gm.all) (.int .i64 gm.fail)
    have hob := ho.b.keeps hk1.2 (by simp)
    have hk2 := hob.set9 (.int .i64 0) (.int .i64 0) (.int .i64 0) (.slice none 0 0) (.int .i64 0) (.int .i64 0) (.int .i64 0) (.slice none 0 0) (.slice none 0 0)
    have hr2 := hk1.1.keeps hk2.2 (by simp)
    have hbf := HB1.out.trans ((hk1.2.below HB1.out.size (by intro x hx; simp at hx; omega)).trans (hk2.2.below (Nat.le_trans HB1.out.size hk1.2.size) (by intro x hx; simp at hx; omega)))
    obtain ⟨_, e0, e1, e2, g0, g1, g2⟩ := ho.r
    obtain ⟨_, y0, y1, y2, _, _, _⟩ := hr2
    have x0 := ho.b.c 0 _ rfl
    have x1 := ho.b.c 1 _ rfl
    have x2 := ho.b.c 2 _ rfl
    have x3 := ho.b.c 3 _ rfl
    have x4 := ho.b.c 4 _ rfl
    have x5 := ho.b.c 5 _ rfl
    have x6 := ho.b.c 6 _ rfl
    have x7 := ho.b.c 7 _ rfl
    have x8 := ho.b.c 8 _ rfl
    have z0 := ho.b.f 0 (by decide)
    have z1 := ho.b.f 1 (by decide)
    have z2 := ho.b.f 2 (by decide)
    have z3 := ho.b.f 3 (by decide)
    have z4 := ho.b.f 4 (by decide)
    have z5 := ho.b.f 5 (by decide)
    have z6 := ho.b.f 6 (by decide)
    have z7 := ho.b.f 7 (by decide)
    have z8 := ho.b.f 8 (by decide)
    have q0 := hk2.1.c 0 _ rfl
    have q1 := hk2.1.c 1 _ rfl
    have q2 := hk2.1.c 2 _ rfl
    have q3 := hk2.1.c 3 _ rfl
    have q4 := hk2.1.c 4 _ rfl
    have q5 := hk2.1.c 5 _ rfl
    have q6 := hk2.1.c 6 _ rfl
    have q7 := hk2.1.c 7 _ rfl
    have q8 := hk2.1.c 8 _ rfl
    have HF : Hid (BTakeIs (gm, Blk.none, []) w (.returned (.tuple #[gm.val, .agg #[.int .i64 0, .int .i64 0, .int .i64 0, .slice none 0 0, .int .i64 0, .int .i64 0, .int .i64 0, .slice none 0 0, .slice none 0 0], .slice none 0 0])) _) := Lib.hid (BTakeIs.none hbf)
    unfold set9 at y0 y1 y2 q0 q1 q2 q3 q4 q5 q6 q7 q8 HF
    unfold MR.val
    unfold MR.val at HF
    clear hb1 ho hk1 hob hk2 hbf
    generalize str gm.bits = gs at *
    generalize gm.all = ga at *
    generalize gm.fail = gf at *
    go_wp2_with fail
    refine bodyPost_ret (v := .tuple #[.agg #[.string gs, .int .i64 ga, .int .i64 gf], .agg #[.int .i64 0, .int .i64 0, .int .i64 0, .slice none 0 0, .int .i64 0, .int .i64 0, .int .i64 0, .slice none 0 0, .slice none 0 0], .slice none 0 0]) ?_ rfl ?_
    · simp [results, Tryz.results20, go_sem, y0, y1, y2, q0, q1, q2, q3, q4, q5, q6, q7, q8]
    · exact HF.out
end Go.Proofs.YtefbakhhlonafaaGreat
end

section
namespace Go.Proofs.YtefbakhhlonafaaGreat
open Go.RowKit Go.Proofs Go.Proofs.PipeM Go.Proofs.PipeA Go.Proofs.BlkM
set_option maxRecDepth 100000

/-- The start: the reader's box, the results', and the block's. -/
theorem takeat_start (w : World) (m : MR) {RB BB : Nat} (hR : RB = w.heap.size) (hB : BB = w.heap.size + 1 + 1 + 1) {W0 : World} (hW : W0 = (((w.alloc (.cells #[.string (str m.bits), .int .i64 m.all, .int .i64 m.fail] 50)).alloc (.cells #[.string ⟨#[]⟩, .int .i64 0, .int .i64 0] 50)).alloc (.cells #[.int .i64 0, .int .i64 0, .int .i64 0, .slice none 0 0, .int .i64 0, .int .i64 0, .int .i64 0, .slice none 0 0, .slice none 0 0] 24)).alloc (.cells #[.int .i64 0, .int .i64 0, .int .i64 0, .slice none 0 0, .int .i64 0, .int .i64 0, .int .i64 0, .slice none 0 0, .slice none 0 0] 24)) :
    TakeAt W0 RB BB m Blk.none none none none 0 0 0 W0 ∧ OutB W0 (w.heap.size + 1) (w.heap.size + 1 + 1) ∧ Below w.heap.size w W0 := by
  subst hR hB
  obtain ⟨ho, hb⟩ := outb_new w (.cells #[.string (str m.bits), .int .i64 m.all, .int .i64 m.fail] 50)
  obtain ⟨h1, _, _, hz, _⟩ := alloc3h w (.cells #[.string (str m.bits), .int .i64 m.all, .int .i64 m.fail] 50) (.cells #[.string ⟨#[]⟩, .int .i64 0, .int .i64 0] 50) (.cells #[.int .i64 0, .int .i64 0, .int .i64 0, .slice none 0 0, .int .i64 0, .int .i64 0, .int .i64 0, .slice none 0 0, .slice none 0 0] 24)
  generalize ((w.alloc (.cells #[.string (str m.bits), .int .i64 m.all, .int .i64 m.fail] 50)).alloc (.cells #[.string ⟨#[]⟩, .int .i64 0, .int .i64 0] 50)).alloc (.cells #[.int .i64 0, .int .i64 0, .int .i64 0, .slice none 0 0, .int .i64 0, .int .i64 0, .int .i64 0, .slice none 0 0, .slice none 0 0] 24) = V at *
  have hbx := box_below V (.cells #[.int .i64 0, .int .i64 0, .int .i64 0, .slice none 0 0, .int .i64 0, .int .i64 0, .int .i64 0, .slice none 0 0, .slice none 0 0] 24)
  have hn := World.alloc_heap_new V (.cells #[.int .i64 0, .int .i64 0, .int .i64 0, .slice none 0 0, .int .i64 0, .int .i64 0, .int .i64 0, .slice none 0 0, .slice none 0 0] 24)
  rw [← hW] at hbx hn
  have hlt := (Array.getElem?_eq_some_iff.1 hn).1
  have e : w.heap.size + 1 + 1 + 1 = V.heap.size := by omega
  rw [e]
  exact ⟨⟨Keeps.refl _ _, (Box3.at h1).keeps (keeps_of_below hbx []) (by simp), fun j v hj => (cell_of_heap hn j).trans hj, fun j _ => frozen_of_heap hn j, blkIn_none _, fresh_none _, fresh_none _, fresh_none _, by omega, hlt, by omega⟩, ho.keeps (keeps_of_below hbx []) (by simp) (by simp), hb.trans (hbx.mono hb.size)⟩
/-- The failing ends. -/
theorem MR.block_fail {m : MR} {k mm : Nat} (h : (sizeN k && depthB mm) = true) {r : MR} {b : Blk} (hk : m.kindB k mm = (r, b)) (hf : r.fail ≠ 0) : m.block k mm = (r, Blk.none, []) := by
  unfold MR.block
  rw [h, show (k : Int).toNat = k from rfl, show (mm : Int).toNat = mm from rfl, hk]
  simp [hf]
theorem MR.block_bad {m : MR} {k mm : Nat} (h : (sizeN k && depthB mm) = true) {r : MR} {b : Blk} (hk : m.kindB k mm = (r, b)) (hf : r.fail = 0) (hc : codeB b k mm ≠ 0) : m.block k mm = (r.give (codeB b k mm), Blk.none, []) := by
  unfold MR.block
  rw [h, show (k : Int).toNat = k from rfl, show (mm : Int).toNat = mm from rfl, hk]
  simp [hf, hc]
theorem MR.block_ok {m : MR} {k mm : Nat} (h : (sizeN k && depthB mm) = true) {r : MR} {b : Blk} (hk : m.kindB k mm = (r, b)) (hf : r.fail = 0) (hc : codeB b k mm = 0) : m.block k mm = (r, b, outB b k) := by
  unfold MR.block
  rw [h, show (k : Int).toNat = k from rfl, show (mm : Int).toNat = mm from rfl, hk]
  simp [hf, hc]
end Go.Proofs.YtefbakhhlonafaaGreat
end
