import Derived.Test.YtefbakhhlonafaaGreatBlkG4
import Derived.Test.YtefbakhhlonafaaGreatBlkH2
import Derived.Test.YtefbakhhlonafaaGreatSlideT4
import Derived.Test.YtefbakhhlonafaaGreatReader5
import Derived.Test.YtefbakhhlonafaaGreatBlkC2

section
namespace Go.Proofs.YtefbakhhlonafaaGreat
open Go.RowKit Go.Proofs Go.Proofs.PipeM Go.Proofs.PipeA Go.Proofs.BlkM
set_option maxRecDepth 100000

/-- A Normal that comes; a block that comes; with its samples. -/
def MR.head (m : MR) : MR × Nat × List Int :=
  let a := m.take 5
  let o := a.1.take 5
  let x := MR.ints 7 o.2 (if 16 < o.2 then o.1.give 2 else o.1)
  (x.1, a.2, x.2)
def MR.term (m : MR) : MR × Nat × Nat :=
  let f := m.take 1
  let l := f.1.take 8
  let g := l.1.take 4
  if f.2 = 1 then (if l.2 = 0 ∨ g.2 = 0 then g.1.give 2 else g.1, l.2, g.2) else (f.1, 0, 0)
def MR.normB (m : MR) (n : Nat) : MR × Blk :=
  let h := m.head
  let t := h.1.term
  let s := t.1.slide n
  (s.1, ⟨2, 0, h.2.1, h.2.2, t.2.1, t.2.2, s.2.2.1, s.2.2.2, s.2.1⟩)
def MR.kindB (m : MR) (n d : Nat) : MR × Blk :=
  let k := m.take 2
  if k.2 = 1 then ((k.1.take d).1, ⟨1, k.1.intV d, 0, [], 0, 0, 0, [], []⟩)
  else if k.2 = 3 then ((MR.ints d n k.1).1, ⟨3, 0, 0, [], 0, 0, 0, [], (MR.ints d n k.1).2⟩)
  else if k.2 = 2 then k.1.normB n
  else (k.1, ⟨k.2, 0, 0, [], 0, 0, 0, [], []⟩)
def MR.block (m : MR) (n d : Int) : MR × Blk × List Int :=
  if !(sizeN n && depthB d) then (m.give 1, Blk.none, [])
  else
    let r := m.kindB n.toNat d.toNat
    if r.1.fail ≠ 0 then (r.1, Blk.none, [])
    else if codeB r.2 n d ≠ 0 then (r.1.give (codeB r.2 n d), Blk.none, [])
    else (r.1, r.2, outB r.2 n.toNat)

/-- A block's cells. -/
def blkCs (b : Blk) (ia ra da : Option Addr) (ic rc dc : Nat) : Array Value :=
  #[.int .i64 b.kind, .int .i64 b.value, .int .i64 b.shift, .slice ia b.index.length ic, .int .i64 b.lag, .int .i64 b.gain, .int .i64 b.part, .slice ra b.rice.length rc, .slice da b.data.length dc]
theorem blkCs_size (b : Blk) (ia ra da : Option Addr) (ic rc dc : Nat) : (blkCs b ia ra da ic rc dc).size = 9 := rfl
theorem blkV_cs (b : Blk) (ia ra da : Option Addr) (ic rc dc : Nat) : blkV b ia ra da ic rc dc = .agg (blkCs b ia ra da ic rc dc) := rfl
theorem BlkIn.keeps {W W' : World} {b : Blk} {ia ra da : Option Addr} {ic rc dc : Nat} {bs : List Nat} (h : BlkIn W b ia ra da ic rc dc) (hk : Keeps bs W W') {W0 : World} (fi : FreshOf W0 ia) (fr : FreshOf W0 ra) (fd : FreshOf W0 da) (hbs : ∀ x ∈ bs, x < W0.heap.size) : BlkIn W' b ia ra da ic rc dc :=
  ⟨h.i.keeps hk fun g off e hm => by have := fi g off e; have := hbs g hm; omega, h.r.keeps hk fun g off e hm => by have := fr g off e; have := hbs g hm; omega, h.d.keeps hk fun g off e hm => by have := fd g off e; have := hbs g hm; omega, h.il, h.rl, h.dl, h.ic, h.rc, h.dc⟩

/-- A reader in its box, and the block that grows in another. -/
structure TakeAt (W0 : World) (RB BB : Nat) (m : MR) (b : Blk) (ia ra da : Option Addr) (ic rc dc : Nat) (W : World) : Prop where
  kp : Keeps [RB, BB] W0 W
  r : Box3 W RB (.string (str m.bits)) (.int .i64 m.all) (.int .i64 m.fail)
  c : ∀ j v, (blkCs b ia ra da ic rc dc)[j]? = some v → W.cell? ⟨BB, j, none⟩ = some v
  f : ∀ j, j < 9 → W.frozen? ⟨BB, j, none⟩ = false
  bi : BlkIn W b ia ra da ic rc dc
  fi : FreshOf W0 ia
  fr : FreshOf W0 ra
  fd : FreshOf W0 da
  lr : RB < W0.heap.size
  lb : BB < W0.heap.size
  ne : RB ≠ BB
theorem TakeAt.call {W0 : World} {RB BB : Nat} {m : MR} {b : Blk} {ia ra da : Option Addr} {ic rc dc : Nat} {W W1 : World} (h : TakeAt W0 RB BB m b ia ra da ic rc dc W) (hb : Below W.heap.size W W1) : TakeAt W0 RB BB m b ia ra da ic rc dc W1 := by
  have hlb : BB < W.heap.size := Nat.lt_of_lt_of_le h.lb h.kp.size
  exact ⟨h.kp.trans (keeps_of_below hb _), h.r.keeps (keeps_of_below hb []) (by simp), fun j v hj => (hb.cell (p := ⟨BB, j, none⟩) hlb).trans (h.c j v hj), fun j hj => (hb.frozen (p := ⟨BB, j, none⟩) hlb).trans (h.f j hj), h.bi.below hb, h.fi, h.fr, h.fd, h.lr, h.lb, h.ne⟩
theorem TakeAt.read {W0 : World} {RB BB : Nat} {m : MR} {b : Blk} {ia ra da : Option Addr} {ic rc dc : Nat} {W : World} (h : TakeAt W0 RB BB m b ia ra da ic rc dc W) (m' : MR) :
    TakeAt W0 RB BB m' b ia ra da ic rc dc (((W.setCell ⟨RB, 0, none⟩ (.string (str m'.bits))).setCell ⟨RB, 1, none⟩ (.int .i64 m'.all)).setCell ⟨RB, 2, none⟩ (.int .i64 m'.fail)) := by
  obtain ⟨hbx, hk⟩ := h.r.set3 (.string (str m'.bits)) (.int .i64 m'.all) (.int .i64 m'.fail)
  have hlb : BB < W.heap.size := Nat.lt_of_lt_of_le h.lb h.kp.size
  have hne : BB ∉ [RB] := by have := h.ne; simp; omega
  exact ⟨h.kp.trans (hk.mono (by simp)), hbx, fun j v hj => (hk.cell (p := ⟨BB, j, none⟩) hlb hne).trans (h.c j v hj), fun j hj => (hk.frozen (p := ⟨BB, j, none⟩) hlb hne).trans (h.f j hj), h.bi.keeps hk h.fi h.fr h.fd (by have := h.lr; simp; omega), h.fi, h.fr, h.fd, h.lr, h.lb, h.ne⟩
/-- A field is stored: the new block's slices must lie well in the world ahead of the store. -/
theorem TakeAt.store {W0 : World} {RB BB : Nat} {m : MR} {b b' : Blk} {ia ra da ia' ra' da' : Option Addr} {ic rc dc ic' rc' dc' : Nat} {W : World} (h : TakeAt W0 RB BB m b ia ra da ic rc dc W) (j : Nat) (v : Value)
    (hc : blkCs b' ia' ra' da' ic' rc' dc' = (blkCs b ia ra da ic rc dc).setIfInBounds j v) (hj : j < 9) (bi : BlkIn W b' ia' ra' da' ic' rc' dc') (fi : FreshOf W0 ia') (fr : FreshOf W0 ra') (fd : FreshOf W0 da') :
    TakeAt W0 RB BB m b' ia' ra' da' ic' rc' dc' (W.setCell ⟨BB, j, none⟩ v) := by
  have hk := keeps_setCell W BB j v
  refine ⟨h.kp.trans (hk.mono (by simp)), h.r.keeps hk (by have := h.ne; simp; exact this), fun i u hi => ?_, fun i hi => by rw [World.frozen?_setCell]; exact h.f i hi, bi.keeps hk fi fr fd (by have := h.lb; simp; omega), fi, fr, fd, h.lr, h.lb, h.ne⟩
  rw [hc] at hi
  by_cases e : i = j
  · subst e
    have h0 : (blkCs b ia ra da ic rc dc)[i]? = some ((blkCs b ia ra da ic rc dc)[i]'(by rw [blkCs_size]; exact hj)) := Array.getElem?_eq_getElem _
    have h1 : u = v := by
      rw [Array.getElem?_setIfInBounds_self_of_lt (by rw [blkCs_size]; exact hj)] at hi
      cases hi; rfl
    subst h1
    exact World.cell?_setCell_same _ _ _ (h.c i _ h0)
  · rw [Array.getElem?_setIfInBounds_ne (fun h => e h.symm)] at hi
    rw [World.cell?_setCell_other _ _ _ _ (by simp)]
    exact h.c i u hi
end Go.Proofs.YtefbakhhlonafaaGreat
end

section
namespace Go.Proofs.YtefbakhhlonafaaGreat
open Go.RowKit Go.Proofs Go.Proofs.PipeM Go.Proofs.PipeA Go.Proofs.BlkM Go.Proofs.BlkB
set_option maxRecDepth 100000

/-- Numbers in two's complement that come next, to the program. -/
def RS.adv (d : Nat) (s : RS) : Nat → RS
  | 0 => s
  | c + 1 => (s.adv d c).signedS d
def RS.intsS (d n : Nat) (s : RS) : RS × List Int := (s.adv d n, (List.range n).map fun j => (s.adv d j).signedV d)
theorem intsS_length (d n : Nat) (s : RS) : (s.intsS d n).2.length = n := by unfold RS.intsS; simp
theorem adv_shift (d : Nat) (s : RS) : ∀ c, s.adv d (c + 1) = (s.signedS d).adv d c
  | 0 => rfl
  | c + 1 => by rw [RS.adv, adv_shift d s c]; rfl
theorem intsS_succ (d n : Nat) (s : RS) : s.intsS d (n + 1) = (((s.signedS d).intsS d n).1, s.signedV d :: ((s.signedS d).intsS d n).2) := by
  unfold RS.intsS
  rw [adv_shift, List.range_succ_eq_map, List.map_cons, List.map_map]
  congr 2
  refine List.map_congr_left fun j _ => ?_
  show (s.adv d (j + 1)).signedV d = _
  rw [adv_shift]
theorem signed_take {s : RS} {d : Nat} (h1 : 1 ≤ d) (h2 : d ≤ 48) : s.signedS d = s.takeS d ∧ s.signedV d = sgn (s.takeV d) d := by
  unfold RS.signedS RS.signedV
  rw [if_neg (by omega), if_neg (by omega)]
  exact ⟨rfl, rfl⟩
theorem Sim.spentInts {s : RS} {m : MR} (h : Sim s m) (hf : m.fail ≠ 0) {d : Nat} (h1 : 1 ≤ d) (h2 : d ≤ 48) : ∀ n, Sim (s.intsS d n).1 m := by
  intro n
  induction n generalizing s with
  | zero => exact h
  | succ n ih =>
    rw [intsS_succ]
    have h3 := (h.take d).1
    rw [MR.take_spent hf, ← (signed_take h1 h2).1] at h3
    exact ih h3
theorem Sim.intV {s : RS} {m : MR} (h : Sim s m) {d : Nat} (h1 : 1 ≤ d) (h2 : d ≤ 48) (hf : (m.take d).1.fail = 0) : s.signedV d = m.intV d := by
  rw [(signed_take h1 h2).2, (h.take d).2]
  unfold sgn MR.intV
  by_cases hp : 2 ^ (d - 1) ≤ (m.take d).2
  · rw [if_pos hp, if_pos ⟨hf, hp⟩]; simp
  · rw [if_neg hp, if_neg (fun x => hp x.2)]
theorem Sim.ints {s : RS} {m : MR} (h : Sim s m) {d : Nat} (h1 : 1 ≤ d) (h2 : d ≤ 48) : ∀ n, Sim (s.intsS d n).1 (MR.ints d n m).1 ∧ ((MR.ints d n m).1.fail = 0 → (s.intsS d n).2 = (MR.ints d n m).2) := by
  intro n
  induction n generalizing s m with
  | zero => exact ⟨h, fun _ => rfl⟩
  | succ n ih =>
    by_cases hf : m.fail = 0
    · have h3 := (h.take d).1
      rw [← (signed_take h1 h2).1] at h3
      obtain ⟨h4, h5⟩ := ih h3
      rw [MR.ints_succ hf, intsS_succ]
      refine ⟨h4, fun e => ?_⟩
      have hz : (m.take d).1.fail = 0 := by
        by_cases hz : (m.take d).1.fail = 0
        · exact hz
        · rw [MR.ints_fail hz] at e
          exact absurd e hz
      rw [h5 e, h.intV h1 h2 hz]
    · rw [MR.ints_fail hf]
      exact ⟨h.spentInts hf h1 h2 (n + 1), fun e => absurd e hf⟩

/-- A Normal's indices, and its term, that come. -/
def RS.idx (s : RS) : RS × List Int := if 16 < s.takeV 5 then ((s.takeS 5).give 2, []) else (s.takeS 5).intsS 7 (s.takeV 5)
def RS.term (s : RS) : RS × Nat × Nat :=
  if s.takeV 1 = 0 then (s.takeS 1, 0, 0)
  else (if (s.takeS 1).takeV 8 = 0 ∨ ((s.takeS 1).takeS 8).takeV 4 = 0 then (((s.takeS 1).takeS 8).takeS 4).give 2 else ((s.takeS 1).takeS 8).takeS 4, (s.takeS 1).takeV 8, ((s.takeS 1).takeS 8).takeV 4)
def RS.normB (s : RS) (n : Nat) : RS × Blk :=
  let x := (s.takeS 5).idx
  let t := x.1.term
  let l := t.1.slide n
  (l.1, ⟨2, 0, (s.takeV 5 : Nat), x.2, (t.2.1 : Nat), (t.2.2 : Nat), (l.2.2.1 : Nat), l.2.2.2, l.2.1⟩)
def RS.kindB (s : RS) (n d : Nat) : RS × Blk :=
  if s.takeV 2 = 1 then ((s.takeS 2).signedS d, ⟨1, (s.takeS 2).signedV d, 0, [], 0, 0, 0, [], []⟩)
  else if s.takeV 2 = 2 then (s.takeS 2).normB n
  else if s.takeV 2 = 3 then (((s.takeS 2).intsS d n).1, ⟨3, 0, 0, [], 0, 0, 0, [], ((s.takeS 2).intsS d n).2⟩)
  else (s.takeS 2, Blk.none)
def RS.block (s : RS) (n d : Int) : RS × Blk × List Int :=
  if !(sizeN n && depthB d) then (s.give 1, Blk.none, [])
  else if ((s.kindB n.toNat d.toNat).1.give (codeB (s.kindB n.toNat d.toNat).2 n d)).err ≠ 0 then ((s.kindB n.toNat d.toNat).1.give (codeB (s.kindB n.toNat d.toNat).2 n d), Blk.none, [])
  else ((s.kindB n.toNat d.toNat).1.give (codeB (s.kindB n.toNat d.toNat).2 n d), (s.kindB n.toNat d.toNat).2, outB (s.kindB n.toNat d.toNat).2 n.toNat)

theorem MR.give_still {m : MR} {e : Int} (h : (m.give e).fail = 0) : m.fail = 0 := by
  by_cases hf : m.fail = 0
  · exact hf
  · rw [MR.give_spent hf] at h; exact h
theorem MR.take_still {m : MR} {n : Int} (h : (m.take n).1.fail = 0) : m.fail = 0 := by
  by_cases hf : m.fail = 0
  · exact hf
  · rw [MR.take_spent hf] at h; exact h
theorem MR.ints_still {d n : Nat} {m : MR} (h : (MR.ints d n m).1.fail = 0) : m.fail = 0 := by
  by_cases hf : m.fail = 0
  · exact hf
  · rw [MR.ints_fail hf] at h; exact h
theorem MR.slide_still {m : MR} {n : Int} (h : (m.slide n).1.fail = 0) : m.fail = 0 := by
  by_cases hf : m.fail = 0
  · exact hf
  · exfalso
    unfold MR.slide at h
    split at h
    · rw [MR.give_spent hf] at h; exact hf h
    · rw [MR.take_spent hf] at h
      unfold MR.slideB at h
      have hb : ∀ sz c (k : MR), k.fail ≠ 0 → MR.body sz c k = (k, [], []) := fun sz c k hk => by
        cases c with
        | zero => rfl
        | succ c => rw [MR.body, if_pos hk]
      have hm : (m.form n.toNat 0) = m := by unfold MR.form; rw [MR.give_spent hf]; split <;> rfl
      simp only [hm] at h
      rw [hb _ _ _ hf] at h
      split at h <;> exact hf h

theorem Sim.idx {s : RS} {m : MR} (h : Sim s m) : Sim s.idx.1 (MR.ints 7 (m.take 5).2 (if 16 < (m.take 5).2 then (m.take 5).1.give 2 else (m.take 5).1)).1 ∧ ((MR.ints 7 (m.take 5).2 (if 16 < (m.take 5).2 then (m.take 5).1.give 2 else (m.take 5).1)).1.fail = 0 → s.idx.2 = (MR.ints 7 (m.take 5).2 (if 16 < (m.take 5).2 then (m.take 5).1.give 2 else (m.take 5).1)).2) := by
  obtain ⟨h1, h2⟩ := h.take 5
  unfold RS.idx
  rw [h2]
  by_cases h16 : 16 < (m.take 5).2
  · simp only [if_pos h16]
    have hg := h1.give 2
    have hne : ((m.take 5).1.give 2).fail ≠ 0 := by
      by_cases hf : (m.take 5).1.fail = 0
      · unfold MR.give; rw [if_pos hf]; simp
      · rw [MR.give_spent hf]; exact hf
    rw [MR.ints_fail hne]
    exact ⟨hg, fun e => absurd e hne⟩
  · simp only [if_neg h16]
    exact h1.ints (by omega) (by omega) _
theorem Sim.term {s : RS} {m : MR} (h : Sim s m) : Sim s.term.1 m.term.1 ∧ s.term.2 = m.term.2 := by
  obtain ⟨h1, h2⟩ := h.take 1
  obtain ⟨h3, h4⟩ := h1.take 8
  obtain ⟨h5, h6⟩ := h3.take 4
  unfold RS.term MR.term
  rw [h2, h4, h6]
  have hlt : (m.take 1).2 < 2 ^ 1 := take_lt m 1
  by_cases h0 : (m.take 1).2 = 0
  · rw [if_pos h0]
    simp only [h0]
    exact ⟨h1, rfl⟩
  · rw [if_neg h0]
    have e1 : (m.take 1).2 = 1 := by omega
    simp only [e1, if_true]
    by_cases hz : ((m.take 1).1.take 8).2 = 0 ∨ (((m.take 1).1.take 8).1.take 4).2 = 0
    · rw [if_pos hz, if_pos hz]
      exact ⟨h5.give 2, by first | rfl | trivial⟩
    · rw [if_neg hz, if_neg hz]
      exact ⟨h5, by first | rfl | trivial⟩
theorem MR.term_still {m : MR} (h : m.term.1.fail = 0) : m.fail = 0 := by
  unfold MR.term at h
  dsimp only at h
  split at h
  · dsimp only at h
    split at h
    · exact MR.take_still (MR.take_still (MR.take_still (MR.give_still h)))
    · exact MR.take_still (MR.take_still (MR.take_still h))
  · exact MR.take_still h
theorem Sim.normB {s : RS} {m : MR} (h : Sim s m) (n : Nat) : Sim (s.normB n).1 (m.normB n).1 ∧ ((m.normB n).1.fail = 0 → (s.normB n).2 = (m.normB n).2) := by
  obtain ⟨h1, h2⟩ := h.take 5
  obtain ⟨h3, h4⟩ := h1.idx
  obtain ⟨h5, h6⟩ := h3.term
  obtain ⟨h7, h8⟩ := h5.slide n
  refine ⟨h7, fun e => ?_⟩
  have e1 : (m.head.1.term.1.slide n).1.fail = 0 := e
  have e2 := MR.term_still (MR.slide_still e1)
  have h9 := h4 e2
  unfold RS.normB MR.normB
  dsimp only
  rw [h8, h6, h9, h2]
  rfl
theorem Sim.kindB {s : RS} {m : MR} (h : Sim s m) (n d : Nat) (h1 : 1 ≤ d) (h2 : d ≤ 48) : Sim (s.kindB n d).1 (m.kindB n d).1 ∧ ((m.kindB n d).1.fail = 0 → (s.kindB n d).2 = (m.kindB n d).2) := by
  obtain ⟨h3, h4⟩ := h.take 2
  unfold RS.kindB MR.kindB
  rw [h4]
  dsimp only
  have hlt : (m.take 2).2 < 2 ^ 2 := take_lt m 2
  by_cases k1 : (m.take 2).2 = 1
  · rw [if_pos k1, if_pos k1]
    have h5 := (h3.take d).1
    rw [← (signed_take h1 h2).1] at h5
    exact ⟨h5, fun e => by dsimp only; rw [h3.intV h1 h2 e]⟩
  · rw [if_neg k1, if_neg k1]
    by_cases k3 : (m.take 2).2 = 3
    · rw [if_neg (by omega), if_pos k3, if_pos k3]
      obtain ⟨h5, h6⟩ := h3.ints h1 h2 n
      exact ⟨h5, fun e => by dsimp only; rw [h6 e]⟩
    · by_cases k2 : (m.take 2).2 = 2
      · rw [if_pos k2, if_neg k3, if_pos k2]
        exact h3.normB n
      · rw [if_neg k2, if_neg k3, if_neg k3, if_neg k2]
        refine ⟨h3, fun _ => ?_⟩
        have k0 : (m.take 2).2 = 0 := by omega
        rw [k0]
        rfl
/-- **The program's Take, and the document's.** -/
theorem Sim.block {s : RS} {m : MR} (h : Sim s m) (n d : Int) : Sim (s.block n d).1 (m.block n d).1 ∧ (s.block n d).2 = (m.block n d).2 := by
  unfold RS.block MR.block
  cases hs : (sizeN n && depthB d) with
  | false => exact ⟨h.give 1, rfl⟩
  | true =>
    simp only [Bool.not_true, Bool.false_eq_true, if_false]
    rw [Bool.and_eq_true] at hs
    obtain ⟨dd, rfl, hd1, hd2⟩ := depthB_of hs.2
    rw [show ((dd : Int)).toNat = dd from rfl]
    obtain ⟨h1, h2⟩ := h.kindB n.toNat dd (by omega) (by omega)
    generalize s.kindB n.toNat dd = p at *
    generalize m.kindB n.toNat dd = q at *
    obtain ⟨p1, p2⟩ := p
    obtain ⟨q1, q2⟩ := q
    dsimp only at *
    by_cases hf : q1.fail = 0
    · have e := h2 hf
      subst e
      have hg := h1.give (codeB p2 n dd)
      have hge : (q1.give (codeB p2 n dd)).fail = codeB p2 n dd := by unfold MR.give; rw [if_pos hf]
      rw [if_neg (show ¬ (q1.fail ≠ 0) from fun x => x hf)]
      by_cases hc : codeB p2 n dd = 0
      · rw [if_neg (show ¬ ((p1.give (codeB p2 n dd)).err ≠ 0) from fun x => x (by rw [hg.err, hge, hc])), if_neg (show ¬ (codeB p2 n dd ≠ 0) from fun x => x hc)]
        refine ⟨?_, rfl⟩
        rw [hc] at hg ⊢
        have : q1.give 0 = q1 := by
          obtain ⟨b, a, f⟩ := q1
          unfold MR.give
          dsimp only at hf ⊢
          rw [if_pos hf, hf]
        rw [this] at hg
        exact hg
      · rw [if_pos (show (p1.give (codeB p2 n dd)).err ≠ 0 by rw [hg.err, hge]; exact hc), if_pos (show codeB p2 n dd ≠ 0 from hc)]
        exact ⟨hg, rfl⟩
    · have hp : p1.err ≠ 0 := by rw [h1.err]; exact hf
      rw [RS.give_spent hp, if_pos hp, if_pos (show q1.fail ≠ 0 from hf)]
      exact ⟨h1, rfl⟩
end Go.Proofs.YtefbakhhlonafaaGreat
end
