import Derived.Test.YtpbbhebongggpaaPackI
namespace Go.Proofs.Ytpbbhebongggpaa
open Go.RowKit Go.Shelf Go.Proofs Go.Proofs.PipeM Go.Proofs.PipeA Go.Proofs.PackM
set_option maxRecDepth 100000

/-- A block that holds cells. -/
def CellsAt (W : World) (b : Nat) : Prop := ∃ o, W.heap[b]? = some o ∧ o.isCells = true
theorem cellsAt_of {W : World} {b off : Nat} {x : Option Nat} {v : Value} (h : W.cell? ⟨b, off, x⟩ = some v) : CellsAt W b := by
  unfold World.cell? at h
  cases hh : W.heap[b]? with
  | none => simp [hh] at h
  | some o =>
    refine ⟨o, hh, ?_⟩
    cases o <;> simp_all [Obj.isCells]
theorem CellsAt.ne {W : World} {b r : Nat} {o : Obj} (h : CellsAt W b) (ho : W.heap[r]? = some o) (hc : o.isCells = false) : b ≠ r := by
  rintro rfl
  obtain ⟨o', h1, h2⟩ := h
  rw [h1] at ho
  cases ho
  rw [hc] at h2
  cases h2
theorem grown_keeps {W W' : World} {row : Option Nat} (h : W.grownBy W' row) : Keeps row.toList W W' :=
  ⟨h.os, h.tape, h.output, h.size, fun k hk hn => h.block k hk (fun e => hn (by simp [← e]))⟩
theorem keepsFrom_of {B : Nat} {bs : List Nat} {W W' : World} (h : Keeps bs W W') (hc : ∀ k ∈ bs, k < B ∨ CellsAt W k) : KeepsFrom B W W' :=
  ⟨h.size, fun k o hB hk ho => by
    have hlt : k < W.heap.size := (Array.getElem?_eq_some_iff.1 hk).1
    refine (h.block k hlt (fun hm => ?_)).trans hk
    rcases hc k hm with h1 | h1
    · omega
    · exact h1.ne hk ho rfl⟩
/-- 'All but these blocks is as it was' speaks of what lay ahead alone. -/
theorem own_keeps {β : Type} {w0 : World} {bs : List Nat} : OwnFrom w0.heap.size (fun (_ : β) W => Keeps bs w0 W) := by
  intro s X Y row hs hg hr
  refine hs.trans_new (grown_keeps hg) ?_
  intro x hx
  cases row with
  | none => simp at hx
  | some r => obtain ⟨h1, o, h2, h3⟩ := hr r rfl; simp at hx; right; omega
theorem own_cell {β : Type} {B : Nat} (p : Addr) (f : β → Value) : OwnFrom B (fun s W => W.cell? p = some (f s) ∧ W.frozen? p = false) :=
  Own.from (fun _ _ _ _ hs hg hr => ⟨cell_kept hs.1 hg hr, (frozen_kept hs.1 hg hr).trans hs.2⟩) B

/-- A row of cells that may be written. -/
def KeysAt (W : World) (H m : Nat) (f : Nat → Value) : Prop := ∀ j, j < m → W.cell? ⟨H, j, none⟩ = some (f j) ∧ W.frozen? ⟨H, j, none⟩ = false
theorem own_keys {β : Type} {B H m : Nat} (f : β → Nat → Value) : OwnFrom B (fun s W => KeysAt W H m (f s)) :=
  fun s X Y row hs hg hr j hj => own_cell (B := B) ⟨H, j, none⟩ (fun (s : β) => f s j) s X Y row (hs j hj) hg hr
theorem KeysAt.keeps {W W' : World} {H m : Nat} {f : Nat → Value} {bs : List Nat} (h : KeysAt W H m f) (hk : Keeps bs W W') (hn : H ∉ bs) (hlt : H < W.heap.size) : KeysAt W' H m f :=
  fun j hj => ⟨(hk.cell (p := ⟨H, j, none⟩) hlt hn).trans (h j hj).1, (hk.frozen (p := ⟨H, j, none⟩) hlt hn).trans (h j hj).2⟩
theorem KeysAt.set {W : World} {H m x : Nat} {f : Nat → Value} (h : KeysAt W H m f) (hx : x < m) (v : Value) : KeysAt (W.setCell ⟨H, x, none⟩ v) H m (fun j => if j = x then v else f j) := by
  intro j hj
  rw [World.frozen?_setCell]
  by_cases e : j = x
  · subst e
    rw [World.cell?_setCell_same' _ _ _ (by rw [(h j hj).1]; rfl)]
    exact ⟨by simp, (h j hj).2⟩
  · rw [World.cell?_setCell_other _ _ _ _ (by intro e2; cases e2; exact e rfl)]
    simp only [if_neg e]
    exact h j hj
theorem KeysAt.congr {W : World} {H m : Nat} {f g : Nat → Value} (h : KeysAt W H m f) (he : ∀ j, j < m → g j = f j) : KeysAt W H m g :=
  fun j hj => by rw [he j hj]; exact h j hj

/-- A region in a round is walked as it is outside of rounds, where nothing is deferred. -/
def noDefer (ops : Array Oper) : Bool := ops.toList.all fun o => match o.op with | .defer _ => false | _ => true
theorem noDefer_at {ops : Array Oper} (h : noDefer ops = true) {i : Nat} {o : Oper} (hi : ops[i]? = some o) : ∀ c, o.op ≠ .defer c := by
  intro c hc
  have hm : o ∈ ops.toList := by
    rw [← Array.getElem?_toList] at hi
    exact List.mem_of_getElem? hi
  have := List.all_eq_true.1 h o hm
  rw [hc] at this
  cases this

theorem rows_wide {n : Nat} {P : Program} {row : String} {args : Array Value} {w : World} {R : Value → World → Prop} (h : Rows P row args w R) : RowsIn Fence.wide n P row args w R :=
  fun c cs _ => let ⟨v, w', r, s⟩ := h c cs; ⟨v, w', r, stepsIn_wide.2 s⟩

theorem oper_wide {n l : Nat} {P : Program} {o : Oper} {a : Act} {w : World} {K : Act → World → Prop} {Q : Exit → Act → World → Prop} (hnd : ∀ c, o.op ≠ .defer c) (h : o.wp P a w K Q) : o.wpIn (Fence.wide.inRound l) n P a w K Q := by
  unfold Oper.wpIn
  refine ⟨fun _ _ => trivial, ?_⟩
  rw [Oper.semAt_eq _ _ _ hnd]
  unfold Oper.wp at h
  generalize (execOp a.eval o).run P w = r at h
  cases r with
  | ok x w' =>
    cases x <;> simp only [Oper.upon, Oper.uponIn] at h ⊢ <;>
      first
        | exact h
        | exact ⟨fun hh => (by cases hh), CallsIn.inRound l (callsIn_wide.2 h)⟩
        | exact ⟨fun hh => (by cases hh), rows_wide h⟩
        | exact h.elim
  | halt x w' => cases x <;> simp only [Oper.upon, Oper.uponIn] at h ⊢ <;> exact h

/-- A way on, by its end alone. -/
def OnlyN (R : Act → World → Prop) : Exit → Act → World → Prop
  | .normal, a, w => R a w
  | _, _, _ => False
theorem onlyN_lets {R : Act → World → Prop} (h : LetsOut (OnlyN R)) : False := by
  obtain ⟨a, w, h⟩ := h
  exact h

theorem any_wide {n l : Nat} {P : Program} {md : Region.Mode} {ops : Array Oper} {R : Act → World → Prop} (hnd : noDefer ops = true) : ∀ (fuel : Nat) (listed : Array Bool) (a : Act) (w : World),
    wpAny P md ops (OnlyN R) fuel listed a w → wpAnyIn (Fence.wide.inRound l) n P md ops (OnlyN R) fuel listed a w
  | 0, _, _, _, h => h
  | fuel + 1, listed, a, w, h => by
    refine ⟨h.1, fun i hi => ?_⟩
    refine wpOpIn_mono (fun a w => any_wide (l := l) hnd fuel (listed.setIfInBounds i true) a w) ?_
    have h2 := h.2 i hi
    unfold wpOp at h2
    unfold wpOpIn
    cases ho : ops[i]? with
    | none => simp only [ho] at h2 ⊢; exact h2
    | some o =>
      simp only [ho] at h2 ⊢
      split
      · rename_i hw
        rw [if_pos hw] at h2
        rcases h2 with h2 | ⟨_, h2⟩
        · exact oper_wide (noDefer_at hnd ho) h2
        · exact (onlyN_lets h2).elim
      · rename_i hw
        rw [if_neg hw] at h2
        exact ⟨fun _ _ => trivial, h2⟩

theorem regionAny {n l id : Nat} {P : Program} {ops : Array Oper} {Q : Exit → Act → World → Prop} {a : Act} {w : World} (hm : P.follows .mixedOrders = true) (hnd : noDefer ops = true)
    (h : wpAny P .any ops (OnlyN (Q .normal)) ops.size (Array.replicate ops.size false) a w.drew) : (Code.region id ops true).wpIn (Fence.wide.inRound l) n P Q a w :=
  wpIn_mono (wpIn_region_any hm (any_wide hnd _ _ _ _ h)) (fun e a w h => by cases e <;> first | exact h | exact h.elim)

/-- Loads taken first, in a round. -/
theorem regionHeld {n l id : Nat} {P : Program} {ops : Array Oper} {S : World → Prop} {Q : Exit → Act → World → Prop} {a : Act} {w : World} (hm : P.follows .mixedOrders = true) (hnd : noDefer ops = true)
    (h : wpAnyH P .any ops (OnlyN (Q .normal)) S ops.size (Array.replicate ops.size false) a w.drew) : (Code.region id ops true).wpIn (Fence.wide.inRound l) n P Q a w :=
  regionAny hm hnd (wpAny_of_held _ _ _ _ h)

/-- All that reads, then what writes, in a round. -/
theorem regionTail {k l id : Nat} {P : Program} {Q : Exit → Act → World → Prop} {a : Act} {w : World} {ops : List Oper} (n : Nat) (hm : P.follows .mixedOrders = true) (hnd : noDefer ops.toArray = true) (hB : Region.lexTailB .any ops.toArray n = true)
    (h : wpStill P ops.toArray w.drew (fun a' => wpList P ops.toArray (OnlyN (Q .normal)) (ops.drop n) a' w.drew) (ops.take n) a) : (Code.region id ops.toArray true).wpIn (Fence.wide.inRound l) k P Q a w := by
  simp only [Region.lexTailB, Bool.and_eq_true, decide_eq_true_eq] at hB
  obtain ⟨⟨⟨⟨hsel, hn⟩, hs⟩, hc⟩, hlex⟩ := hB
  have hn' : n < ops.length := by simpa using hn
  have h1 : (ops.take n).length = n := by simp; omega
  have h2 : (ops.drop n).length = ops.toArray.size - n := by simp
  have inv0 : HeadInv .any ops.toArray n (Array.replicate ops.toArray.size false) :=
    ⟨by simp, fun j oj _ hl => absurd hl (by rw [getD_replicate_false]; simp), fun t _ ht => getD_in (by simpa using ht) (getD_replicate_false _ _)⟩
  have H := wpAnyL_lex (md := .any) (g := ops.toArray.size - n) hsel hs hc hn (ops.take n) 0 _ a (fun j hj => by
    rw [h1] at hj
    simp [hj]) (by simpa using h1) inv0 (by rw [h1]; exact hlex) h
  have H2 := wpAny_of_head (Q' := OnlyN (Q .normal)) (g := ops.toArray.size - n) (fun listed a' hL => by
    have h3 := wpAny_of_seq (md := .any) (Q' := OnlyN (Q .normal)) (ops.drop n) n listed a' w.drew (fun j => by simp [List.getElem?_drop]) (by rw [h2]; exact hL.1) hL.2
    rwa [h2] at h3) _ _ _ H
  rw [h1, show n + (ops.toArray.size - n) = ops.toArray.size by omega] at H2
  exact regionAny hm hnd H2
end Go.Proofs.Ytpbbhebongggpaa
