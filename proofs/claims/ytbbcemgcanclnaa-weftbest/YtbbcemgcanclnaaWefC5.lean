import Derived.Deep.RegionHeld3
import Derived.Test.YtbbcemgcanclnaaWefC4
namespace Go.Proofs.Ytbbcemgcanclnaa
open Go.RowKit Go.Proofs Go.Proofs.PipeM Go.Proofs.PipeA Go.Proofs.WefM
set_option maxRecDepth 100000

/-- A row of cells that may be written. -/
def KeysAt (W : World) (H m : Nat) (f : Nat → Value) : Prop := ∀ j, j < m → W.cell? ⟨H, j, none⟩ = some (f j) ∧ W.frozen? ⟨H, j, none⟩ = false
theorem KeysAt.keeps {W W' : World} {H m : Nat} {f : Nat → Value} {bs : List Nat} (h : KeysAt W H m f) (hk : Keeps bs W W') (hn : H ∉ bs) (hlt : H < W.heap.size) : KeysAt W' H m f :=
  fun j hj => ⟨(hk.cell (p := ⟨H, j, none⟩) hlt hn).trans (h j hj).1, (hk.frozen (p := ⟨H, j, none⟩) hlt hn).trans (h j hj).2⟩
theorem KeysAt.set {W : World} {H m x : Nat} {f : Nat → Value} (h : KeysAt W H m f) (hx : x < m) (v : Value) : KeysAt (W.setCell ⟨H, x, none⟩ v) H m (fun j => if j = x then v else f j) := by
  intro j hj
  rw [World.frozen?_setCell]
  by_cases e : j = x
  · subst e
    rw [World.cell?_setCell_same' _ _ _ (by rw [(h j hj).1]; rfl)]
    exact ⟨by simp, (h j hj).2⟩
  · rw [World.cell?_setCell_other _ _ _ _ (by intro e2; cases e2; exact e rfl)]
    simp only [if_neg e]
    exact h j hj
theorem KeysAt.congr {W : World} {H m : Nat} {f g : Nat → Value} (h : KeysAt W H m f) (he : ∀ j, j < m → g j = f j) : KeysAt W H m g :=
  fun j hj => by rw [he j hj]; exact h j hj

/-- A copy of numbers, in new memory that may be written. -/
theorem run_copyW {w : World} {g : Nat} {a : Addr} {cap ty : Nat} {l : List Int} (hg : w.heap[g]? = some (.cells #[] 3)) (hl : l.length ≤ 100000) (h : IntsAt w (some a) l) :
    ∃ g' cap' w', (Builtin.append_ #[25, 25] ty #[.slice (some ⟨g, 0, none⟩) 0 0, .slice (some a) l.length cap]).run Try.prog w = .ok (.slice (some ⟨g', 0, none⟩) l.length cap') w' ∧
      IntsAt w' (some ⟨g', 0, none⟩) l ∧ (∃ cur, w'.heap[g']? = some (.cells cur 3)) ∧ g ≤ g' ∧ g' < w'.heap.size ∧ l.length ≤ cap' ∧ Below g w w' := by
  have hown : w.ownsRow g 3 1 (.slice (some ⟨g, 0, none⟩) 0 0) 0 [] := ⟨rfl, .inr ⟨g, 0, #[], rfl, Nat.le_refl _, hg, Nat.le_refl _, by unfold maxLen; omega, rfl, rfl⟩⟩
  have hlt : g < w.heap.size := (Array.getElem?_eq_some_iff.1 hg).1
  obtain ⟨i0, hi, hz0, hz1, hz2⟩ := info_parts info_int
  obtain ⟨v', w', hr, h2, h3, h4⟩ := run_append_own (P := Try.prog) w g 25 ty 3 i0 (.int .i64 0) 1 8 Try.underlying25 hi hz0 hz1 hz2 rfl (by decide) (.slice (some ⟨g, 0, none⟩) 0 0) 0 [] hown a l.length cap (intsOf l) (by simp [intsOf]) (icells_at h) (icells_one l) (by unfold maxLen; omega) (by omega) (by omega)
  rw [Nat.zero_add, List.nil_append] at h2
  rcases h2.2 with ⟨rfl, h0⟩ | ⟨g', cap', cur, rfl, _, hh, r⟩
  · exact absurd (h4.1 rfl).1 (by simp)
  · have ho := own_ltI h2
    exact ⟨g', cap', w', hr, ints_own h2, ⟨cur, hh⟩, ho.1, ho.2.1, ho.2.2.1, (Below.refl g w).grown h3 (by omega) (by intro x hx; simp [Value.ownBlock] at hx; omega)⟩

/-- Numbers in new memory that may be written. -/
def CopyIs (l : List Int) (w : World) (e : Ending) (w' : World) : Prop :=
  ∃ H cap, e = .returned (.slice (some ⟨H, 0, none⟩) l.length cap) ∧ IntsAt w' (some ⟨H, 0, none⟩) l ∧ (∃ cur, w'.heap[H]? = some (.cells cur 3)) ∧ l.length ≤ cap ∧ w.heap.size ≤ H ∧ H < w'.heap.size ∧ Below w.heap.size w w'

set_option maxHeartbeats 800000 in
theorem cClone (a : Addr) (cap : Nat) (l : List Int) (w : World) (hl : l.length ≤ 100000) (hi : IntsAt w (some a) l) :
    Calls Try.prog 25 #[.slice (some a) l.length cap] w (CopyIs l w) := by
  have hb := box_below w (.cells #[] 3)
  obtain ⟨g', cap', w', hrun, h1, h2, h3, h4, hcp, h5⟩ := run_copyW (ty := 25) (cap := cap) (heap_alloc_new w (.cells #[] 3)) hl (hi.below hb)
  have HF : Hid (CopyIs l w (.returned (.slice (some ⟨g', 0, none⟩) l.length cap')) w') := ⟨g', cap', rfl, h1, h2, hcp, h3, h4, hb.trans h5⟩
  have hne : ∀ W, (binOp .eql 25 (.slice (some a) l.length cap) (.slice none 0 0)).run Try.prog W = .ok (.bool false) W := fun W => by
    have := run_equal_slice_nil (P := Try.prog) W 25 3 (some a) l.length cap Try.underlying25
    simp only [binOp]
    simp [this]
  clear hi hb h1 h2 h3 h4 h5 hcp
  go_enter Try.func25, Try.ntmps25
  go_wp2_with (at_builtin; refine wpList_append_run rfl _ _ 25 rfl _ _ _ _ rfl rfl hrun ?_)
  go_ret
  exact HF.out

set_option maxHeartbeats 800000 in
/-- Of no memory there is no copy. -/
theorem cCloneNil (cap : Nat) (w : World) : Calls Try.prog 25 #[.slice none 0 cap] w fun e w' => e = .returned (.slice none 0 0) ∧ w = w' := by
  have hne : ∀ W, (binOp .eql 25 (.slice none 0 cap) (.slice none 0 0)).run Try.prog W = .ok (.bool true) W := fun W => by
    have := run_equal_slice_nil (P := Try.prog) W 25 3 none 0 cap Try.underlying25
    simp only [binOp]
    simp [this]
  go_enter Try.func25, Try.ntmps25
  go_wp2
  go_ret
  exact ⟨rfl, rfl⟩

/-- A row of numbers, of which the first are told already. -/
def fillF (f : Nat → Int) (l : List Int) (p : Nat) : Nat → Value := fun j => .int .i64 (if j < p then f j else l.getD j 0)
theorem fill_set {W : World} {H m p : Nat} {f : Nat → Int} {l : List Int} (h : KeysAt W H m (fillF f l p)) (hp : p < m) : KeysAt (W.setCell ⟨H, p, none⟩ (.int .i64 (f p))) H m (fillF f l (p + 1)) := by
  refine (h.set hp _).congr fun j _ => ?_
  unfold fillF
  by_cases e : j = p
  · subst e; simp
  · rw [if_neg e]
    by_cases e2 : j < p
    · rw [if_pos e2, if_pos (by omega)]
    · rw [if_neg e2, if_neg (by omega)]
theorem fill_start {W : World} {H p : Nat} {cur : Array Value} {f : Nat → Int} {l : List Int} (hi : IntsAt W (some ⟨H, 0, none⟩) l) (hh : W.heap[H]? = some (.cells cur 3)) (hf : ∀ j, j < p → j < l.length → f j = l.getD j 0) : KeysAt W H l.length (fillF f l p) := by
  intro j hj
  obtain ⟨b, off, he, _, hc⟩ := hi j hj
  cases he
  refine ⟨?_, frozen_of_heap hh _⟩
  rw [Nat.zero_add] at hc
  rw [hc]
  unfold fillF
  by_cases e : j < p
  · rw [if_pos e, hf j e hj, getD_ltW hj]
  · rw [if_neg e, getD_ltW hj]
theorem fill_end {W : World} {H p : Nat} {f : Nat → Int} {l m : List Int} (h : KeysAt W H l.length (fillF f l p)) (hp : l.length ≤ p) (hl : m.length = l.length) (hm : ∀ j (hj : j < m.length), m[j] = f j) (hlt : H < W.heap.size) : IntsAt W (some ⟨H, 0, none⟩) m := by
  intro j hj
  refine ⟨H, 0, rfl, hlt, ?_⟩
  rw [Nat.zero_add, (h j (by omega)).1]
  unfold fillF
  rw [if_pos (by omega), hm j hj]
theorem fill_at {W : World} {H m p : Nat} {f : Nat → Int} {l : List Int} (h : KeysAt W H m (fillF f l p)) {j : Nat} (hj : j < m) (x : Int) (hx : (if j < p then f j else l.getD j 0) = x) : W.cell? ⟨H, j, none⟩ = some (.int .i64 x) ∧ W.frozen? ⟨H, j, none⟩ = false := by
  have := h j hj
  unfold fillF at this
  rwa [hx] at this
/-- A take, by the slot that it fills. -/
theorem take_at {P : Program} {md : Region.Mode} {ops : Array Oper} {Q : Exit → Act → World → Prop} {S : World → Prop} {i : Nat} {oi : Oper} {v : Value} {d : Option Tmp} {fuel : Nat} {listed : Array Bool} {a : Act} {w : World} (hi : ops[i]? = some oi) (hd : oi.dst = d)
    (hs : Region.noSelect ops = true) (hf : Region.free md ops listed i = true) (hr : (Region.ready md ops listed).contains i = true)
    (hQ : ∀ c a w, Q (.panic c) (a.put d v) w → Q (.panic c) a w) (hy : YieldsIf P ops S oi v a) (hS : S w)
    (h : wpAnyH P md ops Q S fuel (listed.setIfInBounds i true) (a.put d v) w) : wpAnyH P md ops Q S (fuel + 1) listed a w := by
  subst hd
  exact wpAnyH_take hi hs hf hr hQ hy hS h
end Go.Proofs.Ytbbcemgcanclnaa
