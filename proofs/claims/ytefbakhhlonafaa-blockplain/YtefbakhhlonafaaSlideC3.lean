import Derived.Test.YtefbakhhlonafaaSlideC2

namespace Go.Proofs.Ytefbakhhlonafaa
open Go.RowKit Go.Shelf Go.Proofs Go.Proofs.PipeM Go.Proofs.PipeA
set_option maxRecDepth 100000

attribute [local go_sem] Oper.semAt_some

/-- What a round keeps: the iterator's two boxes. -/
def KpB (c t : Nat) (W W' : World) : Prop := W'.heap[c]? = W.heap[c]? ∧ W'.heap[t]? = W.heap[t]?
theorem kpB_t {c t : Nat} {A B C : World} (h : KpB c t A B) (k : KpB c t B C) : KpB c t A C := ⟨k.1.trans h.1, k.2.trans h.2⟩
theorem kpB_b {c t n : Nat} (hc : c < n) (ht : t < n) (W : World) (l : Nat) (o o' : Obj) (hl : n ≤ l) (_ : W.heap[l]? = some o) (_ : o.isCells = false) (_ : o.isWalk = false) : KpB c t W (W.putObj l o') :=
  ⟨World.putObj_heap_other (by omega), World.putObj_heap_other (by omega)⟩
theorem kpB_keeps {bs : List Nat} {c t : Nat} {W W' : World} (h : Keeps bs W W') (hc : c < W.heap.size) (ht : t < W.heap.size) (hc2 : c ∉ bs) (ht2 : t ∉ bs) : KpB c t W W' := ⟨h.block c hc hc2, h.block t ht ht2⟩

theorem PartsAt.kept {w w' : World} {c t : Nat} {ao : Option Addr} {n cap p : Nat} (h : PartsAt w c t ao n cap p) (hk : KpB c t w w') : PartsAt w' c t ao n cap p := ⟨hk.1.trans h.hc, hk.2.trans h.ht⟩

def encP (g off size cap m : Nat) (j : Fin m) : Array Value := #[.int .i64 ((j.val : Nat) : Int), partV g off size cap j.val]

theorem abides_alloc {β : Type} {B : Nat} {J : β → World → Prop} (h : AbidesFrom B J) {s : β} {W : World} (hs : J s W) (o : Obj) : J s (W.alloc o) :=
  h s W _ none hs ⟨rfl, rfl, rfl, by simp, fun k hk _ => Below.heap_alloc _ _ _ hk⟩ (fun r e => by cases e)

set_option maxHeartbeats 3200000 in
theorem each1_stops (n g off len cap p size m c t : Nat) (w : World) (hn : 3 ≤ n) (hp : p ≤ 3) (hm : m = 2 ^ p) (hlen : len = size * m) (hs : 1 ≤ size) (hn1 : len ≤ 1024) (hcap : len ≤ cap) (hP : PartsAt w c t (some ⟨g, off, none⟩) len cap p) (hc : c < w.heap.size) (ht : t < w.heap.size) :
    SeqStopsK Fence.wide n Try.prog 102 #[.pointer (some ⟨c, 0, none⟩), .pointer (some ⟨t, 0, none⟩)] (encP g off size cap m) (KpB c t) (fun xs => xs.map (·.val) = List.range m) (fun xs => xs.map (·.val) = List.range xs.length) m w := fun l J Jx W hW hJ hJx hY h0 => by
  have hP0 : PartsAt W c t (some ⟨g, off, none⟩) len cap p := ⟨(hW.block c hc).trans hP.hc, (hW.block t ht).trans hP.ht⟩
  have hm8 : m ≤ 8 := by rw [hm]; exact Nat.le_trans (Nat.pow_le_pow_right (by decide) hp) (by decide)
  have HPC := fun j (hj : j < m) W => Lib.hid (cPart g off len cap p size j W hp (by rw [hlen, hm]) (by rw [← hm]; exact hj) hs hn1 hcap)
  have HP := Lib.hid hP0
  have HHJ := Lib.hid hJ
  have HY := Lib.hid hY
  have e0 : W.cell? ⟨c, 0, none⟩ = some (.int .i64 (m : Int)) := by simp [World.cell?, hP0.hc, hm]
  clear hP hP0 hW hlen hm hJ hY
  refine callsIn_of_wp Try.func102 rfl trivial ?_ rfl
  simp only [Try.ntmps102, List.size_toArray, List.length_cons, List.length_nil, Nat.reduceAdd, Nat.reduceSub, Array.replicate_succ, Array.replicate_zero, List.push_toArray, List.append_toArray, List.nil_append, List.cons_append]
  gi_wp2
  gi_loopw [6] (fun i wr => ∃ (k : Nat) (pre : List (Fin m)), k ≤ m ∧ i = .int .i64 k ∧ Hid (pre.map (·.val) = List.range k) ∧ Hid (J pre wr) ∧ Hid (KpB c t W wr))
    (fun i _ => m - (intOf i).toNat)
  case atStart => exact ⟨0, [], Nat.zero_le _, rfl, rfl, h0, ⟨rfl, rfl⟩⟩
  case round =>
    obtain ⟨k, pre, hk, rfl, HR, HJ, HK⟩ := hrel
    by_cases hlt : k < m
    · have e1 : wr.cell? ⟨t, 0, none⟩ = some (tellV (some ⟨g, off, none⟩) len cap p) := by simp [World.cell?, (HP.out.kept HK.out).ht]
      unfold tellV at e1
      have hpl : pre.length = k := by have := congrArg List.length HR.out; simpa using this
      obtain ⟨fn, tmps, assign, body, hy, hR⟩ := HY.out pre ⟨k, hlt⟩ (wr.alloc (.cells #[.slice (some ⟨g, off, none⟩) len cap, .int .i64 p] 95)) (abides_alloc HHJ.out HJ.out _) (by rw [hpl]; exact hlt)
      dsimp only [encP, partV] at hy
      have HRR := Lib.hid hR
      have HC := Lib.hid ((HPC k hlt wr).out)
      clear hpl hR
      unfold partV at HC
      gi_wp2_with fail
      refine ⟨trivial, fun _ => by omega, (callsIn_wide.2 HC.out).mono ?_⟩
      rintro e w2 ⟨rfl, rfl⟩
      gi_wp2_with fail
      refine ⟨fun _ => by omega, HRR.out.mono ?_⟩
      rintro e W3 (⟨rfl, hJ3, hk3⟩ | ⟨rfl, hJx3⟩)
      · have HJ3 := Lib.hid hJ3
        have HK3 : Hid (KpB c t W W3) := kpB_t HK.out (kpB_t ⟨?hc1, ?ht1⟩ hk3)
        case hc1 => exact Below.heap_alloc _ _ _ (by have := (HP.out.kept HK.out).hc; exact (Array.getElem?_eq_some_iff.1 this).1)
        case ht1 => exact Below.heap_alloc _ _ _ (by have := (HP.out.kept HK.out).ht; exact (Array.getElem?_eq_some_iff.1 this).1)
        have HR3 : Hid (((pre ++ [(⟨k, hlt⟩ : Fin m)]).map fun x : Fin m => x.val) = List.range (k + 1)) := by
          show _ = _
          rw [List.map_append, HR.out, List.range_succ]; rfl
        clear hJ3 hk3 hy
        gi_wp2
        go_roundw
        case rel => exact ⟨k + 1, _, by omega, by go_num, HR3, HJ3, HK3⟩
        case measure => simp [intOf]; omega
      · have HJX := Lib.hid hJx3
        have HRX : Hid (((pre ++ [(⟨k, hlt⟩ : Fin m)]).map fun x : Fin m => x.val) = List.range (pre ++ [(⟨k, hlt⟩ : Fin m)]).length) := by
          have hpk : pre.length = k := by have := congrArg List.length HR.out; simpa using this
          show _ = _
          rw [List.map_append, HR.out, List.length_append, hpk, List.length_singleton, List.range_succ]; rfl
        clear hJx3 hy
        gi_wp2
        refine bodyPost_ret (results_none rfl _ _ _) rfl ?_
        exact ⟨⟨_, rfl⟩, .inr ⟨_, HRX.out, HJX.out⟩⟩
    · obtain rfl : k = m := by omega
      gi_wp2
      go_end0
      exact ⟨⟨_, rfl⟩, .inl ⟨_, HR.out, HJ.out⟩⟩

/-- A block that holds cells. -/
def CellsAt (W : World) (b : Nat) : Prop := ∃ o, W.heap[b]? = some o ∧ o.isCells = true
theorem CellsAt.ne {W : World} {b r : Nat} {o : Obj} (h : CellsAt W b) (ho : W.heap[r]? = some o) (hc : o.isCells = false) : b ≠ r := by
  rintro rfl
  obtain ⟨o', h1, h2⟩ := h
  rw [h1] at ho
  cases ho
  rw [hc] at h2
  cases h2
theorem grown_keeps {W W' : World} {row : Option Nat} (h : W.grownBy W' row) : Keeps row.toList W W' :=
  ⟨h.os, h.tape, h.output, h.size, fun k hk hn => h.block k hk (fun e => hn (by simp [← e]))⟩
theorem keepsFrom_of {B : Nat} {bs : List Nat} {W W' : World} (h : Keeps bs W W') (hc : ∀ k ∈ bs, k < B ∨ CellsAt W k) : KeepsFrom B W W' :=
  ⟨h.size, fun k o hB hk ho => by
    have hlt : k < W.heap.size := (Array.getElem?_eq_some_iff.1 hk).1
    refine (h.block k hlt (fun hm => ?_)).trans hk
    rcases hc k hm with h1 | h1
    · omega
    · exact h1.ne hk ho rfl⟩
theorem keeps_setCell (w : World) (b off : Nat) (v : Value) : Keeps [b] w (w.setCell ⟨b, off, none⟩ v) :=
  ⟨rfl, rfl, rfl, by simp [World.setCell], fun k _ hn => Below.heap_setCell _ _ _ _ (fun e => hn (by simp [e]))⟩

/-- So does 'all but these blocks is as it was'. -/
theorem own_keeps {β : Type} {w0 : World} {bs : List Nat} : OwnFrom w0.heap.size (fun (_ : β) W => Keeps bs w0 W) := by
  intro s X Y row hs hg hr
  refine hs.trans_new (grown_keeps hg) ?_
  intro x hx
  cases row with
  | none => simp at hx
  | some r => obtain ⟨h1, o, h2, h3⟩ := hr r rfl; simp at hx; right; omega

theorem own_cell {β : Type} {B : Nat} (p : Addr) (f : β → Value) : OwnFrom B (fun s W => W.cell? p = some (f s) ∧ W.frozen? p = false) :=
  Own.from (fun _ _ _ _ hs hg hr => ⟨cell_kept hs.1 hg hr, (frozen_kept hs.1 hg hr).trans hs.2⟩) B

/-- A region in a round is walked as it is outside of rounds, where nothing is deferred. -/
def noDefer (ops : Array Oper) : Bool := ops.toList.all fun o => match o.op with | .defer _ => false | _ => true
theorem noDefer_at {ops : Array Oper} (h : noDefer ops = true) {i : Nat} {o : Oper} (hi : ops[i]? = some o) : ∀ c, o.op ≠ .defer c := by
  intro c hc
  have hm : o ∈ ops.toList := by
    rw [← Array.getElem?_toList] at hi
    exact List.mem_of_getElem? hi
  have := List.all_eq_true.1 h o hm
  rw [hc] at this
  cases this
theorem wpAny_round {F : Fence} {n l : Nat} {P : Program} {md : Region.Mode} {ops : Array Oper} {Q : Exit → Act → World → Prop} (hro : F.round = none) (hnd : noDefer ops = true) : ∀ (fuel : Nat) (listed : Array Bool) (a : Act) (w : World),
    wpAnyIn F n P md ops Q fuel listed a w → wpAnyIn (F.inRound l) n P md ops Q fuel listed a w
  | 0, _, _, _, h => h
  | fuel + 1, listed, a, w, h => by
    refine ⟨h.1, fun i hi => ?_⟩
    have h2 := wpOpIn_mono (fun a w => wpAny_round (l := l) hro hnd fuel (listed.setIfInBounds i true) a w) (h.2 i hi)
    unfold wpOpIn at h2 ⊢
    cases ho : ops[i]? with
    | none => simp only [ho] at h2 ⊢; exact h2
    | some o =>
      simp only [ho] at h2 ⊢
      split
      · rename_i hw
        rw [if_pos hw] at h2
        unfold Oper.wpIn at h2 ⊢
        rw [Oper.semAt_eq _ _ _ (noDefer_at hnd ho)] at h2 ⊢
        exact h2
      · rename_i hw
        rw [if_neg hw] at h2
        exact h2
theorem regionR {n l id : Nat} {P : Program} {ops : Array Oper} {Q : Exit → Act → World → Prop} {a : Act} {w : World} (hm : P.follows .mixedOrders = true) (hnd : noDefer ops = true)
    (h : wpAnyIn Fence.wide n P .any ops Q ops.size (Array.replicate ops.size false) a w.drew) : (Code.region id ops true).wpIn (Fence.wide.inRound l) n P Q a w :=
  wpIn_region_any hm (wpAny_round rfl hnd _ _ _ _ h)
end Go.Proofs.Ytefbakhhlonafaa
