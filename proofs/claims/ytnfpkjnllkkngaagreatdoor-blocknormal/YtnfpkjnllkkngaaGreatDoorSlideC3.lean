import Derived.RangeFuncNested
import Derived.RangeFuncBound
import Derived.RangeFuncCalls
import Derived.RangeFuncLeaves
import Derived.Shelf.Abstract
import Derived.Shelf.RegionOpen
import Derived.WalkKit
import Derived.OwnWalkIn
import Derived.TacticsInMore
import Derived.LoopNIn
import Derived.LoopIn
import Derived.Test.YtnfpkjnllkkngaaGreatDoorSlideC1c

section
namespace Go.Proofs.YtnfpkjnllkkngaaGreatDoor
open Go.RowKit Go.Shelf Go.Proofs Go.Proofs.PipeM Go.Proofs.PipeA
set_option maxRecDepth 100000

attribute [local go_sem] Oper.semAt_some

/-- The part of a list, as a slice. -/
def partV (g off size cap j : Nat) : Value := .slice (some ⟨g, off + j * size, none⟩) size (cap - j * size)

set_option maxHeartbeats 800000 in
theorem cPart (g off n cap p size j : Nat) (w : World) (hp : p ≤ 3) (hn : n = size * 2 ^ p) (hj : j < 2 ^ p) (hs : 1 ≤ size) (hn1 : n ≤ 1024) (hcap : n ≤ cap) :
    Calls Tryz.prog 93 #[.agg #[.slice (some ⟨g, off, none⟩) n cap, .int .i64 p], .int .i64 j] w fun e w' =>
      e = .returned (partV g off size cap j) ∧ w' = w.alloc (.cells #[.slice (some ⟨g, off, none⟩) n cap, .int .i64 p] 104) := by
  have e1 : (n : Int) / 2 ^ p = (size : Int) := by
    rw [hn, Int.natCast_mul, Int.natCast_pow]
    exact Int.mul_ediv_cancel _ (by have := Nat.two_pow_pos p; have h2 : ((2 ^ p : Nat) : Int) ≠ 0 := by omega
                                    rw [Int.natCast_pow] at h2; exact h2)
  have hjs : (j + 1) * size ≤ n := by
    rw [hn, Nat.mul_comm size]; exact Nat.mul_le_mul_right _ hj
  have hjs2 : j * size + size ≤ n := by rw [Nat.add_mul, Nat.one_mul] at hjs; exact hjs
  have hp3 : p = 0 ∨ p = 1 ∨ p = 2 ∨ p = 3 := by omega
  have hj8 : j < 8 := Nat.lt_of_lt_of_le hj (Nat.le_trans (Nat.pow_le_pow_right (by decide) hp) (by decide))
  unfold partV
  obtain ⟨a, ha⟩ : ∃ a, a = j * size := ⟨_, rfl⟩
  obtain ⟨b, hb⟩ : ∃ b, b = j * size + size := ⟨_, rfl⟩
  have e2 : (j : Int) * (size : Int) = (a : Int) := by rw [ha, Int.natCast_mul]
  have e3 : ((j : Int) + 1) * (size : Int) = (b : Int) := by rw [hb, Int.add_mul, Int.natCast_add, Int.natCast_mul, Int.one_mul]
  have hab : a ≤ b := by omega
  have hba : b - a = size := by omega
  have hbn : b ≤ n := by omega
  have hac : a < cap := by omega
  rw [← ha]
  clear hjs hn hj ha hb hp3 hjs2
  go_enter Tryz.func93, Tryz.ntmps93
  go_wp2
  go_ret
  exact ⟨rfl, rfl⟩

/-- What the iterator over parts keeps: how many there are, and what tells each. -/
def partsF (c t : Nat) : Value := .func (.func 112) #[] #[.pointer (some ⟨c, 0, none⟩), .pointer (some ⟨t, 0, none⟩)]
def tellV (ao : Option Addr) (n cap p : Nat) : Value := .func (.func 93) #[.agg #[.slice ao n cap, .int .i64 p]] #[]
structure PartsAt (w : World) (c t : Nat) (ao : Option Addr) (n cap p : Nat) : Prop where
  hc : w.heap[c]? = some (.cells #[.int .i64 ((2 ^ p : Nat) : Int)] 3)
  ht : w.heap[t]? = some (.cells #[tellV ao n cap p] 118)

def PartsIs (ao : Option Addr) (n cap p : Nat) (w : World) (e : Ending) (w' : World) : Prop :=
  ∃ c t, e = .returned (partsF c t) ∧ PartsAt w' c t ao n cap p ∧ w.heap.size ≤ c ∧ w.heap.size ≤ t ∧ c < w'.heap.size ∧ t < w'.heap.size ∧ Below w.heap.size w w'

theorem PartsIs.drew {ao : Option Addr} {n cap p : Nat} {w w0 w' : World} {e : Ending} (h : PartsIs ao n cap p w e w') (hb : Below w0.heap.size w0 w) : PartsIs ao n cap p w0 e w'.drew := by
  obtain ⟨c, t, he, ha, h1, h2, h3, h4, h5⟩ := h
  exact ⟨c, t, he, ⟨ha.hc, ha.ht⟩, Nat.le_trans hb.size h1, Nat.le_trans hb.size h2, h3, h4, hb.trans ((h5.mono hb.size).trans ⟨rfl, rfl, rfl, Nat.le_refl _, fun _ _ => rfl⟩)⟩
theorem PartsIs.below {ao : Option Addr} {n cap p : Nat} {w w0 w' : World} {e : Ending} (h : PartsIs ao n cap p w e w') (hb : Below w0.heap.size w0 w) : PartsIs ao n cap p w0 e w' := by
  obtain ⟨c, t, he, ha, h1, h2, h3, h4, h5⟩ := h
  exact ⟨c, t, he, ha, Nat.le_trans hb.size h1, Nat.le_trans hb.size h2, h3, h4, hb.trans (h5.mono hb.size)⟩

set_option maxHeartbeats 800000 in
theorem cEach (ao : Option Addr) (n cap p : Nat) (w : World) :
    Calls Tryz.prog 92 #[.int .i64 ((2 ^ p : Nat) : Int), tellV ao n cap p] w (PartsIs ao n cap p w) := by
  have hmf : ∀ (fn : Fn) (first cap : Array Value) (w : World), (Instr.makeFunc fn first cap).run Tryz.prog w = .ok (.func fn first cap) w := fun _ _ _ _ => rfl
  have HA : Hid (PartsIs ao n cap p w (.returned (partsF w.heap.size (w.heap.size + 1))) ((w.alloc (.cells #[.int .i64 ((2 ^ p : Nat) : Int)] 3)).alloc (.cells #[tellV ao n cap p] 118))) := by
    refine ⟨_, _, rfl, ⟨?_, ?_⟩, Nat.le_refl _, Nat.le_succ _, by simp; omega, by simp, ((Below.refl w.heap.size w).alloc (Nat.le_refl _) _).alloc (by simp) _⟩
    · exact (Below.heap_alloc _ _ _ (by simp)).trans (World.alloc_heap_new w _)
    · have := World.alloc_heap_new (w.alloc (.cells #[.int .i64 ((2 ^ p : Nat) : Int)] 3)) (.cells #[tellV ao n cap p] 118)
      rwa [World.size_alloc] at this
  unfold tellV partsF at HA
  unfold tellV
  have hm : ∃ m : Nat, Hid (m = 2 ^ p) := ⟨_, rfl⟩
  obtain ⟨m, HM⟩ := hm
  rw [← HM.out] at HA ⊢
  go_enter Tryz.func92, Tryz.ntmps92
  go_wp2
  go_ret
  simpa using HA.out

set_option maxHeartbeats 800000 in
theorem cParts (ao : Option Addr) (n cap p : Nat) (w : World) (hp : p ≤ 3) :
    Calls Tryz.prog 77 #[.agg #[.slice ao n cap, .int .i64 p]] w (PartsIs ao n cap p w) := by
  have hmf : ∀ (fn : Fn) (first cap : Array Value) (w : World), (Instr.makeFunc fn first cap).run Tryz.prog w = .ok (.func fn first cap) w := fun _ _ _ _ => rfl
  have HE := fun W => Lib.hid (cEach ao n cap p W)
  unfold tellV at HE
  have HB := Lib.hid (box_below w (.cells #[.slice ao n cap, .int .i64 p] 104))
  have E4 : Hid (IntKind.i64.wrap ((2 : Int) ^ p) = ((2 ^ p : Nat) : Int)) := by
    show _ = _
    have hm8 : 2 ^ p ≤ 8 := Nat.le_trans (Nat.pow_le_pow_right (by decide) hp) (by decide)
    have : ((2 : Int) ^ p) = ((2 ^ p : Nat) : Int) := by rw [Int.natCast_pow]; rfl
    rw [this]
    generalize 2 ^ p = m at hm8
    exact IntWalk.i64_in _ ⟨by omega, by omega⟩
  go_enter Tryz.func77, Tryz.ntmps77
  go_wp2_with fail
  have c0 : (w.alloc (.cells #[.slice ao n cap, .int .i64 p] 104)).cell? ⟨w.heap.size, 0, none⟩ = some (.slice ao n cap) := by simp
  have c1 : (w.alloc (.cells #[.slice ao n cap, .int .i64 p] 104)).cell? ⟨w.heap.size, 1, none⟩ = some (.int .i64 p) := by simp
  generalize w.alloc (.cells #[.slice ao n cap, .int .i64 p] 104) = W at HB c0 c1 ⊢
  generalize hBB : w.heap.size = B at c0 c1 ⊢
  clear hBB
  go_region_with (go_at_call 92; rw [E4.out]; refine (HE _).out.mono ?_; rintro e w1 ⟨c, t, rfl, hpa⟩; unfold partsF)
  all_goals
    go_wp2
    go_ret
    exact PartsIs.below ⟨c, t, rfl, hpa⟩ (HB.out.trans ((keeps_drew W).below HB.out.size (by simp)))
end Go.Proofs.YtnfpkjnllkkngaaGreatDoor
end

section
namespace Go.Proofs.YtnfpkjnllkkngaaGreatDoor
open Go.RowKit Go.Shelf Go.Proofs Go.Proofs.PipeM Go.Proofs.PipeA
set_option maxRecDepth 100000

attribute [local go_sem] Oper.semAt_some

/-- What a round keeps: the iterator's two boxes. -/
def KpB (c t : Nat) (W W' : World) : Prop := W'.heap[c]? = W.heap[c]? ∧ W'.heap[t]? = W.heap[t]?
theorem kpB_t {c t : Nat} {A B C : World} (h : KpB c t A B) (k : KpB c t B C) : KpB c t A C := ⟨k.1.trans h.1, k.2.trans h.2⟩
theorem kpB_b {c t n : Nat} (hc : c < n) (ht : t < n) (W : World) (l : Nat) (o o' : Obj) (hl : n ≤ l) (_ : W.heap[l]? = some o) (_ : o.isCells = false) (_ : o.isWalk = false) : KpB c t W (W.putObj l o') :=
  ⟨World.putObj_heap_other (by omega), World.putObj_heap_other (by omega)⟩
theorem kpB_keeps {bs : List Nat} {c t : Nat} {W W' : World} (h : Keeps bs W W') (hc : c < W.heap.size) (ht : t < W.heap.size) (hc2 : c ∉ bs) (ht2 : t ∉ bs) : KpB c t W W' := ⟨h.block c hc hc2, h.block t ht ht2⟩

theorem PartsAt.kept {w w' : World} {c t : Nat} {ao : Option Addr} {n cap p : Nat} (h : PartsAt w c t ao n cap p) (hk : KpB c t w w') : PartsAt w' c t ao n cap p := ⟨hk.1.trans h.hc, hk.2.trans h.ht⟩

def encP (g off size cap m : Nat) (j : Fin m) : Array Value := #[.int .i64 ((j.val : Nat) : Int), partV g off size cap j.val]

theorem abides_alloc {β : Type} {B : Nat} {J : β → World → Prop} (h : AbidesFrom B J) {s : β} {W : World} (hs : J s W) (o : Obj) : J s (W.alloc o) :=
  h s W _ none hs ⟨rfl, rfl, rfl, by simp, fun k hk _ => Below.heap_alloc _ _ _ hk⟩ (fun r e => by cases e)

set_option maxHeartbeats 3200000 in
theorem each1_stops (n g off len cap p size m c t : Nat) (w : World) (hn : 3 ≤ n) (hp : p ≤ 3) (hm : m = 2 ^ p) (hlen : len = size * m) (hs : 1 ≤ size) (hn1 : len ≤ 1024) (hcap : len ≤ cap) (hP : PartsAt w c t (some ⟨g, off, none⟩) len cap p) (hc : c < w.heap.size) (ht : t < w.heap.size) :
    SeqStopsK Fence.wide n Tryz.prog 112 #[.pointer (some ⟨c, 0, none⟩), .pointer (some ⟨t, 0, none⟩)] (encP g off size cap m) (KpB c t) (fun xs => xs.map (·.val) = List.range m) (fun xs => xs.map (·.val) = List.range xs.length) m w := fun l J Jx W hW hJ hJx hY h0 => by
  have hP0 : PartsAt W c t (some ⟨g, off, none⟩) len cap p := ⟨(hW.block c hc).trans hP.hc, (hW.block t ht).trans hP.ht⟩
  have hm8 : m ≤ 8 := by rw [hm]; exact Nat.le_trans (Nat.pow_le_pow_right (by decide) hp) (by decide)
  have HPC := fun j (hj : j < m) W => Lib.hid (cPart g off len cap p size j W hp (by rw [hlen, hm]) (by rw [← hm]; exact hj) hs hn1 hcap)
  have HP := Lib.hid hP0
  have HHJ := Lib.hid hJ
  have HY := Lib.hid hY
  have e0 : W.cell? ⟨c, 0, none⟩ = some (.int .i64 (m : Int)) := by simp [World.cell?, hP0.hc, hm]
  clear hP hP0 hW hlen hm hJ hY
  refine callsIn_of_wp Tryz.func112 rfl trivial ?_ rfl
  simp only [Tryz.ntmps112, List.size_toArray, List.length_cons, List.length_nil, Nat.reduceAdd, Nat.reduceSub, Array.replicate_succ, Array.replicate_zero, List.push_toArray, List.append_toArray, List.nil_append, List.cons_append]
  gi_wp2
  gi_loopw [6] (fun i wr => ∃ (k : Nat) (pre : List (Fin m)), k ≤ m ∧ i = .int .i64 k ∧ Hid (pre.map (·.val) = List.range k) ∧ Hid (J pre wr) ∧ Hid (KpB c t W wr))
    (fun i _ => m - (intOf i).toNat)
  case atStart => exact ⟨0, [], Nat.zero_le _, rfl, rfl, h0, ⟨rfl, rfl⟩⟩
  case round =>
    obtain ⟨k, pre, hk, rfl, HR, HJ, HK⟩ := hrel
    by_cases hlt : k < m
    · have e1 : wr.cell? ⟨t, 0, none⟩ = some (tellV (some ⟨g, off, none⟩) len cap p) := by simp [World.cell?, (HP.out.kept HK.out).ht]
      unfold tellV at e1
      have hpl : pre.length = k := by have := congrArg List.length HR.out; simpa using this
      obtain ⟨fn, tmps, assign, body, hy, hR⟩ := HY.out pre ⟨k, hlt⟩ (wr.alloc (.cells #[.slice (some ⟨g, off, none⟩) len cap, .int .i64 p] 104)) (abides_alloc HHJ.out HJ.out _) (by rw [hpl]; exact hlt)
      dsimp only [encP, partV] at hy
      have HRR := Lib.hid hR
      have HC := Lib.hid ((HPC k hlt wr).out)
      clear hpl hR
      unfold partV at HC
      gi_wp2_with fail
      refine ⟨trivial, fun _ => by omega, (callsIn_wide.2 HC.out).mono ?_⟩
      rintro e w2 ⟨rfl, rfl⟩
      gi_wp2_with fail
      refine ⟨fun _ => by omega, HRR.out.mono ?_⟩
      rintro e W3 (⟨rfl, hJ3, hk3⟩ | ⟨rfl, hJx3⟩)
      · have HJ3 := Lib.hid hJ3
        have HK3 : Hid (KpB c t W W3) := kpB_t HK.out (kpB_t ⟨?hc1, ?ht1⟩ hk3)
        case hc1 => exact Below.heap_alloc _ _ _ (by have := (HP.out.kept HK.out).hc; exact (Array.getElem?_eq_some_iff.1 this).1)
        case ht1 => exact Below.heap_alloc _ _ _ (by have := (HP.out.kept HK.out).ht; exact (Array.getElem?_eq_some_iff.1 this).1)
        have HR3 : Hid (((pre ++ [(⟨k, hlt⟩ : Fin m)]).map fun x : Fin m => x.val) = List.range (k + 1)) := by
          show _ = _
          rw [List.map_append, HR.out, List.range_succ]; rfl
        clear hJ3 hk3 hy
        gi_wp2
        go_roundw
        case rel => exact ⟨k + 1, _, by omega, by go_num, HR3, HJ3, HK3⟩
        case measure => simp [intOf]; omega
      · have HJX := Lib.hid hJx3
        have HRX : Hid (((pre ++ [(⟨k, hlt⟩ : Fin m)]).map fun x : Fin m => x.val) = List.range (pre ++ [(⟨k, hlt⟩ : Fin m)]).length) := by
          have hpk : pre.length = k := by have := congrArg List.length HR.out; simpa using this
          show _ = _
          rw [List.map_append, HR.out, List.length_append, hpk, List.length_singleton, List.range_succ]; rfl
        clear hJx3 hy
        gi_wp2
        refine bodyPost_ret (results_none rfl _ _ _) rfl ?_
        exact ⟨⟨_, rfl⟩, .inr ⟨_, HRX.out, HJX.out⟩⟩
    · obtain rfl : k = m := by omega
      gi_wp2
      go_end0
      exact ⟨⟨_, rfl⟩, .inl ⟨_, HR.out, HJ.out⟩⟩

/-- A block that holds cells. -/
def CellsAt (W : World) (b : Nat) : Prop := ∃ o, W.heap[b]? = some o ∧ o.isCells = true
theorem CellsAt.ne {W : World} {b r : Nat} {o : Obj} (h : CellsAt W b) (ho : W.heap[r]? = some o) (hc : o.isCells = false) : b ≠ r := by
  rintro rfl
  obtain ⟨o', h1, h2⟩ := h
  rw [h1] at ho
  cases ho
  rw [hc] at h2
  cases h2
theorem grown_keeps {W W' : World} {row : Option Nat} (h : W.grownBy W' row) : Keeps row.toList W W' :=
  ⟨h.os, h.tape, h.output, h.size, fun k hk hn => h.block k hk (fun e => hn (by simp [← e]))⟩
theorem keepsFrom_of {B : Nat} {bs : List Nat} {W W' : World} (h : Keeps bs W W') (hc : ∀ k ∈ bs, k < B ∨ CellsAt W k) : KeepsFrom B W W' :=
  ⟨h.size, fun k o hB hk ho => by
    have hlt : k < W.heap.size := (Array.getElem?_eq_some_iff.1 hk).1
    refine (h.block k hlt (fun hm => ?_)).trans hk
    rcases hc k hm with h1 | h1
    · omega
    · exact h1.ne hk ho rfl⟩
theorem keeps_setCell (w : World) (b off : Nat) (v : Value) : Keeps [b] w (w.setCell ⟨b, off, none⟩ v) :=
  ⟨rfl, rfl, rfl, by simp [World.setCell], fun k _ hn => Below.heap_setCell _ _ _ _ (fun e => hn (by simp [e]))⟩

/-- So does 'all but these blocks is as it was'. -/
theorem own_keeps {β : Type} {w0 : World} {bs : List Nat} : OwnFrom w0.heap.size (fun (_ : β) W => Keeps bs w0 W) := by
  intro s X Y row hs hg hr
  refine hs.trans_new (grown_keeps hg) ?_
  intro x hx
  cases row with
  | none => simp at hx
  | some r => obtain ⟨h1, o, h2, h3⟩ := hr r rfl; simp at hx; right; omega

theorem own_cell {β : Type} {B : Nat} (p : Addr) (f : β → Value) : OwnFrom B (fun s W => W.cell? p = some (f s) ∧ W.frozen? p = false) :=
  Own.from (fun _ _ _ _ hs hg hr => ⟨cell_kept hs.1 hg hr, (frozen_kept hs.1 hg hr).trans hs.2⟩) B

/-- A region in a round is walked as it is outside of rounds, where nothing is deferred. -/
def noDefer (ops : Array Oper) : Bool := ops.toList.all fun o => match o.op with | .defer _ => false | _ => true
theorem noDefer_at {ops : Array Oper} (h : noDefer ops = true) {i : Nat} {o : Oper} (hi : ops[i]? = some o) : ∀ c, o.op ≠ .defer c := by
  intro c hc
  have hm : o ∈ ops.toList := by
    rw [← Array.getElem?_toList] at hi
    exact List.mem_of_getElem? hi
  have := List.all_eq_true.1 h o hm
  rw [hc] at this
  cases this
theorem wpAny_round {F : Fence} {n l : Nat} {P : Program} {md : Region.Mode} {ops : Array Oper} {Q : Exit → Act → World → Prop} (hro : F.round = none) (hnd : noDefer ops = true) : ∀ (fuel : Nat) (listed : Array Bool) (a : Act) (w : World),
    wpAnyIn F n P md ops Q fuel listed a w → wpAnyIn (F.inRound l) n P md ops Q fuel listed a w
  | 0, _, _, _, h => h
  | fuel + 1, listed, a, w, h => by
    refine ⟨h.1, fun i hi => ?_⟩
    have h2 := wpOpIn_mono (fun a w => wpAny_round (l := l) hro hnd fuel (listed.setIfInBounds i true) a w) (h.2 i hi)
    unfold wpOpIn at h2 ⊢
    cases ho : ops[i]? with
    | none => simp only [ho] at h2 ⊢; exact h2
    | some o =>
      simp only [ho] at h2 ⊢
      split
      · rename_i hw
        rw [if_pos hw] at h2
        unfold Oper.wpIn at h2 ⊢
        rw [Oper.semAt_eq _ _ _ (noDefer_at hnd ho)] at h2 ⊢
        exact h2
      · rename_i hw
        rw [if_neg hw] at h2
        exact h2
theorem regionR {n l id : Nat} {P : Program} {ops : Array Oper} {Q : Exit → Act → World → Prop} {a : Act} {w : World} (hm : P.follows .mixedOrders = true) (hnd : noDefer ops = true)
    (h : wpAnyIn Fence.wide n P .any ops Q ops.size (Array.replicate ops.size false) a w.drew) : (Code.region id ops true).wpIn (Fence.wide.inRound l) n P Q a w :=
  wpIn_region_any hm (wpAny_round rfl hnd _ _ _ _ h)
end Go.Proofs.YtnfpkjnllkkngaaGreatDoor
end
