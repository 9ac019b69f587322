import Derived.RangeFuncNested
import Derived.RangeFuncBound
import Derived.RangeFuncCalls
import Derived.RangeFuncLeaves
import Derived.Shelf.Abstract
import Derived.Shelf.RegionOpen
import Derived.WalkKit
import Derived.OwnWalkIn
import Derived.TacticsInMore
import Derived.LoopNIn
import Derived.LoopIn
import Derived.OrdersHeld
import Derived.StillTailTactics
import Derived.Test.YtpbbhebongggpaaPackC3
namespace Go.Proofs.Ytpbbhebongggpaa
open Go.RowKit Go.Shelf Go.Proofs Go.Proofs.PipeM Go.Proofs.PipeA Go.Proofs.PackM
set_option maxRecDepth 100000

attribute [local go_sem] Oper.semAt_some

/-- The iterator over places: its three boxes. -/
structure PlacesAt (w : World) (sb cb fb z ch s : Nat) (g : Bool) : Prop where
  hs : w.heap[sb]? = some (.cells #[.int .i64 (s : Int)] 3)
  hc : w.heap[cb]? = some (.cells #[.int .i64 (ch : Int)] 3)
  hf : w.heap[fb]? = some (.cells #[.int .i64 ((8 * z : Nat) : Int), .bool g] 23)

def PlacesIs (z ch s : Nat) (g : Bool) (w : World) (e : Ending) (w' : World) : Prop :=
  ∃ sb cb fb, e = .returned (.func (.func 34) #[] #[.pointer (some ⟨sb, 0, none⟩), .pointer (some ⟨cb, 0, none⟩), .pointer (some ⟨fb, 0, none⟩)]) ∧ PlacesAt w' sb cb fb z ch s g ∧
    w.heap.size ≤ sb ∧ w.heap.size ≤ cb ∧ w.heap.size ≤ fb ∧ sb < w'.heap.size ∧ cb < w'.heap.size ∧ fb < w'.heap.size ∧ Below w.heap.size w w'

theorem alloc3 (w : World) (o1 o2 o3 : Obj) : (((w.alloc o1).alloc o2).alloc o3).heap[w.heap.size]? = some o1 ∧ (((w.alloc o1).alloc o2).alloc o3).heap[w.heap.size + 1]? = some o2 ∧ (((w.alloc o1).alloc o2).alloc o3).heap[w.heap.size + 1 + 1]? = some o3 ∧ (((w.alloc o1).alloc o2).alloc o3).heap.size = w.heap.size + 3 ∧ Below w.heap.size w (((w.alloc o1).alloc o2).alloc o3) := by
  have h1 := World.alloc_heap_new w o1
  have h2 := World.alloc_heap_new (w.alloc o1) o2
  have h3 := World.alloc_heap_new ((w.alloc o1).alloc o2) o3
  have z1 : (w.alloc o1).heap.size = w.heap.size + 1 := by simp
  have z2 : ((w.alloc o1).alloc o2).heap.size = w.heap.size + 1 + 1 := by simp
  rw [z1] at h2
  rw [z2] at h3
  refine ⟨?_, ?_, h3, by simp, (((Below.refl _ w).alloc (Nat.le_refl _) _).alloc (by simp) _).alloc (by simp; omega) _⟩
  · exact (Below.heap_alloc _ _ _ (by simp; omega)).trans ((Below.heap_alloc _ _ _ (by simp)).trans h1)
  · exact (Below.heap_alloc _ _ _ (by simp)).trans h2

set_option maxHeartbeats 800000 in
theorem cPlaces (z ch s : Nat) (g : Bool) (w : World) :
    Calls Try.prog 24 #[.agg #[.int .i64 ((8 * z : Nat) : Int), .bool g], .int .i64 (ch : Int), .int .i64 (s : Int)] w (PlacesIs z ch s g w) := by
  have hmf : ∀ (fn : Fn) (first cap : Array Value) (w : World), (Instr.makeFunc fn first cap).run Try.prog w = .ok (.func fn first cap) w := fun _ _ _ _ => rfl
  obtain ⟨h1, h2, h3, hsz, hb⟩ := alloc3 w (.cells #[.int .i64 ((8 * z : Nat) : Int), .bool g] 23) (.cells #[.int .i64 (ch : Int)] 3) (.cells #[.int .i64 (s : Int)] 3)
  have HA := Lib.hid (show PlacesIs z ch s g w (.returned (.func (.func 34) #[] #[.pointer (some ⟨w.heap.size + 1 + 1, 0, none⟩), .pointer (some ⟨w.heap.size + 1, 0, none⟩), .pointer (some ⟨w.heap.size, 0, none⟩)])) _ from
    ⟨_, _, _, rfl, ⟨h3, h2, h1⟩, by omega, by omega, by omega, by omega, by omega, by omega, hb⟩)
  clear h1 h2 h3 hsz hb
  go_enter Try.func24, Try.ntmps24
  go_wp2
  go_ret
  simpa using HA.out

/-- What a round keeps: the iterator's boxes. -/
def KpC (sb cb fb : Nat) (W W' : World) : Prop := W'.heap[sb]? = W.heap[sb]? ∧ W'.heap[cb]? = W.heap[cb]? ∧ W'.heap[fb]? = W.heap[fb]?
theorem kpC_t {sb cb fb : Nat} {A B C : World} (h : KpC sb cb fb A B) (k : KpC sb cb fb B C) : KpC sb cb fb A C := ⟨k.1.trans h.1, k.2.1.trans h.2.1, k.2.2.trans h.2.2⟩
theorem kpC_b {sb cb fb n : Nat} (hs : sb < n) (hc : cb < n) (hf : fb < n) (W : World) (l : Nat) (o o' : Obj) (hl : n ≤ l) (_ : W.heap[l]? = some o) (_ : o.isCells = false) (_ : o.isWalk = false) : KpC sb cb fb W (W.putObj l o') :=
  ⟨World.putObj_heap_other (by omega), World.putObj_heap_other (by omega), World.putObj_heap_other (by omega)⟩
theorem kpC_keeps {bs : List Nat} {sb cb fb : Nat} {W W' : World} (h : Keeps bs W W') (hs : sb < W.heap.size) (hc : cb < W.heap.size) (hf : fb < W.heap.size) (hs2 : sb ∉ bs) (hc2 : cb ∉ bs) (hf2 : fb ∉ bs) : KpC sb cb fb W W' := ⟨h.block sb hs hs2, h.block cb hc hc2, h.block fb hf hf2⟩
theorem PlacesAt.kept {w w' : World} {sb cb fb z ch s : Nat} {g : Bool} (h : PlacesAt w sb cb fb z ch s g) (hk : KpC sb cb fb w w') : PlacesAt w' sb cb fb z ch s g := ⟨hk.1.trans h.hs, hk.2.1.trans h.hc, hk.2.2.trans h.hf⟩
theorem PlacesAt.lt {w : World} {sb cb fb z ch s : Nat} {g : Bool} (h : PlacesAt w sb cb fb z ch s g) : sb < w.heap.size ∧ cb < w.heap.size ∧ fb < w.heap.size :=
  ⟨(Array.getElem?_eq_some_iff.1 h.hs).1, (Array.getElem?_eq_some_iff.1 h.hc).1, (Array.getElem?_eq_some_iff.1 h.hf).1⟩
theorem kpC_below {sb cb fb z ch s : Nat} {g : Bool} {W W' : World} (h : PlacesAt W sb cb fb z ch s g) (hb : Below W.heap.size W W') : KpC sb cb fb W W' :=
  kpC_keeps (keeps_of_below hb []) h.lt.1 h.lt.2.1 h.lt.2.2 (by simp) (by simp) (by simp)

def plV (z ch : Nat) (g : Bool) (j : Nat) : Value := .agg #[.int .i64 ((j / z % ch : Nat) : Int), .int .i64 ((j / z / ch : Nat) : Int), .int .i64 ((shiftN z g (j % z) : Nat) : Int)]
def encP (z ch : Nat) (g : Bool) (m : Nat) (j : Fin m) : Array Value := #[.int .i64 ((j.val : Nat) : Int), plV z ch g j.val]
theorem plV_at {z ch k c i a : Nat} (g : Bool) (hc : c < ch) (hi : i < z) (ha : a = (k * ch + c) * z + i) : plV z ch g a = .agg #[.int .i64 (c : Int), .int .i64 (k : Int), .int .i64 ((shiftN z g i : Nat) : Int)] := by
  have e1 : a / z = k * ch + c := by rw [ha, Nat.mul_comm, Nat.mul_add_div (by omega), Nat.div_eq_of_lt hi]; rfl
  have e2 : a % z = i := by rw [ha, Nat.mul_comm, Nat.mul_add_mod, Nat.mod_eq_of_lt hi]
  have e3 : (k * ch + c) % ch = c := by rw [Nat.mul_comm, Nat.mul_add_mod, Nat.mod_eq_of_lt hc]
  have e4 : (k * ch + c) / ch = k := by rw [Nat.mul_comm, Nat.mul_add_div (by omega), Nat.div_eq_of_lt hc]; rfl
  unfold plV
  rw [e1, e2, e3, e4]

theorem abides_below {β : Type} {B : Nat} {J : β → World → Prop} (h : AbidesFrom B J) {s : β} {W W' : World} (hs : J s W) (hb : Below W.heap.size W W') : J s W' :=
  h s W _ none hs ⟨hb.os, hb.tape, hb.output, hb.size, fun k hk _ => hb.block k hk⟩ (fun r e => by cases e)

theorem range_snoc {m k : Nat} {pre : List (Fin m)} (h : pre.map (fun x : Fin m => x.val) = List.range k) (hlt : k < m) : (pre ++ [(⟨k, hlt⟩ : Fin m)]).map (fun x : Fin m => x.val) = List.range (k + 1) := by
  rw [List.map_append, h, List.range_succ]; rfl

set_option maxHeartbeats 6400000 in
theorem places1_stops (n z ch s m sb cb fb : Nat) (g : Bool) (w : World) (hn : 3 ≤ n) (hz : z = 1 ∨ z = 2 ∨ z = 3) (hch : ch ≤ 100) (hs : s ≤ 100000) (hm : m = s * ch * z) (hm1 : m ≤ 1000000) (hP : PlacesAt w sb cb fb z ch s g) :
    SeqStopsK Fence.wide n Try.prog 34 #[.pointer (some ⟨sb, 0, none⟩), .pointer (some ⟨cb, 0, none⟩), .pointer (some ⟨fb, 0, none⟩)] (encP z ch g m) (KpC sb cb fb) (fun xs => xs.map (·.val) = List.range m) (fun xs => xs.map (·.val) = List.range xs.length) m w := fun l J Jx W hW hJ hJx hY h0 => by
  have hP0 : PlacesAt W sb cb fb z ch s g := ⟨(hW.block sb hP.lt.1).trans hP.hs, (hW.block cb hP.lt.2.1).trans hP.hc, (hW.block fb hP.lt.2.2).trans hP.hf⟩
  have hz3 : 1 ≤ z ∧ z ≤ 3 := by omega
  have HSB := fun W => Lib.hid (cSampleBytes z g W hz)
  have HSH := fun i (hi : i < z) W => Lib.hid (cShift z i g W hz hi)
  have HP := Lib.hid hP0
  have HHJ := Lib.hid hJ
  have HY := Lib.hid hY
  have e0 : W.cell? ⟨sb, 0, none⟩ = some (.int .i64 (s : Int)) := by simp [World.cell?, hP0.hs]
  have HM := Lib.hid hm
  clear hP hP0 hW hm hJ hY hz
  refine callsIn_of_wp Try.func34 rfl trivial ?_ rfl
  simp only [Try.ntmps34, List.size_toArray, List.length_cons, List.length_nil, Nat.reduceAdd, Nat.reduceSub, Array.replicate_succ, Array.replicate_zero, List.push_toArray, List.append_toArray, List.nil_append, List.cons_append]
  gi_wp2
  gi_loopw [5, 10] (fun at_ i wr => ∃ (k a : Nat) (pre : List (Fin m)), k ≤ s ∧ a ≤ m ∧ i = .int .i64 k ∧ at_ = .int .i64 a ∧ Hid (a = k * ch * z) ∧ Hid (pre.map (·.val) = List.range a) ∧ Hid (J pre wr) ∧ Hid (KpC sb cb fb W wr))
    (fun _ i _ => s - (intOf i).toNat)
  case atStart => exact ⟨0, 0, [], Nat.zero_le _, Nat.zero_le _, rfl, rfl, by simp [Hid], rfl, h0, ⟨rfl, rfl, rfl⟩⟩
  case round =>
    obtain ⟨k, a, pre, hk, ham, rfl, rfl, HA, HR, HJ, HK⟩ := hrel
    by_cases hlt : k < s
    · have e1 : wr.cell? ⟨cb, 0, none⟩ = some (.int .i64 (ch : Int)) := by simp [World.cell?, (HP.out.kept HK.out).hc]
      gi_wp2
      gi_loopw [5, 14] (fun at_ i wr => ∃ (c a : Nat) (pre : List (Fin m)), c ≤ ch ∧ a ≤ m ∧ i = .int .i64 c ∧ at_ = .int .i64 a ∧ Hid (a = (k * ch + c) * z) ∧ Hid (pre.map (·.val) = List.range a) ∧ Hid (J pre wr) ∧ Hid (KpC sb cb fb W wr))
        (fun _ i _ => ch - (intOf i).toNat)
      case atStart => exact ⟨0, a, pre, Nat.zero_le _, ham, rfl, rfl, by show _ = _; rw [HA.out]; simp, HR, HJ, HK⟩
      case round =>
        clear HA HR HJ HK
        obtain ⟨c, a, pre, hc, ham, rfl, rfl, HA, HR, HJ, HK⟩ := hrel
        by_cases hltc : c < ch
        · have e2 : wr.cell? ⟨fb, 0, none⟩ = some (.int .i64 ((8 * z : Nat) : Int)) := by simp [World.cell?, (HP.out.kept HK.out).hf]
          have e3 : wr.cell? ⟨fb, 1, none⟩ = some (.bool g) := by simp [World.cell?, (HP.out.kept HK.out).hf]
          gi_wp2_with fail
          refine ⟨trivial, fun _ => by omega, (callsIn_wide.2 (HSB _).out).mono ?_⟩
          rintro e w2 ⟨rfl, hw2⟩
          have hb2 : Below wr.heap.size wr w2 := by rw [hw2]; exact box_below _ _
          have HJ2 := Lib.hid (abides_below HHJ.out HJ.out hb2)
          have HK2 := Lib.hid (kpC_t HK.out (kpC_below (HP.out.kept HK.out) hb2))
          clear hw2 hb2 e2 e3
          gi_wp2
          gi_loopw [5, 19] (fun at_ i wr => ∃ (j a : Nat) (pre : List (Fin m)), j ≤ z ∧ a ≤ m ∧ i = .int .i64 j ∧ at_ = .int .i64 a ∧ Hid (a = (k * ch + c) * z + j) ∧ Hid (pre.map (·.val) = List.range a) ∧ Hid (J pre wr) ∧ Hid (KpC sb cb fb W wr))
            (fun _ i _ => z - (intOf i).toNat)
          case atStart => exact ⟨0, a, pre, Nat.zero_le _, ham, rfl, rfl, by show _ = _; rw [HA.out]; simp, HR, HJ2, HK2⟩
          case round =>
            clear HA HR HJ HK HJ2 HK2
            obtain ⟨j, a, pre, hj, ham, rfl, rfl, HA, HR, HJ, HK⟩ := hrel
            by_cases hltj : j < z
            · have hltm : a < m := by
                have h1 : (k * ch + c) + 1 ≤ s * ch := by
                  have : (k + 1) * ch ≤ s * ch := Nat.mul_le_mul_right _ hlt
                  rw [Nat.add_mul, Nat.one_mul] at this
                  omega
                have h2 : ((k * ch + c) + 1) * z ≤ s * ch * z := Nat.mul_le_mul_right _ h1
                rw [Nat.add_mul _ 1, Nat.one_mul] at h2
                have h3 := HA.out
                have h4 := HM.out
                omega
              have e2 : wr.cell? ⟨fb, 0, none⟩ = some (.int .i64 ((8 * z : Nat) : Int)) := by simp [World.cell?, (HP.out.kept HK.out).hf]
              have e3 : wr.cell? ⟨fb, 1, none⟩ = some (.bool g) := by simp [World.cell?, (HP.out.kept HK.out).hf]
              have HC := Lib.hid ((HSH j hltj wr).out)
              have hpl : pre.length = a := by have := congrArg List.length HR.out; simpa using this
              have HYA : Hid (∀ w2, Below wr.heap.size wr w2 → _) := Lib.hid (fun w2 (hb2 : Below wr.heap.size wr w2) => HY.out pre ⟨a, hltm⟩ w2 (abides_below HHJ.out HJ.out hb2) (by rw [hpl]; exact hltm))
              clear hpl
              gi_wp2_with fail
              refine ⟨trivial, fun _ => by omega, (callsIn_wide.2 HC.out).mono ?_⟩
              rintro e w2 ⟨rfl, hb2⟩
              obtain ⟨fn, tmps, assign, body, hy, hR⟩ := HYA.out w2 hb2
              dsimp only [encP] at hy
              rw [plV_at g hltc hltj HA.out] at hy
              have HRR := Lib.hid hR
              have HK2 := Lib.hid (kpC_t HK.out (kpC_below (HP.out.kept HK.out) hb2))
              clear hR hb2 HYA e2 e3
              generalize shiftN z g j = sh at hy ⊢
              gi_wp2_with fail
              refine ⟨fun _ => by omega, HRR.out.mono ?_⟩
              rintro e W3 (⟨rfl, hJ3, hk3⟩ | ⟨rfl, hJx3⟩)
              · have HJ3 := Lib.hid hJ3
                have HK3 := Lib.hid (kpC_t HK2.out hk3)
                have HR3 := Lib.hid (range_snoc HR.out hltm)
                have HA3 : Hid (a + 1 = (k * ch + c) * z + (j + 1)) := by show _ = _; rw [HA.out]; omega
                clear hJ3 hk3 hy
                gi_wp2
                go_roundw
                case rel => exact ⟨j + 1, a + 1, _, by omega, by omega, by go_num, by go_num, HA3, HR3, HJ3, HK3⟩
                case measure => simp [intOf]; omega
              · have HJX := Lib.hid hJx3
                have HRX : Hid (((pre ++ [(⟨a, hltm⟩ : Fin m)]).map fun x : Fin m => x.val) = List.range (pre ++ [(⟨a, hltm⟩ : Fin m)]).length) := by
                  have hpk : pre.length = a := by have := congrArg List.length HR.out; simpa using this
                  show _ = _
                  rw [range_snoc HR.out hltm, List.length_append, hpk, List.length_singleton]
                clear hJx3 hy
                gi_wp2
                refine bodyPost_ret (results_none rfl _ _ _) rfl ?_
                exact ⟨⟨_, rfl⟩, .inr ⟨_, HRX.out, HJX.out⟩⟩
            · obtain rfl : j = z := by omega
              have HA3 : Hid (a = (k * ch + (c + 1)) * j) := by show _ = _; rw [HA.out, ← Nat.add_assoc, Nat.add_mul _ 1, Nat.one_mul]
              gi_wp2
              go_roundw
              case rel => exact ⟨c + 1, a, pre, by omega, ham, by go_num, rfl, HA3, HR, HJ, HK⟩
              case measure => simp [intOf]; omega
        · obtain rfl : c = ch := by omega
          have HA3 : Hid (a = (k + 1) * c * z) := by show _ = _; rw [HA.out, Nat.add_mul k 1, Nat.one_mul]
          gi_wp2
          go_roundw
          case rel => exact ⟨k + 1, a, pre, by omega, ham, by go_num, rfl, HA3, HR, HJ, HK⟩
          case measure => simp [intOf]; omega
    · obtain rfl : k = s := by omega
      have HRM : Hid (pre.map (fun x : Fin m => x.val) = List.range m) := by
        have h1 := HA.out
        have h2 := HM.out
        show _ = _
        rw [HR.out, h1, h2]
      gi_wp2
      go_end0
      exact ⟨⟨_, rfl⟩, .inl ⟨_, HRM.out, HJ.out⟩⟩
end Go.Proofs.Ytpbbhebongggpaa
