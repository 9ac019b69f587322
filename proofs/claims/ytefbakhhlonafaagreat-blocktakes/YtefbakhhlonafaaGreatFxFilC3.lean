import Derived.Test.YtefbakhhlonafaaGreatFxLatF
import Derived.Test.YtefbakhhlonafaaGreatLagM

section
namespace Go.Proofs.YtefbakhhlonafaaGreat.Fx
open Go.RowKit Go.Proofs Go.Proofs.PipeA Go.Proofs.LatM Go.Proofs.FilM
set_option maxRecDepth 100000

theorem TooFar_cases (n : Int) : (decide (n < -1152921504606846976) = true ∧ isR n = false) ∨ (decide (n < -1152921504606846976) = false ∧ decide (1152921504606846976 < n) = true ∧ isR n = false) ∨ (decide (n < -1152921504606846976) = false ∧ decide (1152921504606846976 < n) = false ∧ isR n = true) := by
  unfold isR
  by_cases h1 : n < -1152921504606846976
  · exact .inl ⟨decide_eq_true h1, decide_eq_false (by omega)⟩
  · by_cases h2 : 1152921504606846976 < n
    · exact .inr (.inl ⟨decide_eq_false h1, decide_eq_true h2, decide_eq_false (by omega)⟩)
    · exact .inr (.inr ⟨decide_eq_false h1, decide_eq_false h2, decide_eq_true (by omega)⟩)

theorem cTooFar (n : Int) (w : World) :
    Calls Tryz.prog 133 #[.int .i64 n] w fun e w' => e = .returned (.bool (!isR n)) ∧ w = w' := by
  rcases TooFar_cases n with ⟨t1, t2⟩ | ⟨t1, t2, t3⟩ | ⟨t1, t2, t3⟩
  · have HT := Lib.hid t2
    clear t2
    go_enter Tryz.func133, Tryz.ntmps133
    go_wp2
    go_ret
    exact ⟨by rw [HT.out]; rfl, rfl⟩
  · have HT := Lib.hid t3
    clear t3
    go_enter Tryz.func133, Tryz.ntmps133
    go_wp2
    go_ret
    exact ⟨by rw [HT.out]; rfl, rfl⟩
  · have HT := Lib.hid t3
    clear t3
    go_enter Tryz.func133, Tryz.ntmps133
    go_wp2
    go_ret
    exact ⟨by rw [HT.out]; rfl, rfl⟩

set_option maxHeartbeats 800000 in
theorem cIndexFuncTooFar (ao : Option Addr) (cap : Nat) (l : List Int) (w : World) (hl : l.length ≤ 9223372036854775807) (hi : IntsAt w ao l) :
    Calls Tryz.prog 120 #[.slice ao l.length cap, .func (.func 133) #[] #[]] w fun e w' => ∃ k : Int, e = .returned (.int .i64 k) ∧ Found l (fun n => !isR n) k ∧ w = w' := by
  have HI := Lib.hid hi
  have HL := fun n W => Lib.hid (cTooFar n W)
  clear hi
  go_enter Tryz.func120, Tryz.ntmps120
  go_wp2
  go_loopg [5, 8] l.length (fun gk q i wr => ∃ c : Nat, c ≤ l.length ∧ gk + c = l.length ∧ i = .int .i64 c ∧ Hid ((l.take c).any (fun n => !isR n) = false) ∧ w = wr)
  case atStart => exact ⟨0, Nat.zero_le _, by omega, rfl, by simp [Hid], rfl⟩
  case round =>
    obtain ⟨c, hc, hgk, rfl, HT, rfl⟩ := hrel
    have HGK := Lib.hid hgk
    clear hgk
    by_cases hlt : c < l.length
    · obtain ⟨b, off, rfl, hg, hcell⟩ := HI.out c hlt
      have HNX := Lib.hid (any_take (f := fun n => !isR n) hlt)
      have HLC := fun W => Lib.hid (HL l[c] W).out
      have HMem : Hid (isR l[c] = false → l.any (fun n => !isR n) = true) := fun h => List.any_eq_true.2 ⟨l[c], List.getElem_mem hlt, by simp [h]⟩
      generalize l[c] = x at hcell HNX HLC HMem
      cases hx : isR x
      · have HM2 := Lib.hid (HMem.out hx)
        rw [hx] at HLC
        clear hx HMem HNX hg
        go_wp2_with fail
        refine (HLC _).out.mono ?_
        rintro e w1 ⟨rfl, rfl⟩
        go_wp2
        go_ret
        exact ⟨_, rfl, by unfold Found; rw [HM2.out]; exact decide_eq_true (by omega), rfl⟩
      · have HN2 : Hid ((l.take (c + 1)).any (fun n => !isR n) = false) := by show _ = _; rw [HNX.out, HT.out]; simp [hx]
        rw [hx] at HLC
        clear hx HMem HNX hg
        go_wp2_with fail
        refine (HLC _).out.mono ?_
        rintro e w1 ⟨rfl, rfl⟩
        go_wp2
        go_roundg (gk - 1)
        case rel => exact ⟨c + 1, by omega, by have := HGK.out; omega, by go_num, HN2, rfl⟩
        case measure => have := HGK.out; omega
    · obtain rfl : c = l.length := by omega
      have HA : Hid (l.any (fun n => !isR n) = false) := by have := HT.out; rw [List.take_length] at this; exact this
      go_wp2
      go_ret
      exact ⟨_, rfl, by unfold Found; rw [HA.out]; rfl, rfl⟩

set_option maxHeartbeats 400000 in
theorem cContainsTooFar (ao : Option Addr) (cap : Nat) (l : List Int) (w : World) (hl : l.length ≤ 9223372036854775807) (hi : IntsAt w ao l) :
    Calls Tryz.prog 98 #[.slice ao l.length cap, .func (.func 133) #[] #[]] w fun e w' => e = .returned (.bool (l.any (fun n => !isR n))) ∧ w = w' := by
  have HC := Lib.hid (cIndexFuncTooFar ao cap l w hl hi)
  obtain ⟨d, hd⟩ : ∃ d, d = l.any (fun n => !isR n) := ⟨_, rfl⟩
  rw [← hd]
  have HD := Lib.hid hd
  clear hi hd
  go_enter Tryz.func98, Tryz.ntmps98
  go_wp2_with fail
  refine HC.out.mono ?_
  rintro e w1 ⟨k, rfl, hf, rfl⟩
  unfold Found at hf
  rw [← HD.out] at hf
  go_wp2
  go_ret
  exact ⟨rfl, rfl⟩


theorem any_not {f : Int → Bool} (l : List Int) : l.any (fun n => !f n) = !l.all f := by rw [List.all_eq_not_any_not, Bool.not_not]
end Go.Proofs.YtefbakhhlonafaaGreat.Fx
end

section
namespace Go.Proofs.YtefbakhhlonafaaGreat.Fx
open Go.RowKit Go.Proofs Go.Proofs.PipeA Go.Proofs.LatM Go.Proofs.FilM
set_option maxRecDepth 100000

/-- A predictor: the coefficients behind each number of first indices, up to m. -/
structure PredAt (w : World) (G : Nat) (l : List Int) (m : Nat) : Prop where
  lt : G < w.heap.size
  row : ∀ j, j ≤ m → ∃ ao cap, w.cell? ⟨G, j, none⟩ = some (.slice ao j cap) ∧ IntsAt w ao (cf l j)
theorem PredAt.below {w w' : World} {G : Nat} {l : List Int} {m : Nat} (h : PredAt w G l m) (hb : Below w.heap.size w w') : PredAt w' G l m :=
  ⟨Nat.lt_of_lt_of_le h.lt hb.size, fun j hj => by
    obtain ⟨ao, cap, h1, h2⟩ := h.row j hj
    exact ⟨ao, cap, (hb.cell (p := ⟨G, j, none⟩) h.lt).trans h1, h2.below hb⟩⟩
/-- What a predictor of the first m indices foresees. -/
def foreM (l : List Int) (m : Nat) (p : List Int) : Int := pred (cf l (min p.length m)) p
theorem foreM_all {l : List Int} (p : List Int) : foreM l l.length p = fore l p := by unfold foreM fore; rw [Nat.min_comm]
set_option maxHeartbeats 1600000 in
theorem cForeseen (G pcap m : Nat) (ao : Option Addr) (cap : Nat) (l p : List Int) (w : World) (hg : goodL l = true) (hm : m ≤ 16) (hpl : p.length ≤ 100000000) (hp : ∀ y ∈ p, -67108865 ≤ y ∧ y ≤ 67108864) (hP : PredAt w G l m) (hi : IntsAt w ao p) :
    Calls Tryz.prog 135 #[.slice (some ⟨G, 0, none⟩) (m + 1) pcap, .slice ao p.length cap] w fun e w' => e = .returned (.int .i64 (foreM l m p)) ∧ ∃ k, w' = w.drewN k := by
  obtain ⟨q, hq⟩ : ∃ q, q = min p.length m := ⟨_, rfl⟩
  obtain ⟨co, ccap, hc, hci⟩ := hP.row q (by omega)
  have HC : Hid (Calls Tryz.prog 140 #[.slice co q ccap, .slice ao p.length cap] w fun e w' => e = .returned (.int .i64 (foreM l m p)) ∧ ∃ k, w' = w.drewN k) := by
    have := cPredictP co ao ccap cap (cf l q) p w ⟨by rw [cf_length]; omega, hpl, prod_small hg (by omega) hp⟩ hci hi
    rw [cf_length] at this
    unfold foreM
    rw [← hq]
    exact this
  generalize foreM l m p = r at HC
  have e1 : ((m + 1 : Nat) : Int) - 1 = (m : Int) := by omega
  clear hP hi hci hp hg
  rcases Nat.lt_or_ge m p.length with h | h
  · obtain rfl : q = m := by omega
    clear hq
    go_enter Tryz.func135, Tryz.ntmps135
    go_wp2_with fail
    refine HC.out.mono ?_
    rintro e w1 ⟨rfl, hk⟩
    go_wp2
    go_ret
    exact ⟨rfl, hk⟩
  · obtain rfl : q = p.length := by omega
    clear hq
    go_enter Tryz.func135, Tryz.ntmps135
    go_wp2_with fail
    refine HC.out.mono ?_
    rintro e w1 ⟨rfl, hk⟩
    go_wp2
    go_ret
    exact ⟨rfl, hk⟩

theorem IntsAt.take {w : World} {ao : Option Addr} {l : List Int} (h : IntsAt w ao l) (n : Nat) : IntsAt w ao (l.take n) := by
  intro j hj
  rw [List.length_take] at hj
  obtain ⟨b, off, h1, h2, h3⟩ := h j (by omega)
  exact ⟨b, off, h1, h2, by rw [h3, List.getElem_take]⟩
end Go.Proofs.YtefbakhhlonafaaGreat.Fx
end

section
namespace Go.Proofs.YtefbakhhlonafaaGreat.Fx
open Go.RowKit Go.Shelf Go.Proofs Go.Proofs.PipeA Go.Proofs.LatM
set_option maxRecDepth 100000

attribute [local go_sem] Oper.semAt_some

/-- Nothing has turned but blocks of a list, and such as lie from B on and below Z. -/
structure KeepsO (bs : List Nat) (B Z : Nat) (w w' : World) : Prop where
  os : w'.os = w.os
  tape : w'.tape = w.tape
  output : w'.output = w.output
  size : w.heap.size ≤ w'.heap.size
  block : ∀ k, k < w.heap.size → k ∉ bs → (k < B ∨ Z ≤ k) → w'.heap[k]? = w.heap[k]?
theorem KeepsO.keeps {bs : List Nat} {B Z : Nat} {W a b : World} (h : KeepsO bs B Z a b) (hk : Keeps bs W a) (hB : W.heap.size ≤ B) : Keeps bs W b :=
  ⟨h.os.trans hk.os, h.tape.trans hk.tape, h.output.trans hk.output, Nat.le_trans hk.size h.size, fun k hlt hn => (h.block k (Nat.lt_of_lt_of_le hlt hk.size) hn (.inl (by omega))).trans (hk.block k hlt hn)⟩
theorem KeepsO.ints {bs : List Nat} {B Z H : Nat} {a b : World} {l : List Int} (h : KeepsO bs B Z a b) (hn : H ∉ bs) (hz : Z ≤ H) (hi : IntsAt a (some ⟨H, 0, none⟩) l) : IntsAt b (some ⟨H, 0, none⟩) l := by
  intro j hj
  obtain ⟨g, off, he, hlt, hc⟩ := hi j hj
  cases he
  exact ⟨H, 0, rfl, Nat.lt_of_lt_of_le hlt h.size, by rw [← hc]; exact World.cell?_of_block (a := ⟨H, 0 + j, none⟩) (h.block H hlt hn (.inr hz))⟩

/-- append in a fence, where it is known what it makes. -/
theorem wpListIn_append_run {F : Fence} {n : Nat} {P : Program} {w : World} {ops : Array Oper} {rest : List Oper} {o : Oper} {a : Act} {Q : Exit → Act → World → Prop} (hgd : o.guard = none) (s x : Operand) (t : TypeId)
    (ho : o.op = .call { callee := .builtin .append, args := #[s, x], argTypes := #[t, t] }) (v y v' : Value) (w' : World) (hs : a.eval s = v) (hx : a.eval x = y)
    (hr : (Builtin.append_ #[t, t] o.type #[v, y]).run P w = .ok v' w') (h : wpListIn F n P ops Q rest (a.put o.dst v') w') : wpListIn F n P ops Q (o :: rest) a w := by
  refine wpListIn_plain hgd fun K hK => ?_
  unfold Oper.wpIn
  refine ⟨?_, ?_⟩
  · simp [Oper.about, ho, resolve, Target.leads, Sem.run_pure]
  · rw [Oper.semAt_plain F _ _ (by rw [ho]; intro c hc'; cases hc')]
    simp [execOp, ho, resolve, invoke, builtin, hs, hx, hr, Result.andThen]
    exact hK _ _ h

/-- Where a slice that was just told lies. -/
def Lies (Z S : Nat) (ao : Option Addr) : Prop := ∀ a, ao = some a → Z ≤ a.block ∧ a.block < S

set_option maxHeartbeats 3200000 in
theorem steps2_tellsO (n B H l0 : Nat) (l : List Int) (W : World) (bs : List Nat) (J : Nat → Nat → World → Prop) (hn : 3 ≤ n) (hgd : goodL l = true) (hS : StepsAt W B H l) (hB : B ∉ bs) (hH : H ∉ bs) (hbs : ∀ x ∈ bs, x < W.heap.size)
    (hJ : ∀ j Z A C, J j Z A → Below A.heap.size A C → J j Z C)
    (hY : ∀ (j : Nat) ao cap Z W1, j ≤ l.length → j ≤ cap → W.heap.size ≤ Z → Z ≤ W1.heap.size → J j Z W1 → IntsAt W1 ao (cf l j) → Lies Z W1.heap.size ao → YieldAt Fence.wide (n - 1) Tryz.prog l0 #[.int .i64 (j : Int), .slice ao j cap] W1 fun e W' => e = .returned (.bool true) ∧ J (j + 1) W'.heap.size W' ∧ KeepsO bs W.heap.size Z W1 W')
    (h0 : J 0 W.heap.size W) :
    CallsIn Fence.wide n Tryz.prog 143 #[.func (.yield l0) #[] #[], .pointer (some ⟨B, 0, none⟩)] W fun e W' => (∃ v, e = .returned v) ∧ J (l.length + 1) W'.heap.size W' := by
  have hl16 := good_len hgd
  obtain ⟨fn, tmps, assign, body, hy, hR⟩ := hY 0 none 0 W.heap.size W (Nat.zero_le _) (Nat.le_refl _) (Nat.le_refl _) (Nat.le_refl _) h0 (fun j hj => by simp [cf] at hj) (fun a e => by cases e)
  have HR := Lib.hid hR
  have HJ := Lib.hid hJ
  have HY := Lib.hid hY
  have HS := Lib.hid hS
  have HGD := Lib.hid hgd
  have HBS := Lib.hid hbs
  have HBN := Lib.hid hB
  have HHN := Lib.hid hH
  have hBlt : B < W.heap.size := (Array.getElem?_eq_some_iff.1 hS.box).1
  have hHlt := hS.lt
  rw [show ((0 : Nat) : Int) = 0 from rfl] at hy
  clear hR hJ hY hS hgd hbs hB hH h0
  refine callsIn_of_wp Tryz.func143 rfl trivial ?_ rfl
  simp only [Tryz.ntmps143, List.size_toArray, List.length_cons, List.length_nil, Nat.reduceAdd, Nat.reduceSub, Array.replicate_succ, Array.replicate_zero, List.push_toArray, List.append_toArray, List.nil_append, List.cons_append]
  gi_wp2_with fail
  refine ⟨fun _ => by omega, HR.out.mono ?_⟩
  rintro e W1 ⟨rfl, hJ1, hk1o⟩
  have hk1 : Keeps bs W W1 := hk1o.keeps (Keeps.refl _ _) (Nat.le_refl _)
  have HJ1 := Lib.hid hJ1
  have HK1 := Lib.hid hk1
  have e0 : W1.cell? ⟨B, 0, none⟩ = some (.slice (some ⟨H, 0, none⟩) l.length l.length) := by
    rw [hk1.cell (p := ⟨B, 0, none⟩) hBlt HBN.out, cell_of_heap HS.out.box]; rfl
  clear hJ1 hk1 hk1o hy HR
  gi_wp2
  gi_loopw [3, 4, 5, 11] (fun vc q4 q5 i wr => ∃ (c ccap : Nat) (co : Option Addr), c ≤ l.length ∧ i = .int .i64 c ∧ vc = .slice co c ccap ∧ Hid (IntsAt wr co (cf l c)) ∧ Hid (J (c + 1) wr.heap.size wr) ∧ Hid (Keeps bs W wr))
    (fun _ _ _ i _ => l.length - (intOf i).toNat)
  case atStart => exact ⟨0, 0, none, Nat.zero_le _, rfl, rfl, (fun j hj => by simp [cf] at hj), HJ1, HK1⟩
  case round =>
    clear HJ1 HK1 e0
    obtain ⟨c, ccap, co, hc, rfl, rfl, HIC, HJ1, HK1⟩ := hrel
    by_cases hlt : c < l.length
    · have hltR : c < (reflV l).length := by rw [reflV_length]; exact hlt
      obtain ⟨g', off', hge, _, hcell⟩ := HS.out.ints c hltR
      simp only [Option.some.injEq, Addr.mk.injEq, and_true] at hge
      obtain ⟨rfl, rfl⟩ := hge
      rw [Nat.zero_add] at hcell
      have k1 : wr.cell? ⟨H, c, none⟩ = some (.int .i64 (reflV l)[c]) := (HK1.out.cell (p := ⟨H, c, none⟩) hHlt HHN.out).trans hcell
      have hkb := refl_in HGD.out hlt
      have HSU := Lib.hid (cf_succ hlt)
      have hlen := cf_length l c
      have HBE : Hid (∀ W, IntsAt W co (cf l c) → Calls Tryz.prog 144 #[.slice co c ccap, .int .i64 (reflV l)[c]] W (NewIs (cf l (c + 1)) W)) := fun W hW => by
        have := cBehind co ccap (cf l c) (reflV l)[c] W (by omega) (cf_b30 HGD.out (by omega)) hkb hW
        rw [hlen] at this
        rw [HSU.out]
        exact this
      generalize (reflV l)[c] = k at k1 HBE
      clear hcell hkb HSU hlen hltR
      gi_wp2_with fail
      refine ⟨trivial, fun _ => by omega, (callsIn_wide.2 (HBE.out wr HIC.out)).mono ?_⟩
      rintro e w2 ⟨H2, rfl, hi2, hH2, hlt2, hb2⟩
      rw [cf_length]
      have HI2 := Lib.hid hi2
      have HCL : Hid (Calls Tryz.prog 96 #[.slice (some ⟨H2, 0, none⟩) (c + 1) (c + 1)] w2 (CopyIs (cf l (c + 1)) w2)) := by
        have := cClone ⟨H2, 0, none⟩ (c + 1) (cf l (c + 1)) w2 (by rw [cf_length]; omega) hi2
        rw [cf_length] at this
        exact this
      have HJ2 := Lib.hid (HJ.out _ _ _ _ HJ1.out hb2)
      have HK2 := Lib.hid (HK1.out.trans (keeps_of_below hb2 bs))
      have hsz : W.heap.size ≤ wr.heap.size := HK1.out.size
      have hsz2 := hb2.size
      clear hi2 hb2 k1 HBE HIC HJ1 HK1
      gi_wp2_with fail
      refine ⟨trivial, fun _ => by omega, (callsIn_wide.2 HCL.out).mono ?_⟩
      rintro e w3 ⟨H3, cap3, rfl, hi3, _, hcap3, hH3, hlt3, hb3⟩
      rw [cf_length] at hcap3 ⊢
      obtain ⟨fn, tmps, assign, body, hy, hR⟩ := HY.out (c + 1) (some ⟨H3, 0, none⟩) cap3 wr.heap.size w3 (by omega) hcap3 hsz (by have := hb3.size; omega) (HJ.out _ _ _ _ HJ2.out hb3) hi3 (fun a e => by cases e; show wr.heap.size ≤ H3 ∧ H3 < w3.heap.size; omega)
      have HR := Lib.hid hR
      have HI3 := Lib.hid (HI2.out.below hb3)
      have HK3 := Lib.hid (HK2.out.trans (keeps_of_below hb3 bs))
      rw [show ((c + 1 : Nat) : Int) = (c : Int) + 1 from rfl] at hy
      clear hR hi3 hb3 hcap3 HCL HJ2 HK2 HI2
      gi_wp2_with fail
      refine ⟨fun _ => by omega, HR.out.mono ?_⟩
      rintro e W4 ⟨rfl, hJ4, hk4⟩
      have HJ4 := Lib.hid hJ4
      have HK4 := Lib.hid (hk4.keeps HK3.out (Nat.le_refl _))
      have HI4 := Lib.hid (hk4.ints (H := H2) (fun hm => by have := HBS.out _ hm; omega) hH2 HI3.out)
      clear hJ4 hk4 hy HI3 HK3
      gi_wp2
      go_roundw
      case rel => exact ⟨c + 1, c + 1, _, by omega, by go_num, rfl, HI4, HJ4, HK4⟩
      case measure => simp [intOf]; omega
    · obtain rfl : c = l.length := by omega
      gi_wp2
      go_end0
      exact ⟨⟨_, rfl⟩, HJ1.out⟩
end Go.Proofs.YtefbakhhlonafaaGreat.Fx
end

section
namespace Go.Proofs.YtefbakhhlonafaaGreat.Fx
open Go.RowKit Go.Shelf Go.Proofs Go.Proofs.PipeA Go.Proofs.LatM Go.Proofs.FilM
set_option maxRecDepth 100000

attribute [local go_sem] Oper.semAt_some

theorem info_sl : (Tryz.prog.info? 22).map (fun i => (i.zero, i.size, i.bytes)) = some (some (.slice none 0 0), 1, 24) := by kernel_rfl

/-- The coefficients behind each number of indices, told so far: each in memory of its own, which isn't that of the slices. -/
def RowsP (B : Nat) (W : World) (v : Value) (cs : List Value) (l : List Int) (j : Nat) : Prop :=
  ∀ i, i < j → ∃ ro rc, cs[i]? = some (.slice ro i rc) ∧ IntsAt W ro (cf l i) ∧ ∀ a, ro = some a → B ≤ a.block ∧ a.block < W.heap.size ∧ some a.block ≠ v.ownBlock

theorem RowsP.keeps {B : Nat} {W W' : World} {v : Value} {cs : List Value} {l : List Int} {j : Nat} {bs : List Nat} (h : RowsP B W v cs l j) (hk : Keeps bs W W') (hb : ∀ x ∈ bs, x < B) : RowsP B W' v cs l j := by
  intro i hi
  obtain ⟨ro, rc, h1, h2, h3⟩ := h i hi
  exact ⟨ro, rc, h1, h2.keeps hk (fun g off he hg => by have := (h3 _ he).1; have := hb _ hg; simp only at *; omega), fun a ha => ⟨(h3 a ha).1, Nat.lt_of_lt_of_le (h3 a ha).2.1 hk.size, (h3 a ha).2.2⟩⟩

theorem ownsRow_keeps {w w' : World} {base size : Nat} {e : TypeId} {v : Value} {n : Nat} {xs : List Value} {bs : List Nat} (h : w.ownsRow base e size v n xs) (hk : Keeps bs w w') (hb : ∀ x ∈ bs, x < base) : w'.ownsRow base e size v n xs := by
  refine ⟨h.1, ?_⟩
  rcases h.2 with h2 | ⟨g, cap, cur, hv', hg, hh, r⟩
  · exact Or.inl h2
  · exact Or.inr ⟨g, cap, cur, hv', hg, by rw [hk.block g (Array.getElem?_eq_some_iff.1 hh).1 (fun hm => by have := hb g hm; omega)]; exact hh, r⟩

/-- Where predictorOf stands when a number of yields are done. -/
structure PredIs (W0 : World) (B L D : Nat) (r : Loop) (l : List Int) (j Z : Nat) (W : World) : Prop where
  loop : W.heap[L]? = some (.loop r)
  mark : W.heap[D]? = some (.deferred (some []))
  row : ∃ v cs, W.heap[B]? = some (.cells #[v] 147) ∧ W.ownsRow W0.heap.size 22 1 v j cs ∧ RowsP W0.heap.size W v cs l j ∧ ∀ g, v.ownBlock = some g → g < Z
  keeps : Keeps [B, L] W0 W
theorem PredIs.below {W0 A C : World} {B L D j Z : Nat} {r : Loop} {l : List Int} (h : PredIs W0 B L D r l j Z A) (hb : Below A.heap.size A C) : PredIs W0 B L D r l j Z C := by
  obtain ⟨v, cs, h1, h2, h3, h4⟩ := h.row
  exact ⟨(hb.block L (Array.getElem?_eq_some_iff.1 h.loop).1).trans h.loop, (hb.block D (Array.getElem?_eq_some_iff.1 h.mark).1).trans h.mark, ⟨v, cs, (hb.block B (Array.getElem?_eq_some_iff.1 h1).1).trans h1, ownsRow_below h2 hb, h3.keeps (keeps_of_below hb []) (by simp), h4⟩, h.keeps.trans (keeps_of_below hb _)⟩

/-- What an append of one slice to them makes. -/
theorem push_row {B base Z : Nat} {W : World} {v : Value} {cs : List Value} {l : List Int} {j : Nat} {ro : Option Addr} {rc : Nat} (hj : j ≤ 16) (hB : base ≤ W.heap.size) (hBB : B = base) (h1 : W.ownsRow base 22 1 v j cs) (h2 : RowsP B W v cs l j) (h3 : ∀ g, v.ownBlock = some g → g < Z) (hi : IntsAt W ro (cf l j)) (hro : Lies Z W.heap.size ro) (hBZ : base ≤ Z) :
    ∃ v' W', (Builtin.append_ #[147, 147] 147 #[v, .slice (some ⟨W.heap.size, 0, none⟩) 1 1]).run Tryz.prog (W.alloc (.cells #[.slice ro j rc] 22)) = .ok v' W' ∧
      W'.ownsRow base 22 1 v' (j + 1) (cs ++ [.slice ro j rc]) ∧ RowsP B W' v' (cs ++ [.slice ro j rc]) l (j + 1) ∧ W.grownBy W' v.ownBlock := by
  subst hBB
  obtain ⟨i0, hii, hz0, hz1, hz2⟩ := info_parts info_sl
  have ho := h1.alloc (.cells #[.slice ro j rc] 22)
  have hn : ∀ k u, [Value.slice ro j rc][k]? = some u → (W.alloc (.cells #[.slice ro j rc] 22)).cell? ((⟨W.heap.size, 0, none⟩ : Addr).add k) = some u := by
    intro k u hk
    match k, hk with
    | 0, hk => simp at hk; subst hk; simp [Addr.add]
  have hone : ∀ u ∈ [Value.slice ro j rc], u.oneCell' = true := by intro u hu; simp at hu; subst hu; rfl
  obtain ⟨v', W', hr, o1, o2, _⟩ := run_append_own (P := Tryz.prog) (W.alloc (.cells #[.slice ro j rc] 22)) B 147 147 22 i0 (.slice none 0 0) 1 24 Tryz.underlying147 hii hz0 hz1 hz2 rfl (by decide) v j cs ho ⟨W.heap.size, 0, none⟩ 1 1 [.slice ro j rc] rfl hn hone (by unfold maxLen; omega) (by omega) (by simp; omega)
  have hat := append_where (P := Tryz.prog) (W.alloc (.cells #[.slice ro j rc] 22)) B 147 147 22 i0 (.slice none 0 0) 1 24 Tryz.underlying147 hii hz0 hz1 hz2 rfl (by decide) v j cs ho ⟨W.heap.size, 0, none⟩ 1 1 [.slice ro j rc] rfl hn hone (by unfold maxLen; omega) (by omega) v' W' hr
  have hsz : W.heap.size + 1 ≤ W'.heap.size := by have := o2.size; simpa using this
  have hg : W.grownBy W' v.ownBlock := ⟨o2.os, o2.tape, o2.output, by omega, fun k hk hn => by rw [o2.block k (by simp; omega) hn]; exact Below.heap_alloc _ _ _ (by omega)⟩
  have hk : Keeps v.ownBlock.toList W W' := ⟨hg.os, hg.tape, hg.output, hg.size, fun k hk hn => hg.block k hk (fun e => hn (by simp [← e]))⟩
  have hcl : cs.length = j := by have := h1.1; omega
  have hne : ∀ b, b < W.heap.size → some b ≠ v.ownBlock → some b ≠ v'.ownBlock := by
    intro b hb hn e
    rcases hat with h | ⟨g, h, hge⟩
    · rw [h] at e; exact hn e
    · rw [h] at e; cases e; simp at hge; omega
  have hki : ∀ {ro' : Option Addr} {m : List Int}, (∀ a, ro' = some a → some a.block ≠ v.ownBlock) → IntsAt W ro' m → IntsAt W' ro' m := fun hd hm => hm.keeps hk (fun g off he hm' => by
    have := hd _ he
    cases hv : v.ownBlock with
    | none => rw [hv] at hm'; simp at hm'
    | some y => rw [hv] at hm' this; simp at hm' this; exact this hm')
  refine ⟨v', W', hr, o1, ?_, hg⟩
  intro i hi'
  by_cases hlt : i < j
  · obtain ⟨ro', rc', e1, e2, e3⟩ := h2 i hlt
    exact ⟨ro', rc', by rw [List.getElem?_append_left (by omega)]; exact e1, hki (fun a ha => (e3 a ha).2.2) e2, fun a ha => ⟨(e3 a ha).1, by have := (e3 a ha).2.1; omega, hne _ (e3 a ha).2.1 (e3 a ha).2.2⟩⟩
  · obtain rfl : i = j := by omega
    have hd : ∀ a, ro = some a → some a.block ≠ v.ownBlock := fun a ha e => by have := h3 _ e.symm; have := (hro a ha).1; omega
    exact ⟨ro, rc, by rw [List.getElem?_append_right (by omega)]; simp [hcl], hki hd hi, fun a ha => ⟨by have := (hro a ha).1; omega, by have := (hro a ha).2; omega, hne _ (hro a ha).2 (hd a ha)⟩⟩

theorem predAt_of {W : World} {base g n cap : Nat} {cs : List Value} {l : List Int} (h1 : W.ownsRow base 22 1 (.slice (some ⟨g, 0, none⟩) n cap) n cs) (hn : n = l.length + 1) (h2 : RowsP base W (.slice (some ⟨g, 0, none⟩) n cap) cs l n) : PredAt W g l l.length := by
  refine ⟨(own_lt h1).2.1, fun j hj => ?_⟩
  obtain ⟨ro, rc, e1, e2, _⟩ := h2 j (by omega)
  have := h1.1
  have h3 := List.getElem?_eq_some_iff.1 e1
  refine ⟨ro, rc, ?_, e2⟩
  have := h1.cellAt j (by have := h3.1; omega)
  rw [this, e1]

/-- A predictor in new memory. -/
def PredNew (l : List Int) (w : World) (e : Ending) (w' : World) : Prop :=
  ∃ G cap, e = .returned (.slice (some ⟨G, 0, none⟩) (l.length + 1) cap) ∧ PredAt w' G l l.length ∧ w.heap.size ≤ G ∧ l.length + 1 ≤ cap ∧ Below w.heap.size w w'

set_option maxHeartbeats 3200000 in
theorem cPredictorOf (ao : Option Addr) (cap : Nat) (l : List Int) (w : World) (hgd : goodL l = true) (hi : IntsAt w ao l) :
    Calls Tryz.prog 134 #[.slice ao l.length cap] w (PredNew l w) := by
  have hl16 := good_len hgd
  obtain ⟨wa, hwa⟩ : ∃ wa, wa = w.alloc (.cells #[.slice none 0 0] 147) := ⟨_, rfl⟩
  have hba : Below w.heap.size w wa := by rw [hwa]; exact box_below _ _
  have hboxa : wa.heap[w.heap.size]? = some (.cells #[.slice none 0 0] 147) := by rw [hwa]; exact World.alloc_heap_new _ _
  have HST := Lib.hid (cSteps ao cap l wa hgd (hi.below hba))
  have HGD := Lib.hid hgd
  have hlta := (Array.getElem?_eq_some_iff.1 hboxa).1
  have HBA := Lib.hid hba
  clear hi hgd hba
  refine (callsIn_wide (n := 6)).1 ?_
  refine callsIn_of_wp_marks Tryz.func134 rfl trivial ?_ rfl
  simp only [Tryz.ntmps134, List.size_toArray, List.length_cons, List.length_nil, Nat.reduceAdd, Nat.reduceSub, Array.replicate_succ, Array.replicate_zero, List.push_toArray, List.append_toArray, List.nil_append, List.cons_append]
  gi_wp2_with fail
  rw [← hwa]
  refine ⟨trivial, (callsIn_wide.2 HST.out).mono ?_⟩
  rintro e w2 ⟨B, H, rfl, hS, hB, hH, hb2⟩
  have hbox : w2.heap[w.heap.size]? = some (.cells #[.slice none 0 0] 147) := (hb2.block _ hlta).trans hboxa
  have HB2 := Lib.hid (HBA.out.trans (hb2.mono HBA.out.size))
  have HS := Lib.hid hS
  have hBlt : B < w2.heap.size := (Array.getElem?_eq_some_iff.1 hS.box).1
  have hHlt := hS.lt
  clear hwa hboxa HST hS hb2 HBA
  generalize hB5 : w.heap.size = B5 at *
  gi_wp2_with fail
  refine range_told rfl (by omega) (gf := 143) (lb := #[.pointer (some ⟨B, 0, none⟩)]) rfl trivial (enters_of Tryz.func143 (by kernel_rfl) rfl) ?_
  intro r fn hfn hr
  have HRE := Lib.hid hr
  clear hr
  obtain ⟨W0, hW0⟩ : ∃ W0, (w2.alloc (.deferred (some []))).alloc (.loop (r .ready none)) = W0 := ⟨_, rfl⟩
  have hL0 : W0.heap[w2.heap.size + 1]? = some (.loop (r .ready none)) := by
    rw [← hW0]; have := World.alloc_heap_new (w2.alloc (.deferred (some []))) (.loop (r .ready none)); rwa [World.size_alloc] at this
  have hD0 : W0.heap[w2.heap.size]? = some (.deferred (some [])) := by
    rw [← hW0]; exact (Below.heap_alloc _ _ _ (by simp)).trans (World.alloc_heap_new w2 _)
  have hb0 : Below w2.heap.size w2 W0 := by rw [← hW0]; exact below2 w2 _ _
  have hz0 : W0.heap.size = w2.heap.size + 2 := by rw [← hW0]; simp
  rw [hW0]
  have hB5lt : B5 < w2.heap.size := (Array.getElem?_eq_some_iff.1 hbox).1
  have hS0 : StepsAt W0 B H l := ⟨(hb0.block _ hBlt).trans HS.out.box, HS.out.ints.below hb0, by omega⟩
  have hbox0 := (hb0.block _ hB5lt).trans hbox
  clear hW0
  refine (steps2_tellsO 5 B H (w2.heap.size + 1) l W0 [B5, w2.heap.size + 1] (PredIs W0 B5 (w2.heap.size + 1) w2.heap.size (r .ready none) l) (by omega) HGD.out hS0 (by simp; omega) (by simp; omega) (by simp; omega) (fun j Z A C hA hb => hA.below hb) ?rnd ?st).mono ?fin
  case st => exact ⟨hL0, hD0, ⟨.slice none 0 0, [], hbox0, World.ownsRow_nil _ _ _ _, fun i hi => by omega, fun g hg => by cases hg⟩, Keeps.refl _ _⟩
  case rnd =>
    intro j ao' cap' Z W1 hj hcap' hZ0 hZ1 hJ hi hF
    obtain ⟨v, cs, hbx, hown, hrows, hvZ⟩ := hJ.row
    refine round_told hfn HRE.out hJ.loop rfl ?_
    have hlt1 := (Array.getElem?_eq_some_iff.1 hJ.loop).1
    have hlt5 := (Array.getElem?_eq_some_iff.1 hbx).1
    have hq1 : (W1.putObj (w2.heap.size + 1) (.loop (r .busy none))).heap[B5]? = some (.cells #[v] 147) := (World.putObj_heap_other (by omega)).trans hbx
    have hq2 : (W1.putObj (w2.heap.size + 1) (.loop (r .busy none))).heap[w2.heap.size + 1]? = some (.loop (r .busy none)) := World.putObj_heap_same hlt1
    have hk1 := keeps_putObj W1 (w2.heap.size + 1) (.loop (r .busy none))
    have hs1 : (W1.putObj (w2.heap.size + 1) (.loop (r .busy none))).heap.size = W1.heap.size := by simp [World.putObj]
    generalize W1.putObj (w2.heap.size + 1) (.loop (r .busy none)) = W2 at hq1 hq2 hk1 hs1 ⊢
    obtain ⟨v', W3, hrun, hown3, hrows3, hgr3⟩ := push_row (rc := cap') (Z := Z) (by omega) (by omega) rfl (ownsRow_keeps hown hk1 (by simp; omega)) (hrows.keeps hk1 (by simp; omega)) hvZ (hi.keeps hk1 (fun g off he hg => by have := (hF _ he).1; simp at hg this; omega)) (fun a ha => ⟨(hF a ha).1, by have := (hF a ha).2; omega⟩) (by omega)
    obtain ⟨g', rcap, rfl⟩ : ∃ g cap, v' = .slice (some ⟨g, 0, none⟩) (j + 1) cap := by
      rcases hown3.2 with ⟨_, h2⟩ | ⟨g, cap, cur, h1, _⟩
      · omega
      · exact ⟨g, cap, h1⟩
    have hvb := own_block_lt hown
    have hne5 : some B5 ≠ v.ownBlock := fun e => by have := (hvb _ e.symm).1; omega
    have hneL : some (w2.heap.size + 1) ≠ v.ownBlock := fun e => by have := (hvb _ e.symm).1; omega
    have hq13 := (hgr3.block B5 (by omega) hne5).trans hq1
    have hq23 := (hgr3.block (w2.heap.size + 1) (by omega) hneL).trans hq2
    have kc0 := cell_of_heap hq1 0
    have kc := cell_of_heap hq13 0
    have kf := frozen_of_heap hq13 0
    simp only [List.getElem?_toArray, List.getElem?_cons_zero] at kc kc0
    have HEND : Hid ((fun W3 => W3.heap[w2.heap.size + 1]? = some (.loop (r .busy none)) ∧ PredIs W0 B5 (w2.heap.size + 1) w2.heap.size (r .ready none) l (j + 1) (W3.putObj (w2.heap.size + 1) (.loop (r .ready none))).heap.size (W3.putObj (w2.heap.size + 1) (.loop (r .ready none))) ∧ KeepsO [B5, w2.heap.size + 1] W0.heap.size Z W1 (W3.putObj (w2.heap.size + 1) (.loop (r .ready none)))) (W3.setCell ⟨B5, 0, none⟩ (.slice (some ⟨g', 0, none⟩) (j + 1) rcap))) := by
      have hk3 : Keeps [B5, w2.heap.size + 1] W3 ((W3.setCell ⟨B5, 0, none⟩ (.slice (some ⟨g', 0, none⟩) (j + 1) rcap)).putObj (w2.heap.size + 1) (.loop (r .ready none))) :=
        ((keeps_setCell W3 B5 0 _).wide (by simp)).trans ((keeps_putObj _ _ _).wide (by simp))
      have hsz3 : W2.heap.size ≤ W3.heap.size := hgr3.size
      have hl3 : (W3.setCell ⟨B5, 0, none⟩ (.slice (some ⟨g', 0, none⟩) (j + 1) rcap)).heap[w2.heap.size + 1]? = some (.loop (r .busy none)) := (Below.heap_setCell _ _ _ _ (by simp; omega)).trans hq23
      have hb3 : ((W3.setCell ⟨B5, 0, none⟩ (.slice (some ⟨g', 0, none⟩) (j + 1) rcap)).putObj (w2.heap.size + 1) (.loop (r .ready none))).heap[B5]? = some (.cells #[.slice (some ⟨g', 0, none⟩) (j + 1) rcap] 147) := (World.putObj_heap_other (by omega)).trans (box_set _ hq13)
      have hmk : (W3.setCell ⟨B5, 0, none⟩ (.slice (some ⟨g', 0, none⟩) (j + 1) rcap)).heap[w2.heap.size]? = some (.deferred (some [])) := by
        have e1 := hJ.mark
        have lt := (Array.getElem?_eq_some_iff.1 e1).1
        rw [Below.heap_setCell _ _ _ _ (by simp; omega), hgr3.block w2.heap.size (by omega) (fun e => by have := (hvb _ e.symm).1; omega), hk1.block w2.heap.size lt (by simp)]
        exact e1
      have hko : KeepsO [B5, w2.heap.size + 1] W0.heap.size Z W1 ((W3.setCell ⟨B5, 0, none⟩ (.slice (some ⟨g', 0, none⟩) (j + 1) rcap)).putObj (w2.heap.size + 1) (.loop (r .ready none))) := by
        refine ⟨by rw [hk3.os, hgr3.os, hk1.os], by rw [hk3.tape, hgr3.tape, hk1.tape], by rw [hk3.output, hgr3.output, hk1.output], by have := hk3.size; omega, fun k hk hn hbz => ?_⟩
        rw [hk3.block k (by omega) hn, hgr3.block k (by omega) (fun e => by have h1 := (hvb _ e.symm).1; have h2 := hvZ _ e.symm; omega), hk1.block k hk (fun hm => hn (by simp at hm; simp [hm]))]
      have hown5 := ownsRow_keeps hown3 hk3 (by simp; omega)
      refine ⟨hl3, ⟨World.putObj_heap_same (Array.getElem?_eq_some_iff.1 hl3).1, (World.putObj_heap_other (by omega)).trans hmk, ⟨_, _, hb3, hown5, hrows3.keeps hk3 (by simp; omega), fun g hg => (own_block_lt hown5 g hg).2⟩, hko.keeps hJ.keeps (Nat.le_refl _)⟩, hko⟩
    clear hs1 hk1 hJ hi hown hrows hown3 hrows3 hgr3 hvb hbx hq1 hq2 hq13 hq23 hne5 hneL hvZ
    gi_wp2_with (gi_at_builtin; refine wpListIn_append_run rfl _ _ 147 rfl _ _ _ _ rfl rfl hrun ?_)
    have h := HEND.out
    have e : ∀ (A : World) (o : Obj) (b : Nat), (A.putObj b o).heap.size = A.heap.size := fun A o b => by simp [World.putObj]
    rw [e, hz0] at h
    exact h
  case fin =>
    rintro e W3 ⟨⟨v, rfl⟩, hJ⟩
    obtain ⟨v3, cs3, hbx, hown3, hrows3, _⟩ := hJ.row
    have hend := run_endLoop (P := Tryz.prog) hJ.loop (by rw [HRE.out]; simp)
    have hpe : (r .ready none).pending = none := by rw [HRE.out]
    obtain ⟨X, hX⟩ : ∃ X : Loop, X = { r .ready none with state := .exhausted } := ⟨_, rfl⟩
    rw [← hX, hpe] at hend
    clear hX hpe
    refine ⟨none, _, hend, ?_⟩
    have hk4 := keeps_putObj W3 (w2.heap.size + 1) (.loop X)
    have hb4 : (W3.putObj (w2.heap.size + 1) (.loop X)).heap[B5]? = _ := (World.putObj_heap_other (by omega)).trans hbx
    have hD4 : (W3.putObj (w2.heap.size + 1) (.loop X)).heap[w2.heap.size]? = some (.deferred (some [])) := (World.putObj_heap_other (by omega)).trans hJ.mark
    have hown4 := ownsRow_keeps hown3 hk4 (by simp; omega)
    have hrows4 := hrows3.keeps hk4 (by simp; omega)
    have hk04 : Keeps [B5, w2.heap.size + 1] W0 _ := hJ.keeps.trans (hk4.wide (by simp))
    generalize W3.putObj (w2.heap.size + 1) (.loop X) = W4 at hb4 hD4 hown4 hrows4 hk04 hk4 hend ⊢
    have hk5 := keeps_putObj W4 w2.heap.size (.deferred none)
    have hown5 := ownsRow_keeps hown4 hk5 (by simp; omega)
    have hrows5 := hrows4.keeps hk5 (by simp; omega)
    obtain ⟨g3, cap3, rfl⟩ : ∃ g cap, v3 = .slice (some ⟨g, 0, none⟩) (l.length + 1) cap := by
      rcases hown4.2 with ⟨_, h2⟩ | ⟨g, cap, cur, h1, _⟩
      · omega
      · exact ⟨g, cap, h1⟩
    have HF : Hid (PredNew l w (.returned (.slice (some ⟨g3, 0, none⟩) (l.length + 1) cap3)) (W4.putObj w2.heap.size (.deferred none))) := by
      have ho := own_lt hown5
      refine ⟨g3, cap3, rfl, predAt_of hown5 rfl hrows5, by omega, ho.2.2.1, ?_⟩
      have h5 : Keeps [B5, w2.heap.size + 1, w2.heap.size] W0 (W4.putObj w2.heap.size (.deferred none)) := (hk04.wide (by simp)).trans (hk5.wide (by simp))
      rw [hB5]
      exact HB2.out.trans ((hb0.mono (by omega)).trans (h5.below (by omega) (by simp; omega)))
    have kc := cell_of_heap hb4 0
    simp only [List.getElem?_toArray, List.getElem?_cons_zero] at kc
    clear hk04 hk4 hb4 hJ hown3 hrows3 hown4 hrows4 hk5 hown5 hrows5 hbx
    gi_wp2
    refine ⟨by simp, .inl ⟨_, _, rfl, run_takeDeferred hD4, ?_⟩⟩
    refine ⟨_, results_tmp rfl _ _ _, ?_⟩
    exact HF.out
end Go.Proofs.YtefbakhhlonafaaGreat.Fx
end
