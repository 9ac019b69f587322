import Derived.Test.YtefbakhhlonafaaFxFilC2

namespace Go.Proofs.Ytefbakhhlonafaa.Fx
open Go.RowKit Go.Shelf Go.Proofs Go.Proofs.PipeA Go.Proofs.LatM
set_option maxRecDepth 100000

attribute [local go_sem] Oper.semAt_some

/-- Nothing has turned but blocks of a list, and such as lie from B on and below Z. -/
structure KeepsO (bs : List Nat) (B Z : Nat) (w w' : World) : Prop where
  os : w'.os = w.os
  tape : w'.tape = w.tape
  output : w'.output = w.output
  size : w.heap.size ≤ w'.heap.size
  block : ∀ k, k < w.heap.size → k ∉ bs → (k < B ∨ Z ≤ k) → w'.heap[k]? = w.heap[k]?
theorem KeepsO.keeps {bs : List Nat} {B Z : Nat} {W a b : World} (h : KeepsO bs B Z a b) (hk : Keeps bs W a) (hB : W.heap.size ≤ B) : Keeps bs W b :=
  ⟨h.os.trans hk.os, h.tape.trans hk.tape, h.output.trans hk.output, Nat.le_trans hk.size h.size, fun k hlt hn => (h.block k (Nat.lt_of_lt_of_le hlt hk.size) hn (.inl (by omega))).trans (hk.block k hlt hn)⟩
theorem KeepsO.ints {bs : List Nat} {B Z H : Nat} {a b : World} {l : List Int} (h : KeepsO bs B Z a b) (hn : H ∉ bs) (hz : Z ≤ H) (hi : IntsAt a (some ⟨H, 0, none⟩) l) : IntsAt b (some ⟨H, 0, none⟩) l := by
  intro j hj
  obtain ⟨g, off, he, hlt, hc⟩ := hi j hj
  cases he
  exact ⟨H, 0, rfl, Nat.lt_of_lt_of_le hlt h.size, by rw [← hc]; exact World.cell?_of_block (a := ⟨H, 0 + j, none⟩) (h.block H hlt hn (.inr hz))⟩

/-- append in a fence, where it is known what it makes. -/
theorem wpListIn_append_run {F : Fence} {n : Nat} {P : Program} {w : World} {ops : Array Oper} {rest : List Oper} {o : Oper} {a : Act} {Q : Exit → Act → World → Prop} (hgd : o.guard = none) (s x : Operand) (t : TypeId)
    (ho : o.op = .call { callee := .builtin .append, args := #[s, x], argTypes := #[t, t] }) (v y v' : Value) (w' : World) (hs : a.eval s = v) (hx : a.eval x = y)
    (hr : (Builtin.append_ #[t, t] o.type #[v, y]).run P w = .ok v' w') (h : wpListIn F n P ops Q rest (a.put o.dst v') w') : wpListIn F n P ops Q (o :: rest) a w := by
  refine wpListIn_plain hgd fun K hK => ?_
  unfold Oper.wpIn
  refine ⟨?_, ?_⟩
  · simp [Oper.about, ho, resolve, Target.leads, Sem.run_pure]
  · rw [Oper.semAt_plain F _ _ (by rw [ho]; intro c hc'; cases hc')]
    simp [execOp, ho, resolve, invoke, builtin, hs, hx, hr, Result.andThen]
    exact hK _ _ h

/-- Where a slice that was just told lies. -/
def Lies (Z S : Nat) (ao : Option Addr) : Prop := ∀ a, ao = some a → Z ≤ a.block ∧ a.block < S

set_option maxHeartbeats 3200000 in
theorem steps2_tellsO (n B H l0 : Nat) (l : List Int) (W : World) (bs : List Nat) (J : Nat → Nat → World → Prop) (hn : 3 ≤ n) (hgd : goodL l = true) (hS : StepsAt W B H l) (hB : B ∉ bs) (hH : H ∉ bs) (hbs : ∀ x ∈ bs, x < W.heap.size)
    (hJ : ∀ j Z A C, J j Z A → Below A.heap.size A C → J j Z C)
    (hY : ∀ (j : Nat) ao cap Z W1, j ≤ l.length → j ≤ cap → W.heap.size ≤ Z → Z ≤ W1.heap.size → J j Z W1 → IntsAt W1 ao (cf l j) → Lies Z W1.heap.size ao → YieldAt Fence.wide (n - 1) Try.prog l0 #[.int .i64 (j : Int), .slice ao j cap] W1 fun e W' => e = .returned (.bool true) ∧ J (j + 1) W'.heap.size W' ∧ KeepsO bs W.heap.size Z W1 W')
    (h0 : J 0 W.heap.size W) :
    CallsIn Fence.wide n Try.prog 107 #[.func (.yield l0) #[] #[], .pointer (some ⟨B, 0, none⟩)] W fun e W' => (∃ v, e = .returned v) ∧ J (l.length + 1) W'.heap.size W' := by
  have hl16 := good_len hgd
  obtain ⟨fn, tmps, assign, body, hy, hR⟩ := hY 0 none 0 W.heap.size W (Nat.zero_le _) (Nat.le_refl _) (Nat.le_refl _) (Nat.le_refl _) h0 (fun j hj => by simp [cf] at hj) (fun a e => by cases e)
  have HR := Lib.hid hR
  have HJ := Lib.hid hJ
  have HY := Lib.hid hY
  have HS := Lib.hid hS
  have HGD := Lib.hid hgd
  have HBS := Lib.hid hbs
  have HBN := Lib.hid hB
  have HHN := Lib.hid hH
  have hBlt : B < W.heap.size := (Array.getElem?_eq_some_iff.1 hS.box).1
  have hHlt := hS.lt
  rw [show ((0 : Nat) : Int) = 0 from rfl] at hy
  clear hR hJ hY hS hgd hbs hB hH h0
  refine callsIn_of_wp Try.func107 rfl trivial ?_ rfl
  simp only [Try.ntmps107, List.size_toArray, List.length_cons, List.length_nil, Nat.reduceAdd, Nat.reduceSub, Array.replicate_succ, Array.replicate_zero, List.push_toArray, List.append_toArray, List.nil_append, List.cons_append]
  gi_wp2_with fail
  refine ⟨fun _ => by omega, HR.out.mono ?_⟩
  rintro e W1 ⟨rfl, hJ1, hk1o⟩
  have hk1 : Keeps bs W W1 := hk1o.keeps (Keeps.refl _ _) (Nat.le_refl _)
  have HJ1 := Lib.hid hJ1
  have HK1 := Lib.hid hk1
  have e0 : W1.cell? ⟨B, 0, none⟩ = some (.slice (some ⟨H, 0, none⟩) l.length l.length) := by
    rw [hk1.cell (p := ⟨B, 0, none⟩) hBlt HBN.out, cell_of_heap HS.out.box]; rfl
  clear hJ1 hk1 hk1o hy HR
  gi_wp2
  gi_loopw [3, 4, 5, 11] (fun vc q4 q5 i wr => ∃ (c ccap : Nat) (co : Option Addr), c ≤ l.length ∧ i = .int .i64 c ∧ vc = .slice co c ccap ∧ Hid (IntsAt wr co (cf l c)) ∧ Hid (J (c + 1) wr.heap.size wr) ∧ Hid (Keeps bs W wr))
    (fun _ _ _ i _ => l.length - (intOf i).toNat)
  case atStart => exact ⟨0, 0, none, Nat.zero_le _, rfl, rfl, (fun j hj => by simp [cf] at hj), HJ1, HK1⟩
  case round =>
    clear HJ1 HK1 e0
    obtain ⟨c, ccap, co, hc, rfl, rfl, HIC, HJ1, HK1⟩ := hrel
    by_cases hlt : c < l.length
    · have hltR : c < (reflV l).length := by rw [reflV_length]; exact hlt
      obtain ⟨g', off', hge, _, hcell⟩ := HS.out.ints c hltR
      simp only [Option.some.injEq, Addr.mk.injEq, and_true] at hge
      obtain ⟨rfl, rfl⟩ := hge
      rw [Nat.zero_add] at hcell
      have k1 : wr.cell? ⟨H, c, none⟩ = some (.int .i64 (reflV l)[c]) := (HK1.out.cell (p := ⟨H, c, none⟩) hHlt HHN.out).trans hcell
      have hkb := refl_in HGD.out hlt
      have HSU := Lib.hid (cf_succ hlt)
      have hlen := cf_length l c
      have HBE : Hid (∀ W, IntsAt W co (cf l c) → Calls Try.prog 108 #[.slice co c ccap, .int .i64 (reflV l)[c]] W (NewIs (cf l (c + 1)) W)) := fun W hW => by
        have := cBehind co ccap (cf l c) (reflV l)[c] W (by omega) (cf_b30 HGD.out (by omega)) hkb hW
        rw [hlen] at this
        rw [HSU.out]
        exact this
      generalize (reflV l)[c] = k at k1 HBE
      clear hcell hkb HSU hlen hltR
      gi_wp2_with fail
      refine ⟨trivial, fun _ => by omega, (callsIn_wide.2 (HBE.out wr HIC.out)).mono ?_⟩
      rintro e w2 ⟨H2, rfl, hi2, hH2, hlt2, hb2⟩
      rw [cf_length]
      have HI2 := Lib.hid hi2
      have HCL : Hid (Calls Try.prog 28 #[.slice (some ⟨H2, 0, none⟩) (c + 1) (c + 1)] w2 (CopyIs (cf l (c + 1)) w2)) := by
        have := cClone ⟨H2, 0, none⟩ (c + 1) (cf l (c + 1)) w2 (by rw [cf_length]; omega) hi2
        rw [cf_length] at this
        exact this
      have HJ2 := Lib.hid (HJ.out _ _ _ _ HJ1.out hb2)
      have HK2 := Lib.hid (HK1.out.trans (keeps_of_below hb2 bs))
      have hsz : W.heap.size ≤ wr.heap.size := HK1.out.size
      have hsz2 := hb2.size
      clear hi2 hb2 k1 HBE HIC HJ1 HK1
      gi_wp2_with fail
      refine ⟨trivial, fun _ => by omega, (callsIn_wide.2 HCL.out).mono ?_⟩
      rintro e w3 ⟨H3, cap3, rfl, hi3, _, hcap3, hH3, hlt3, hb3⟩
      rw [cf_length] at hcap3 ⊢
      obtain ⟨fn, tmps, assign, body, hy, hR⟩ := HY.out (c + 1) (some ⟨H3, 0, none⟩) cap3 wr.heap.size w3 (by omega) hcap3 hsz (by have := hb3.size; omega) (HJ.out _ _ _ _ HJ2.out hb3) hi3 (fun a e => by cases e; show wr.heap.size ≤ H3 ∧ H3 < w3.heap.size; omega)
      have HR := Lib.hid hR
      have HI3 := Lib.hid (HI2.out.below hb3)
      have HK3 := Lib.hid (HK2.out.trans (keeps_of_below hb3 bs))
      rw [show ((c + 1 : Nat) : Int) = (c : Int) + 1 from rfl] at hy
      clear hR hi3 hb3 hcap3 HCL HJ2 HK2 HI2
      gi_wp2_with fail
      refine ⟨fun _ => by omega, HR.out.mono ?_⟩
      rintro e W4 ⟨rfl, hJ4, hk4⟩
      have HJ4 := Lib.hid hJ4
      have HK4 := Lib.hid (hk4.keeps HK3.out (Nat.le_refl _))
      have HI4 := Lib.hid (hk4.ints (H := H2) (fun hm => by have := HBS.out _ hm; omega) hH2 HI3.out)
      clear hJ4 hk4 hy HI3 HK3
      gi_wp2
      go_roundw
      case rel => exact ⟨c + 1, c + 1, _, by omega, by go_num, rfl, HI4, HJ4, HK4⟩
      case measure => simp [intOf]; omega
    · obtain rfl : c = l.length := by omega
      gi_wp2
      go_end0
      exact ⟨⟨_, rfl⟩, HJ1.out⟩
end Go.Proofs.Ytefbakhhlonafaa.Fx
