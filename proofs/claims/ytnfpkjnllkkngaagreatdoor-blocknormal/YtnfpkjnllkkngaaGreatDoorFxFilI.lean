import Derived.Test.YtnfpkjnllkkngaaGreatDoorFxFilC1

section
namespace Go.Proofs.YtnfpkjnllkkngaaGreatDoor.Fx
open Go.RowKit Go.Proofs Go.Proofs.PipeA Go.Proofs.LatM Go.Proofs.FilM
set_option maxRecDepth 100000

/-- A predictor: the coefficients behind each number of first indices, up to m. -/
structure PredAt (w : World) (G : Nat) (l : List Int) (m : Nat) : Prop where
  lt : G < w.heap.size
  row : ∀ j, j ≤ m → ∃ ao cap, w.cell? ⟨G, j, none⟩ = some (.slice ao j cap) ∧ IntsAt w ao (cf l j)
theorem PredAt.below {w w' : World} {G : Nat} {l : List Int} {m : Nat} (h : PredAt w G l m) (hb : Below w.heap.size w w') : PredAt w' G l m :=
  ⟨Nat.lt_of_lt_of_le h.lt hb.size, fun j hj => by
    obtain ⟨ao, cap, h1, h2⟩ := h.row j hj
    exact ⟨ao, cap, (hb.cell (p := ⟨G, j, none⟩) h.lt).trans h1, h2.below hb⟩⟩
theorem PredAt.less {w : World} {G : Nat} {l : List Int} {m n : Nat} (h : PredAt w G l m) (hn : n ≤ m) : PredAt w G l n := ⟨h.lt, fun j hj => h.row j (by omega)⟩
/-- What a predictor of the first m indices foresees. -/
def foreM (l : List Int) (m : Nat) (p : List Int) : Int := pred (cf l (min p.length m)) p
theorem foreM_all {l : List Int} (p : List Int) : foreM l l.length p = fore l p := by unfold foreM fore; rw [Nat.min_comm]
set_option maxHeartbeats 1600000 in
theorem cForeseen (G pcap m : Nat) (ao : Option Addr) (cap : Nat) (l p : List Int) (w : World) (hg : goodL l = true) (hm : m ≤ 16) (hpl : p.length ≤ 100000000) (hp : ∀ y ∈ p, -67108865 ≤ y ∧ y ≤ 67108864) (hP : PredAt w G l m) (hi : IntsAt w ao p) :
    Calls Tryz.prog 89 #[.slice (some ⟨G, 0, none⟩) (m + 1) pcap, .slice ao p.length cap] w fun e w' => e = .returned (.int .i64 (foreM l m p)) ∧ ∃ k, w' = w.drewN k := by
  obtain ⟨q, hq⟩ : ∃ q, q = min p.length m := ⟨_, rfl⟩
  obtain ⟨co, ccap, hc, hci⟩ := hP.row q (by omega)
  have HC : Hid (Calls Tryz.prog 111 #[.slice co q ccap, .slice ao p.length cap] w fun e w' => e = .returned (.int .i64 (foreM l m p)) ∧ ∃ k, w' = w.drewN k) := by
    have := cPredictP co ao ccap cap (cf l q) p w ⟨by rw [cf_length]; omega, hpl, prod_small hg (by omega) hp⟩ hci hi
    rw [cf_length] at this
    unfold foreM
    rw [← hq]
    exact this
  generalize foreM l m p = r at HC
  have e1 : ((m + 1 : Nat) : Int) - 1 = (m : Int) := by omega
  clear hP hi hci hp hg
  rcases Nat.lt_or_ge m p.length with h | h
  · obtain rfl : q = m := by omega
    clear hq
    go_enter Tryz.func89, Tryz.ntmps89
    go_wp2_with fail
    refine HC.out.mono ?_
    rintro e w1 ⟨rfl, hk⟩
    go_wp2
    go_ret
    exact ⟨rfl, hk⟩
  · obtain rfl : q = p.length := by omega
    clear hq
    go_enter Tryz.func89, Tryz.ntmps89
    go_wp2_with fail
    refine HC.out.mono ?_
    rintro e w1 ⟨rfl, hk⟩
    go_wp2
    go_ret
    exact ⟨rfl, hk⟩

/-- A course: a predictor, and samples. -/
def courseV (G pcap m : Nat) (ao : Option Addr) (n cap : Nat) : Value := .agg #[.slice (some ⟨G, 0, none⟩) (m + 1) pcap, .slice ao n cap]
theorem IntsAt.take {w : World} {ao : Option Addr} {l : List Int} (h : IntsAt w ao l) (n : Nat) : IntsAt w ao (l.take n) := by
  intro j hj
  rw [List.length_take] at hj
  obtain ⟨b, off, h1, h2, h3⟩ := h j (by omega)
  exact ⟨b, off, h1, h2, by rw [h3, List.getElem_take]⟩
theorem cut_left (b off len cap hi : Nat) (h2 : hi ≤ cap) (W : World) :
    (Instr.slice 22 (.slice (some ⟨b, off, none⟩) len cap) none (some (.int .i64 (hi : Int))) none).run Tryz.prog W = .ok (.slice (some ⟨b, off, none⟩) hi cap) W := by
  simp [Instr.slice, run_underlying Tryz.underlying22, Instr.sliceBounds, Instr.sliceBound, asIntOf, h2, Addr.add_lit]

set_option maxHeartbeats 1600000 in
theorem cUnforeseen (G pcap m : Nat) (ao : Option Addr) (cap i : Nat) (l xs : List Int) (w : World) (hg : goodL l = true) (hm : m ≤ 16) (hn : i < xs.length) (hpl : xs.length ≤ 100000000) (hcap : xs.length ≤ cap) (hs : xs.all isS = true) (hP : PredAt w G l m) (hi : IntsAt w ao xs) :
    Calls Tryz.prog 71 #[courseV G pcap m ao xs.length cap, .int .i64 (i : Int)] w fun e w' => e = .returned (.int .i64 (xs[i] - foreM l m (xs.take i))) ∧ Below w.heap.size w w' := by
  unfold courseV
  obtain ⟨wa, hwa⟩ : ∃ wa, wa = w.alloc (.cells #[.slice (some ⟨G, 0, none⟩) (m + 1) pcap, .slice ao xs.length cap] 100) := ⟨_, rfl⟩
  have hba : Below w.heap.size w wa := by rw [hwa]; exact box_below _ _
  have hk : ∀ y ∈ xs.take i, -67108865 ≤ y ∧ y ≤ 67108864 := fun y hy => by have := all_S hs y (List.mem_of_mem_take hy); omega
  have HC : Hid (∀ k, Calls Tryz.prog 89 #[.slice (some ⟨G, 0, none⟩) (m + 1) pcap, .slice ao i cap] (wa.drewN k) fun e w' => e = .returned (.int .i64 (foreM l m (xs.take i))) ∧ ∃ j, w' = (wa.drewN k).drewN j) := fun k => by
    have := cForeseen G pcap m ao cap l (xs.take i) (wa.drewN k) hg hm (by rw [List.length_take]; omega) hk (hP.below (below_drewN hba k)) ((hi.below (below_drewN hba k)).take i)
    rwa [List.length_take, Nat.min_eq_left (by omega)] at this
  have hfb : -100000000000000 ≤ foreM l m (xs.take i) ∧ foreM l m (xs.take i) ≤ 100000000000000 := pred_bound hg (by omega) hk
  have hxb := all_S hs _ (List.getElem_mem hn)
  obtain ⟨b, off, rfl, hb, hcell⟩ := hi i hn
  have hcut := cut_left b off xs.length cap i (by omega)
  have kx := (hba.cell (p := ⟨b, off + i, none⟩) hb).trans hcell
  have k0 : wa.cell? ⟨w.heap.size, 0, none⟩ = some (.slice (some ⟨G, 0, none⟩) (m + 1) pcap) := by rw [hwa]; simp
  have k1 : wa.cell? ⟨w.heap.size, 1, none⟩ = some (.slice (some ⟨b, off, none⟩) xs.length cap) := by rw [hwa]; simp
  have hii : (i : Int) < (xs.length : Int) := by omega
  generalize foreM l m (xs.take i) = r at HC hfb ⊢
  generalize xs[i] = x at kx hxb ⊢
  have HBA := Lib.hid hba
  clear hP hi hcell hs hk hb hba hg
  generalize xs.length = n at *
  go_enter Tryz.func71, Tryz.ntmps71
  go_wp2
  rw [← hwa]
  clear hwa
  go_quiet ((go_at_call 89; exact quiet_drew (HC.out _)))
  go_wp2
  go_ret
  exact ⟨by go_num, below_drewN HBA.out _⟩
end Go.Proofs.YtnfpkjnllkkngaaGreatDoor.Fx
end

section
namespace Go.Proofs.YtnfpkjnllkkngaaGreatDoor.Fx
open Go.RowKit Go.Shelf Go.Proofs Go.Proofs.PipeA Go.Proofs.LatM
set_option maxRecDepth 100000

attribute [local go_sem] Oper.semAt_some

/-- Nothing has turned but blocks of a list, and such as lie from B on and below Z. -/
structure KeepsO (bs : List Nat) (B Z : Nat) (w w' : World) : Prop where
  os : w'.os = w.os
  tape : w'.tape = w.tape
  output : w'.output = w.output
  size : w.heap.size ≤ w'.heap.size
  block : ∀ k, k < w.heap.size → k ∉ bs → (k < B ∨ Z ≤ k) → w'.heap[k]? = w.heap[k]?
theorem KeepsO.keeps {bs : List Nat} {B Z : Nat} {W a b : World} (h : KeepsO bs B Z a b) (hk : Keeps bs W a) (hB : W.heap.size ≤ B) : Keeps bs W b :=
  ⟨h.os.trans hk.os, h.tape.trans hk.tape, h.output.trans hk.output, Nat.le_trans hk.size h.size, fun k hlt hn => (h.block k (Nat.lt_of_lt_of_le hlt hk.size) hn (.inl (by omega))).trans (hk.block k hlt hn)⟩
theorem KeepsO.ints {bs : List Nat} {B Z H : Nat} {a b : World} {l : List Int} (h : KeepsO bs B Z a b) (hn : H ∉ bs) (hz : Z ≤ H) (hi : IntsAt a (some ⟨H, 0, none⟩) l) : IntsAt b (some ⟨H, 0, none⟩) l := by
  intro j hj
  obtain ⟨g, off, he, hlt, hc⟩ := hi j hj
  cases he
  exact ⟨H, 0, rfl, Nat.lt_of_lt_of_le hlt h.size, by rw [← hc]; exact World.cell?_of_block (a := ⟨H, 0 + j, none⟩) (h.block H hlt hn (.inr hz))⟩

/-- append in a fence, where it is known what it makes. -/
theorem wpListIn_append_run {F : Fence} {n : Nat} {P : Program} {w : World} {ops : Array Oper} {rest : List Oper} {o : Oper} {a : Act} {Q : Exit → Act → World → Prop} (hgd : o.guard = none) (s x : Operand) (t : TypeId)
    (ho : o.op = .call { callee := .builtin .append, args := #[s, x], argTypes := #[t, t] }) (v y v' : Value) (w' : World) (hs : a.eval s = v) (hx : a.eval x = y)
    (hr : (Builtin.append_ #[t, t] o.type #[v, y]).run P w = .ok v' w') (h : wpListIn F n P ops Q rest (a.put o.dst v') w') : wpListIn F n P ops Q (o :: rest) a w := by
  refine wpListIn_plain hgd fun K hK => ?_
  unfold Oper.wpIn
  refine ⟨?_, ?_⟩
  · simp [Oper.about, ho, resolve, Target.leads, Sem.run_pure]
  · rw [Oper.semAt_plain F _ _ (by rw [ho]; intro c hc'; cases hc')]
    simp [execOp, ho, resolve, invoke, builtin, hs, hx, hr, Result.andThen]
    exact hK _ _ h

/-- Where a slice that was just told lies. -/
def Lies (Z S : Nat) (ao : Option Addr) : Prop := ∀ a, ao = some a → Z ≤ a.block ∧ a.block < S

set_option maxHeartbeats 3200000 in
theorem steps2_tellsO (n B H l0 : Nat) (l : List Int) (W : World) (bs : List Nat) (J : Nat → Nat → World → Prop) (hn : 3 ≤ n) (hgd : goodL l = true) (hS : StepsAt W B H l) (hB : B ∉ bs) (hH : H ∉ bs) (hbs : ∀ x ∈ bs, x < W.heap.size)
    (hJ : ∀ j Z A C, J j Z A → Below A.heap.size A C → J j Z C)
    (hY : ∀ (j : Nat) ao cap Z W1, j ≤ l.length → j ≤ cap → W.heap.size ≤ Z → Z ≤ W1.heap.size → J j Z W1 → IntsAt W1 ao (cf l j) → Lies Z W1.heap.size ao → YieldAt Fence.wide (n - 1) Tryz.prog l0 #[.int .i64 (j : Int), .slice ao j cap] W1 fun e W' => e = .returned (.bool true) ∧ J (j + 1) W'.heap.size W' ∧ KeepsO bs W.heap.size Z W1 W')
    (h0 : J 0 W.heap.size W) :
    CallsIn Fence.wide n Tryz.prog 109 #[.func (.yield l0) #[] #[], .pointer (some ⟨B, 0, none⟩)] W fun e W' => (∃ v, e = .returned v) ∧ J (l.length + 1) W'.heap.size W' := by
  have hl16 := good_len hgd
  obtain ⟨fn, tmps, assign, body, hy, hR⟩ := hY 0 none 0 W.heap.size W (Nat.zero_le _) (Nat.le_refl _) (Nat.le_refl _) (Nat.le_refl _) h0 (fun j hj => by simp [cf] at hj) (fun a e => by cases e)
  have HR := Lib.hid hR
  have HJ := Lib.hid hJ
  have HY := Lib.hid hY
  have HS := Lib.hid hS
  have HGD := Lib.hid hgd
  have HBS := Lib.hid hbs
  have HBN := Lib.hid hB
  have HHN := Lib.hid hH
  have hBlt : B < W.heap.size := (Array.getElem?_eq_some_iff.1 hS.box).1
  have hHlt := hS.lt
  rw [show ((0 : Nat) : Int) = 0 from rfl] at hy
  clear hR hJ hY hS hgd hbs hB hH h0
  refine callsIn_of_wp Tryz.func109 rfl trivial ?_ rfl
  simp only [Tryz.ntmps109, List.size_toArray, List.length_cons, List.length_nil, Nat.reduceAdd, Nat.reduceSub, Array.replicate_succ, Array.replicate_zero, List.push_toArray, List.append_toArray, List.nil_append, List.cons_append]
  gi_wp2_with fail
  refine ⟨fun _ => by omega, HR.out.mono ?_⟩
  rintro e W1 ⟨rfl, hJ1, hk1o⟩
  have hk1 : Keeps bs W W1 := hk1o.keeps (Keeps.refl _ _) (Nat.le_refl _)
  have HJ1 := Lib.hid hJ1
  have HK1 := Lib.hid hk1
  have e0 : W1.cell? ⟨B, 0, none⟩ = some (.slice (some ⟨H, 0, none⟩) l.length l.length) := by
    rw [hk1.cell (p := ⟨B, 0, none⟩) hBlt HBN.out, cell_of_heap HS.out.box]; rfl
  clear hJ1 hk1 hk1o hy HR
  gi_wp2
  gi_loopw [3, 4, 5, 11] (fun vc q4 q5 i wr => ∃ (c ccap : Nat) (co : Option Addr), c ≤ l.length ∧ i = .int .i64 c ∧ vc = .slice co c ccap ∧ Hid (IntsAt wr co (cf l c)) ∧ Hid (J (c + 1) wr.heap.size wr) ∧ Hid (Keeps bs W wr))
    (fun _ _ _ i _ => l.length - (intOf i).toNat)
  case atStart => exact ⟨0, 0, none, Nat.zero_le _, rfl, rfl, (fun j hj => by simp [cf] at hj), HJ1, HK1⟩
  case round =>
    clear HJ1 HK1 e0
    obtain ⟨c, ccap, co, hc, rfl, rfl, HIC, HJ1, HK1⟩ := hrel
    by_cases hlt : c < l.length
    · have hltR : c < (reflV l).length := by rw [reflV_length]; exact hlt
      obtain ⟨g', off', hge, _, hcell⟩ := HS.out.ints c hltR
      simp only [Option.some.injEq, Addr.mk.injEq, and_true] at hge
      obtain ⟨rfl, rfl⟩ := hge
      rw [Nat.zero_add] at hcell
      have k1 : wr.cell? ⟨H, c, none⟩ = some (.int .i64 (reflV l)[c]) := (HK1.out.cell (p := ⟨H, c, none⟩) hHlt HHN.out).trans hcell
      have hkb := refl_in HGD.out hlt
      have HSU := Lib.hid (cf_succ hlt)
      have hlen := cf_length l c
      have HBE : Hid (∀ W, IntsAt W co (cf l c) → Calls Tryz.prog 110 #[.slice co c ccap, .int .i64 (reflV l)[c]] W (NewIs (cf l (c + 1)) W)) := fun W hW => by
        have := cBehind co ccap (cf l c) (reflV l)[c] W (by omega) (cf_b30 HGD.out (by omega)) hkb hW
        rw [hlen] at this
        rw [HSU.out]
        exact this
      generalize (reflV l)[c] = k at k1 HBE
      clear hcell hkb HSU hlen hltR
      gi_wp2_with fail
      refine ⟨trivial, fun _ => by omega, (callsIn_wide.2 (HBE.out wr HIC.out)).mono ?_⟩
      rintro e w2 ⟨H2, rfl, hi2, hH2, hlt2, hb2⟩
      rw [cf_length]
      have HI2 := Lib.hid hi2
      have HCL : Hid (Calls Tryz.prog 21 #[.slice (some ⟨H2, 0, none⟩) (c + 1) (c + 1)] w2 (CopyIs (cf l (c + 1)) w2)) := by
        have := cClone ⟨H2, 0, none⟩ (c + 1) (cf l (c + 1)) w2 (by rw [cf_length]; omega) hi2
        rw [cf_length] at this
        exact this
      have HJ2 := Lib.hid (HJ.out _ _ _ _ HJ1.out hb2)
      have HK2 := Lib.hid (HK1.out.trans (keeps_of_below hb2 bs))
      have hsz : W.heap.size ≤ wr.heap.size := HK1.out.size
      have hsz2 := hb2.size
      clear hi2 hb2 k1 HBE HIC HJ1 HK1
      gi_wp2_with fail
      refine ⟨trivial, fun _ => by omega, (callsIn_wide.2 HCL.out).mono ?_⟩
      rintro e w3 ⟨H3, cap3, rfl, hi3, _, hcap3, hH3, hlt3, hb3⟩
      rw [cf_length] at hcap3 ⊢
      obtain ⟨fn, tmps, assign, body, hy, hR⟩ := HY.out (c + 1) (some ⟨H3, 0, none⟩) cap3 wr.heap.size w3 (by omega) hcap3 hsz (by have := hb3.size; omega) (HJ.out _ _ _ _ HJ2.out hb3) hi3 (fun a e => by cases e; show wr.heap.size ≤ H3 ∧ H3 < w3.heap.size; omega)
      have HR := Lib.hid hR
      have HI3 := Lib.hid (HI2.out.below hb3)
      have HK3 := Lib.hid (HK2.out.trans (keeps_of_below hb3 bs))
      rw [show ((c + 1 : Nat) : Int) = (c : Int) + 1 from rfl] at hy
      clear hR hi3 hb3 hcap3 HCL HJ2 HK2 HI2
      gi_wp2_with fail
      refine ⟨fun _ => by omega, HR.out.mono ?_⟩
      rintro e W4 ⟨rfl, hJ4, hk4⟩
      have HJ4 := Lib.hid hJ4
      have HK4 := Lib.hid (hk4.keeps HK3.out (Nat.le_refl _))
      have HI4 := Lib.hid (hk4.ints (H := H2) (fun hm => by have := HBS.out _ hm; omega) hH2 HI3.out)
      clear hJ4 hk4 hy HI3 HK3
      gi_wp2
      go_roundw
      case rel => exact ⟨c + 1, c + 1, _, by omega, by go_num, rfl, HI4, HJ4, HK4⟩
      case measure => simp [intOf]; omega
    · obtain rfl : c = l.length := by omega
      gi_wp2
      go_end0
      exact ⟨⟨_, rfl⟩, HJ1.out⟩
end Go.Proofs.YtnfpkjnllkkngaaGreatDoor.Fx
end
