import Derived.Test.YtcgkalfclammfaaFilC1
namespace Go.Proofs.Ytcgkalfclammfaa
open Go.RowKit Go.Proofs Go.Proofs.PipeA Go.Proofs.LatM Go.Proofs.FilM
set_option maxRecDepth 100000

/-- A predictor: the coefficients behind each number of first indices, up to m. -/
structure PredAt (w : World) (G : Nat) (l : List Int) (m : Nat) : Prop where
  lt : G < w.heap.size
  row : ∀ j, j ≤ m → ∃ ao cap, w.cell? ⟨G, j, none⟩ = some (.slice ao j cap) ∧ IntsAt w ao (cf l j)
theorem PredAt.below {w w' : World} {G : Nat} {l : List Int} {m : Nat} (h : PredAt w G l m) (hb : Below w.heap.size w w') : PredAt w' G l m :=
  ⟨Nat.lt_of_lt_of_le h.lt hb.size, fun j hj => by
    obtain ⟨ao, cap, h1, h2⟩ := h.row j hj
    exact ⟨ao, cap, (hb.cell (p := ⟨G, j, none⟩) h.lt).trans h1, h2.below hb⟩⟩
theorem PredAt.less {w : World} {G : Nat} {l : List Int} {m n : Nat} (h : PredAt w G l m) (hn : n ≤ m) : PredAt w G l n := ⟨h.lt, fun j hj => h.row j (by omega)⟩
/-- What a predictor of the first m indices foresees. -/
def foreM (l : List Int) (m : Nat) (p : List Int) : Int := pred (cf l (min p.length m)) p
theorem foreM_all {l : List Int} (p : List Int) : foreM l l.length p = fore l p := by unfold foreM fore; rw [Nat.min_comm]
theorem foreM_take {l : List Int} {m : Nat} (hm : m ≤ l.length) (p : List Int) : foreM l m p = fore (l.take m) p := by
  unfold foreM fore
  rw [List.length_take, Nat.min_eq_left hm, Nat.min_comm, cf_take l (Nat.min_le_left _ _)]

set_option maxHeartbeats 1600000 in
theorem cForeseen (G pcap m : Nat) (ao : Option Addr) (cap : Nat) (l p : List Int) (w : World) (hg : goodL l = true) (hm : m ≤ 16) (hpl : p.length ≤ 100000000) (hp : ∀ y ∈ p, -67108865 ≤ y ∧ y ≤ 67108864) (hP : PredAt w G l m) (hi : IntsAt w ao p) :
    Calls Try.prog 27 #[.slice (some ⟨G, 0, none⟩) (m + 1) pcap, .slice ao p.length cap] w fun e w' => e = .returned (.int .i64 (foreM l m p)) ∧ ∃ k, w' = w.drewN k := by
  obtain ⟨q, hq⟩ : ∃ q, q = min p.length m := ⟨_, rfl⟩
  obtain ⟨co, ccap, hc, hci⟩ := hP.row q (by omega)
  have HC : Hid (Calls Try.prog 38 #[.slice co q ccap, .slice ao p.length cap] w fun e w' => e = .returned (.int .i64 (foreM l m p)) ∧ ∃ k, w' = w.drewN k) := by
    have := cPredictP co ao ccap cap (cf l q) p w ⟨by rw [cf_length]; omega, hpl, prod_small hg (by omega) hp⟩ hci hi
    rw [cf_length] at this
    unfold foreM
    rw [← hq]
    exact this
  generalize foreM l m p = r at HC
  have e1 : ((m + 1 : Nat) : Int) - 1 = (m : Int) := by omega
  clear hP hi hci hp hg
  rcases Nat.lt_or_ge m p.length with h | h
  · obtain rfl : q = m := by omega
    clear hq
    go_enter Try.func27, Try.ntmps27
    go_wp2_with fail
    refine HC.out.mono ?_
    rintro e w1 ⟨rfl, hk⟩
    go_wp2
    go_ret
    exact ⟨rfl, hk⟩
  · obtain rfl : q = p.length := by omega
    clear hq
    go_enter Try.func27, Try.ntmps27
    go_wp2_with fail
    refine HC.out.mono ?_
    rintro e w1 ⟨rfl, hk⟩
    go_wp2
    go_ret
    exact ⟨rfl, hk⟩

/-- A course: a predictor, and samples. -/
def courseV (G pcap m : Nat) (ao : Option Addr) (n cap : Nat) : Value := .agg #[.slice (some ⟨G, 0, none⟩) (m + 1) pcap, .slice ao n cap]
theorem IntsAt.take {w : World} {ao : Option Addr} {l : List Int} (h : IntsAt w ao l) (n : Nat) : IntsAt w ao (l.take n) := by
  intro j hj
  rw [List.length_take] at hj
  obtain ⟨b, off, h1, h2, h3⟩ := h j (by omega)
  exact ⟨b, off, h1, h2, by rw [h3, List.getElem_take]⟩
theorem cut_left (b off len cap hi : Nat) (h2 : hi ≤ cap) (W : World) :
    (Instr.slice 22 (.slice (some ⟨b, off, none⟩) len cap) none (some (.int .i64 (hi : Int))) none).run Try.prog W = .ok (.slice (some ⟨b, off, none⟩) hi cap) W := by
  simp [Instr.slice, run_underlying Try.underlying22, Instr.sliceBounds, Instr.sliceBound, asIntOf, h2, Addr.add_lit]

set_option maxHeartbeats 1600000 in
theorem cUnforeseen (G pcap m : Nat) (ao : Option Addr) (cap i : Nat) (l xs : List Int) (w : World) (hg : goodL l = true) (hm : m ≤ 16) (hn : i < xs.length) (hpl : xs.length ≤ 100000000) (hcap : xs.length ≤ cap) (hs : xs.all isS = true) (hP : PredAt w G l m) (hi : IntsAt w ao xs) :
    Calls Try.prog 24 #[courseV G pcap m ao xs.length cap, .int .i64 (i : Int)] w fun e w' => e = .returned (.int .i64 (xs[i] - foreM l m (xs.take i))) ∧ Below w.heap.size w w' := by
  unfold courseV
  obtain ⟨wa, hwa⟩ : ∃ wa, wa = w.alloc (.cells #[.slice (some ⟨G, 0, none⟩) (m + 1) pcap, .slice ao xs.length cap] 45) := ⟨_, rfl⟩
  have hba : Below w.heap.size w wa := by rw [hwa]; exact box_below _ _
  have hk : ∀ y ∈ xs.take i, -67108865 ≤ y ∧ y ≤ 67108864 := fun y hy => by have := all_S hs y (List.mem_of_mem_take hy); omega
  have HC : Hid (∀ k, Calls Try.prog 27 #[.slice (some ⟨G, 0, none⟩) (m + 1) pcap, .slice ao i cap] (wa.drewN k) fun e w' => e = .returned (.int .i64 (foreM l m (xs.take i))) ∧ ∃ j, w' = (wa.drewN k).drewN j) := fun k => by
    have := cForeseen G pcap m ao cap l (xs.take i) (wa.drewN k) hg hm (by rw [List.length_take]; omega) hk (hP.below (below_drewN hba k)) ((hi.below (below_drewN hba k)).take i)
    rwa [List.length_take, Nat.min_eq_left (by omega)] at this
  have hfb : -100000000000000 ≤ foreM l m (xs.take i) ∧ foreM l m (xs.take i) ≤ 100000000000000 := pred_bound hg (by omega) hk
  have hxb := all_S hs _ (List.getElem_mem hn)
  obtain ⟨b, off, rfl, hb, hcell⟩ := hi i hn
  have hcut := cut_left b off xs.length cap i (by omega)
  have kx := (hba.cell (p := ⟨b, off + i, none⟩) hb).trans hcell
  have k0 : wa.cell? ⟨w.heap.size, 0, none⟩ = some (.slice (some ⟨G, 0, none⟩) (m + 1) pcap) := by rw [hwa]; simp
  have k1 : wa.cell? ⟨w.heap.size, 1, none⟩ = some (.slice (some ⟨b, off, none⟩) xs.length cap) := by rw [hwa]; simp
  have hii : (i : Int) < (xs.length : Int) := by omega
  generalize foreM l m (xs.take i) = r at HC hfb ⊢
  generalize xs[i] = x at kx hxb ⊢
  have HBA := Lib.hid hba
  clear hP hi hcell hs hk hb hba hg
  generalize xs.length = n at *
  go_enter Try.func24, Try.ntmps24
  go_wp2
  rw [← hwa]
  clear hwa
  go_quiet ((go_at_call 27; exact quiet_drew (HC.out _)))
  go_wp2
  go_ret
  exact ⟨by go_num, below_drewN HBA.out _⟩
end Go.Proofs.Ytcgkalfclammfaa
