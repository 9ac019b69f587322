import Derived.Test.YtcgkalfclammfaaFilH5
namespace Go.Proofs.Ytcgkalfclammfaa
open Go.RowKit Go.Proofs Go.Proofs.PipeA Go.Proofs.LatM Go.Proofs.FilM Go.Proofs.HeapM
set_option maxRecDepth 100000

/-- The sum of the residuals' sizes by the first k indices. -/
def costN (l xs : List Int) (k : Nat) : Nat := sumN (res (l.take k) xs)
/-- k is the least number of first indices with the least sum. -/
def IsLeast (l xs : List Int) (k : Nat) : Prop := k ≤ l.length ∧ ∀ p, p ≤ l.length → costN l xs k ≤ costN l xs p ∧ (costN l xs p = costN l xs k → k ≤ p)
theorem IsLeast.same {l xs : List Int} {j k : Nat} (h1 : IsLeast l xs j) (h2 : IsLeast l xs k) : j = k := by
  have a := h1.2 k h2.1
  have b := h2.2 j h1.1
  have e : costN l xs j = costN l xs k := by omega
  have := a.2 e.symm
  have := b.2 e
  omega

def tried (l xs : List Int) (c : Nat) : List (Nat × Nat) := (List.range c).map fun k => (k, costN l xs k)
theorem tried_succ (l xs : List Int) (c : Nat) : (tried l xs c ++ [(c, costN l xs c)]) = tried l xs (c + 1) := by simp [tried, List.range_succ]
theorem tried_length (l xs : List Int) (c : Nat) : (tried l xs c).length = c := by simp [tried]
theorem tried_mem (l xs : List Int) (c : Nat) (x : Nat × Nat) : x ∈ tried l xs c ↔ x.1 < c ∧ x.2 = costN l xs x.1 := by
  obtain ⟨a, b⟩ := x
  simp only [tried, List.mem_map, List.mem_range, Prod.mk.injEq]
  constructor
  · rintro ⟨k, h, rfl, rfl⟩; exact ⟨h, rfl⟩
  · rintro ⟨h, rfl⟩; exact ⟨a, h, rfl, rfl⟩
theorem best_of_heap (l xs : List Int) (tl : List (Nat × Nat)) (hp : tl.Perm (tried l xs (l.length + 1))) (hh : IsHeap tBefore tl) : IsLeast l xs tl[0]!.1 := by
  have hlen : tl.length = l.length + 1 := by rw [hp.length_eq, tried_length]
  have hm : tl[0]! ∈ tl := by rw [get_eq tl 0 (by omega)]; exact List.getElem_mem _
  have hm2 := (tried_mem l xs (l.length + 1) _).1 (hp.mem_iff.1 hm)
  refine ⟨by omega, fun p hpl => ?_⟩
  have hpm : (p, costN l xs p) ∈ tl := hp.mem_iff.2 ((tried_mem l xs (l.length + 1) _).2 ⟨by simp; omega, rfl⟩)
  have hle := heap_root_mem tOrder hh _ hpm
  unfold le tBefore at hle
  rw [hm2.2] at hle
  obtain ⟨k, hk⟩ : ∃ k, k = tl[0]!.1 := ⟨_, rfl⟩
  rw [← hk] at hle ⊢
  simp only at hle
  by_cases e : costN l xs p = costN l xs k
  · rw [if_neg (by simpa using e)] at hle
    have := of_decide_eq_false hle
    exact ⟨by omega, fun _ => by omega⟩
  · rw [if_pos e] at hle
    have := of_decide_eq_false hle
    exact ⟨by omega, fun h => absurd h e⟩

set_option maxHeartbeats 800000 in
theorem cFirst (m b : Nat) (v : Value) (tl : List (Nat × Nat)) (w : World) (h0 : 0 < tl.length) (h : TrAt w m b v tl) (hh : IsHeap tBefore tl) :
    Calls Try.prog 31 #[.pointer (some ⟨b, 0, none⟩)] w fun e w' => e = .returned (trialV tl[0]!) ∧ Below m w w' := by
  have hblt := h.lt
  have hmb := h.mb
  have hol := own_block_lt h.own
  have hbw := box_below w (.cells #[.int .i64 0, .int .u64 0, .int .u64 0] 56)
  have HP := Lib.hid (heapPop (filterOps (fun k => k < w.heap.size + 1 ∧ k ≠ b ∧ v.ownBlock ≠ some k) m b) tl (w.alloc (.cells #[.int .i64 0, .int .u64 0, .int .u64 0] 56)) (by decide) h0 ⟨v, h.below hbw, fun hs => hs.2.1 rfl, fun k hs => by simpa using hs.1, fun g hg hs => hs.2.2 hg⟩ hh)
  have HS : Hid (∀ k, k < m → (k < w.heap.size + 1 ∧ k ≠ b ∧ v.ownBlock ≠ some k)) := fun k hk => ⟨by omega, by omega, fun e => by have := hol k e; omega⟩
  have HSB : Hid (w.heap.size < w.heap.size + 1 ∧ w.heap.size ≠ b ∧ v.ownBlock ≠ some w.heap.size) := ⟨by omega, by omega, fun e => by have := (hol _ e).2; omega⟩
  have HBW := Lib.hid hbw
  unfold trialsV at HP
  obtain ⟨⟨x1, x2⟩, hx⟩ : ∃ x, x = tl[0]! := ⟨_, rfl⟩
  rw [← hx] at HP ⊢
  unfold trialV at HP ⊢
  have hta : ∀ W : World, (Instr.typeAssert (.iface 56 (.agg #[.int .i64 (x1 : Nat), .int .u64 0, .int .u64 (x2 : Nat)])) 20 56 false).run Try.prog W = .ok (.agg #[.int .i64 (x1 : Nat), .int .u64 0, .int .u64 (x2 : Nat)]) W := fun _ => by kernel_rfl
  clear hx h hh h0 hol hbw
  go_enter Try.func31, Try.ntmps31
  go_wp2_with fail
  refine HP.out.mono ?_
  rintro e w1 ⟨rfl, l', _, _, _, hb⟩
  have q0 : w1.cell? ⟨w.heap.size, 0, none⟩ = some (.int .i64 0) := (hb.cell (p := ⟨w.heap.size, 0, none⟩) HSB.out).trans (by simp)
  have q1 : w1.cell? ⟨w.heap.size, 1, none⟩ = some (.int .u64 0) := (hb.cell (p := ⟨w.heap.size, 1, none⟩) HSB.out).trans (by simp)
  have q2 : w1.cell? ⟨w.heap.size, 2, none⟩ = some (.int .u64 0) := (hb.cell (p := ⟨w.heap.size, 2, none⟩) HSB.out).trans (by simp)
  have f0 : w1.frozen? ⟨w.heap.size, 0, none⟩ = false := (hb.frozen (p := ⟨w.heap.size, 0, none⟩) HSB.out).trans (by simp)
  have f1 : w1.frozen? ⟨w.heap.size, 1, none⟩ = false := (hb.frozen (p := ⟨w.heap.size, 1, none⟩) HSB.out).trans (by simp)
  have f2 : w1.frozen? ⟨w.heap.size, 2, none⟩ = false := (hb.frozen (p := ⟨w.heap.size, 2, none⟩) HSB.out).trans (by simp)
  have HB : Hid (Below m w w1) := ⟨hb.os, hb.tape, hb.output, Nat.le_trans (by simp) hb.size, fun k hk => (hb.block k (HS.out k hk)).trans (HBW.out.block k (by omega))⟩
  clear hb
  obtain ⟨W, hW⟩ : ∃ W, W = ((w1.setCell ⟨w.heap.size, 0, none⟩ (.int .i64 (x1 : Nat))).setCell ⟨w.heap.size, 1, none⟩ (.int .u64 0)).setCell ⟨w.heap.size, 2, none⟩ (.int .u64 (x2 : Nat)) := ⟨_, rfl⟩
  have hs0 : W.cell? ⟨w.heap.size, 0, none⟩ = some (.int .i64 (x1 : Nat)) := by
    rw [hW, World.cell?_setCell_other _ _ _ _ (by simp), World.cell?_setCell_other _ _ _ _ (by simp), World.cell?_setCell_same _ _ _ q0]
  have hs1 : W.cell? ⟨w.heap.size, 1, none⟩ = some (.int .u64 0) := by
    rw [hW, World.cell?_setCell_other _ _ _ _ (by simp), World.cell?_setCell_same _ _ _ ((World.cell?_setCell_other _ _ _ _ (by simp)).trans q1)]
  have hs2 : W.cell? ⟨w.heap.size, 2, none⟩ = some (.int .u64 (x2 : Nat)) := by
    rw [hW, World.cell?_setCell_same _ _ _ ((World.cell?_setCell_other _ _ _ _ (by simp)).trans ((World.cell?_setCell_other _ _ _ _ (by simp)).trans q2))]
  have HBF : Hid (Below m w W) := by
    show Below _ _ _
    rw [hW]
    exact ((HB.out.setCell (p := ⟨w.heap.size, 0, none⟩) (by show m ≤ w.heap.size; omega) _).setCell (p := ⟨w.heap.size, 1, none⟩) (by show m ≤ w.heap.size; omega) _).setCell (p := ⟨w.heap.size, 2, none⟩) (by show m ≤ w.heap.size; omega) _
  rw [hW] at hs0 hs1 hs2 HBF
  have HH := Lib.hid hs0
  have HH1 := Lib.hid hs1
  have HH2 := Lib.hid hs2
  clear hs0 hs1 hs2 hW
  go_wp2
  refine bodyPost_ret (v := .agg #[.int .i64 (x1 : Nat), .int .u64 0, .int .u64 (x2 : Nat)]) (by simp [results, Try.results31, go_sem, HH.out, HH1.out, HH2.out]) rfl ?_
  exact ⟨rfl, HBF.out⟩
end Go.Proofs.Ytcgkalfclammfaa
