import Derived.Test.YtcgkalfclammfaaFilH2
import Derived.Deep.AppendLies
import Derived.Deep.RegionLaw
namespace Go.Proofs.Ytcgkalfclammfaa
open Go.RowKit Go.Proofs Go.Proofs.PipeA Go.Proofs.HeapM
set_option maxRecDepth 100000

set_option maxHeartbeats 3200000 in
theorem tSwap_walk (b g cap n : Nat) (i j : Nat) (xi yi xj yj : Int) (w : World) (hi : (i : Int) < (n : Int)) (hj : (j : Int) < (n : Int)) (hij : i ≠ j)
    (hc0 : w.cell? ⟨b, 0, none⟩ = some (.slice (some ⟨g, 0, none⟩) n cap))
    (ci0 : w.cell? ⟨g, i * 3, none⟩ = some (.int .i64 xi)) (ci1 : w.cell? ⟨g, i * 3 + 1, none⟩ = some (.int .u64 0)) (ci2 : w.cell? ⟨g, i * 3 + 2, none⟩ = some (.int .u64 yi))
    (cj0 : w.cell? ⟨g, j * 3, none⟩ = some (.int .i64 xj)) (cj1 : w.cell? ⟨g, j * 3 + 1, none⟩ = some (.int .u64 0)) (cj2 : w.cell? ⟨g, j * 3 + 2, none⟩ = some (.int .u64 yj))
    (fz : ∀ k, w.frozen? ⟨g, k, none⟩ = false) :
    Calls Try.prog 73 #[.pointer (some ⟨b, 0, none⟩), .int .i64 i, .int .i64 j] w fun e w' => e = .returned (.tuple #[]) ∧
      w' = (((((((w.setCell ⟨g, i * 3, none⟩ (.int .i64 xj)).setCell ⟨g, i * 3 + 1, none⟩ (.int .u64 0)).setCell ⟨g, i * 3 + 2, none⟩ (.int .u64 yj)).setCell ⟨g, j * 3, none⟩ (.int .i64 xi)).setCell ⟨g, j * 3 + 1, none⟩ (.int .u64 0)).setCell ⟨g, j * 3 + 2, none⟩ (.int .u64 yi)).drewN 1) := by
  go_enter Try.func73, Try.ntmps73
  go_wp2
  go_region
  go_end0
  exact ⟨rfl, rfl⟩

set_option maxHeartbeats 3200000 in
theorem tSwap_same (b g cap n : Nat) (i : Nat) (xi yi : Int) (w : World) (hi : (i : Int) < (n : Int))
    (hc0 : w.cell? ⟨b, 0, none⟩ = some (.slice (some ⟨g, 0, none⟩) n cap))
    (ci0 : w.cell? ⟨g, i * 3, none⟩ = some (.int .i64 xi)) (ci1 : w.cell? ⟨g, i * 3 + 1, none⟩ = some (.int .u64 0)) (ci2 : w.cell? ⟨g, i * 3 + 2, none⟩ = some (.int .u64 yi))
    (fz : ∀ k, w.frozen? ⟨g, k, none⟩ = false) :
    Calls Try.prog 73 #[.pointer (some ⟨b, 0, none⟩), .int .i64 i, .int .i64 i] w fun e w' => e = .returned (.tuple #[]) ∧
      w' = (((((((w.setCell ⟨g, i * 3, none⟩ (.int .i64 xi)).setCell ⟨g, i * 3 + 1, none⟩ (.int .u64 0)).setCell ⟨g, i * 3 + 2, none⟩ (.int .u64 yi)).setCell ⟨g, i * 3, none⟩ (.int .i64 xi)).setCell ⟨g, i * 3 + 1, none⟩ (.int .u64 0)).setCell ⟨g, i * 3 + 2, none⟩ (.int .u64 yi)).drewN 1) := by
  go_enter Try.func73, Try.ntmps73
  go_wp2
  go_region
  go_end0
  exact ⟨rfl, rfl⟩

theorem own_three {w : World} {base g n cap : Nat} {e : TypeId} {xs : List Value} (h : w.ownsRow base e 3 (.slice (some ⟨g, 0, none⟩) n cap) n xs) (j : Nat) (x y z : Value) :
    (((w.setCell ⟨g, j, none⟩ x).setCell ⟨g, j + 1, none⟩ y).setCell ⟨g, j + 2, none⟩ z).ownsRow base e 3 (.slice (some ⟨g, 0, none⟩) n cap) n (((xs.set j x).set (j + 1) y).set (j + 2) z) :=
  (((h.stored j x).1.stored (j + 1) y).1.stored (j + 2) z).1

theorem setCell_os (W : World) (p : Addr) (v : Value) : (W.setCell p v).os = W.os := rfl
theorem setCell_tape (W : World) (p : Addr) (v : Value) : (W.setCell p v).tape = W.tape := rfl
theorem setCell_output (W : World) (p : Addr) (v : Value) : (W.setCell p v).output = W.output := rfl
theorem setCell_size (W : World) (p : Addr) (v : Value) : (W.setCell p v).heap.size = W.heap.size := by simp [World.setCell]
theorem tSwap (m b : Nat) (v : Value) (l : List (Nat × Nat)) (i j : Nat) (w : World) (hi : i < l.length) (hj : j < l.length) (h : TrAt w m b v l) :
    Calls Try.prog 73 #[.pointer (some ⟨b, 0, none⟩), .int .i64 i, .int .i64 j] w fun e w' => e = .returned (.tuple #[]) ∧ TrAt w' m b v (swp l i j) ∧ Turned w b v w' v := by
  obtain ⟨g, cap, rfl, hbg, hmg, hg, hlc, hcm, hcell, hfz⟩ := h.row (by omega)
  have hcall : Calls Try.prog 73 #[.pointer (some ⟨b, 0, none⟩), .int .i64 i, .int .i64 j] w fun e w' => e = .returned (.tuple #[]) ∧
      w' = (((((((w.setCell ⟨g, i * 3, none⟩ (.int .i64 (l[j]!.1 : Nat))).setCell ⟨g, i * 3 + 1, none⟩ (.int .u64 0)).setCell ⟨g, i * 3 + 2, none⟩ (.int .u64 (l[j]!.2 : Nat))).setCell ⟨g, j * 3, none⟩ (.int .i64 (l[i]!.1 : Nat))).setCell ⟨g, j * 3 + 1, none⟩ (.int .u64 0)).setCell ⟨g, j * 3 + 2, none⟩ (.int .u64 (l[i]!.2 : Nat))).drewN 1) := by
    by_cases hij : i = j
    · subst hij
      exact tSwap_same b g cap l.length i _ _ w (by omega) h.c0 (hcell i hi).1 (hcell i hi).2.1 (hcell i hi).2.2 hfz
    · exact tSwap_walk b g cap l.length i j _ _ _ _ w (by omega) (by omega) hij h.c0 (hcell i hi).1 (hcell i hi).2.1 (hcell i hi).2.2 (hcell j hj).1 (hcell j hj).2.1 (hcell j hj).2.2 hfz
  refine hcall.mono ?_
  rintro e w' ⟨rfl, rfl⟩
  have hne : b ≠ g := fun e => hbg e.symm
  obtain ⟨X, hX⟩ : ∃ X, X = ((((((w.setCell ⟨g, i * 3, none⟩ (.int .i64 (l[j]!.1 : Nat))).setCell ⟨g, i * 3 + 1, none⟩ (.int .u64 0)).setCell ⟨g, i * 3 + 2, none⟩ (.int .u64 (l[j]!.2 : Nat))).setCell ⟨g, j * 3, none⟩ (.int .i64 (l[i]!.1 : Nat))).setCell ⟨g, j * 3 + 1, none⟩ (.int .u64 0)).setCell ⟨g, j * 3 + 2, none⟩ (.int .u64 (l[i]!.2 : Nat))) := ⟨_, rfl⟩
  have h1 : X.ownsRow m 56 3 (.slice (some ⟨g, 0, none⟩) l.length cap) l.length (tcells (swp l i j)) := by
    have h1 := own_three (own_three h.own (i * 3) (.int .i64 (l[j]!.1 : Nat)) (.int .u64 0) (.int .u64 (l[j]!.2 : Nat))) (j * 3) (.int .i64 (l[i]!.1 : Nat)) (.int .u64 0) (.int .u64 (l[i]!.2 : Nat))
    rw [tcells_set, tcells_set, ← hX] at h1
    exact h1
  have hblk : ∀ k, k ≠ g → X.heap[k]? = w.heap[k]? := fun k hk => by
    rw [hX, Below.heap_setCell _ _ _ _ hk, Below.heap_setCell _ _ _ _ hk, Below.heap_setCell _ _ _ _ hk, Below.heap_setCell _ _ _ _ hk, Below.heap_setCell _ _ _ _ hk, Below.heap_setCell _ _ _ _ hk]
  have hsz : X.heap.size = w.heap.size := by rw [hX]; simp only [setCell_size]
  have hos : X.os = w.os ∧ X.tape = w.tape ∧ X.output = w.output := by rw [hX]; simp only [setCell_os, setCell_tape, setCell_output, and_self]
  rw [← hX]
  clear hX hcall
  refine ⟨rfl, ⟨?_, ?_, ?_, ?_, h.ne, h.mb, by rw [swp_length]; exact h.len⟩, ⟨hos.1, hos.2.1, hos.2.2, ?_, fun k hk hn => hblk k (by simp [Value.ownBlock] at hn; exact hn.2)⟩, Or.inl rfl⟩
  · show b < X.heap.size
    rw [hsz]; exact h.lt
  · show X.cell? _ = _
    rw [World.cell?_of_block (w := w) (hblk b hne), h.c0]
  · show X.frozen? _ = _
    rw [World.frozen?_of_block (w := w) (hblk b hne), h.f0]
  · rw [swp_length]
    exact ownsRow_far h1 (fun _ _ => rfl)
  · show w.heap.size ≤ X.heap.size
    omega

theorem own_less {w : World} {base g cap : Nat} {e : TypeId} {l : List (Nat × Nat)} {x : Nat × Nat} (h : w.ownsRow base e 3 (.slice (some ⟨g, 0, none⟩) (l ++ [x]).length cap) (l ++ [x]).length (tcells (l ++ [x]))) :
    w.ownsRow base e 3 (.slice (some ⟨g, 0, none⟩) l.length cap) l.length (tcells l) := by
  refine ⟨tcells_length l, ?_⟩
  rcases h.2 with ⟨h', _⟩ | ⟨g', cap', cur, h', hb, hg, hn, hm, hs, ht⟩
  · simp at h'
  · simp only [Value.slice.injEq, Option.some.injEq, Addr.mk.injEq, and_true, true_and] at h'
    obtain ⟨rfl, rfl⟩ := h'
    refine Or.inr ⟨g, cap, cur, rfl, hb, hg, by simp at hn; omega, hm, hs, ?_⟩
    have : (cur.toList.take ((l ++ [x]).length * 3)).take (l.length * 3) = (tcells (l ++ [x])).take (l.length * 3) := by rw [ht]
    rw [List.take_take, tcells_app] at this
    rw [show min (l.length * 3) ((l ++ [x]).length * 3) = l.length * 3 by simp, ← tcells_length, List.take_left' rfl] at this
    rw [← tcells_length]; exact this

theorem pop_at {w : World} {m b g cap : Nat} {l : List (Nat × Nat)} {x : Nat × Nat} (o : Obj) (h : TrAt w m b (.slice (some ⟨g, 0, none⟩) (l ++ [x]).length cap) (l ++ [x])) :
    TrAt ((w.setCell ⟨b, 0, none⟩ (.slice (some ⟨g, 0, none⟩) l.length cap)).alloc o) m b (.slice (some ⟨g, 0, none⟩) l.length cap) l := by
  have hown := own_less h.own
  have hlt := h.lt
  have hne := h.ne
  have hb2 := (Below.refl (w.setCell ⟨b, 0, none⟩ (.slice (some ⟨g, 0, none⟩) l.length cap)).heap.size (w.setCell ⟨b, 0, none⟩ (.slice (some ⟨g, 0, none⟩) l.length cap))).alloc (Nat.le_refl _) o
  refine ⟨by simp; omega, ?_, ?_, (ownsRow_far hown (fun k hk => Below.heap_setCell _ _ _ _ (fun e => hne (by simp at e; rw [← e]; exact hk.symm)))).alloc _, hne, h.mb, by have := h.len; simp at this; omega⟩
  · rw [hb2.cell (p := ⟨b, 0, none⟩) (by simpa using hlt), World.cell?_setCell_same _ _ _ h.c0]
  · rw [hb2.frozen (p := ⟨b, 0, none⟩) (by simpa using hlt), World.frozen?_setCell, h.f0]

set_option maxHeartbeats 1600000 in
theorem tPop (m b : Nat) (v : Value) (l : List (Nat × Nat)) (x : Nat × Nat) (w : World) (h : TrAt w m b v (l ++ [x])) :
    Calls Try.prog 71 #[.pointer (some ⟨b, 0, none⟩)] w fun e w' => e = .returned (.iface 56 (trialV x)) ∧ ∃ v', TrAt w' m b v' l ∧ Turned w b v w' v' := by
  have hlen := h.len
  have H := Lib.hid h
  have hc0 := h.c0
  have hf0 := h.f0
  have hblt := h.lt
  obtain ⟨g, cap, rfl, hbg, hmg, hg, hlc, hcm, hcell, hfz⟩ := h.row (by simp)
  have hx := hcell l.length (by simp)
  rw [show (l ++ [x])[l.length]! = x by simp] at hx
  obtain ⟨c0, c1, c2⟩ := hx
  obtain ⟨x1, x2⟩ := x
  unfold trialV
  simp only [List.length_append, List.length_singleton] at hc0 hlen hlc
  unfold maxLen at hcm
  obtain ⟨n, hn⟩ : ∃ n, n = l.length := ⟨_, rfl⟩
  rw [← hn] at hc0 c0 c1 c2 hlen hlc
  have HN := Lib.hid hn
  have HBG := Lib.hid hbg
  clear hn hcell hfz h hbg
  go_enter Try.func71, Try.ntmps71
  go_wp2
  go_ret
  have hn := HN.out
  rw [hn]
  refine ⟨rfl, _, pop_at _ H.out, ⟨rfl, rfl, rfl, by simp, fun k hk1 hn => ?_⟩, Or.inl rfl⟩
  simp only [List.mem_cons, not_or] at hn
  rw [Below.heap_alloc _ _ _ (by simpa using hk1), Below.heap_setCell _ _ _ _ (by simpa using hn.1)]
end Go.Proofs.Ytcgkalfclammfaa
