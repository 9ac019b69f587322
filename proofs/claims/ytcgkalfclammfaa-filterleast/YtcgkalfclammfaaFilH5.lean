import Derived.Test.YtcgkalfclammfaaFilH4
import Derived.Test.YtcgkalfclammfaaSumR
namespace Go.Proofs.Ytcgkalfclammfaa
open Go.RowKit Go.Proofs Go.Proofs.PipeA Go.Proofs.LatM Go.Proofs.FilM Go.Proofs.HeapM
set_option maxRecDepth 100000

/-- Where sizes stands. -/
structure SzAt (w : World) (s : Nat) (W : World) : Prop where
  b0 : W.heap[w.heap.size]? = some (.cells #[.int .u64 0, .int .u64 0] 53)
  b1 : W.heap[w.heap.size + 1]? = some (.cells #[.int .u64 0, .int .u64 (s : Nat)] 53)
  below : Below w.heap.size w W
theorem SzAt.mono {w A C : World} {s : Nat} (h : SzAt w s A) (hb : Below A.heap.size A C) : SzAt w s C :=
  ⟨(hb.block _ (Array.getElem?_eq_some_iff.1 h.b0).1).trans h.b0, (hb.block _ (Array.getElem?_eq_some_iff.1 h.b1).1).trans h.b1, h.below.trans (hb.mono h.below.size)⟩
theorem SzAt.set {w W : World} {s : Nat} (s' : Nat) (h : SzAt w s W) : SzAt w s' ((W.setCell ⟨w.heap.size + 1, 0, none⟩ (.int .u64 0)).setCell ⟨w.heap.size + 1, 1, none⟩ (.int .u64 (s' : Nat))) :=
  ⟨(Below.heap_setCell _ _ _ _ (by simp)).trans ((Below.heap_setCell _ _ _ _ (by simp)).trans h.b0), set_two _ _ h.b1, (h.below.setCell (p := ⟨w.heap.size + 1, 0, none⟩) (by show w.heap.size ≤ w.heap.size + 1; omega) _).setCell (p := ⟨w.heap.size + 1, 1, none⟩) (by show w.heap.size ≤ w.heap.size + 1; omega) _⟩

set_option maxHeartbeats 3200000 in
theorem cSizes (cv : Value) (m : List Int) (w : World) (hm : m.length ≤ 1000) (hb : ∀ x ∈ m, -1000000000000000 ≤ x ∧ x ≤ 1000000000000000)
    (ht : ∀ i (h : i < m.length) W, Below w.heap.size w W → Calls Try.prog 24 #[cv, .int .i64 (i : Int)] W fun e W' => e = .returned (.int .i64 m[i]) ∧ Below W.heap.size W W') :
    Calls Try.prog 30 #[.int .i64 (m.length : Int), tellV cv] w fun e w' => e = .returned (sizeV (sumN m)) ∧ Below w.heap.size w w' := by
  have HT := Lib.hid ht
  have HBD := Lib.hid hb
  have HS : Hid (SzAt w 0 ((w.alloc (.cells #[.int .u64 0, .int .u64 0] 53)).alloc (.cells #[.int .u64 0, .int .u64 0] 53))) := by
    refine ⟨(Below.heap_alloc _ _ _ (by simp)).trans (World.alloc_heap_new w _), ?_, below2 _ _ _⟩
    have := World.alloc_heap_new (w.alloc (.cells #[.int .u64 0, .int .u64 0] 53)) (.cells #[.int .u64 0, .int .u64 0] 53)
    rwa [World.size_alloc] at this
  clear ht hb
  unfold tellV sizeV
  go_enter Try.func30, Try.ntmps30
  go_wp2
  go_loopg [6, 8] m.length (fun gk q1 i wr => ∃ j : Nat, j ≤ m.length ∧ gk + j = m.length ∧ i = .int .i64 j ∧ Hid (SzAt w (sumN (m.take j)) wr))
  case atStart => exact ⟨0, Nat.zero_le _, by omega, rfl, HS.out⟩
  case round =>
    obtain ⟨j, hjc, hgk, rfl, HZ⟩ := hrel
    have HGK := Lib.hid hgk
    clear hgk
    by_cases hlt : j < m.length
    · have HSN := Lib.hid (sumN_take hlt)
      have hsb := sumN_bound (l := m.take j) (fun x hx => HBD.out x (List.mem_of_mem_take hx))
      rw [List.length_take] at hsb
      have hxb := HBD.out _ (List.getElem_mem hlt)
      have HC : Hid (∀ W, Below w.heap.size w W → Calls Try.prog 24 #[cv, .int .i64 (j : Int)] W fun e W' => e = .returned (.int .i64 m[j]) ∧ Below W.heap.size W W') := fun W hW => HT.out j hlt W hW
      have HP := fun W => Lib.hid (cPlus (sumN (m.take j)) m[j] W (by omega) (by omega))
      generalize m[j] = x at HC HSN HP hxb
      generalize sumN (m.take j) = s at HZ HSN HP hsb
      rw [← HSN.out] at HP
      obtain ⟨s', hs'⟩ : ∃ s', s' = sumN (m.take (j + 1)) := ⟨_, rfl⟩
      rw [← hs'] at HP
      have HE := Lib.hid hs'
      clear hs'
      unfold sizeV at HP
      have HD : Hid (SzAt w s wr.drew) := HZ.out.mono ((keeps_drew_b wr []).below (Nat.le_refl _) (by simp))
      obtain ⟨k0, k1, f0, f1⟩ := cells_two HZ.out.b1
      clear hsb hxb
      go_wp2_with fail
      go_region_with (first
        | (go_at_call 24; refine (HC.out _ HD.out.below).mono ?_; rintro e w5 ⟨rfl, hb5⟩; have HD5 := Lib.hid (HD.out.mono hb5); have p0 := (cells_two HD5.out.b1).1; have p1 := (cells_two HD5.out.b1).2.1; clear hb5)
        | (go_at_call 40; refine (HP _).out.mono ?_; rintro e w6 ⟨rfl, hb6⟩; have HD6 := Lib.hid (HD5.out.mono hb6); have r0 := (cells_two HD6.out.b1).1; have r1 := (cells_two HD6.out.b1).2.1; have r2 := (cells_two HD6.out.b1).2.2.1; have r3 := (cells_two HD6.out.b1).2.2.2; clear hb6))
      all_goals
        have HD7 : Hid (SzAt w s' _) := HD6.out.set s'
        clear p0 p1 r0 r1 r2 r3
        go_wp2
        go_roundg (gk - 1)
        case rel => exact ⟨j + 1, by omega, by have := HGK.out; omega, by go_num, by rw [← HE.out]; exact HD7⟩
        case measure => have := HGK.out; omega
    · obtain rfl : j = m.length := by omega
      have HZ2 := HZ.out
      rw [List.take_length] at HZ2
      have HZH := Lib.hid HZ2
      obtain ⟨k0, k1, f0, f1⟩ := cells_two HZ2.b1
      obtain ⟨q0, q1, g0, g1⟩ := cells_two HZ2.b0
      obtain ⟨s, hs⟩ : ∃ s, s = sumN m := ⟨_, rfl⟩
      rw [← hs] at HZH k1
      have HSS := Lib.hid hs
      have hsz := (Array.getElem?_eq_some_iff.1 HZ2.b1).1
      clear HZ2 HZ hs
      have e0 : ((wr.setCell ⟨w.heap.size, 0, none⟩ (.int .u64 0)).setCell ⟨w.heap.size, 1, none⟩ (.int .u64 (s : Nat))).heap[w.heap.size]? = some (.cells #[.int .u64 0, .int .u64 (s : Nat)] 53) := set_two _ _ HZH.out.b0
      obtain ⟨r0, r1, _, _⟩ := cells_two e0
      have R0 := Lib.hid r0
      have R1 := Lib.hid r1
      clear r0 r1 e0
      go_wp2
      refine bodyPost_ret (v := .agg #[.int .u64 0, .int .u64 (s : Nat)]) (by simp [results, Try.results30, go_sem, R0.out, R1.out]) rfl ?_
      exact ⟨by rw [HSS.out], (HZH.out.below.setCell (p := ⟨w.heap.size, 0, none⟩) (Nat.le_refl _) _).setCell (p := ⟨w.heap.size, 1, none⟩) (Nat.le_refl _) _⟩
end Go.Proofs.Ytcgkalfclammfaa
