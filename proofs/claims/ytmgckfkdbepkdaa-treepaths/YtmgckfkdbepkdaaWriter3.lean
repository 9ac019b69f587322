import Derived.Test.YtmgckfkdbepkdaaWriter2
import Derived.Deep.LoopGhost
import Derived.Laws.CopyOwn
namespace Go.Proofs.Ytmgckfkdbepkdaa
open Go.RowKit Go.Proofs Go.Proofs.PipeM Go.Proofs.PipeA

theorem pad_step (l : List Bool) (k : Nat) : (l ++ List.replicate k false) ++ [false] = l ++ List.replicate (k + 1) false := by
  rw [List.append_assoc, rep_snoc]

set_option maxHeartbeats 800000 in
theorem wAlign (b : Nat) (v : Value) (l : List Bool) (zs : List Nat) (w : World) (hl : l.length ≤ 100000) (h : WrIs w b v l zs) :
    Calls Try.prog 20 #[.pointer (some ⟨b, 0, none⟩)] w (Pushed w b v (pad l)) := by
  have H := Lib.hid h
  clear h
  go_enter Try.func20, Try.ntmps20
  go_wp2
  go_loopg [] 8 (fun gk wr => ∃ k : Nat, k ≤ (8 - l.length % 8) % 8 ∧ Hid (gk + k = 8) ∧ Hid (Wrote w b v (l ++ List.replicate k false) wr))
  case atStart => exact ⟨0, Nat.zero_le _, rfl, by have := Wrote.refl H.out; simpa [Hid] using this⟩
  case round =>
    obtain ⟨k, hk, HG, HW⟩ := hrel
    obtain ⟨v1, zs1, hw1, hk1, ho1⟩ := HW.out
    have h1 := hw1.c1
    have hlen : (l ++ List.replicate k false).length = l.length + k := by simp
    rw [hlen] at h1
    by_cases hlt : k < (8 - l.length % 8) % 8
    · have HP := Lib.hid (wPush b v1 (l ++ List.replicate k false) zs1 false wr (by omega) hw1)
      rw [pad_step] at HP
      have HK := Lib.hid hk1
      have HO := Lib.hid ho1
      have hne : (((l.length + k : Nat) : Int) % 8 != 0) = true := by rw [bne_iff_ne]; omega
      obtain ⟨c, hc⟩ : ∃ c, c = l.length + k := ⟨_, rfl⟩
      rw [← hc] at h1 hne
      have hc0 : c ≤ 1000000 := by omega
      clear hw1 hk1 ho1 hlen HW hc
      go_wp2_with fail
      refine HP.out.mono ?_
      rintro e w2 ⟨rfl, hw2⟩
      have HW2 := Lib.hid hw2
      clear hw2
      go_wp2
      go_roundg (gk - 1)
      case rel => exact ⟨k + 1, by omega, by have := HG.out; show _ = _; omega, Wrote.next HK.out HO.out HW2.out⟩
      case measure => have := HG.out; omega
    · obtain rfl : k = (8 - l.length % 8) % 8 := by omega
      have hne : (((l.length + (8 - l.length % 8) % 8 : Nat) : Int) % 8 != 0) = false := by rw [bne_eq_false_iff_eq]; omega
      obtain ⟨c, hc⟩ : ∃ c, c = l.length + (8 - l.length % 8) % 8 := ⟨_, rfl⟩
      rw [← hc] at h1 hne
      have hc0 : c ≤ 1000000 := by omega
      clear hw1 hk1 ho1 hlen hc
      go_wp2
      go_end0
      exact ⟨rfl, HW.out⟩

theorem own_shape {w : World} {base n : Nat} {e : TypeId} {xs : List Value} {v : Value} (h : w.ownsRow base e 1 v n xs) :
    ∃ ao cap, v = .slice ao n cap ∧ cap ≤ maxLen ∧ n ≤ cap ∧ (0 < n → ∃ g, ao = some ⟨g, 0, none⟩ ∧ g < w.heap.size ∧ ∀ j u, xs[j]? = some u → w.cell? ⟨g, j, none⟩ = some u) := by
  rcases h.2 with ⟨rfl, rfl⟩ | ⟨g, cap, cur, rfl, hb, hg, h1, h2, h3, h4⟩
  · exact ⟨none, 0, rfl, by unfold maxLen; omega, Nat.le_refl _, fun h => by omega⟩
  · refine ⟨some ⟨g, 0, none⟩, cap, rfl, h2, h1, fun _ => ⟨g, rfl, ?_, ?_⟩⟩
    · rcases Nat.lt_or_ge g w.heap.size with h5 | h5
      · exact h5
      · rw [Array.getElem?_eq_none h5] at hg; cases hg
    · intro j u hu
      have hj : j < xs.length := (List.getElem?_eq_some_iff.1 hu).1
      rw [h.cellAt j (by have := h.1; omega), hu]

theorem size_u8 : (Try.prog.info? 5).map (·.size) = some 1 := by kernel_rfl

theorem cellsOf_one (zs : List Nat) : ∀ u ∈ cellsOf zs, u.oneCell' = true := by
  intro u hu
  simp [cellsOf] at hu
  obtain ⟨z, _, rfl⟩ := hu
  rfl

theorem splice_all {α : Type} (L cs : List α) (h : L.length = cs.length) : splice L 0 cs = cs := by
  simp [splice, ← h]

set_option maxHeartbeats 800000 in
theorem wBytes (b : Nat) (v : Value) (l : List Bool) (zs : List Nat) (w : World) (hl : l.length ≤ 1000000) (h : WrIs w b v l zs) :
    Calls Try.prog 18 #[.pointer (some ⟨b, 0, none⟩)] w fun e w' => ∃ g, e = .returned (.slice (some ⟨g, 0, none⟩) zs.length zs.length) ∧ w'.ownsRow w.heap.size 5 1 (.slice (some ⟨g, 0, none⟩) zs.length zs.length) zs.length (cellsOf zs) ∧ Below w.heap.size w w' := by
  obtain ⟨i0, hi, hz0, hz1, hz2⟩ := info_parts info_u8
  obtain ⟨ao, cap, rfl, hc1, hc2, hc3⟩ := own_shape h.own
  unfold maxLen at hc1
  have hzl := h.packs.length
  have h0 := h.c0
  have hlt := h.lt
  obtain ⟨n, hn⟩ : ∃ n, n = zs.length := ⟨_, rfl⟩
  rw [← hn] at h0 hc2 hc3 hzl ⊢
  have hn1 : n ≤ 1000000 := by omega
  have HN := Lib.hid hn
  have HC := Lib.hid hc3
  clear hn hc3 hzl h
  go_enter Try.func18, Try.ntmps18
  go_wp2_with (at_make; refine wpList_make_full _ rfl _ _ 36 rfl w.heap.size 5 i0 (.int .u8 0) 1 und_bytes hi hz0 hz1 .i64 .i64 _ _ n rfl rfl rfl rfl ?m1 ?m2 ?m3 ?_)
  case m1 => rw [hz2]; omega
  case m2 => unfold maxLen; omega
  case m3 => exact Nat.le_refl _
  intro w1 hown1 hgrow1
  have hb1 : Below w.heap.size w w1 := (Below.refl _ _).grown hgrow1 (Nat.le_refl _) (fun k h => by cases h)
  have h01 : w1.cell? ⟨b, 0, none⟩ = some (.slice ao n cap) := (hb1.cell (p := ⟨b, 0, none⟩) hlt).trans h0
  obtain ⟨cur, hcur, hcs⟩ : ∃ cur : List Value, w1.heap[w.heap.size]? = some (.cells cur.toArray 5 (0, 0)) ∧ cur.length = n := by
    rcases hown1.2 with ⟨h', _⟩ | ⟨g', cap', cur, h', _, hg, _, _, hs, _⟩
    · simp at h'
    · simp only [Value.slice.injEq, Option.some.injEq, Addr.mk.injEq, and_true, true_and] at h'
      obtain ⟨rfl, rfl⟩ := h'
      exact ⟨cur.toList, by simpa using hg, by simpa using hs⟩
  have HCUR := Lib.hid hcur
  have HCS := Lib.hid hcs
  have HB1 := Lib.hid hb1
  clear hown1 hgrow1 h0 hcur hcs hb1
  go_wp2_with (with_reducible refine wpList_copy_splice rfl (.tmp 10) (.tmp 14) 36 36 rfl 5 und_bytes size_u8 _ _ _ _ _ _ rfl rfl w.heap.size 0 cur 5 HCUR.out (cellsOf zs) ?k1 ?k2 ?k3 (cellsOf_one zs) w.heap.size w HB1.out (Nat.le_refl _) ?_)
  case k1 => rw [cellsOf_length, ← HN.out]; exact (Nat.min_self n).symm
  case k2 =>
    intro hp
    rw [cellsOf_length, ← HN.out] at hp
    obtain ⟨g, rfl, hg1, hg2⟩ := HC.out hp
    refine ⟨_, rfl, fun j u hu => ?_⟩
    have e : (⟨g, 0, none⟩ : Addr).add j = ⟨g, j, none⟩ := by simp [Addr.add]; omega
    rw [e, HB1.out.cell (p := ⟨g, j, none⟩) hg1]
    exact hg2 j u hu
  case k3 => rw [cellsOf_length, ← HN.out, HCS.out]; omega
  intro w2 HR hb2
  go_wp2
  go_ret
  refine ⟨w.heap.size, rfl, ?_, hb2⟩
  have hr := HR.out
  rw [splice_all _ _ (by rw [HCS.out, cellsOf_length, HN.out])] at hr
  refine ⟨by rw [cellsOf_length, ← HN.out]; omega, Or.inr ⟨w.heap.size, n, _, rfl, Nat.le_refl _, hr, Nat.le_refl _, by unfold maxLen; omega, ?_, ?_⟩⟩
  · simp [cellsOf_length, HN.out]
  · rw [Nat.mul_one, HN.out, ← cellsOf_length, List.take_length]
end Go.Proofs.Ytmgckfkdbepkdaa
