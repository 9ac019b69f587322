import Derived.Test.YtmgckfkdbepkdaaTreR2
import Derived.Test.YtmgckfkdbepkdaaTreB
import Derived.Test.YtmgckfkdbepkdaaWriter3
import Derived.Lib.OthersKept
namespace Go.Proofs.Ytmgckfkdbepkdaa
open Go.RowKit Go.Proofs Go.Proofs.PipeM Go.Proofs.PipeA Go.Proofs.TreM
set_option maxRecDepth 100000

set_option maxHeartbeats 800000 in
theorem cIsTree (size : Int) (s : List UInt8) (w : World) (hl : s.length ≤ 100000) :
    Calls Try.prog 42 #[.string (bs s), .int .i64 size] w fun e w' => e = .returned (.bool (decide (codeL size s = 0))) ∧ Below w.heap.size w w' := by
  have H := Lib.hid (cLeaves size s w hl)
  go_enter Try.func42, Try.ntmps42
  go_wp2_with fail
  refine H.out.mono ?_
  rintro e w1 (⟨hc, rfl, hb⟩ | ⟨hc, ao, cap, l, _, rfl, _, _, _, hb⟩)
  · have HB := Lib.hid hb
    have HD : Hid (decide (codeL size s = 0) = false) := decide_eq_false hc
    have t1 : (codeL size s == 0) = false := beq_eq_false_iff_ne.2 hc
    obtain ⟨c, hcc⟩ : ∃ c, c = codeL size s := ⟨_, rfl⟩
    rw [← hcc] at t1 ⊢
    clear hb hc hcc
    go_wp2
    go_ret
    exact ⟨by rw [HD.out]; rfl, HB.out⟩
  · have HB := Lib.hid hb
    have HD : Hid (decide (codeL size s = 0) = true) := decide_eq_true hc
    clear hb hc
    go_wp2
    go_ret
    exact ⟨by rw [HD.out]; rfl, HB.out⟩

/-- What Put of a tree leaves. -/
def PutTree (size : Int) (s : List UInt8) (b : Nat) (v : Value) (l : List Bool) (w : World) (e : Ending) (w' : World) : Prop :=
  (codeL size s ≠ 0 ∧ e = .returned (.bool false) ∧ Below w.heap.size w w') ∨
  (codeL size s = 0 ∧ e = .returned (.bool true) ∧ ∃ t, s = t.map chr ∧ Wrote w b v (l ++ t) w')

theorem iter_keeps (w : World) (k : Nat) (s : ByteArray) (i : Nat) : Keeps [k] w (w.iterAt k s i) :=
  ⟨rfl, rfl, rfl, by rw [Lib.iterAt_size]; exact Nat.le_refl _, fun j _ hn => Lib.iterAt_other w k j s i (by simpa using hn)⟩
/-- A writer's blocks are no iterator. -/
theorem wr_no_iter {w : World} {b k i : Nat} {v : Value} {l : List Bool} {zs : List Nat} {s : ByteArray} (h : WrIs w b v l zs) (hk : w.heap[k]? = some (.stringIter s i)) : b ≠ k ∧ ∀ g, v.ownBlock = some g → g ≠ k := by
  constructor
  · rintro rfl
    have := h.c0
    simp [World.cell?, hk] at this
  · rintro g hg rfl
    rcases h.own.2 with ⟨rfl, _⟩ | ⟨g', cap, cur, rfl, _, hc, _⟩
    · cases hg
    · cases hg
      rw [hk] at hc
      cases hc
theorem wrote_iter {w wr : World} {b k i j : Nat} {v : Value} {l : List Bool} {s : ByteArray} (h : Wrote w b v l wr) (hk : wr.heap[k]? = some (.stringIter s i)) (hw : w.heap.size ≤ k) : Wrote w b v l (wr.iterAt k s j) := by
  obtain ⟨v', zs', h1, h2, h3⟩ := h
  obtain ⟨n1, n2⟩ := wr_no_iter h1 hk
  refine ⟨v', zs', h1.keeps (iter_keeps wr k s j) (by simpa using n1) (fun g hg => by simpa using n2 g hg), h2.trans_new (iter_keeps wr k s j) (fun x hx => .inr (by simp at hx; omega)), h3⟩

set_option maxHeartbeats 3200000 in
theorem cTreePut (size : Int) (s : List UInt8) (b : Nat) (v : Value) (l : List Bool) (zs : List Nat) (w : World) (hs : s.length ≤ 100000) (hl : l.length ≤ 90000) (h : WrIs w b v l zs) :
    Calls Try.prog 16 #[.pointer (some ⟨b, 0, none⟩), .string (bs s), .int .i64 size] w (PutTree size s b v l w) := by
  have HT := Lib.hid (cIsTree size s w hs)
  have HH := Lib.hid h
  by_cases hc : codeL size s = 0
  · rw [decide_eq_true hc] at HT
    obtain ⟨n, rfl, _, _, lv, hlv⟩ := codeL_zero hc
    obtain ⟨t, ht, _, htl⟩ := tree_bits hlv
    have HTT := Lib.hid ht
    have HC := Lib.hid hc
    obtain ⟨S, hS⟩ : ∃ S, S = bs s := ⟨_, rfl⟩
    have hsz : S.size = t.length := by rw [hS, bs_size, ht, List.length_map]
    have HSZ := Lib.hid hsz
    have hget : ∀ i (h : i < S.size), S[i] = chr (t.getD i false) := fun i h => by
      have hi : i < t.length := by omega
      have e : t.getD i false = t[i] := by simp [List.getD, hi]
      rw [e]
      subst hS
      rw [bs_get]
      simp [ht]
    have HGET := Lib.hid hget
    rw [← hS] at HT ⊢
    clear hget
    clear hc hlv ht h hS hsz hs
    go_enter Try.func16, Try.ntmps16
    go_wp2_with fail
    refine HT.out.mono ?_
    rintro e w1 ⟨rfl, hb1⟩
    have HB1 := Lib.hid hb1
    clear hb1
    have hit0 : (w1.iter S 0).heap[w1.heap.size]? = some (.stringIter S 0) := World.iter_heap ..
    have hbi : Below w1.heap.size w1 (w1.iter S 0) := box_below w1 (.stringIter S 0)
    have HIT0 := Lib.hid hit0
    have HW0 : Hid (Wrote w b v (l ++ t.take 0) (w1.iter S 0)) := by
      show Wrote _ _ _ _ _
      rw [List.take_zero, List.append_nil]
      exact Wrote.later (keeps_of_below (HB1.out.trans (hbi.mono HB1.out.size)) []) (Wrote.refl (HH.out.keeps (keeps_of_below (HB1.out.trans (hbi.mono HB1.out.size)) []) (by simp) (by simp)))
    have HSW : Hid (w.heap.size ≤ w1.heap.size) := HB1.out.size
    have HTL := Lib.hid htl
    clear hit0 hbi HT htl
    go_wp2
    generalize w1.iter S 0 = W0 at *
    go_loopg [8] t.length (fun gk lt wr => ∃ i : Nat, i ≤ t.length ∧ gk + i = t.length ∧ Hid (wr.heap[w1.heap.size]? = some (.stringIter S i)) ∧ Hid (Wrote w b v (l ++ t.take i) wr))
    case atStart => exact ⟨0, Nat.zero_le _, by omega, HIT0, HW0⟩
    case round =>
      obtain ⟨i, hi, hgk, HIT, HWR⟩ := hrel
      have HGK := Lib.hid hgk
      clear hgk
      by_cases hlt : i < t.length
      · have hip : i < S.size := by rw [HSZ.out]; exact hlt
        obtain ⟨c, hc⟩ : ∃ c, c = t.getD i false := ⟨_, rfl⟩
        have hch : S[i] = chr c := by rw [HGET.out i hip, hc]
        have hnx := fun ty => Lib.run_next_ascii_at (P := Try.prog) wr w1.heap.size S i ty HIT.out hip (by rw [hch]; cases c <;> decide)
        rw [hch] at hnx
        have HIT2 := Lib.hid (Lib.iterAt_heap wr w1.heap.size S i (i + 1) HIT.out)
        have HW2 := Lib.hid (wrote_iter (j := i + 1) HWR.out HIT.out HSW.out)
        obtain ⟨W2, hW2⟩ : ∃ W2, W2 = wr.iterAt w1.heap.size S (i + 1) := ⟨_, rfl⟩
        rw [← hW2] at hnx HIT2 HW2
        have htk : l ++ t.take (i + 1) = (l ++ t.take i) ++ [c] := by
          rw [List.append_assoc, List.take_succ_eq_append_getElem hlt]
          congr 2
          rw [hc]; simp [List.getD, hlt]
        have HTK := Lib.hid htk
        obtain ⟨v2, zs2, hw2, hk2, ho2⟩ := HW2.out
        have HN2 := Lib.hid (wr_no_iter hw2 HIT2.out)
        have HK2 := Lib.hid hk2
        have HO2 := Lib.hid ho2
        have hlen : (l ++ t.take i).length ≤ 100000 := by have := HTL.out; rw [List.length_append, List.length_take]; omega
        have HPT := Lib.hid (wPut_yes b v2 (l ++ t.take i) zs2 c.toNat 1 W2 (by omega) (by cases c <;> decide) hlen hw2)
        rw [show low c.toNat 1 = [c] by cases c <;> rfl, ← HTK.out] at HPT
        have hitlt := (Array.getElem?_eq_some_iff.1 HIT2.out).1
        have HFIN : Hid (∀ W3, Wrote W2 b v2 (l ++ t.take (i + 1)) W3 → W3.heap[w1.heap.size]? = some (.stringIter S (i + 1)) ∧ Wrote w b v (l ++ t.take (i + 1)) W3) := fun W3 h3 => by
          refine ⟨?_, Wrote.next HK2.out HO2.out h3⟩
          obtain ⟨v3, zs3, _, hk3, _⟩ := h3
          rw [hk3.block _ hitlt (fun hm => ?_)]
          · exact HIT2.out
          · rcases List.mem_cons.1 hm with hm | hm
            · exact HN2.out.1 hm.symm
            · rw [Option.mem_toList] at hm
              exact HN2.out.2 _ hm rfl
        clear hw2 hk2 ho2 hlen htk hc hch hip hW2 hitlt HWR HIT
        cases c with
        | false =>
          rw [show (chr false).toNat = 48 from rfl] at hnx
          go_wp2_with fail
          refine HPT.out.mono ?_
          rintro e W3 ⟨rfl, h3⟩
          have HF := Lib.hid (HFIN.out W3 h3)
          clear h3
          go_wp2
          go_roundg (gk - 1)
          case rel => exact ⟨i + 1, hlt, by have := HGK.out; omega, HF.out.1, HF.out.2⟩
          case measure => have := HGK.out; omega
        | true =>
          rw [show (chr true).toNat = 49 from rfl] at hnx
          go_wp2_with fail
          refine HPT.out.mono ?_
          rintro e W3 ⟨rfl, h3⟩
          have HF := Lib.hid (HFIN.out W3 h3)
          clear h3
          go_wp2
          go_roundg (gk - 1)
          case rel => exact ⟨i + 1, hlt, by have := HGK.out; omega, HF.out.1, HF.out.2⟩
          case measure => have := HGK.out; omega
      · have hit2 : i = t.length := by omega
        have hnx := fun ty => Lib.run_next_end_at (P := Try.prog) wr w1.heap.size S i ty HIT.out (by rw [HSZ.out]; omega)
        have HF : Hid (PutTree (n : Int) s b v l w (.returned (.bool true)) wr) := .inr ⟨HC.out, rfl, t, HTT.out, by have := HWR.out; rwa [hit2, List.take_length] at this⟩
        clear hit2 HIT HWR
        go_wp2
        go_ret
        exact HF.out
  · rw [decide_eq_false hc] at HT
    have HC := Lib.hid hc
    clear hc h
    go_enter Try.func16, Try.ntmps16
    go_wp2_with fail
    refine HT.out.mono ?_
    rintro e w1 ⟨rfl, hb1⟩
    have HF : Hid (PutTree size s b v l w (.returned (.bool false)) w1) := .inl ⟨HC.out, rfl, hb1⟩
    clear hb1
    go_wp2
    go_ret
    exact HF.out
end Go.Proofs.Ytmgckfkdbepkdaa
