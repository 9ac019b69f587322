import Derived.Test.YtpbbhebongggpaaPackL1
namespace Go.Proofs.Ytpbbhebongggpaa
open Go.RowKit Go.Proofs Go.Proofs.PipeM Go.Proofs.PipeA Go.Proofs.PackM
set_option maxRecDepth 100000

/-- The samples of a place. -/
def rowAt (rows : List (List Int)) (i : Nat) : List Int := rows.map fun r => r.getD i 0
theorem rowAt_length (rows : List (List Int)) (i : Nat) : (rowAt rows i).length = rows.length := by simp [rowAt]
theorem rowAt_take (rows : List (List Int)) (i c : Nat) (h : c < rows.length) : rowAt (rows.take (c + 1)) i = rowAt (rows.take c) i ++ [rows[c].getD i 0] := by
  unfold rowAt
  rw [List.take_succ_eq_append_getElem h, List.map_append]; rfl

def RowIs (rows : List (List Int)) (i : Nat) (w : World) (e : Ending) (w' : World) : Prop :=
  ∃ ao cap, e = .returned (.slice ao rows.length cap) ∧ IntsAt w' ao (rowAt rows i) ∧ Below w.heap.size w w'

theorem makeEmpty (m : Nat) (hm : m ≤ 100) : ∃ cs : Array Value, cs.size = m ∧ ∀ W, (Instr.makeSlice 45 (.int .i64 0) (.int .i64 (m : Int))).run Try.prog W = .ok (.slice (some ⟨W.heap.size, 0, none⟩) 0 m) (W.alloc (.cells cs 3)) := by
  obtain ⟨i0, hi, hz0, hz1, hz2⟩ := info_parts info_int
  refine ⟨madeCells (Value.cells (.int .i64 0)) (m * i0.size), by rw [hz1]; simp [madeCells], fun W => ?_⟩
  have := run_make (P := Try.prog) W 45 3 i0 (.int .i64 0) Try.underlying45 hi hz0 .i64 .i64 0 m (by omega) (by omega) (by rw [hz2]; omega) (by omega)
  simpa using this

theorem intsOf_snoc (l : List Int) (n : Int) : intsOf (l ++ [n]) = intsOf l ++ [.int .i64 n] := by simp [intsOf]

set_option maxHeartbeats 1600000 in
theorem cRow (ao : Option Addr) (cap : Nat) (rows : List (List Int)) (i : Nat) (w : World) (hs : Small rows) (hi : RowsAt w ao rows) (hn : ∀ r ∈ rows, i < r.length) (hi1 : i ≤ 1000) :
    Calls Try.prog 21 #[.slice ao rows.length cap, .int .i64 (i : Int)] w (RowIs rows i w) := by
  obtain ⟨i0, hii, hz0, hz1, hz2⟩ := info_parts info_int
  have hl12 := hs.1
  obtain ⟨cs, hcs, hmk⟩ := makeEmpty rows.length (by omega)
  have HI := Lib.hid hi
  have HNN := Lib.hid hn
  have HB := Lib.hid (box_below w (.cells cs 3))
  have hh := World.alloc_heap_new w (.cells cs 3)
  have HOWN0 : Hid ((w.alloc (.cells cs 3)).ownsRow w.heap.size 3 1 (.slice (some ⟨w.heap.size, 0, none⟩) 0 rows.length) 0 []) := ⟨rfl, .inr ⟨w.heap.size, rows.length, cs, rfl, Nat.le_refl _, hh, by omega, by unfold maxLen; omega, by omega, by simp⟩⟩
  clear hi hs hn hh hcs
  go_enter Try.func21, Try.ntmps21
  go_wp2
  generalize w.alloc (.cells cs 3) = w1 at HB HOWN0 ⊢
  go_loopg [5, 7, 13] rows.length (fun gk v q j wr => ∃ c : Nat, c ≤ rows.length ∧ gk + c = rows.length ∧ j = .int .i64 c ∧ wr.ownsRow w.heap.size 3 1 v c (intsOf (rowAt (rows.take c) i)) ∧ Hid (Below w.heap.size w wr))
  case atStart => exact ⟨0, Nat.zero_le _, by omega, rfl, HOWN0.out, HB⟩
  case round =>
    obtain ⟨c, hc, hgk, rfl, hown, HW⟩ := hrel
    have HGK := Lib.hid hgk
    clear hgk
    by_cases hlt : c < rows.length
    · obtain ⟨b, off, ro, rc, rfl, hg, hcell, hints⟩ := (HI.out.below HW.out) c hlt
      have hil := HNN.out rows[c] (List.getElem_mem hlt)
      obtain ⟨b2, off2, rfl, hb2, hcell2⟩ := hints i hil
      have HTK := Lib.hid (rowAt_take rows i c hlt)
      have hge : rows[c].getD i 0 = rows[c][i] := by simp [List.getD, hil]
      rw [hge] at HTK
      generalize rows[c][i] = nn at hcell2 HTK
      obtain ⟨x, hx⟩ : ∃ x, x = rows[c].length := ⟨_, rfl⟩
      rw [← hx] at hcell hil
      have t1 : decide ((i : Int) < 0) = false := decide_eq_false (by omega)
      have t2 : decide ((x : Int) ≤ (i : Int)) = false := decide_eq_false (by omega)
      clear hge hg hb2 hints hx
      go_wp2_with (at_builtin; refine wpList_append_own _ rfl _ _ 45 rfl w.heap.size 3 i0 (.int .i64 0) 1 8 Try.underlying45 hii hz0 hz1 hz2 rfl (by decide) _ _ _ rfl (hown.alloc _) ⟨wr.heap.size, 0, none⟩ 1 1 [.int .i64 nn] rfl rfl ?c1 ?c2 ?c3 ?c4 ?c5 ?_)
      case c1 =>
        intro j u hj
        match j, hj with
        | 0, hj => simp at hj; subst hj; simp [Addr.add]
      case c2 => intro u hu; simp at hu; subst hu; rfl
      case c3 => unfold maxLen; omega
      case c4 => omega
      case c5 => have := HW.out.size; simp; omega
      intro v' w2 hown' hgrow _
      have HB2 : Hid (Below w.heap.size w w2) := (HW.out.alloc HW.out.size _).grown hgrow (by have := HW.out.size; simp; omega) (fun g hg => (own_block_lt hown g hg).1)
      rw [← intsOf_snoc, ← HTK.out] at hown'
      clear hgrow hown
      go_wp2
      go_roundg (gk - 1)
      case rel => exact ⟨c + 1, by omega, by have := HGK.out; omega, by go_num, hown', HB2⟩
      case measure => have := HGK.out; omega
    · obtain rfl : c = rows.length := by omega
      rw [List.take_length] at hown
      obtain ⟨ao', cap', rfl, _⟩ := own_slice hown
      have HR : Hid (IntsAt wr ao' (rowAt rows i)) := ints_own (cap := cap') (base := w.heap.size) (by rw [rowAt_length]; exact hown)
      go_wp2
      go_ret
      exact ⟨ao', cap', rfl, HR.out, HW.out⟩

/-- One sample of each channel, alone. -/
theorem one_code {B : Int} {rows : List (List Int)} (i : Nat) (h : code B rows = 0) (hn : ∀ r ∈ rows, i < r.length) : code B ((rowAt rows i).map fun n => [n]) = 0 := by
  obtain ⟨h1, h2, h3, h4, h5⟩ := code_zero h
  have hlen : ((rowAt rows i).map fun n => [n]).length = rows.length := by rw [List.length_map, rowAt_length]
  refine code_of h1 (by rw [hlen]; exact h2) (by rw [hlen]; exact h3) ?_ ?_
  · intro r hr
    have h0 : 0 < ((rowAt rows i).map fun n => [n]).length := by omega
    rw [head_get h0]
    simp only [List.mem_map] at hr
    obtain ⟨n, _, rfl⟩ := hr
    simp
  · intro r hr n hn'
    simp only [List.mem_map] at hr
    obtain ⟨n', hm, rfl⟩ := hr
    simp at hn'
    subst hn'
    simp only [rowAt, List.mem_map] at hm
    obtain ⟨r', hr', rfl⟩ := hm
    have hl := hn r' hr'
    have : r'.getD i 0 = r'[i] := by simp [List.getD, hl]
    rw [this]
    exact h5 r' hr' _ (List.getElem_mem _)
theorem one_len0 {rows : List (List Int)} (i : Nat) (h : 1 ≤ rows.length) : len0 ((rowAt rows i).map fun n => [n]) = 1 := by
  unfold len0
  have h0 : 0 < ((rowAt rows i).map fun n => [n]).length := by rw [List.length_map, rowAt_length]; exact h
  rw [head_get h0]
  simp
theorem one_samp {rows : List (List Int)} (i c : Nat) (hc : c < rows.length) : samp ((rowAt rows i).map fun n => [n]) c = samp rows (i * rows.length + c) := by
  have hlen : ((rowAt rows i).map fun n => [n]).length = rows.length := by rw [List.length_map, rowAt_length]
  unfold samp
  rw [hlen, Nat.mod_eq_of_lt hc, Nat.div_eq_of_lt hc]
  have e1 : (i * rows.length + c) % rows.length = c := by rw [Nat.mul_comm, Nat.mul_add_mod, Nat.mod_eq_of_lt hc]
  have e2 : (i * rows.length + c) / rows.length = i := by rw [Nat.mul_comm, Nat.mul_add_div (by omega), Nat.div_eq_of_lt hc]; rfl
  rw [e1, e2]
  simp [List.getD, rowAt, hc]
/-- Row by row, they are the whole. -/
theorem pack_rows (z : Nat) (g : Bool) (rows : List (List Int)) (i : Nat) (hz : 1 ≤ z) : packF z g rows ((i + 1) * rows.length * z) = packF z g rows (i * rows.length * z) ++ packF z g ((rowAt rows i).map fun n => [n]) (rows.length * z) := by
  have h : ∀ c, c ≤ rows.length → packF z g rows ((i * rows.length + c) * z) = packF z g rows (i * rows.length * z) ++ packF z g ((rowAt rows i).map fun n => [n]) (c * z) := by
    intro c
    induction c with
    | zero => intro _; simp [packF]
    | succ c ih =>
      intro hc
      have := packF_more z g rows (i * rows.length + c) hz
      rw [← Nat.add_assoc, this, ih (by omega), packF_more z g ((rowAt rows i).map fun n => [n]) c hz, one_samp i c (by omega), List.append_assoc]
  have := h rows.length (Nat.le_refl _)
  rw [Nat.add_mul i 1, Nat.one_mul]
  exact this
end Go.Proofs.Ytpbbhebongggpaa
