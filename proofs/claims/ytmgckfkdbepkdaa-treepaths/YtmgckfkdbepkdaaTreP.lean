import Derived.Test.YtmgckfkdbepkdaaTreX2
import Derived.Laws.CopyOwn
import Derived.Deep.RegionLaw
namespace Go.Proofs.Ytmgckfkdbepkdaa
open Go.RowKit Go.Proofs Go.Proofs.PipeA Go.Proofs.TreM
set_option maxRecDepth 100000

theorem size_int : (Try.prog.info? 3).map (·.size) = some 1 := by kernel_rfl
/-- How many leaves there may be. -/
def Two (c : Nat) : Prop := c = 1 ∨ c = 2 ∨ c = 4 ∨ c = 8 ∨ c = 16

set_option maxHeartbeats 3200000 in
theorem cMul64 (c : Nat) (hc : Two c) (w : World) :
    Calls Try.prog 60 #[.int .u64 1, .int .u64 (c : Int)] w fun e w' => e = .returned (.tuple #[.int .u64 0, .int .u64 (c : Int)]) ∧ w = w' := by
  have h1 : bits BinOp.and IntKind.u64 1 4294967295 = 1 := by decide
  have h2 : bits BinOp.and IntKind.u64 (c : Int) 4294967295 = (c : Int) := by rcases hc with rfl | rfl | rfl | rfl | rfl <;> decide
  have h3 : bits BinOp.and IntKind.u64 0 4294967295 = 0 := by decide
  have h4 : (c : Int) / 4294967296 = 0 := by rcases hc with rfl | rfl | rfl | rfl | rfl <;> decide
  have hc16 : c ≤ 16 := by rcases hc with h | h | h | h | h <;> omega
  clear hc
  go_enter Try.func60, Try.ntmps60
  go_wp2
  refine bodyPost_ret (v := .tuple #[.int .u64 0, .int .u64 (c : Int)]) (by simp [results, Try.results60, go_sem]) rfl ?_
  exact ⟨rfl, rfl⟩

set_option maxHeartbeats 1600000 in
theorem cMul (c : Nat) (hc : Two c) (w : World) :
    Calls Try.prog 58 #[.int .u64 1, .int .u64 (c : Int)] w fun e w' => e = .returned (.tuple #[.int .u64 0, .int .u64 (c : Int)]) ∧ w = w' := by
  have H := Lib.hid (cMul64 c hc w)
  have hc16 : c ≤ 16 := by rcases hc with h | h | h | h | h <;> omega
  clear hc
  go_enter Try.func58, Try.ntmps58
  go_wp2_with fail
  refine H.out.mono ?_
  rintro e w1 ⟨rfl, rfl⟩
  go_wp2
  refine bodyPost_ret (v := .tuple #[.int .u64 0, .int .u64 (c : Int)]) (by simp [results, Try.results58, go_sem]) rfl ?_
  exact ⟨rfl, rfl⟩

/-- A row whose first cells are one number. -/
structure Filled (W : World) (H c n : Nat) (x : Int) : Prop where
  row : ∃ cur : List Value, W.heap[H]? = some (.cells cur.toArray 3 (0, 0)) ∧ c ≤ cur.length ∧ ∀ j, j < n → cur[j]? = some (.int .i64 x)

theorem Two.step {n c : Nat} (hn : Two n) (hc : Two c) (h : n < c) : n + n ≤ c ∧ Two (n + n) := by
  unfold Two at *
  omega
theorem two_one : Two 1 := .inl rfl
theorem Two.le {c : Nat} (h : Two c) : 1 ≤ c ∧ c ≤ 16 := by unfold Two at h; omega

set_option maxHeartbeats 3200000 in
theorem cRepeat (X cap c : Nat) (x : Int) (w : World) (hc : Two c) (hx : w.cell? ⟨X, 0, none⟩ = some (.int .i64 x)) (hX : X < w.heap.size) :
    Calls Try.prog 52 #[.slice (some ⟨X, 0, none⟩) 1 cap, .int .i64 (c : Int)] w fun e w' => ∃ H, e = .returned (.slice (some ⟨H, 0, none⟩) c c) ∧ IntsAt w' (some ⟨H, 0, none⟩) (List.replicate c x) ∧ Below w.heap.size w w' := by
  have HM := Lib.hid (cMul c hc w)
  obtain ⟨cs, hcs, hmk⟩ := makeInts c (by have := hc.le; omega)
  have hcl : c ≤ cs.size := by
    have := hcs (c - 1) (by have := hc.le; omega)
    have := (Array.getElem?_eq_some_iff.1 this).1
    omega
  have HC := Lib.hid hc
  have hc1 := hc.le.1
  have hc16 := hc.le.2
  have HCL := Lib.hid hcl
  clear hc hcs hcl
  go_enter Try.func52, Try.ntmps52
  go_wp2_with fail
  refine HM.out.mono ?_
  rintro e w1 ⟨rfl, rfl⟩
  have hb1 := box_below w (.cells cs 3)
  have hn1 := World.alloc_heap_new w (.cells cs 3)
  have hsrc : ∀ j v, ([Value.int .i64 x])[j]? = some v → (w.alloc (.cells cs 3)).cell? ((⟨X, 0, none⟩ : Addr).add j) = some v := by
    intro j v hj
    match j, hj with
    | 0, hj => simp at hj; subst hj; rw [show (⟨X, 0, none⟩ : Addr).add 0 = ⟨X, 0, none⟩ from rfl, hb1.cell (p := ⟨X, 0, none⟩) hX]; exact hx
  have HB1 := Lib.hid hb1
  have HN1 : Hid ((w.alloc (.cells cs 3)).heap[w.heap.size]? = some (.cells cs.toList.toArray 3 (0, 0))) := by show _ = _; rw [hn1, Array.toArray_toList]
  have HSRC := Lib.hid hsrc
  obtain ⟨W1, hW1⟩ : ∃ W1, W1 = w.alloc (.cells cs 3) := ⟨_, rfl⟩
  have HW1 := Lib.hid hW1
  rw [← hW1] at HB1 HN1 HSRC
  clear hb1 hn1 hsrc hW1
  go_wp2_with (with_reducible refine wpList_copy_splice rfl (.tmp 31) (.tmp 32) 23 23 rfl 3 Try.underlying23 size_int _ _ _ _ _ _ rfl rfl w.heap.size 0 cs.toList 3 (HW1.out ▸ HN1.out) [.int .i64 x] ?k1 ?k2 ?k3 ?k4 w.heap.size w (HW1.out ▸ HB1.out) (Nat.le_refl _) ?_)
  case k1 => simp [hc1]
  case k2 =>
    intro j v hj
    match j, hj with
    | 0, hj => simp at hj; subst hj; exact hx
  case k3 => simp; have := HCL.out; omega
  case k4 => intro u hu; simp at hu; subst hu; rfl
  intro w2 HR hb2
  have HF1 : Hid (Filled w2 w.heap.size c 1 x) := by
    refine ⟨_, HR.out, ?_, fun j hj => ?_⟩
    · rw [length_splice _ _ _ (by simp; have := HCL.out; omega)]
      simpa using HCL.out
    · obtain rfl : j = 0 := by omega
      simp [splice]
  have HB2 := Lib.hid hb2
  have HT1 := Lib.hid two_one
  clear HR hb2 HSRC HN1 HB1 HW1 hmk
  go_wp2
  go_loopg [8] c (fun gk n wr => ∃ k : Nat, k ≤ c ∧ gk + k = c + 1 ∧ n = .int .i64 k ∧ Hid (Two k) ∧ Hid (Filled wr w.heap.size c k x) ∧ Hid (Below w.heap.size w wr))
  case atStart => exact ⟨1, hc1, by omega, rfl, HT1, HF1, HB2⟩
  case round =>
    obtain ⟨k, hk, hgk, rfl, HTK, HFK, HBK⟩ := hrel
    have HGK := Lib.hid hgk
    clear hgk
    by_cases hlt : k < c
    · have hst := HTK.out.step HC.out hlt
      have hk0 := HTK.out.le.1
      obtain ⟨q, hq⟩ : ∃ q, q = c - k := ⟨_, rfl⟩
      have hcut1 := fun W => cut_right (some ⟨w.heap.size, 0, none⟩) c c k (by omega) W
      rw [← hq, show cutA (some ⟨w.heap.size, 0, none⟩) c k = some ⟨w.heap.size, k, none⟩ by rw [cutA, if_neg (by omega)]; simp [Addr.add_lit]] at hcut1
      have hcut2 : ∀ W, (Instr.slice 23 (.slice (some ⟨w.heap.size, 0, none⟩) c c) none (some (.int .i64 (k : Int))) none).run Try.prog W = .ok (.slice (some ⟨w.heap.size, 0, none⟩) k c) W := fun W => by
        simp [Instr.slice, run_underlying Try.underlying23, Instr.sliceBounds, Instr.sliceBound, asIntOf, hk, Addr.add]
      obtain ⟨cur, hrow, hcl, hcur⟩ := HFK.out.row
      have hcopy := run_copy_row (P := Try.prog) wr.drew 23 23 3 3 w.heap.size k q q ⟨w.heap.size, 0, none⟩ k c cur.toArray 3 (List.replicate k (.int .i64 x)) Try.underlying23 size_int hrow (by rw [List.length_replicate]; exact (Nat.min_eq_left (by omega)).symm) (fun j v hj => by
        have hjk : j < k := by simpa using (List.getElem?_eq_some_iff.1 hj).1
        rw [List.getElem?_replicate, if_pos hjk] at hj
        cases hj
        rw [show (⟨w.heap.size, 0, none⟩ : Addr).add j = ⟨w.heap.size, j, none⟩ by simp [Addr.add_lit], cell_of_heap (W := wr.drew) hrow]
        simpa using hcur j hjk) (by simp; omega) (by intro u hu; rw [List.mem_replicate] at hu; rw [hu.2]; rfl)
      rw [List.length_replicate] at hcopy
      have HST := Lib.hid hst
      have HROW := Lib.hid hrow
      have HCL2 := Lib.hid hcl
      have HCUR := Lib.hid hcur
      obtain ⟨w4, hw4⟩ : ∃ w4, w4 = wr.drew.setRow w.heap.size (cur.toArray.toList.take k ++ List.replicate k (Value.int .i64 x) ++ cur.toArray.toList.drop (k + k)).toArray := ⟨_, rfl⟩
      rw [← hw4, show goInt (k : Int) = .int .i64 (k : Int) from rfl] at hcopy
      have HW4 := Lib.hid hw4
      have hkk : IntKind.i64.wrap ((k : Int) + (k : Int)) = ((k + k : Nat) : Int) := by rw [IntWalk.i64_in _ (by omega)]; omega
      clear hrow hcl hcur hst hw4 hq
      go_wp2
      go_region_with (fail)
      have HF4 : Hid (Filled w4 w.heap.size c (k + k) x) := by
        refine ⟨⟨cur.take k ++ List.replicate k (Value.int .i64 x) ++ cur.drop (k + k), ?_, ?_, fun j hj => ?_⟩⟩
        · rw [HW4.out, setRow_heap wr.drew w.heap.size cur.toArray _ 3 _ HROW.out]
        · have := HCL2.out
          have := HST.out.1
          simp; omega
        · have h1 := HCL2.out
          have h2 := HST.out.1
          by_cases hjk : j < k
          · rw [List.append_assoc, List.getElem?_append_left (by simp; omega), List.getElem?_take, if_pos hjk]
            simpa using HCUR.out j hjk
          · rw [List.append_assoc, List.getElem?_append_right (by simp; omega), List.getElem?_append_left (by simp; omega), List.getElem?_replicate, if_pos (by simp; omega)]
      have HB4 : Hid (Below w.heap.size w w4) := by
        show Below _ _ _
        rw [HW4.out]
        exact below_setRow (below_drew HBK.out) (Nat.le_refl _) _
      clear HW4 HROW hcopy
      go_wp2
      go_roundg (c + 1 - (k + k))
      case rel => exact ⟨k + k, HST.out.1, by have := HST.out.1; omega, by go_num, HST.out.2, HF4, HB4⟩
      case measure => have := HGK.out; omega
    · obtain rfl : k = c := by omega
      have HFI : Hid (IntsAt wr (some ⟨w.heap.size, 0, none⟩) (List.replicate k x)) := by
        intro j hj
        rw [List.length_replicate] at hj
        obtain ⟨cur, hrow, hcl, hcur⟩ := HFK.out.row
        refine ⟨w.heap.size, 0, rfl, (Array.getElem?_eq_some_iff.1 hrow).1, ?_⟩
        rw [Nat.zero_add, cell_of_heap hrow, List.getElem_replicate]
        simpa using hcur j hj
      go_wp2
      go_ret
      exact ⟨_, rfl, HFI.out, HBK.out⟩
end Go.Proofs.Ytmgckfkdbepkdaa
