import Derived.Test.YtpbbhebongggpaaPackU2
import Derived.Test.YtpbbhebongggpaaPackF4
namespace Go.Proofs.Ytpbbhebongggpaa
open Go.RowKit Go.Proofs Go.Proofs.PipeM Go.Proofs.PipeA Go.Proofs.PackM
set_option maxRecDepth 100000

theorem rows_one (W : World) (a b : Nat) (l : List Int) (cap : Nat) (cs : Array Value) (t t2 : TypeId) (h1 : W.heap[a]? = some (.cells cs t)) (hc : ∀ j (h : j < l.length), cs[j]? = some (.int .i64 l[j])) (h2 : W.heap[b]? = some (.cells #[.slice (some ⟨a, 0, none⟩) l.length cap] t2)) : RowsAt W (some ⟨b, 0, none⟩) [l] := by
  intro i hi
  obtain rfl : i = 0 := by simpa using hi
  refine ⟨b, 0, some ⟨a, 0, none⟩, cap, rfl, (Array.getElem?_eq_some_iff.1 h2).1, by simp [World.cell?, h2], ?_⟩
  intro j hj
  refine ⟨a, 0, rfl, (Array.getElem?_eq_some_iff.1 h1).1, ?_⟩
  rw [Nat.zero_add, cell_of_heap h1]
  exact hc j hj

theorem alloc2h (w : World) (o1 o2 : Obj) : ((w.alloc o1).alloc o2).heap[w.heap.size]? = some o1 ∧ ((w.alloc o1).alloc o2).heap[w.heap.size + 1]? = some o2 ∧ ((w.alloc o1).alloc o2).heap.size = w.heap.size + 2 := by
  have h2 := World.alloc_heap_new (w.alloc o1) o2
  rw [World.size_alloc] at h2
  exact ⟨(Below.heap_alloc _ _ _ (by simp)).trans (World.alloc_heap_new w o1), h2, by simp⟩

set_option maxHeartbeats 800000 in
theorem awake (w : World) : Calls Try.prog 8 #[] w fun e w' => e = .returned (.bool true) ∧ Below w.heap.size w w' := by
  obtain ⟨h1, h2, h3⟩ := alloc2h w (.cells #[.int .i64 1, .int .i64 (-2)] 3) (.cells #[.slice (some ⟨w.heap.size, 0, none⟩) 2 2] 45)
  have HB := Lib.hid (below2 w (.cells #[.int .i64 1, .int .i64 (-2)] 3) (.cells #[.slice (some ⟨w.heap.size, 0, none⟩) 2 2] 45))
  have hP := cPack_ok (some ⟨w.heap.size + 1, 0, none⟩) 1 [[1, -2]] 2 false ((w.alloc (.cells #[.int .i64 1, .int .i64 (-2)] 3)).alloc (.cells #[.slice (some ⟨w.heap.size, 0, none⟩) 2 2] 45)) (by omega) ⟨by decide, by intro r hr; simp at hr; subst hr; decide⟩
    (rows_one _ _ _ [1, -2] 2 _ _ _ h1 (by intro j hj; rcases (by simp at hj; omega : j = 0 ∨ j = 1) with rfl | rfl <;> rfl) h2) (by decide)
  have HP := Lib.hid hP
  clear hP h1 h2 h3
  go_enter Try.func8, Try.ntmps8
  go_wp2_with fail
  refine HP.out.mono ?_
  rintro e w1 ⟨H, rfl, hby, _, _, hb⟩
  have HB1 := Lib.hid (HB.out.trans (hb.mono HB.out.size))
  have hcv := conv_bytes (cap := 4) hby
  have e1 : packF 2 false [[1, -2]] (len0 [[1, -2]] * [[1, -2]].length * 2) = [1, 0, 254, 255] := by decide
  rw [e1] at hcv
  have e2 : bstr [1, 0, 254, 255] = ⟨#[1, 0, 254, 255]⟩ := rfl
  rw [e2] at hcv
  clear hb hby e1 e2
  have e3 : len0 [[1, -2]] * [([1, -2] : List Int)].length * 2 = 4 := by decide
  rw [e3]
  simp only [List.length_cons, List.length_nil] at hcv
  go_wp2
  go_ret
  exact ⟨rfl, HB1.out⟩

/-- Channels that aren't many, nor long. -/
def fewB (rows : List (List Int)) : Bool := rows.all (fun r => decide (r.length ≤ 200)) && decide (rows.length ≤ 12)
def fewTo (rows : List (List Int)) (c : Nat) : Bool := (rows.take c).all fun r => decide (r.length ≤ 200)
theorem few_step {rows : List (List Int)} {c : Nat} (hc : c < rows.length) : fewTo rows (c + 1) = (fewTo rows c && decide (rows[c].length ≤ 200)) := by
  unfold fewTo
  rw [List.take_succ_eq_append_getElem hc, List.all_append]; simp
theorem few_no {rows : List (List Int)} {c : Nat} (hc : c < rows.length) (h : ¬ rows[c].length ≤ 200) : fewB rows = false := by
  unfold fewB
  have : rows.all (fun r => decide (r.length ≤ 200)) = false := by
    cases ha : rows.all (fun r => decide (r.length ≤ 200)) with
    | false => rfl
    | true => exact absurd (of_decide_eq_true (List.all_eq_true.1 ha _ (List.getElem_mem hc))) h
  rw [this]; rfl
theorem few_all {rows : List (List Int)} (h : fewTo rows rows.length = true) : fewB rows = decide (rows.length ≤ 12) := by
  unfold fewTo at h
  rw [List.take_length] at h
  unfold fewB
  rw [h]; rfl
theorem few_small {rows : List (List Int)} (h : fewB rows = true) : rows.length ≤ 12 ∧ ∀ r ∈ rows, r.length ≤ 200 := by
  unfold fewB at h
  rw [Bool.and_eq_true] at h
  exact ⟨of_decide_eq_true h.2, fun r hr => of_decide_eq_true (List.all_eq_true.1 h.1 r hr)⟩

set_option maxHeartbeats 800000 in
theorem cFew (ao : Option Addr) (cap : Nat) (rows : List (List Int)) (w : World) (hl : rows.length ≤ 9223372036854775807) (hi : RowsAt w ao rows) :
    Calls Try.prog 9 #[.slice ao rows.length cap] w fun e w' => e = .returned (.bool (fewB rows)) ∧ w' = w := by
  have HI := Lib.hid hi
  clear hi
  go_enter Try.func9, Try.ntmps9
  go_wp2
  go_loopg [4, 7] rows.length (fun gk q2 i wr => ∃ c : Nat, c ≤ rows.length ∧ gk + c = rows.length ∧ i = .int .i64 c ∧ Hid (fewTo rows c = true) ∧ wr = w)
  case atStart => exact ⟨0, Nat.zero_le _, by omega, rfl, rfl, rfl⟩
  case round =>
    obtain ⟨c, hc, hgk, rfl, HT, rfl⟩ := hrel
    have HGK := Lib.hid hgk
    clear hgk
    by_cases hlt : c < rows.length
    · obtain ⟨b, off, ro, rc, rfl, hg, hcell, _⟩ := HI.out c hlt
      have HS := Lib.hid (few_step hlt)
      have HN := Lib.hid (few_no hlt)
      generalize rows[c].length = x at hcell HS HN
      by_cases hx : x ≤ 200
      · have t : decide (200 < (x : Int)) = false := decide_eq_false (by omega)
        have HL2 : Hid (fewTo rows (c + 1) = true) := by show _ = _; rw [HS.out, HT.out]; simpa using hx
        clear hx HS HN hg
        go_wp2
        go_roundg (gk - 1)
        case rel => exact ⟨c + 1, by omega, by have := HGK.out; omega, by go_num, HL2, rfl⟩
        case measure => have := HGK.out; omega
      · have t : decide (200 < (x : Int)) = true := decide_eq_true (by omega)
        have HL2 := Lib.hid (HN.out hx)
        clear hx HS HN hg
        go_wp2
        go_ret
        exact ⟨by rw [HL2.out]; rfl, rfl⟩
    · obtain rfl : c = rows.length := by omega
      have HA := Lib.hid (few_all HT.out)
      have t : decide ((rows.length : Int) ≤ 12) = decide (rows.length ≤ 12) := decide_eq_decide.2 (by omega)
      generalize decide (rows.length ≤ 12) = d at HA t
      go_wp2
      go_ret
      exact ⟨by rw [HA.out]; rfl, rfl⟩

/-- The slices of channels, each in a block of its own, which isn't that of the slices. -/
def RowsIn (w : World) (v : Value) (cs : List Value) (rows : List (List Int)) : Prop :=
  ∀ i (h : i < rows.length), ∃ b rc, cs[i]? = some (.slice (some ⟨b, 0, none⟩) rows[i].length rc) ∧ IntsAt w (some ⟨b, 0, none⟩) rows[i] ∧ some b ≠ v.ownBlock ∧ b < w.heap.size

theorem rowsIn_at {w : World} {base : Nat} {ao : Option Addr} {cap n : Nat} {cs : List Value} {rows : List (List Int)} (h1 : w.ownsRow base 45 1 (.slice ao n cap) n cs) (hn : n = rows.length) (h2 : RowsIn w (.slice ao n cap) cs rows) : RowsAt w ao rows := by
  intro i hi
  obtain ⟨b, rc, h3, h4, _⟩ := h2 i hi
  rcases h1.2 with ⟨e1, e2⟩ | ⟨g, cap', cur, e1, hb, hh, _⟩
  · omega
  · simp only [Value.slice.injEq] at e1
    obtain ⟨rfl, _, rfl⟩ := e1
    refine ⟨g, 0, _, rc, rfl, (Array.getElem?_eq_some_iff.1 hh).1, ?_, h4⟩
    rw [Nat.zero_add, h1.cellAt i (by omega), h3]

theorem rowsIn_push {w w3 w4 : World} {base : Nat} {v v' : Value} {n b rc : Nat} {cs : List Value} {rows : List (List Int)} {row : List Int} (h1 : w.ownsRow base 45 1 v n cs) (hn : n = rows.length) (h2 : RowsIn w v cs rows) (hb : Below w.heap.size w w3) (hi : IntsAt w3 (some ⟨b, 0, none⟩) row) (hb1 : w.heap.size ≤ b) (hb2 : b < w3.heap.size)
    (hg : w3.grownBy w4 v.ownBlock) (hat : v'.ownBlock = v.ownBlock ∨ ∃ g, v'.ownBlock = some g ∧ w3.heap.size ≤ g) : RowsIn w4 v' (cs ++ [.slice (some ⟨b, 0, none⟩) row.length rc]) (rows ++ [row]) := by
  have hcl : cs.length = n := by have := h1.1; omega
  have hk : Keeps v.ownBlock.toList w3 w4 := ⟨hg.os, hg.tape, hg.output, hg.size, fun k hk hn => hg.block k hk (fun e => hn (by simp [← e]))⟩
  have hvb := own_block_lt h1
  intro i hi'
  by_cases hlt : i < rows.length
  · obtain ⟨b', rc', h3, h4, h5, h6⟩ := h2 i hlt
    have e1 : (rows ++ [row])[i] = rows[i] := List.getElem_append_left hlt
    rw [e1]
    refine ⟨b', rc', by rw [List.getElem?_append_left (by omega)]; exact h3, (h4.below hb).keeps hk (by intro g' off' hh; cases hh; intro hm; exact h5 (by cases hv : v.ownBlock with | none => simp [hv] at hm | some y => simp [hv] at hm; rw [hm])), ?_, Nat.lt_of_lt_of_le (Nat.lt_of_lt_of_le h6 hb.size) hg.size⟩
    rcases hat with h | ⟨g, h, hge⟩
    · rw [h]; exact h5
    · rw [h]; intro e; cases e; have := hb.size; omega
  · obtain rfl : i = rows.length := by simp at hi'; omega
    have e1 : (rows ++ [row])[rows.length] = row := by simp
    rw [e1]
    refine ⟨b, rc, by rw [List.getElem?_append_right (by omega)]; simp [hcl, hn], hi.keeps hk (by intro g' off' hh; cases hh; intro hm; cases hv : v.ownBlock with | none => simp [hv] at hm | some y => simp [hv] at hm; have := (hvb y hv).2; omega), ?_, Nat.lt_of_lt_of_le hb2 hg.size⟩
    rcases hat with h | ⟨g, h, hge⟩
    · rw [h]; intro e; have := (hvb b e.symm).2; omega
    · rw [h]; intro e; cases e; omega

def OwnIs (rows : List (List Int)) (w : World) (e : Ending) (w' : World) : Prop :=
  ∃ ao cap, e = .returned (.slice ao rows.length cap) ∧ RowsAt w' ao rows ∧ Below w.heap.size w w'

set_option maxHeartbeats 1600000 in
theorem cOwn (ao : Option Addr) (cap : Nat) (rows : List (List Int)) (w : World) (hs : Small rows) (hi : RowsAt w ao rows) :
    Calls Try.prog 10 #[.slice ao rows.length cap] w (OwnIs rows w) := by
  obtain ⟨i0, hii, hz0, hz1, hz2⟩ := info_parts info_ints
  have HI := Lib.hid hi
  have HS := Lib.hid hs
  have hl12 := hs.1
  clear hi hs
  go_enter Try.func10, Try.ntmps10
  go_wp2
  go_loopg [3, 5, 8] rows.length (fun gk v q i wr => ∃ c : Nat, c ≤ rows.length ∧ gk + c = rows.length ∧ i = .int .i64 c ∧ (∃ cs, wr.ownsRow w.heap.size 45 1 v c cs ∧ RowsIn wr v cs (rows.take c)) ∧ Hid (Below w.heap.size w wr))
  case atStart => exact ⟨0, Nat.zero_le _, by omega, rfl, ⟨[], World.ownsRow_nil _ _ _ _, fun i hi => by simp at hi⟩, Below.refl _ _⟩
  case round =>
    obtain ⟨c, hc, hgk, rfl, ⟨cs, hown, hin⟩, HW⟩ := hrel
    have HGK := Lib.hid hgk
    have HIN := Lib.hid hin
    clear hgk hin
    by_cases hlt : c < rows.length
    · obtain ⟨b, off, ro, rc, rfl, hg, hcell, hints⟩ := (HI.out.below HW.out) c hlt
      have hxc := HS.out.2 rows[c] (List.getElem_mem hlt)
      have HTK : Hid (rows.take (c + 1) = rows.take c ++ [rows[c]]) := List.take_succ_eq_append_getElem hlt
      have HTL : Hid (c = (rows.take c).length) := by show _ = _; rw [List.length_take]; omega
      generalize rows[c] = row at hcell hints hxc HTK
      have hk0 := World.alloc_heap_new wr (.cells #[] 3)
      obtain ⟨g1, cap1, w2, hrun, hi2, hg1, hg2, hcap, hb2⟩ := run_copyI (cap := rc) (ty := 45) hk0 (show row.length ≤ 100000 by omega) (hints.below (box_below wr (.cells #[] 3)))
      have hb2' : Below wr.heap.size wr w2 := (box_below wr (.cells #[] 3)).trans hb2
      have HI2 := Lib.hid hi2
      have HB2 := Lib.hid hb2'
      have hsz2 := hb2'.size
      have hown2 := ownsRow_below hown hb2'
      obtain ⟨x, hx⟩ : ∃ x, x = row.length := ⟨_, rfl⟩
      rw [← hx] at hcell hrun hxc
      have HX := Lib.hid hx
      have HOWN := Lib.hid hown
      clear hk0 hints hi2 hb2 hb2' hg hx hown
      go_wp2_with (at_builtin; first | refine wpList_append_run rfl _ _ 45 rfl _ _ _ _ rfl rfl hrun ?_ | refine wpList_append_own2 _ rfl _ _ 24 rfl w.heap.size 45 i0 (.slice none 0 0) 1 24 Try.underlying24 hii hz0 hz1 hz2 rfl (by decide) _ _ _ rfl (hown2.alloc _) ⟨w2.heap.size, 0, none⟩ 1 1 [.slice (some ⟨g1, 0, none⟩) x cap1] rfl rfl ?c1 ?c2 ?c3 ?c4 ?c5 ?_)
      case c1 =>
        intro j u hj
        match j, hj with
        | 0, hj => simp at hj; subst hj; simp [Addr.add]
      case c2 => intro u hu; simp at hu; subst hu; rfl
      case c3 => unfold maxLen; omega
      case c4 => omega
      case c5 => have := HW.out.size; simp; omega
      intro v' w4 hown' hgrow hat
      have hb3 : Below wr.heap.size wr (w2.alloc (.cells #[.slice (some ⟨g1, 0, none⟩) x cap1] 45)) := HB2.out.alloc hsz2 _
      have HIN4 : Hid (RowsIn w4 v' (cs ++ [.slice (some ⟨g1, 0, none⟩) x cap1]) (rows.take (c + 1))) := by
        show RowsIn _ _ _ _
        rw [HTK.out, HX.out]
        exact rowsIn_push HOWN.out HTL.out HIN.out hb3 (HI2.out.below (box_below w2 _)) hg1 (Nat.lt_of_lt_of_le hg2 (by simp)) hgrow (by rcases hat with h | ⟨g, h, hge⟩; exact Or.inl h; exact Or.inr ⟨g, h, by simpa using hge⟩)
      have HW4 : Hid (Below w.heap.size w w4) := (HW.out.trans (hb3.mono HW.out.size)).grown hgrow (by have := HW.out.size; simp; omega) (by
        intro g hg
        exact (own_block_lt HOWN.out g hg).1)
      clear hgrow hat hown2 hb3
      go_wp2
      go_roundg (gk - 1)
      case rel => exact ⟨c + 1, by omega, by have := HGK.out; omega, by go_num, ⟨_, hown', HIN4.out⟩, HW4⟩
      case measure => have := HGK.out; omega
    · obtain rfl : c = rows.length := by omega
      obtain ⟨ao', cap', rfl, _⟩ := own_slice hown
      have HR : Hid (RowsAt wr ao' rows) := by
        have h1 := HIN.out
        rw [List.take_length] at h1
        exact rowsIn_at hown rfl h1
      go_wp2
      go_ret
      exact ⟨ao', cap', rfl, HR.out, HW.out⟩
end Go.Proofs.Ytpbbhebongggpaa
