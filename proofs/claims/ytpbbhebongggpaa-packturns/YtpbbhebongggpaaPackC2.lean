import Derived.Test.YtpbbhebongggpaaPackC1
namespace Go.Proofs.Ytpbbhebongggpaa
open Go.RowKit Go.Proofs Go.Proofs.PipeM Go.Proofs.PipeA Go.Proofs.PackM
set_option maxRecDepth 100000

theorem any_take {f : Int → Bool} {l : List Int} {c : Nat} (hc : c < l.length) : (l.take (c + 1)).any f = ((l.take c).any f || f l[c]) := by
  rw [List.take_succ_eq_append_getElem hc, List.any_append]; simp

def Found (l : List Int) (f : Int → Bool) (k : Int) : Prop := decide (0 ≤ k) = l.any f

set_option maxHeartbeats 800000 in
theorem cIndexFunc (ao : Option Addr) (cap : Nat) (l : List Int) (B : Int) (g : Bool) (w : World) (hl : l.length ≤ 1000000) (hi : IntsAt w ao l) :
    Calls Try.prog 36 #[.slice ao l.length cap, .func (.func 28) #[.agg #[.int .i64 B, .bool g]] #[]] w fun e w' => ∃ k : Int, e = .returned (.int .i64 k) ∧ Found l (fun n => !hasB B n) k ∧ Below w.heap.size w w' := by
  have HI := Lib.hid hi
  have HL := fun n W => Lib.hid (cLacks B g n W)
  clear hi
  go_enter Try.func36, Try.ntmps36
  go_wp2
  go_loopg [5, 8] l.length (fun gk q i wr => ∃ c : Nat, c ≤ l.length ∧ gk + c = l.length ∧ i = .int .i64 c ∧ Hid ((l.take c).any (fun n => !hasB B n) = false) ∧ Hid (Below w.heap.size w wr))
  case atStart => exact ⟨0, Nat.zero_le _, by omega, rfl, by simp [Hid], Below.refl _ _⟩
  case round =>
    obtain ⟨c, hc, hgk, rfl, HT, HW⟩ := hrel
    have HGK := Lib.hid hgk
    clear hgk
    by_cases hlt : c < l.length
    · obtain ⟨b, off, rfl, hg, hcell⟩ := (HI.out.below HW.out) c hlt
      have HNX := Lib.hid (any_take (f := fun n => !hasB B n) hlt)
      have HLC := fun W => Lib.hid (HL l[c] W).out
      have HMem : Hid (hasB B l[c] = false → l.any (fun n => !hasB B n) = true) := fun h => List.any_eq_true.2 ⟨l[c], List.getElem_mem hlt, by simp [h]⟩
      generalize l[c] = x at hcell HNX HLC HMem
      cases hx : hasB B x
      · have HM2 := Lib.hid (HMem.out hx)
        rw [hx] at HLC
        clear hx HMem HNX hg
        go_wp2_with fail
        refine (HLC _).out.mono ?_
        rintro e w1 ⟨rfl, hb⟩
        have HB1 := Lib.hid (HW.out.trans (hb.mono HW.out.size))
        clear hb
        go_wp2
        go_ret
        exact ⟨_, rfl, by unfold Found; rw [HM2.out]; exact decide_eq_true (by omega), HB1.out⟩
      · have HN2 : Hid ((l.take (c + 1)).any (fun n => !hasB B n) = false) := by show _ = _; rw [HNX.out, HT.out]; simp [hx]
        rw [hx] at HLC
        clear hx HMem HNX hg
        go_wp2_with fail
        refine (HLC _).out.mono ?_
        rintro e w1 ⟨rfl, hb⟩
        have HB1 := Lib.hid (HW.out.trans (hb.mono HW.out.size))
        clear hb
        go_wp2
        go_roundg (gk - 1)
        case rel => exact ⟨c + 1, by omega, by have := HGK.out; omega, by go_num, HN2, HB1⟩
        case measure => have := HGK.out; omega
    · obtain rfl : c = l.length := by omega
      have HA : Hid (l.any (fun n => !hasB B n) = false) := by have := HT.out; rw [List.take_length] at this; exact this
      go_wp2
      go_ret
      exact ⟨_, rfl, by unfold Found; rw [HA.out]; rfl, HW.out⟩

theorem lacks_all (B : Int) (l : List Int) : l.any (fun n => !hasB B n) = !(l.all (hasB B)) := by
  induction l with
  | nil => rfl
  | cons x r ih => simp only [List.any_cons, List.all_cons, ih]; cases hasB B x <;> simp

set_option maxHeartbeats 400000 in
theorem cContains (ao : Option Addr) (cap : Nat) (l : List Int) (B : Int) (g : Bool) (w : World) (hl : l.length ≤ 1000000) (hi : IntsAt w ao l) :
    Calls Try.prog 27 #[.slice ao l.length cap, .func (.func 28) #[.agg #[.int .i64 B, .bool g]] #[]] w fun e w' => e = .returned (.bool (!(l.all (hasB B)))) ∧ Below w.heap.size w w' := by
  have HX := Lib.hid (cIndexFunc ao cap l B g w hl hi)
  rw [← lacks_all]
  clear hi
  unfold Found at HX
  generalize l.any (fun n => !hasB B n) = a at HX ⊢
  go_enter Try.func27, Try.ntmps27
  go_wp2_with fail
  refine HX.out.mono ?_
  rintro e w1 ⟨k, rfl, hk, hb⟩
  have HB := Lib.hid hb
  clear hb
  go_wp2
  go_ret
  exact ⟨rfl, HB.out⟩

theorem head_get {rows : List (List Int)} (h : 0 < rows.length) : rows.headD [] = rows[0] := by
  cases rows with
  | nil => simp at h
  | cons a r => rfl

def levelTo (rows : List (List Int)) (c : Nat) : Bool := (rows.take c).all fun r => r.length == (rows.headD []).length
theorem level_step {rows : List (List Int)} {c : Nat} (hc : c < rows.length) : levelTo rows (c + 1) = (levelTo rows c && (rows[c].length == (rows.headD []).length)) := by
  unfold levelTo
  rw [List.take_succ_eq_append_getElem hc, List.all_append]; simp
theorem level_no {rows : List (List Int)} {c : Nat} (hc : c < rows.length) (h : (rows[c].length == (rows.headD []).length) = false) : level rows = false := by
  cases hl : level rows with
  | false => rfl
  | true => rw [List.all_eq_true.1 hl rows[c] (List.getElem_mem hc)] at h; cases h
theorem level_all (rows : List (List Int)) : levelTo rows rows.length = level rows := by unfold levelTo level; rw [List.take_length]

set_option maxHeartbeats 800000 in
theorem cIsLevel (ao : Option Addr) (cap : Nat) (rows : List (List Int)) (w : World) (hl : rows.length ≤ 1000000) (hi : RowsAt w ao rows) :
    Calls Try.prog 26 #[.slice ao rows.length cap] w fun e w' => e = .returned (.bool (level rows)) ∧ w' = w := by
  have HI := Lib.hid hi
  clear hi
  go_enter Try.func26, Try.ntmps26
  go_wp2
  go_loopg [4, 7] rows.length (fun gk q2 i wr => ∃ c : Nat, c ≤ rows.length ∧ gk + c = rows.length ∧ i = .int .i64 c ∧ Hid (levelTo rows c = true) ∧ wr = w)
  case atStart => exact ⟨0, Nat.zero_le _, by omega, rfl, rfl, rfl⟩
  case round =>
    obtain ⟨c, hc, hgk, rfl, HT, rfl⟩ := hrel
    have HGK := Lib.hid hgk
    clear hgk
    by_cases hlt : c < rows.length
    · obtain ⟨b, off, ro, rc, rfl, hg, hcell, _⟩ := HI.out c hlt
      obtain ⟨b', off', ro0, rc0, e0, hg0, hcell0, _⟩ := HI.out 0 (by omega)
      cases e0
      rw [Nat.add_zero] at hcell0
      have h0 : 0 < rows.length := by omega
      have HS := Lib.hid (level_step hlt)
      have HN := Lib.hid (level_no hlt)
      rw [head_get h0] at HS HN
      generalize rows[c].length = x at hcell HS HN
      generalize rows[0].length = y at hcell0 HS HN
      by_cases hxy : x = y
      · have t : ((x : Int) != (y : Int)) = false := by rw [bne_eq_false_iff_eq]; omega
        have HL2 : Hid (levelTo rows (c + 1) = true) := by show _ = _; rw [HS.out, HT.out]; simpa using hxy
        clear hxy HS HN hg hg0
        go_wp2
        go_roundg (gk - 1)
        case rel => exact ⟨c + 1, by omega, by have := HGK.out; omega, by go_num, HL2, rfl⟩
        case measure => have := HGK.out; omega
      · have t : ((x : Int) != (y : Int)) = true := by rw [bne_iff_ne]; omega
        have HL2 := Lib.hid (HN.out (by simpa using hxy))
        clear hxy HS HN hg hg0
        go_wp2
        go_ret
        exact ⟨by rw [HL2.out]; rfl, rfl⟩
    · obtain rfl : c = rows.length := by omega
      have HA : Hid (level rows = true) := by have := HT.out; rw [level_all] at this; exact this
      go_wp2
      go_ret
      exact ⟨by rw [HA.out]; rfl, rfl⟩
end Go.Proofs.Ytpbbhebongggpaa
