import Derived.Test.YtpbbhebongggpaaPackC2
namespace Go.Proofs.Ytpbbhebongggpaa
open Go.RowKit Go.Proofs Go.Proofs.PipeM Go.Proofs.PipeA Go.Proofs.PackM
set_option maxRecDepth 100000

theorem code_bad {B : Int} (rows : List (List Int)) (h : good B = false) : code B rows = 7 := by unfold code; rw [h]; rfl
theorem code_count {B : Int} {rows : List (List Int)} (h : good B = true) (hc : ¬ (1 ≤ rows.length ∧ rows.length ≤ 8)) : code B rows = 8 := by
  unfold code; rw [if_pos h, if_neg (fun x => hc ⟨x.1, x.2.1⟩)]
theorem code_level {B : Int} {rows : List (List Int)} (h : good B = true) (hc : level rows = false) : code B rows = 8 := by
  unfold code; rw [if_pos h, if_neg (fun x => by rw [hc] at x; exact absurd x.2.2 (by simp))]
theorem code_has {B : Int} {rows : List (List Int)} (h : good B = true) (h1 : 1 ≤ rows.length) (h8 : rows.length ≤ 8) (hc : level rows = true) : code B rows = if allHas B rows = true then 0 else 9 := by
  unfold code; rw [if_pos h, if_pos ⟨h1, h8, hc⟩]

def hasTo (B : Int) (rows : List (List Int)) (c : Nat) : Bool := (rows.take c).all fun r => r.all (hasB B)
theorem has_step {B : Int} {rows : List (List Int)} {c : Nat} (hc : c < rows.length) : hasTo B rows (c + 1) = (hasTo B rows c && rows[c].all (hasB B)) := by
  unfold hasTo
  rw [List.take_succ_eq_append_getElem hc, List.all_append]; simp
theorem has_no {B : Int} {rows : List (List Int)} {c : Nat} (hc : c < rows.length) (h : rows[c].all (hasB B) = false) : allHas B rows = false := by
  cases hl : allHas B rows with
  | false => rfl
  | true => rw [List.all_eq_true.1 hl rows[c] (List.getElem_mem hc)] at h; cases h
theorem has_all (B : Int) (rows : List (List Int)) : hasTo B rows rows.length = allHas B rows := by unfold hasTo allHas; rw [List.take_length]

/-- Channels that are few. -/
def Small (rows : List (List Int)) : Prop := rows.length ≤ 12 ∧ ∀ r ∈ rows, r.length ≤ 1000

set_option maxHeartbeats 1600000 in
theorem cCheck (ao : Option Addr) (cap : Nat) (rows : List (List Int)) (B : Int) (g : Bool) (w : World) (hs : Small rows) (hi : RowsAt w ao rows) :
    Calls Try.prog 13 #[.agg #[.int .i64 B, .bool g], .slice ao rows.length cap] w fun e w' => e = .returned (.int .i64 (code B rows)) ∧ Below w.heap.size w w' := by
  have HB := fun o => Lib.hid (box_below w o)
  have HG := fun W => Lib.hid (cGood B g W)
  have HIC := fun W => Lib.hid (cIsCount rows.length W)
  have HIL := fun W (hb : Below w.heap.size w W) => Lib.hid (cIsLevel ao cap rows W (by have := hs.1; omega) (hi.below hb))
  have HI := Lib.hid hi
  have HS := Lib.hid hs
  have hl12 := hs.1
  clear hi hs
  cases hgd : good B
  · have HC := Lib.hid (code_bad rows hgd)
    rw [hgd] at HG
    clear hgd
    go_enter Try.func13, Try.ntmps13
    go_wp2_with fail
    refine (HG _).out.mono ?_
    rintro e w1 ⟨rfl, hb⟩
    have HB1 := Lib.hid ((HB _).out.trans (hb.mono (HB _).out.size))
    clear hb
    go_wp2
    go_ret
    exact ⟨by rw [HC.out]; rfl, HB1.out⟩
  · have HGD := Lib.hid hgd
    rw [hgd] at HG
    clear hgd
    by_cases hcnt : 1 ≤ rows.length ∧ rows.length ≤ 8
    · have hct : decide (1 ≤ (rows.length : Int) ∧ (rows.length : Int) < 9) = true := decide_eq_true (by omega)
      rw [hct] at HIC
      clear hct
      obtain ⟨b, off, ro, rc, rfl, hg0, hcell0, _⟩ := HI.out 0 (by omega)
      rw [Nat.add_zero] at hcell0
      have hx0 := HS.out.2 rows[0] (List.getElem_mem _)
      obtain ⟨x0, hx0e⟩ : ∃ x0, x0 = rows[0].length := ⟨_, rfl⟩
      rw [← hx0e] at hcell0 hx0
      clear hx0e
      cases hlv : level rows
      · have HC := Lib.hid (code_level HGD.out hlv)
        rw [hlv] at HIL
        clear hlv
        go_enter Try.func13, Try.ntmps13
        go_wp2_with fail
        refine (HG _).out.mono ?_
        rintro e w1 ⟨rfl, hb⟩
        have HB1 := Lib.hid ((HB _).out.trans (hb.mono (HB _).out.size))
        clear hb
        go_wp2_with fail
        refine (HIC _).out.mono ?_
        rintro e w2 ⟨rfl, rfl⟩
        go_wp2_with fail
        refine (HIL _ HB1.out).out.mono ?_
        rintro e w2 ⟨rfl, rfl⟩
        go_wp2
        go_ret
        exact ⟨by rw [HC.out]; rfl, HB1.out⟩
      · have HC := Lib.hid (code_has HGD.out hcnt.1 hcnt.2 hlv)
        rw [hlv] at HIL
        clear hlv
        obtain ⟨cd, hcd⟩ : ∃ cd, cd = code B rows := ⟨_, rfl⟩
        rw [← hcd] at HC ⊢
        clear hcd
        go_enter Try.func13, Try.ntmps13
        go_wp2_with fail
        refine (HG _).out.mono ?_
        rintro e w1 ⟨rfl, hb⟩
        have HB1 := Lib.hid ((HB _).out.trans (hb.mono (HB _).out.size))
        have c0 : w1.cell? ⟨w.heap.size, 0, none⟩ = some (.int .i64 B) := (hb.cell (p := ⟨w.heap.size, 0, none⟩) (by simp)).trans (by simp)
        have c1 : w1.cell? ⟨w.heap.size, 1, none⟩ = some (.bool g) := (hb.cell (p := ⟨w.heap.size, 1, none⟩) (by simp)).trans (by simp)
        have k0 := (HB1.out.cell (p := ⟨b, off, none⟩) hg0).trans hcell0
        have hsz : w.heap.size + 1 ≤ w1.heap.size := by have := hb.size; simpa using this
        clear hb
        go_wp2_with fail
        refine (HIC _).out.mono ?_
        rintro e w2 ⟨rfl, rfl⟩
        go_wp2_with fail
        refine (HIL _ HB1.out).out.mono ?_
        rintro e w2 ⟨rfl, rfl⟩
        go_wp2
        go_loopg [6, 28] rows.length (fun gk q i wr => ∃ c : Nat, c ≤ rows.length ∧ gk + c = rows.length ∧ i = .int .i64 c ∧ Hid (hasTo B rows c = true) ∧ Hid (Below w.heap.size w wr) ∧ Hid (Below w2.heap.size w2 wr))
        case atStart => exact ⟨0, Nat.zero_le _, by omega, rfl, rfl, HB1, Below.refl _ _⟩
        case round =>
          obtain ⟨c, hc, hgk, rfl, HT, HW, HW2⟩ := hrel
          have HGK := Lib.hid hgk
          have d0 := (HW2.out.cell (p := ⟨w.heap.size, 0, none⟩) (by show w.heap.size < _; omega)).trans c0
          have d1 := (HW2.out.cell (p := ⟨w.heap.size, 1, none⟩) (by show w.heap.size < _; omega)).trans c1
          clear hgk
          by_cases hlt : c < rows.length
          · obtain ⟨b', off', ro, rc, e0, hg, hcell, hints⟩ := (HI.out.below HW.out) c hlt
            cases e0
            have HST := Lib.hid (has_step (B := B) hlt)
            have HNO := Lib.hid (has_no (B := B) hlt)
            have HCT := Lib.hid (cContains ro rc rows[c] B g wr (by have := HS.out.2 rows[c] (List.getElem_mem _); omega) hints)
            generalize rows[c].length = x at hcell HCT
            clear hints hg
            cases hh : rows[c].all (hasB B)
            · have HA : Hid (cd = 9) := by show _ = _; rw [HC.out, HNO.out hh]; rfl
              rw [hh] at HCT
              clear hh HST HNO HC
              go_wp2_with fail
              refine HCT.out.mono ?_
              rintro e w3 ⟨rfl, hb3⟩
              have HB3 := Lib.hid (HW.out.trans (hb3.mono HW.out.size))
              clear hb3
              go_wp2
              go_ret
              exact ⟨by rw [HA.out]; rfl, HB3.out⟩
            · have HT2 : Hid (hasTo B rows (c + 1) = true) := by show _ = _; rw [HST.out, HT.out, hh]; rfl
              rw [hh] at HCT
              clear hh HST HNO
              go_wp2_with fail
              refine HCT.out.mono ?_
              rintro e w3 ⟨rfl, hb3⟩
              have HB3 := Lib.hid (HW.out.trans (hb3.mono HW.out.size))
              have HB4 := Lib.hid (HW2.out.trans (hb3.mono HW2.out.size))
              clear hb3
              go_wp2
              go_roundg (gk - 1)
              case rel => exact ⟨c + 1, by omega, by have := HGK.out; omega, by go_num, HT2, HB3, HB4⟩
              case measure => have := HGK.out; omega
          · obtain rfl : c = rows.length := by omega
            have HA : Hid (cd = 0) := by have := HT.out; rw [has_all] at this; show _ = _; rw [HC.out, this]; rfl
            clear HC
            go_wp2
            go_ret
            exact ⟨by rw [HA.out]; rfl, HW.out⟩
    · have HC := Lib.hid (code_count HGD.out hcnt)
      have hct : decide (1 ≤ (rows.length : Int) ∧ (rows.length : Int) < 9) = false := decide_eq_false (by omega)
      rw [hct] at HIC
      clear hct hcnt
      go_enter Try.func13, Try.ntmps13
      go_wp2_with fail
      refine (HG _).out.mono ?_
      rintro e w1 ⟨rfl, hb⟩
      have HB1 := Lib.hid ((HB _).out.trans (hb.mono (HB _).out.size))
      clear hb
      go_wp2_with fail
      refine (HIC _).out.mono ?_
      rintro e w2 ⟨rfl, rfl⟩
      go_wp2
      go_ret
      exact ⟨by rw [HC.out]; rfl, HB1.out⟩
end Go.Proofs.Ytpbbhebongggpaa
