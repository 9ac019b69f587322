import Derived.Test.YtfnbhpjekjjpaaaDoorTollL1
import Derived.Deep.RegionHeld3
import Derived.Deep.LoopGhost
namespace Go.Proofs.YtfnbhpjekjjpaaaDoor
open Go.RowKit Go.Proofs Go.Proofs.TollM
set_option maxRecDepth 100000

theorem own_base {w : World} {base base' : Nat} {e : TypeId} {size : Nat} {v : Value} {n : Nat} {xs : List Value} (h : w.ownsRow base e size v n xs) (hb : base' ≤ base) : w.ownsRow base' e size v n xs := by
  refine ⟨h.1, ?_⟩
  rcases h.2 with h2 | ⟨g, cap, cur, hv, hg, r⟩
  · exact Or.inl h2
  · exact Or.inr ⟨g, cap, cur, hv, Nat.le_trans hb hg, r⟩

/-- What stands behind so many rounds. -/
def Win (w : World) (zs : List Nat) (g cap a k : Nat) (ch : Bool) (wr : World) : Prop :=
  ∃ d m, d < 2 ^ k ∧ ch = decide (d ≠ 0) ∧ m.length = zs.length ∧ (∀ z ∈ m, z < 256) ∧ num m = num zs ^^^ d * 2 ^ a ∧
    wr.ownsRow w.heap.size 5 1 (.slice (some ⟨g, 0, none⟩) zs.length cap) zs.length (cellsOf m) ∧ Below w.heap.size w wr

theorem xor8 {y s : Nat} (hy : y < 256) (hs : s < 8) : bits .xor .u8 (y : Int) (2 ^ s % 256) = ((y ^^^ 2 ^ s : Nat) : Int) := by
  have h2 : 2 ^ s < 256 := Nat.lt_of_lt_of_le (Nat.pow_lt_pow_right (by decide) hs) (by decide)
  have e : ((2 : Int) ^ s % 256) = ((2 ^ s : Nat) : Int) := by
    have h3 : ((2 ^ s : Nat) : Int) = (2 : Int) ^ s := by rw [Int.natCast_pow]; rfl
    rw [← h3]
    generalize 2 ^ s = q at h2
    omega
  rw [e]
  exact u8_xor_nat y (2 ^ s) hy h2

theorem xor_top {d k : Nat} (h : d < 2 ^ k) : d ^^^ 2 ^ k < 2 ^ (k + 1) ∧ d ^^^ 2 ^ k ≠ 0 := by
  refine ⟨Nat.xor_lt_two_pow (Nat.lt_trans h (Nat.pow_lt_pow_right (by decide) (by omega))) (Nat.pow_lt_pow_right (by decide) (by omega)), fun e => ?_⟩
  have := congrArg (Nat.testBit · k) e
  simp [Nat.testBit_lt_two_pow h] at this

theorem mem_set {m : List Nat} {j y : Nat} (hm : ∀ z ∈ m, z < 256) (hy : y < 256) : ∀ z ∈ m.set j y, z < 256 := by
  intro z hz
  rcases List.mem_or_eq_of_mem_set hz with h | rfl
  · exact hm z h
  · exact hy

theorem win_next {w wr : World} {zs m : List Nat} {g cap a k d j s y : Nat} (hj : j < zs.length) (hd : d < 2 ^ k) (hml : m.length = zs.length) (hmz : ∀ z ∈ m, z < 256) (hnum : num m = num zs ^^^ d * 2 ^ a)
    (hown : wr.ownsRow w.heap.size 5 1 (.slice (some ⟨g, 0, none⟩) zs.length cap) zs.length (cellsOf m)) (hbel : Below w.heap.size w wr) (hp : a + k = 8 * j + s) (hy : m.getD j 0 = y) (hs : s < 8) :
    Win w zs g cap a (k + 1) true (wr.setCell ⟨g, j, none⟩ (.int .u8 ((y ^^^ 2 ^ s : Nat) : Int))).drew := by
  have hj2 : j < m.length := by omega
  have hyj : y = m[j] := by rw [← hy]; simp [List.getD, hj2]
  have hyl : y < 256 := by rw [hyj]; exact hmz _ (List.getElem_mem hj2)
  have h2 : 2 ^ s < 256 := Nat.lt_of_lt_of_le (Nat.pow_lt_pow_right (by decide) hs) (by decide)
  have hst := hown.stored j (.int .u8 ((y ^^^ 2 ^ s : Nat) : Int))
  have hg : w.heap.size ≤ g := by
    rcases hown.2 with ⟨h', _⟩ | ⟨g', cap', cur, h', hb, _⟩
    · simp at h'
    · simp only [Value.slice.injEq, Option.some.injEq, Addr.mk.injEq, and_true, true_and] at h'
      obtain ⟨rfl, rfl⟩ := h'
      exact hb
  refine ⟨d ^^^ 2 ^ k, m.set j (y ^^^ 2 ^ s), (xor_top hd).1, by simp [(xor_top hd).2], by simpa using hml, mem_set hmz (Nat.xor_lt_two_pow (n := 8) hyl h2), ?_, ?_, (hbel.setCell (p := ⟨g, j, none⟩) hg _).drew⟩
  · rw [hyj, num_set m j s hj2, hnum, ← hp, Nat.xor_assoc]
    congr 1
    have := Nat.shiftLeft_xor_distrib (a := d) (b := 2 ^ k) (i := a)
    rw [Nat.shiftLeft_eq, Nat.shiftLeft_eq, Nat.shiftLeft_eq] at this
    rw [this, ← Nat.pow_add, Nat.add_comm k a]
  · rw [cellsOf_set]
    exact hst.1

set_option maxHeartbeats 1000000 in
theorem tollWindow (ao : Option Addr) (cap c x : Nat) (zs : List Nat) (w : World) (hz : ∀ z ∈ zs, z < 256) (hc : BytesAt w ao zs) (hnil : ao = none → zs = []) (ht : Tab w) (h1 : c < 65536) (h2 : x < 4294967296) (hlen : zs.length ≤ maxLen) :
    Calls Tryd.prog 5 #[.slice ao zs.length cap, .int .u16 c, .int .u32 x] w fun e w' => e = .returned (.bool true) ∧ Below w.heap.size w w' := by
  have HZ := Lib.hid hz
  have HC := Lib.hid hc
  have HN := Lib.hid hnil
  have HT := Lib.hid ht
  clear hz hc hnil ht
  have hm : zs.length ≤ 9223372036854775807 := by unfold maxLen at hlen; omega
  clear hlen
  go_enter Tryd.func5, Tryd.ntmps5
  go_wp2_with fail
  refine (awake w HT.out).mono ?_
  rintro e w1 ⟨rfl, hb1⟩
  have HB1 := Lib.hid hb1
  clear hb1
  have HA := Lib.hid (awake w1 (HT.out.below HB1.out))
  by_cases hbig : 500 < zs.length
  · have t1 : decide ((500 : Int) < (zs.length : Int)) = true := decide_eq_true (by omega)
    go_wp2_with fail
    refine HA.out.mono ?_
    rintro e w2 ⟨rfl, hb2⟩
    have HB2 := Lib.hid hb2
    clear hb2
    go_wp2
    go_ret
    exact ⟨rfl, HB1.out.trans (HB2.out.mono HB1.out.size)⟩
  · have t1 : decide ((500 : Int) < (zs.length : Int)) = false := decide_eq_false (by omega)
    have hl : zs.length ≤ 500 := by omega
    by_cases h0 : zs.length = 0
    · have t2 : ((zs.length : Int) == 0) = true := by rw [h0]; rfl
      go_wp2_with fail
      refine HA.out.mono ?_
      rintro e w2 ⟨rfl, hb2⟩
      have HB2 := Lib.hid hb2
      clear hb2
      go_wp2
      go_ret
      exact ⟨rfl, HB1.out.trans (HB2.out.mono HB1.out.size)⟩
    · have t2 : ((zs.length : Int) == 0) = false := beq_eq_false_iff_ne.2 (by omega)
      by_cases hx0 : x = 0
      · have t3 : ((x : Int) == 0) = true := by rw [hx0]; rfl
        go_wp2_with fail
        refine HA.out.mono ?_
        rintro e w2 ⟨rfl, hb2⟩
        have HB2 := Lib.hid hb2
        clear hb2
        go_wp2
        go_ret
        exact ⟨rfl, HB1.out.trans (HB2.out.mono HB1.out.size)⟩
      · have t3 : ((x : Int) == 0) = false := beq_eq_false_iff_ne.2 (by omega)
        have hbA : Below w1.heap.size w1 (w1.alloc (.cells #[] 5)) := (Below.refl _ _).alloc (Nat.le_refl _) _
        obtain ⟨g, cap', w2, hr, hown, hb2⟩ := run_copy (w := w1.alloc (.cells #[] 5)) (g := w1.heap.size) (ao := ao) (cap := cap) (ty := 22) (zs := zs) (heap_new _ _) (by omega) ((HC.out.below HB1.out).below hbA) HN.out
        have HBel : Hid (Below w.heap.size w w2) := HB1.out.trans ((hbA.mono HB1.out.size).trans (hb2.mono HB1.out.size))
        have HO : Hid (w2.ownsRow w.heap.size 5 1 (.slice (some ⟨g, 0, none⟩) zs.length cap') zs.length (cellsOf zs)) := Lib.hid (own_base hown HB1.out.size)
        clear hown hb2 hbA
        have h8 : 0 < 8 * zs.length := by omega
        obtain ⟨a, ha, hal⟩ : ∃ a : Nat, (c : Int) % (8 * (zs.length : Int)) = (a : Int) ∧ a < 8 * zs.length := ⟨c % (8 * zs.length), by rw [Int.natCast_emod]; rfl, Nat.mod_lt c h8⟩
        go_wp2_with (at_builtin; refine wpList_append_run rfl _ _ 22 rfl _ _ _ _ rfl rfl hr ?_)
        rw [ha]
        have HW0 : Hid (Win w zs g cap' a 0 false w2) := Lib.hid ⟨0, zs, by decide, rfl, rfl, HZ.out, by simp, HO.out, HBel.out⟩
        clear ha HA HB1 hr
        go_loopg [9, 10, 37] 32 (fun gk ch _ i wr => ∃ (k : Nat) (b : Bool), k ≤ 32 ∧ gk + k = 32 ∧ i = .int .i64 k ∧ ch = .bool b ∧ Hid (Win w zs g cap' a k b wr))
        case atStart => exact ⟨0, false, by omega, by omega, rfl, rfl, HW0⟩
        case round =>
          obtain ⟨k, b, hk, hgk, rfl, rfl, HW⟩ := hrel
          have HGK := Lib.hid hgk
          clear hgk HW0
          by_cases hlt : k < 32
          · obtain ⟨d, m, hd, rfl, hml, hmz, hnum, hown, hbel⟩ := HW.out
            have hxk : ((x : Int) / 2 ^ k) = ((x / 2 ^ k : Nat) : Int) := by rw [Int.natCast_ediv, Int.natCast_pow]; rfl
            have hand : bits .and .u32 ((x : Int) / 2 ^ k) 1 = ((x / 2 ^ k % 2 : Nat) : Int) := by rw [hxk]; exact and1 (Nat.lt_of_le_of_lt (Nat.div_le_self _ _) h2)
            clear hxk
            have HM := Lib.hid hml
            have HMZ := Lib.hid hmz
            have HNUM := Lib.hid hnum
            have HOWN := Lib.hid hown
            have HBL := Lib.hid hbel
            have HD := Lib.hid hd
            clear hml hmz hnum hown hbel hd HW
            rcases (by omega : x / 2 ^ k % 2 = 0 ∨ x / 2 ^ k % 2 = 1) with hq | hq
            · rw [hq] at hand
              clear hq
              go_wp2_with fail
              go_roundg (gk - 1)
              case rel => exact ⟨k + 1, _, by omega, by have := HGK.out; omega, by go_num, rfl, Lib.hid ⟨d, m, Nat.lt_trans HD.out (Nat.pow_lt_pow_right (by decide) (by omega)), rfl, HM.out, HMZ.out, HNUM.out, HOWN.out, HBL.out⟩⟩
              case measure => have := HGK.out; omega
            · rw [hq] at hand
              clear hq
              by_cases hin : a + k < 8 * zs.length
              · have t4 : decide ((a : Int) + (k : Int) < 8 * (zs.length : Int)) = true := decide_eq_true (by omega)
                obtain ⟨j, hj, hjl⟩ : ∃ j : Nat, ((a : Int) + (k : Int)) / 8 = (j : Int) ∧ j < zs.length := ⟨(a + k) / 8, by omega, by omega⟩
                obtain ⟨s, hs, hsl⟩ : ∃ s : Nat, ((a : Int) + (k : Int)) % 8 = (s : Int) ∧ s < 8 := ⟨(a + k) % 8, by omega, by omega⟩
                have HP : Hid (a + k = 8 * j + s) := Lib.hid (by omega)
                have hcell : wr.cell? ⟨g, j, none⟩ = some (.int .u8 ((m.getD j 0 : Nat) : Int)) := by
                  have := HOWN.out.cells (g := g) rfl j _ (cellsOf_get m j (by rw [HM.out]; exact hjl))
                  rwa [Addr.add_lit, Nat.zero_add] at this
                have hfr : wr.frozen? ⟨g, j, none⟩ = false := HOWN.out.frozenAt j
                have hy := getD_lt HMZ.out j
                generalize hye : m.getD j 0 = y at hcell hy
                have HY := Lib.hid hye
                clear hye
                go_wp2_with fail
                go_region
                rw [xor8 hy hsl]
                go_wp2
                go_roundg (gk - 1)
                case rel => exact ⟨k + 1, _, by omega, by have := HGK.out; omega, by go_num, rfl, Lib.hid (win_next hjl HD.out HM.out HMZ.out HNUM.out HOWN.out HBL.out HP.out HY.out hsl)⟩
                case measure => have := HGK.out; omega
              · have t4 : decide ((a : Int) + (k : Int) < 8 * (zs.length : Int)) = false := decide_eq_false (by omega)
                go_wp2_with fail
                go_roundg (gk - 1)
                case rel => exact ⟨k + 1, _, by omega, by have := HGK.out; omega, by go_num, rfl, Lib.hid ⟨d, m, Nat.lt_trans HD.out (Nat.pow_lt_pow_right (by decide) (by omega)), rfl, HM.out, HMZ.out, HNUM.out, HOWN.out, HBL.out⟩⟩
                case measure => have := HGK.out; omega
          · obtain rfl : k = 32 := by omega
            obtain ⟨d, m, hd, rfl, hml, hmz, hnum, hown, hbel⟩ := HW.out
            have hwin := window hml (show a ≤ 8 * zs.length by omega) hd hnum
            rw [← hml] at hown
            have HS1 := Lib.hid (cSum2 (some ⟨g, 0, none⟩) cap' zs.length m wr hml (by omega) hmz (bytes_own hown) (HT.out.below hbel))
            have HS2 := Lib.hid (cSum ao cap zs wr (by omega) HZ.out (HC.out.below hbel) (HT.out.below hbel))
            have HBL := Lib.hid hbel
            clear hml hmz hnum hown hbel hd HW
            by_cases hd0 : d = 0
            · have t4 : decide (d ≠ 0) = false := by simp [hd0]
              have t5 : ((sum m : Int) != (sum zs : Int)) = false := by rw [hwin.2 hd0]; simp
              clear hwin hd0
              go_wp2_with (first | (go_at_call_of 7 g; refine HS1.out.mono ?_; rintro e w3 ⟨rfl, rfl⟩) | (go_at_call 7; refine HS2.out.mono ?_; rintro e w3 ⟨rfl, rfl⟩))
              go_ret
              exact ⟨rfl, HBL.out⟩
            · have t4 : decide (d ≠ 0) = true := by simp [hd0]
              have t5 : ((sum m : Int) != (sum zs : Int)) = true := by
                have : ¬ sum m = sum zs := fun h => hd0 (hwin.1 h)
                simp only [bne_iff_ne, ne_eq]; omega
              clear hwin hd0
              go_wp2_with (first | (go_at_call_of 7 g; refine HS1.out.mono ?_; rintro e w3 ⟨rfl, rfl⟩) | (go_at_call 7; refine HS2.out.mono ?_; rintro e w3 ⟨rfl, rfl⟩))
              go_ret
              exact ⟨rfl, HBL.out⟩
end Go.Proofs.YtfnbhpjekjjpaaaDoor
