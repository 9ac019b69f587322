import Derived.Test.YtcgkalfclammfabLagB3
namespace Go.Proofs.Ytcgkalfclammfab
open Go.RowKit Go.Proofs Go.Proofs.PipeA Go.Proofs.LagM
set_option maxRecDepth 100000

set_option maxHeartbeats 3200000 in
theorem lagBest (ao : Option Addr) (cap : Nat) (l : List Int) (w : World) (hll : l.length ≤ 9223372036854775807) (hcap : l.length ≤ cap) (hi : IntsAt w ao l) :
    Calls Try.prog 5 #[.slice ao l.length cap] w fun e w' => e = .returned (.bool true) ∧ Below w.heap.size w w' := by
  have HA := fun W => Lib.hid (awake8 W)
  have HI := Lib.hid hi
  have HW := fun W h => Lib.hid (rWrong 0 0 ao cap l W hll h)
  clear hi
  by_cases hlen : l.length ≤ 24
  · rcases code_zero_or 0 0 l with hc | hne
    · have HAL := Lib.hid (codeT_zero hc).2
      rw [hc] at HW
      clear hc
      have HCP := Lib.hid hcap
      obtain ⟨u, hu⟩ : ∃ u, u = bestA l (l.length - 1) := ⟨_, rfl⟩
      have HCB := fun W h => Lib.hid (cBest ao cap l W hlen hcap HAL.out h)
      have HRB := fun W h => Lib.hid (rBest ao cap l W hlen HAL.out h)
      rw [← hu] at HCB HRB
      unfold termV at HCB
      obtain ⟨p, q⟩ := u
      simp only at HCB HRB
      clear hu hcap
      go_enter Try.func5, Try.ntmps5
      go_wp2_with fail
      refine (HA _).out.mono ?_
      rintro e w1 ⟨rfl, hb1⟩
      have HB1 := Lib.hid hb1
      have HI1 := Lib.hid (HI.out.below hb1)
      clear hb1
      go_wp2_with fail
      refine (HW _ HI1.out).out.mono ?_
      rintro e w2 ⟨rfl, rfl⟩
      go_wp2_with fail
      refine (HCB _ HI1.out).out.mono ?_
      rintro e w3 ⟨rfl, hb3⟩
      have hb4 := box_below w3 (.cells #[.int .i64 (p : Int), .int .i64 (q : Int)] 23)
      have hb34 := hb3.trans (hb4.mono hb3.size)
      have HB4 := Lib.hid (HB1.out.trans (hb34.mono HB1.out.size))
      have HI4 := Lib.hid (HI1.out.below hb34)
      have HN := Lib.hid (World.alloc_heap_new w3 (.cells #[.int .i64 (p : Int), .int .i64 (q : Int)] 23))
      have HR := Lib.hid (HRB _ HI4.out).out
      clear hb3 hb4 hb34 HCB HRB HW
      go_wp2_with fail
      refine HR.out.mono ?_
      rintro e w5 ⟨rfl, hb5⟩
      have hN5 := (hb5.block _ (Array.getElem?_eq_some_iff.1 HN.out).1).trans HN.out
      obtain ⟨k0, k1, _, _⟩ := cells_two hN5
      have HB5 := Lib.hid (HB4.out.trans (hb5.mono HB4.out.size))
      clear hb5 hN5 HR HN
      go_wp2
      go_ret
      exact ⟨rfl, HB5.out⟩
    · generalize codeT 0 0 l = cd at *
      go_enter Try.func5, Try.ntmps5
      go_wp2_with fail
      refine (HA _).out.mono ?_
      rintro e w1 ⟨rfl, hb1⟩
      have HB1 := Lib.hid hb1
      have HI1 := Lib.hid (HI.out.below hb1)
      clear hb1
      go_wp2_with fail
      refine (HW _ HI1.out).out.mono ?_
      rintro e w2 ⟨rfl, rfl⟩
      go_wp2_with fail
      refine (HA _).out.mono ?_
      rintro e w3 ⟨rfl, hb3⟩
      have HB3 := Lib.hid (HB1.out.trans (hb3.mono HB1.out.size))
      clear hb3
      go_wp2
      go_ret
      exact ⟨rfl, HB3.out⟩
  · have t1 : decide (24 < (l.length : Int)) = true := decide_eq_true (by omega)
    go_enter Try.func5, Try.ntmps5
    go_wp2_with fail
    refine (HA _).out.mono ?_
    rintro e w1 ⟨rfl, hb1⟩
    have HB1 := Lib.hid hb1
    clear hb1
    go_wp2_with fail
    refine (HA _).out.mono ?_
    rintro e w3 ⟨rfl, hb3⟩
    have HB3 := Lib.hid (HB1.out.trans (hb3.mono HB1.out.size))
    clear hb3
    go_wp2
    go_ret
    exact ⟨rfl, HB3.out⟩
end Go.Proofs.Ytcgkalfclammfab
