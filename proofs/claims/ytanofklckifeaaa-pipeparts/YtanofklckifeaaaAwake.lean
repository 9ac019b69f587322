import Derived.Test.YtanofklckifeaaaWriter3
namespace Go.Proofs.Ytanofklckifeaaa
open Go.RowKit Go.Proofs Go.Proofs.PipeM Go.Proofs.PipeA

/-- The text of bytes. -/
def bstr (zs : List Nat) : ByteArray := strOfNums (zs.map fun z : Nat => (z : Int))

theorem conv_row {w : World} {base : Nat} {v : Value} {zs : List Nat} (h : w.ownsRow base 5 1 v zs.length (cellsOf zs)) :
    (convert 24 9 v).run Try.prog w = .ok (.string (bstr zs)) w := by
  obtain ⟨ao, cap, rfl, _, _, h3⟩ := own_shape h
  by_cases h0 : 0 < zs.length
  · obtain ⟨g, rfl, _, hc⟩ := h3 h0
    refine run_convert_bytes_arg w 24 5 und_bytes und_u8 g 0 zs.length cap (zs.map fun z : Nat => (z : Int)) (by simp) ?_ 9 und_string
    intro i hi
    rw [Nat.zero_add, hc i _ (cellsOf_get zs i hi)]
    simp [List.getD, hi]
  · obtain rfl : zs = [] := List.eq_nil_of_length_eq_zero (by omega)
    rcases h.2 with ⟨h', _⟩ | ⟨g, cap', cur, h', _⟩
    · simp only [Value.slice.injEq, List.length_nil, true_and] at h'
      obtain ⟨rfl, rfl⟩ := h'
      exact run_convert_bytes_nil w 24 5 und_bytes und_u8 0 0 9 und_string
    · simp only [Value.slice.injEq] at h'
      obtain ⟨rfl, _, _⟩ := h'
      exact run_convert_bytes_arg w 24 5 und_bytes und_u8 g 0 0 cap [] rfl (by intro i hi; omega) 9 und_string

theorem wr_fresh (w : World) : WrIs (w.alloc (.cells #[.slice none 0 0, .int .i64 0] 26)) w.heap.size (.slice none 0 0) [] [] := by
  refine ⟨⟨by simp, by simp, by simp, by simp, by simp, World.ownsRow_nil _ _ _ _⟩, packs_nil⟩

/-- What a fresh writer has written lies in new memory. -/
theorem wrote_below {w w' : World} {l : List Bool} (h : Wrote (w.alloc (.cells #[.slice none 0 0, .int .i64 0] 26)) w.heap.size (.slice none 0 0) l w') : Below w.heap.size w w' := by
  obtain ⟨_, _, _, hk, _⟩ := h
  exact ((Below.refl _ _).alloc (Nat.le_refl _) _).trans (hk.below (by simp) (by intro x hx; simp [Value.ownBlock] at hx; omega))

set_option maxHeartbeats 800000 in
theorem awake (w : World) : Calls Try.prog 7 #[] w fun e w' => e = .returned (.bool true) ∧ Below w.heap.size w w' := by
  go_enter Try.func7, Try.ntmps7
  go_wp2_with fail
  refine (wPut_yes w.heap.size (.slice none 0 0) [] [] 5 3 _ (by omega) (by omega) (by simp) (wr_fresh w)).mono ?_
  rintro e w1 ⟨rfl, v1, zs1, hi1, hk1, ho1⟩
  have H1 := Lib.hid hi1
  have K1 := Lib.hid hk1
  have O1 := Lib.hid ho1
  clear hi1 hk1 ho1
  go_wp2_with fail
  refine (wSigned_yes w.heap.size v1 _ zs1 (-1) 2 _ (by omega) (by omega) (by decide) (by decide) (by decide) H1.out).mono ?_
  rintro e w2 ⟨rfl, hw2⟩
  obtain ⟨v2, zs2, hi2, hk2, ho2⟩ := Wrote.next K1.out O1.out hw2
  have H2 := Lib.hid hi2
  have K2 := Lib.hid hk2
  have O2 := Lib.hid ho2
  clear hi2 hk2 ho2 hw2
  go_wp2_with fail
  refine (wZeros_yes w.heap.size v2 _ zs2 2 _ (by omega) (by decide) H2.out).mono ?_
  rintro e w3 ⟨rfl, hw3⟩
  have hw3' := Wrote.next K2.out O2.out hw3
  have HB := Lib.hid (wrote_below hw3')
  obtain ⟨v3, zs3, hi3, hk3, ho3⟩ := hw3'
  have H3 := Lib.hid hi3
  clear hi3 hk3 ho3 hw3
  go_wp2_with fail
  refine (wBytes w.heap.size v3 _ zs3 _ (by decide) H3.out).mono ?_
  rintro e w4 ⟨g, rfl, hown4, hb4⟩
  have hcv := conv_row hown4
  have hzs : zs3 = [185] := H3.out.packs.unique ⟨by simp, by decide⟩
  have hstr : bstr zs3 = ⟨#[185]⟩ := by rw [hzs]; rfl
  rw [hstr] at hcv
  have h1 : w4.cell? ⟨w.heap.size, 1, none⟩ = some (.int .i64 8) := (hb4.cell (p := ⟨w.heap.size, 1, none⟩) H3.out.lt).trans H3.out.c1
  have HB4 := Lib.hid hb4
  clear hown4 hb4 hzs hstr
  go_wp2_with (go_at_call 10; refine (wLen _ _ _ h1).mono ?_; rintro e w5 ⟨rfl, rfl⟩)
  go_ret
  exact ⟨rfl, HB.out.trans (HB4.out.mono HB.out.size)⟩
end Go.Proofs.Ytanofklckifeaaa
