import Derived.Test.YtpbbhebongggpaaPackF3
namespace Go.Proofs.Ytpbbhebongggpaa
open Go.RowKit Go.Proofs Go.Proofs.PipeM Go.Proofs.PipeA Go.Proofs.PackM
set_option maxRecDepth 100000

def BytesIs (zs : List Nat) (w : World) (e : Ending) (w' : World) : Prop :=
  ∃ v, e = .returned v ∧ w'.ownsRow w.heap.size 5 1 v zs.length (cellsOf zs) ∧ Below w.heap.size w w'

theorem samp_at {rows : List (List Int)} {k i : Nat} (hi : i < rows.length) (hk : k < rows[i].length) : samp rows (k * rows.length + i) = rows[i][k] := by
  unfold samp
  have e1 : (k * rows.length + i) % rows.length = i := by rw [Nat.mul_comm, Nat.mul_add_mod, Nat.mod_eq_of_lt hi]
  have e2 : (k * rows.length + i) / rows.length = k := by rw [Nat.mul_comm, Nat.mul_add_div (by omega), Nat.div_eq_of_lt hi]; rfl
  rw [e1, e2]
  simp [List.getD, hi, hk]

theorem own_far {w : World} {base n size : Nat} {e : TypeId} {xs : List Value} {v : Value} (h : w.ownsRow base e size v n xs) {b : Nat} (hb : b < base) : some b ≠ v.ownBlock := by
  intro hh
  have := own_block_lt h b hh.symm
  omega

set_option maxHeartbeats 6400000 in
theorem rPack (ao : Option Addr) (cap : Nat) (rows : List (List Int)) (z : Nat) (g : Bool) (w : World) (hz : z = 1 ∨ z = 2 ∨ z = 3) (hs : Small rows) (hi : RowsAt w ao rows) (hcode : code ((8 * z : Nat) : Int) rows = 0) :
    Calls Try.prog 16 #[.agg #[.int .i64 ((8 * z : Nat) : Int), .bool g], .slice ao rows.length cap] w (BytesIs (packF z g rows ((rows.headD []).length * rows.length * z)) w) := by
  obtain ⟨i0, hii, hz0, hz1, hz2⟩ := info_parts info_u8
  obtain ⟨_, hc1, hc8, hlev, hhas⟩ := code_zero hcode
  obtain ⟨b, off, r0, rc0, rfl, hbw, hcell0, _⟩ := hi 0 hc1
  rw [Nat.add_zero] at hcell0
  have hs0 : rows[0].length = (rows.headD []).length := by rw [head_get hc1]
  have hs1 : (rows.headD []).length ≤ 1000 := by rw [← hs0]; exact hs.2 _ (List.getElem_mem _)
  rw [hs0] at hcell0
  have HLEV := Lib.hid hlev
  have HHAS := Lib.hid hhas
  have HI := Lib.hid hi
  have hz3 : 1 ≤ z ∧ z ≤ 3 := by omega
  have HONE := fun n W (h : hasB ((8 * z : Nat) : Int) n = true) => Lib.hid (rOne z g n W hz h)
  have HB := fun o => Lib.hid (box_below w o)
  have HPM := fun q => Lib.hid (packF_more z g rows q (by omega))
  have HPL := fun n => Lib.hid (packF_length z g rows n)
  obtain ⟨s, hse⟩ : ∃ s, s = (rows.headD []).length := ⟨_, rfl⟩
  obtain ⟨ch, hche⟩ : ∃ ch, ch = rows.length := ⟨_, rfl⟩
  rw [← hse] at hs1 hcell0 HLEV ⊢
  rw [← hche] at hc1 hc8 ⊢
  have HCH := Lib.hid hche
  obtain ⟨zb, hzb⟩ : ∃ zb, zb = 8 * z := ⟨_, rfl⟩
  have HZB := Lib.hid hzb
  rw [← hzb] at HONE HHAS ⊢
  have hsz0 : Hid (s * ch * z ≤ 24000) := Nat.le_trans (Nat.mul_le_mul (Nat.mul_le_mul hs1 hc8) hz3.2) (by decide)
  clear hzb hche hse hs0 hlev hhas hi hcode hz
  go_enter Try.func16, Try.ntmps16
  go_wp2_with fail
  have c0 : (w.alloc (.cells #[.int .i64 (zb : Int), .bool g] 29)).cell? ⟨w.heap.size, 0, none⟩ = some (.int .i64 (zb : Int)) := by simp
  have c1 : (w.alloc (.cells #[.int .i64 (zb : Int), .bool g] 29)).cell? ⟨w.heap.size, 1, none⟩ = some (.bool g) := by simp
  have HB1 := Lib.hid (HB (.cells #[.int .i64 (zb : Int), .bool g] 29)).out
  have hw1 : (w.alloc (.cells #[.int .i64 (zb : Int), .bool g] 29)).heap.size = w.heap.size + 1 := by simp
  generalize w.alloc (.cells #[.int .i64 (zb : Int), .bool g] 29) = w1 at c0 c1 HB1 hw1 ⊢
  have k0 := (HB1.out.cell (p := ⟨b, off, none⟩) hbw).trans hcell0
  go_loopg [5, 12] s (fun gk v i wr => ∃ k n : Nat, k ≤ s ∧ gk + k = s ∧ i = .int .i64 k ∧ Hid (n = k * ch * z) ∧ wr.ownsRow w1.heap.size 5 1 v n (cellsOf (packF z g rows n)) ∧ Hid (Below w1.heap.size w1 wr))
  case atStart => exact ⟨0, 0, Nat.zero_le _, by omega, rfl, by simp [Hid], World.ownsRow_nil _ _ _ _, Below.refl _ _⟩
  case round =>
    obtain ⟨k, n, hk, hgk, rfl, HN, hown, HW⟩ := hrel
    have HGK := Lib.hid hgk
    clear hgk
    by_cases hlt : k < s
    · obtain ⟨W2, rfl⟩ : ∃ W2, W2 = wr := ⟨_, rfl⟩
      obtain ⟨G2, rfl⟩ : ∃ G2, G2 = gk := ⟨_, rfl⟩
      go_wp2
      go_loopg [5, 17] ch (fun gk v i wr => ∃ c n : Nat, c ≤ ch ∧ gk + c = ch ∧ i = .int .i64 c ∧ Hid (n = (k * ch + c) * z) ∧ wr.ownsRow w1.heap.size 5 1 v n (cellsOf (packF z g rows n)) ∧ Hid (Below w1.heap.size w1 wr))
      case atStart => exact ⟨0, n, Nat.zero_le _, by omega, rfl, by show _ = _; rw [HN.out]; simp, hown, HW⟩
      case round =>
        clear hown HN HW
        obtain ⟨c, n, hc, hgk, rfl, HN, hown, HW⟩ := hrel
        have HGK2 := Lib.hid hgk
        clear hgk
        by_cases hltc : c < ch
        · have hcr : c < rows.length := by have := HCH.out; omega
          have hrl : rows[c].length = s := HLEV.out _ (List.getElem_mem _)
          obtain ⟨b', off', ro, rc, e0, hb', hcell, hints⟩ := HI.out c hcr
          cases e0
          obtain ⟨b2, off2, rfl, hb2, hcell2⟩ := hints k (by rw [hrl]; exact hlt)
          rw [hrl] at hcell
          have y0 := (HW.out.cell (p := ⟨w.heap.size, 0, none⟩) (by show w.heap.size < _; omega)).trans c0
          have y1 := (HW.out.cell (p := ⟨w.heap.size, 1, none⟩) (by show w.heap.size < _; omega)).trans c1
          have y2 := (HW.out.cell (p := ⟨b, off + c, none⟩) (by show b < _; omega)).trans ((HB1.out.cell (p := ⟨b, off + c, none⟩) hb').trans hcell)
          have y3 := (HW.out.cell (p := ⟨b2, off2 + k, none⟩) (by show b2 < _; omega)).trans ((HB1.out.cell (p := ⟨b2, off2 + k, none⟩) hb2).trans hcell2)
          have HSA : Hid (samp rows (k * ch + c) = rows[c][k]'(by rw [hrl]; exact hlt)) := by
            show _ = _
            rw [HCH.out]
            exact samp_at hcr (by rw [hrl]; exact hlt)
          have HHS := Lib.hid (HHAS.out _ (List.getElem_mem hcr) _ (List.getElem_mem (show k < rows[c].length by rw [hrl]; exact hlt)))
          generalize rows[c][k] = nn at y3 HSA HHS
          obtain ⟨q, hq⟩ : ∃ q, q = k * ch + c := ⟨_, rfl⟩
          have HPQ := Lib.hid (HPM q).out
          rw [← hq] at HSA HN
          rw [HSA.out] at HPQ
          have HNQ : Hid (n + z = (q + 1) * z) := by show _ = _; rw [HN.out, Nat.add_mul, Nat.one_mul]
          have hn24 : n + z ≤ 24000 := by
            have h1 : q + 1 ≤ s * ch := by
              have : (k + 1) * ch ≤ s * ch := Nat.mul_le_mul_right _ hlt
              rw [Nat.add_mul, Nat.one_mul] at this
              omega
            have h2 : (q + 1) * z ≤ s * ch * z := Nat.mul_le_mul_right _ h1
            have := HNQ.out
            have := hsz0.out
            omega
          rw [← HN.out, ← HNQ.out] at HPQ
          have HQ := Lib.hid hq
          have hw1r := HW.out.size
          have HF1 := Lib.hid (own_far hown (show w.heap.size < w1.heap.size by omega))
          have HF2 := Lib.hid (own_far hown (show b < w1.heap.size by omega))
          have HF3 := Lib.hid (own_far hown (show b2 < w1.heap.size by omega))
          clear hcell hints hcell2 hq hrl
          go_wp2_with fail
          go_region_held3 (fun w' => w'.cell? ⟨w.heap.size, 0, none⟩ = some (.int .i64 (zb : Int)) ∧ w'.cell? ⟨w.heap.size, 1, none⟩ = some (.bool g) ∧ w'.cell? ⟨b, off + c, none⟩ = some (.slice (some ⟨b2, off2, none⟩) s rc) ∧ w'.cell? ⟨b2, off2 + k, none⟩ = some (.int .i64 nn))
            (first
              | exact ⟨y0, y1, y2, y3⟩
              | exact ⟨p0, p1, p2, p3⟩
              | exact ⟨(hgrow.cell_far ⟨w.heap.size, 0, none⟩ (by show w.heap.size < _; omega) HF1.out).trans p0, (hgrow.cell_far ⟨w.heap.size, 1, none⟩ (by show w.heap.size < _; omega) HF1.out).trans p1, (hgrow.cell_far ⟨b, off + c, none⟩ (by show b < _; omega) HF2.out).trans p2, (hgrow.cell_far ⟨b2, off2 + k, none⟩ (by show b2 < _; omega) HF3.out).trans p3⟩
              | fail)
            (first
              | (go_at_call 31; refine (HONE nn _ HHS.out).out.mono ?_; rintro e w5 ⟨g5, cap5, rfl, hown5, hb5⟩; have hb5' : Below wr.heap.size wr w5 := ((keeps_drew_b wr []).below (Nat.le_refl _) (by simp)).trans hb5; have p0 := (hb5'.cell (p := ⟨w.heap.size, 0, none⟩) (by show w.heap.size < _; omega)).trans y0; have p1 := (hb5'.cell (p := ⟨w.heap.size, 1, none⟩) (by show w.heap.size < _; omega)).trans y1; have p2 := (hb5'.cell (p := ⟨b, off + c, none⟩) (by show b < _; omega)).trans y2; have p3 := (hb5'.cell (p := ⟨b2, off2 + k, none⟩) (by show b2 < _; omega)).trans y3; have h5s := hb5'.size; have HO5 := Lib.hid hown5; have HB5 := Lib.hid hb5'; have hown' := ownsRow_below hown hb5'; clear hb5 hb5' hown5)
              | (refine step_append_lies _ (by rfl) _ _ 30 (by rfl) w1.heap.size 5 i0 (.int .u8 0) 1 1 und_bytes hii hz0 hz1 hz2 rfl (by decide) _ n (cellsOf (packF z g rows n)) (by rfl) hown' ⟨g5, 0, none⟩ z cap5 (cellsOf (sampBytes z g nn)) (by rfl) (by rw [cellsOf_length, sampBytes_length, Nat.mul_one]) (cells_at (bytes_own (cap := cap5) (by rw [sampBytes_length]; exact HO5.out))) (cells_one _) (by omega) (by unfold maxLen; omega) (by omega) (by omega) _ rfl ?_; intro g6 cap6 w6 hown6 hgrow hat hlt6)
              | fail)
          have HW6 : Hid (Below w1.heap.size w1 w6) := (HW.out.trans (HB5.out.mono HW.out.size)).grown hgrow (by omega) (by intro x hx; exact (own_block_lt hown x hx).1)
          rw [← cellsOf_append, ← HPQ.out] at hown6
          have HN6 : Hid (n + z = (k * ch + (c + 1)) * z) := by show _ = _; rw [HNQ.out, HQ.out]; rfl
          clear hgrow hat hlt6 hown' hown
          go_wp2
          go_roundg (gk - 1)
          case rel => exact ⟨c + 1, n + z, by omega, by have := HGK2.out; omega, by go_num, HN6, hown6, HW6⟩
          case measure => have := HGK2.out; omega
        · obtain rfl : c = ch := by omega
          have HN2 : Hid (n = (k + 1) * c * z) := by show _ = _; rw [HN.out, Nat.add_mul k 1, Nat.one_mul]
          go_wp2
          go_roundg (G2 - 1)
          case rel => exact ⟨k + 1, n, by omega, by have := HGK.out; omega, by go_num, HN2, hown, HW⟩
          case measure => have := HGK.out; omega
    · obtain rfl : k = s := by omega
      have HNN := Lib.hid (HN.out)
      go_wp2
      go_ret
      refine ⟨_, rfl, ?_, HB1.out.trans (HW.out.mono HB1.out.size)⟩
      rw [(HPL _).out, ← HNN.out]
      exact own_lower hown (by omega)
end Go.Proofs.Ytpbbhebongggpaa
