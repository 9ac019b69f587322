import Derived.Test.YtpbbhebongggpaaPackL6
namespace Go.Proofs.Ytpbbhebongggpaa
open Go.RowKit Go.Proofs Go.Proofs.PipeM Go.Proofs.PipeA Go.Proofs.PackM
set_option maxRecDepth 100000

/-- The first tests: where channels are many, or something is wrong with them. -/
theorem rows_out (B : Int) (g : Bool) (ao : Option Addr) (cap : Nat) (rows : List (List Int)) (w : World) (hl : rows.length ≤ 9223372036854775807) (hi : RowsAt w ao rows) (h : fewB rows = false ∨ (fewB rows = true ∧ code B rows ≠ 0)) :
    Calls Try.prog 6 #[.agg #[.int .i64 B, .bool g], .slice ao rows.length cap] w fun e w' => e = .returned (.bool true) ∧ Below w.heap.size w w' := by
  have HB := fun o => Lib.hid (box_below w o)
  have HA := fun W => Lib.hid (awake W)
  have HF := fun W (hb : Below w.heap.size w W) => Lib.hid (cFew ao cap rows W hl (hi.below hb))
  rcases h with hf | ⟨hf, hc⟩
  · rw [hf] at HF
    clear hf hi
    go_enter Try.func6, Try.ntmps6
    go_wp2_with fail
    refine (HA _).out.mono ?_
    rintro e w1 ⟨rfl, hb1⟩
    have HB1 := Lib.hid ((HB _).out.trans (hb1.mono (HB _).out.size))
    clear hb1
    go_wp2_with fail
    refine (HF _ HB1.out).out.mono ?_
    rintro e w2 ⟨rfl, rfl⟩
    go_wp2_with fail
    refine (HA _).out.mono ?_
    rintro e w3 ⟨rfl, hb3⟩
    have HB3 := Lib.hid (HB1.out.trans (hb3.mono HB1.out.size))
    clear hb3
    go_wp2
    go_ret
    exact ⟨rfl, HB3.out⟩
  · have hsm := few_small hf
    have HRC := fun W (hb : Below w.heap.size w W) => Lib.hid (rCheck ao cap rows B g W ⟨hsm.1, fun r hr => by have := hsm.2 r hr; omega⟩ (hi.below hb))
    have t1 : (code B rows != 0) = true := by rw [bne_iff_ne]; exact hc
    rw [hf] at HF
    generalize code B rows = cd at HRC t1
    clear hf hi hc hsm
    go_enter Try.func6, Try.ntmps6
    go_wp2_with fail
    refine (HA _).out.mono ?_
    rintro e w1 ⟨rfl, hb1⟩
    have HB1 := Lib.hid ((HB _).out.trans (hb1.mono (HB _).out.size))
    have c0 : w1.cell? ⟨w.heap.size, 0, none⟩ = some (.int .i64 B) := (hb1.cell (p := ⟨w.heap.size, 0, none⟩) (by simp)).trans (by simp)
    have c1 : w1.cell? ⟨w.heap.size, 1, none⟩ = some (.bool g) := (hb1.cell (p := ⟨w.heap.size, 1, none⟩) (by simp)).trans (by simp)
    clear hb1
    go_wp2_with fail
    refine (HF _ HB1.out).out.mono ?_
    rintro e w2 ⟨rfl, rfl⟩
    go_wp2_with fail
    refine (HRC _ HB1.out).out.mono ?_
    rintro e w3 ⟨rfl, hb3⟩
    have HB3 := Lib.hid (HB1.out.trans (hb3.mono HB1.out.size))
    clear hb3
    go_wp2_with fail
    refine (HA _).out.mono ?_
    rintro e w4 ⟨rfl, hb4⟩
    have HB4 := Lib.hid (HB3.out.trans (hb4.mono HB3.out.size))
    clear hb4
    go_wp2
    go_ret
    exact ⟨rfl, HB4.out⟩


theorem map_take_one (l : List Int) (c : Nat) (h : c < l.length) : (l.take (c + 1)).map (fun n => [n]) = (l.take c).map (fun n => [n]) ++ [[l[c]]] := by
  rw [List.take_succ_eq_append_getElem h, List.map_append]; rfl

set_option maxHeartbeats 6400000 in
theorem rows_ok (ao : Option Addr) (cap : Nat) (rows : List (List Int)) (z : Nat) (g : Bool) (w : World) (hz : z = 1 ∨ z = 2 ∨ z = 3) (hf : fewB rows = true) (hi : RowsAt w ao rows) (hcd : code ((8 * z : Nat) : Int) rows = 0) :
    Calls Try.prog 6 #[.agg #[.int .i64 ((8 * z : Nat) : Int), .bool g], .slice ao rows.length cap] w fun e w' => e = .returned (.bool true) ∧ Below w.heap.size w w' := by
  obtain ⟨i0, hii, hz0, hz1, hz2⟩ := info_parts info_ints
  obtain ⟨j0, hjj, hy0, hy1, hy2⟩ := info_parts info_u8
  have hsm := few_small hf
  have hS : Small rows := ⟨hsm.1, fun r hr => by have := hsm.2 r hr; omega⟩
  obtain ⟨_, hc1, hc8, hlev, hhas⟩ := code_zero hcd
  have hlv : ∀ r ∈ rows, r.length = len0 rows := hlev
  have HB := fun o => Lib.hid (box_below w o)
  have HA := fun W => Lib.hid (awake W)
  have HF := fun W (hb : Below w.heap.size w W) => Lib.hid (cFew ao cap rows W (by omega) (hi.below hb))
  rw [hf] at HF
  have HRC := fun W (hb : Below w.heap.size w W) => Lib.hid (rCheck ao cap rows ((8 * z : Nat) : Int) g W hS (hi.below hb))
  rw [hcd] at HRC
  have HP := fun W (hb : Below w.heap.size w W) => Lib.hid (cPack_ok ao cap rows z g W hz hS (hi.below hb) hcd)
  have hs0 : len0 rows ≤ 200 := by
    unfold len0
    rw [head_get (show 0 < rows.length by omega)]
    exact hsm.2 _ (List.getElem_mem _)
  have HRW := fun i (h : i < len0 rows) W (hb : Below w.heap.size w W) => Lib.hid (cRow ao cap rows i W hS (hi.below hb) (fun r hr => by rw [hlv r hr]; exact h) (by omega))
  have hlo : ∀ i, ((rowAt rows i).map fun n => [n]).length = rows.length := fun i => by rw [List.length_map, rowAt_length]
  have HP1 := fun i (h : i < len0 rows) mo mcap W (hm : RowsAt W mo ((rowAt rows i).map fun n => [n])) => Lib.hid (cPack_ok mo mcap ((rowAt rows i).map fun n => [n]) z g W hz ⟨by rw [hlo]; exact hsm.1, fun r hr => by simp only [List.mem_map] at hr; obtain ⟨n, _, rfl⟩ := hr; simp⟩ hm (one_code i hcd (fun r hr => by rw [hlv r hr]; exact h)))
  have HL1 := fun i => one_len0 (rows := rows) i hc1
  simp only [HL1, hlo, Nat.one_mul] at HP1
  clear HL1
  have HPR := fun i => Lib.hid (pack_rows z g rows i (by omega))
  have HPL := fun n => Lib.hid (packF_length z g rows n)
  have HPLi := fun i => Lib.hid (packF_length z g ((rowAt rows i).map fun n => [n]) (rows.length * z))
  have hmz : rows.length * z ≤ 24 := Nat.le_trans (Nat.mul_le_mul hc8 (show z ≤ 3 by omega)) (by decide)
  have hmz1 : 1 ≤ rows.length * z := Nat.mul_pos hc1 (by omega)
  obtain ⟨b, off, r0, rc0, rfl, hbw, hcell0, _⟩ := hi 0 hc1
  rw [Nat.add_zero, hlv _ (List.getElem_mem _)] at hcell0
  have HI := Lib.hid hi
  have HLV := Lib.hid hlv
  have HRL := fun i => Lib.hid (rowAt_length rows i)
  obtain ⟨s, hs⟩ : ∃ s, s = len0 rows := ⟨_, rfl⟩
  obtain ⟨ch, hch⟩ : ∃ ch, ch = rows.length := ⟨_, rfl⟩
  obtain ⟨y, hy⟩ : ∃ y, y = ch * z := ⟨_, rfl⟩
  rw [← hs] at hs0 hcell0 HLV HRW HP HP1
  rw [← hch] at hc8 hmz hmz1 HF HRC HP HP1 HRW HPR HPLi HRL ⊢
  rw [← hy] at hmz hmz1 HP1 HPR HPLi
  have hsy : Hid (∀ k, k ≤ s → k * ch * z ≤ 24000) := fun k hk => Nat.le_trans (Nat.mul_le_mul (Nat.mul_le_mul (Nat.le_trans hk hs0) hc8) (show z ≤ 3 by omega)) (by decide)
  have HY : Hid (∀ k, k * ch * z = k * y) := fun k => by rw [hy, Nat.mul_assoc]
  have HCH := Lib.hid hch
  obtain ⟨zb, hzb⟩ : ∃ zb, zb = 8 * z := ⟨_, rfl⟩
  rw [← hzb] at HRC HP HP1 ⊢
  have hch1 : 0 < ch := by rw [hch]; exact hc1
  have hz3 : 1 ≤ z ∧ z ≤ 3 := by omega
  clear hf hi hcd hsm hS hz hlev hhas hlv hlo hzb hs hch hy
  go_enter Try.func6, Try.ntmps6
  go_wp2_with fail
  refine (HA _).out.mono ?_
  rintro e w1 ⟨rfl, hb1⟩
  have HB1 := Lib.hid ((HB _).out.trans (hb1.mono (HB _).out.size))
  have c0 : w1.cell? ⟨w.heap.size, 0, none⟩ = some (.int .i64 (zb : Int)) := (hb1.cell (p := ⟨w.heap.size, 0, none⟩) (by simp)).trans (by simp)
  have c1 : w1.cell? ⟨w.heap.size, 1, none⟩ = some (.bool g) := (hb1.cell (p := ⟨w.heap.size, 1, none⟩) (by simp)).trans (by simp)
  have hsz1 : w.heap.size + 1 ≤ w1.heap.size := by have := hb1.size; simpa using this
  clear hb1
  go_wp2_with fail
  refine (HF _ HB1.out).out.mono ?_
  rintro e w1' ⟨rfl, rfl⟩
  go_wp2_with fail
  refine (HRC _ HB1.out).out.mono ?_
  rintro e w3 ⟨rfl, hb3⟩
  have HB3 := Lib.hid (HB1.out.trans (hb3.mono HB1.out.size))
  have c0 := (hb3.cell (p := ⟨w.heap.size, 0, none⟩) (by show w.heap.size < _; omega)).trans c0
  have c1 := (hb3.cell (p := ⟨w.heap.size, 1, none⟩) (by show w.heap.size < _; omega)).trans c1
  have hsz3 := hb3.size
  clear hb3
  go_wp2_with fail
  refine (HP _ HB3.out).out.mono ?_
  rintro e w4 ⟨H1, rfl, hby1, _, hH1, hb4⟩
  have HB4 := Lib.hid (HB3.out.trans (hb4.mono HB3.out.size))
  have c0 := (hb4.cell (p := ⟨w.heap.size, 0, none⟩) (by show w.heap.size < _; omega)).trans c0
  have c1 := (hb4.cell (p := ⟨w.heap.size, 1, none⟩) (by show w.heap.size < _; omega)).trans c1
  have hsz4 := hb4.size
  have HY1 := Lib.hid hby1
  have k0 := (HB4.out.cell (p := ⟨b, off, none⟩) hbw).trans hcell0
  clear hb4 hby1
  generalize hMe : s * ch * z = M at HY1 ⊢
  have HME := Lib.hid hMe
  clear hMe
  go_wp2
  go_loopg [7, 39] s (fun gk v i wr => ∃ k n : Nat, k ≤ s ∧ gk + k = s ∧ i = .int .i64 k ∧ Hid (n = k * ch * z) ∧ wr.ownsRow w4.heap.size 5 1 v n (cellsOf (packF z g rows n)) ∧ Hid (Below w4.heap.size w4 wr))
  case atStart => exact ⟨0, 0, Nat.zero_le _, by omega, rfl, by simp [Hid], World.ownsRow_nil _ _ _ _, Below.refl _ _⟩
  case round =>
    obtain ⟨k, n, hk, hgk, rfl, HN, hown, HW⟩ := hrel
    have HGK := Lib.hid hgk
    clear hgk
    have HBR := Lib.hid (HB4.out.trans (HW.out.mono HB4.out.size))
    have hszr := HW.out.size
    by_cases hlt : k < s
    · obtain ⟨W2, rfl⟩ : ∃ W2, W2 = wr := ⟨_, rfl⟩
      obtain ⟨G2, rfl⟩ : ∃ G2, G2 = gk := ⟨_, rfl⟩
      go_wp2_with fail
      refine (HRW k hlt _ HBR.out).out.mono ?_
      rintro e w6 ⟨ro, rcap, rfl, hro, hb6⟩
      rw [← HCH.out]
      have HW6 := Lib.hid (HW.out.trans (hb6.mono HW.out.size))
      have HB6 := Lib.hid (HBR.out.trans (hb6.mono HBR.out.size))
      have HOWN6 := Lib.hid (ownsRow_below hown hb6)
      have HRO := Lib.hid hro
      have hsz6 := hb6.size
      have t1 : ((ch : Int) != (ch : Int)) = false := by simp
      clear hb6 hown hro
      go_wp2
      go_loopg [10, 52] ch (fun gk v i wr => ∃ c : Nat, c ≤ ch ∧ gk + c = ch ∧ i = .int .i64 c ∧ (∃ cs, wr.ownsRow w6.heap.size 45 1 v c cs ∧ RowsIn wr v cs (((rowAt rows k).take c).map fun n => [n])) ∧ Hid (Below w6.heap.size w6 wr))
      case atStart => exact ⟨0, Nat.zero_le _, by omega, rfl, ⟨[], World.ownsRow_nil _ _ _ _, fun i hi => by simp at hi⟩, Below.refl _ _⟩
      case round =>
        obtain ⟨c, hc, hgk, rfl, ⟨cs, hown, hin⟩, HWW⟩ := hrel
        have HGK2 := Lib.hid hgk
        have HIN := Lib.hid hin
        clear hgk hin
        have hszw := HWW.out.size
        by_cases hltc : c < ch
        · have hcr : c < rows.length := by have := HCH.out; omega
          have hcl : c < (rowAt rows k).length := by rw [(HRL k).out]; exact hltc
          have hrl : rows[c].length = s := HLV.out _ (List.getElem_mem _)
          obtain ⟨b', off', ro', rc', e0, hb', hcell, hints⟩ := HI.out c hcr
          cases e0
          obtain ⟨b2, off2, rfl, hb2, hcell2⟩ := hints k (by rw [hrl]; exact hlt)
          rw [hrl] at hcell
          obtain ⟨b3, off3, rfl, hb3, hcell3⟩ := HRO.out c hcl
          have hnn : (rowAt rows k)[c] = rows[c][k]'(by rw [hrl]; exact hlt) := by simp [rowAt, List.getD, show k < rows[c].length by rw [hrl]; exact hlt]
          have HTK := Lib.hid (map_take_one (rowAt rows k) c hcl)
          have HTL : Hid (c = (((rowAt rows k).take c).map fun n => [n]).length) := by show _ = _; rw [List.length_map, List.length_take]; omega
          rw [hnn] at HTK hcell3
          have y1 := (HWW.out.cell (p := ⟨b3, off3 + c, none⟩) hb3).trans hcell3
          have y2 := (HWW.out.cell (p := ⟨b, off + c, none⟩) (by show b < _; omega)).trans ((HB6.out.cell (p := ⟨b, off + c, none⟩) hb').trans hcell)
          have y3 := (HWW.out.cell (p := ⟨b2, off2 + k, none⟩) (by show b2 < _; omega)).trans ((HB6.out.cell (p := ⟨b2, off2 + k, none⟩) hb2).trans hcell2)
          generalize rows[c][k] = nn at y1 y3 HTK
          have t2 : (nn != nn) = false := by simp
          have HOWN := Lib.hid hown
          have hb9 : Below wr.heap.size wr ((wr.alloc (.cells #[.int .i64 nn] 3)).alloc (.cells #[.slice (some ⟨wr.heap.size, 0, none⟩) 1 1] 45)) := below2 wr _ _
          have hown9 := ownsRow_below hown hb9
          obtain ⟨hh1, hh2, hh3⟩ := alloc2h wr (.cells #[.int .i64 nn] 3) (.cells #[.slice (some ⟨wr.heap.size, 0, none⟩) 1 1] 45)
          have HIL : Hid (IntsAt ((wr.alloc (.cells #[.int .i64 nn] 3)).alloc (.cells #[.slice (some ⟨wr.heap.size, 0, none⟩) 1 1] 45)) (some ⟨wr.heap.size, 0, none⟩) [nn]) := by
            intro j hj
            obtain rfl : j = 0 := by simpa using hj
            exact ⟨wr.heap.size, 0, rfl, by rw [hh3]; omega, by simp [World.cell?, hh1]⟩
          have HB9 := Lib.hid hb9
          clear hcell hints hcell2 hcell3 hrl hnn hown hb9 hh1 hh2 hh3
          go_wp2_with (at_builtin; refine wpList_append_own2 _ rfl _ _ 24 rfl w6.heap.size 45 i0 (.slice none 0 0) 1 24 Try.underlying24 hii hz0 hz1 hz2 rfl (by decide) _ _ _ rfl hown9 ⟨wr.heap.size + 1, 0, none⟩ 1 1 [.slice (some ⟨wr.heap.size, 0, none⟩) 1 1] rfl rfl ?c1 ?c2 ?c3 ?c4 ?c5 ?_)
          case c1 =>
            intro j u hj
            match j, hj with
            | 0, hj => simp at hj; subst hj; simp [Addr.add]
          case c2 => intro u hu; simp at hu; subst hu; rfl
          case c3 => unfold maxLen; omega
          case c4 => omega
          case c5 => simp; omega
          intro v' w9 hown' hgrow hat
          have HIN9 : Hid (RowsIn w9 v' (cs ++ [.slice (some ⟨wr.heap.size, 0, none⟩) 1 1]) (((rowAt rows k).take (c + 1)).map fun n => [n])) := by
            show RowsIn _ _ _ _
            rw [HTK.out]
            exact rowsIn_push HOWN.out HTL.out HIN.out HB9.out HIL.out (Nat.le_refl _) (by simp; omega) hgrow (by rcases hat with h | ⟨g, h, hge⟩; exact Or.inl h; exact Or.inr ⟨g, h, by simpa using hge⟩)
          have HW9 : Hid (Below w6.heap.size w6 w9) := (HWW.out.trans (HB9.out.mono HWW.out.size)).grown hgrow (by simp; omega) (fun g hg => (own_block_lt HOWN.out g hg).1)
          clear hgrow hat hown9
          go_wp2
          go_roundg (gk - 1)
          case rel => exact ⟨c + 1, by omega, by have := HGK2.out; omega, by go_num, ⟨_, hown', HIN9.out⟩, HW9⟩
          case measure => have := HGK2.out; omega
        · obtain rfl : c = ch := by omega
          obtain ⟨oo, ocap, rfl, _⟩ := own_slice hown
          have HRWS : Hid (RowsAt wr oo ((rowAt rows k).map fun n => [n])) := by
            have h1 := HIN.out
            rw [List.take_of_length_le (by rw [(HRL k).out]; omega)] at h1
            exact rowsIn_at hown (by rw [List.length_map, (HRL k).out]) h1
          have HB7 := Lib.hid (HB6.out.trans (HWW.out.mono HB6.out.size))
          have HW7 := Lib.hid (HW6.out.trans (HWW.out.mono HW6.out.size))
          have hown7 := ownsRow_below HOWN6.out HWW.out
          have d0 := (HW7.out.cell (p := ⟨w.heap.size, 0, none⟩) (by show w.heap.size < _; omega)).trans c0
          have d1 := (HW7.out.cell (p := ⟨w.heap.size, 1, none⟩) (by show w.heap.size < _; omega)).trans c1
          have HNX : Hid (n + y = (k + 1) * c * z) := by show _ = _; rw [HN.out, HY.out k, HY.out (k + 1), Nat.add_mul, Nat.one_mul]
          have hn24 : n + y ≤ 24000 := by have h1 := hsy.out (k + 1) hlt; have h2 := HNX.out; omega
          have HPK : Hid (packF z g rows (n + y) = packF z g rows n ++ packF z g ((rowAt rows k).map fun n => [n]) y) := by show _ = _; rw [HNX.out, HN.out]; exact (HPR k).out
          have HPY := Lib.hid (HPLi k).out
          have HCP := Lib.hid (HP1 k hlt oo ocap wr HRWS.out).out
          clear hown HIN HRWS
          go_wp2_with fail
          refine HCP.out.mono ?_
          rintro e w8 ⟨H8, rfl, hby8, _, hH8, hb8⟩
          have hown8 := ownsRow_below hown7 hb8
          have HW8 := Lib.hid (HW7.out.trans (hb8.mono HW7.out.size))
          have hsz8 := hb8.size
          generalize packF z g ((rowAt rows k).map fun n => [n]) y = zs at HPK HPY hby8
          have HBY8 := Lib.hid hby8
          have HO8 := Lib.hid hown8
          clear hby8 hb8 hown7
          go_wp2_with (at_builtin; refine wpList_append_own _ rfl _ _ 30 rfl w4.heap.size 5 j0 (.int .u8 0) 1 1 und_bytes hjj hy0 hy1 hy2 rfl (by decide) _ _ _ rfl hown8 ⟨H8, 0, none⟩ y y (cellsOf zs) rfl ?c0 ?c1 ?c2 ?c3 ?c4 ?c5 ?_)
          case c0 => rw [cellsOf_length, HPY.out, Nat.mul_one]
          case c1 => exact cells_at HBY8.out
          case c2 => exact cells_one zs
          case c3 => unfold maxLen; omega
          case c4 => omega
          case c5 => omega
          intro v' w9 hown' hgrow _
          have HW9 : Hid (Below w4.heap.size w4 w9) := HW8.out.grown hgrow (by omega) (fun g hg => (own_block_lt HO8.out g hg).1)
          rw [← cellsOf_append, ← HPK.out] at hown'
          clear hgrow hown8
          go_wp2
          go_roundg (G2 - 1)
          case rel => exact ⟨k + 1, n + y, by omega, by have := HGK.out; omega, by go_num, HNX, hown', HW9⟩
          case measure => have := HGK.out; omega
    · obtain rfl : k = s := by omega
      obtain ⟨vo, vcap, rfl, _⟩ := own_slice hown
      have HNM : Hid (n = M) := by show _ = _; rw [HN.out, HME.out]
      have hcv := conv_bytes (cap := vcap) (bytes_own (base := w4.heap.size) (by rw [(HPL n).out]; exact hown))
      have hcv2 := conv_bytes (cap := M) (HY1.out.below HW.out)
      rw [(HPL n).out] at hcv
      rw [(HPL M).out, ← HNM.out] at hcv2
      rw [← HNM.out]
      generalize bstr (packF z g rows n) = st at hcv hcv2
      clear hown
      go_wp2
      go_ret
      exact ⟨rfl, HBR.out⟩

theorem packRows (B : Int) (g : Bool) (ao : Option Addr) (cap : Nat) (rows : List (List Int)) (w : World) (hw : RowsAt w ao rows ∧ rows.length ≤ 9223372036854775807) :
    Calls Try.prog 6 #[.agg #[.int .i64 B, .bool g], .slice ao rows.length cap] w fun e w' => e = .returned (.bool true) ∧ Below w.heap.size w w' := by
  cases hf : fewB rows
  · exact rows_out B g ao cap rows w hw.2 hw.1 (.inl hf)
  by_cases hc : code B rows = 0
  · obtain ⟨z, rfl, hz⟩ := good_cases (code_zero hc).1
    exact rows_ok ao cap rows z g w hz hf hw.1 hc
  · exact rows_out B g ao cap rows w hw.2 hw.1 (.inr ⟨hf, hc⟩)
end Go.Proofs.Ytpbbhebongggpaa
