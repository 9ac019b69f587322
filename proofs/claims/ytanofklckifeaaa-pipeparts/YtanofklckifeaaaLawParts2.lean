import Derived.Test.YtanofklckifeaaaLawParts
namespace Go.Proofs.Ytanofklckifeaaa
open Go.RowKit Go.Proofs Go.Proofs.PipeM Go.Proofs.PipeA

theorem three_fresh {w w1 : World} (hb : Below w.heap.size w w1) :
    ThreeIs w w1.heap.size (w1.heap.size + 1) (w1.heap.size + 1 + 1) (((w1.alloc (.cells #[.slice none 0 0, .int .i64 0] 26)).alloc (.cells #[.slice none 0 0, .int .i64 0] 26)).alloc (.cells #[.slice none 0 0, .int .i64 0] 26)) [] [] [] := by
  have f1 := wr_fresh w1
  have f2 := wr_fresh (w1.alloc (.cells #[.slice none 0 0, .int .i64 0] 26))
  have f3 := wr_fresh ((w1.alloc (.cells #[.slice none 0 0, .int .i64 0] 26)).alloc (.cells #[.slice none 0 0, .int .i64 0] 26))
  have k : ∀ W : World, Keeps [] W (W.alloc (.cells #[.slice none 0 0, .int .i64 0] 26)) := fun W => keeps_of_below ((Below.refl _ _).alloc (Nat.le_refl _) _) _
  have s := hb.size
  refine ⟨.slice none 0 0, .slice none 0 0, .slice none 0 0, [], [], [], (f1.keeps (k _) (by simp) (by simp)).keeps (k _) (by simp) (by simp), ?_, ?_, ?_, ?_, ?_, ((hb.alloc hb.size _).alloc (by simp; omega) _).alloc (by simp; omega) _, hb.size, by omega, by omega⟩
  · have := f2.keeps (k _) (by simp) (by simp); simpa using this
  · simpa using f3
  all_goals exact ⟨by omega, by simp [Value.ownBlock], by simp [Value.ownBlock], by simp [Value.ownBlock]⟩

theorem cut_packs {zs : List Nat} {l : List Bool} (h : Packs zs l) : (str (bitsOf zs)).extract 0 l.length = str l := by
  rw [str_extract, h.2, pad]
  simp

set_option maxRecDepth 100000 in
set_option maxHeartbeats 1600000 in
theorem parts_small (ao bo : Option Addr) (cap cap2 : Nat) (xs ys : List (Int × Int × Int)) (w : World) (hl : xs.length ≤ 40) (hl2 : ys.length ≤ 40) (hz : ActsFit xs) (hd : ActsAt w ao xs) (hz2 : ActsFit ys) (hd2 : ActsAt w bo ys) :
    Calls Try.prog 5 #[.slice ao xs.length cap, .slice bo ys.length cap2] w fun e w' => e = .returned (.bool true) ∧ Below w.heap.size w w' := by
  have HD := Lib.hid hd
  have HZ := Lib.hid hz
  have HD2 := Lib.hid hd2
  have HZ2 := Lib.hid hz2
  clear hd hz hd2 hz2
  obtain ⟨len, hlen⟩ : ∃ len, len = xs.length := ⟨_, rfl⟩
  obtain ⟨len2, hlen2⟩ : ∃ len2, len2 = ys.length := ⟨_, rfl⟩
  rw [← hlen] at hl ⊢
  rw [← hlen2] at hl2 ⊢
  have HLEN := Lib.hid hlen
  have HLEN2 := Lib.hid hlen2
  clear hlen hlen2
  go_enter Try.func5, Try.ntmps5
  go_wp2_with fail
  refine (awake w).mono ?_
  rintro e w1 ⟨rfl, hb1⟩
  have HT0 := Lib.hid (three_fresh hb1)
  clear hb1
  have t1 : decide ((40 : Int) < (len : Int)) = false := decide_eq_false (by omega)
  have t2 : decide ((40 : Int) < (len2 : Int)) = false := decide_eq_false (by omega)
  go_wp2
  generalize ((w1.alloc (.cells #[.slice none 0 0, .int .i64 0] 26)).alloc (.cells #[.slice none 0 0, .int .i64 0] 26)).alloc (.cells #[.slice none 0 0, .int .i64 0] 26) = W0 at HT0 ⊢
  generalize w1.heap.size + 1 + 1 = Z at HT0 ⊢
  generalize w1.heap.size + 1 = Y at HT0 ⊢
  generalize w1.heap.size = X at HT0 ⊢
  go_loopg [28] len (fun gk i wr => ∃ (j : Nat) (l : List Bool), j ≤ len ∧ gk + j = len ∧ i = .int .i64 j ∧ l.length ≤ 5001 ∧ Hid (ThreeIs w X Y Z wr l [] l))
  case atStart => exact ⟨0, [], Nat.zero_le _, by omega, rfl, by simp, HT0⟩
  case round =>
    obtain ⟨j, l, hj, hgk, rfl, hl5, HT⟩ := hrel
    have HGK := Lib.hid hgk
    clear hgk HT0
    by_cases hlt : j < len
    · have hjl : j < xs.length := by have := HLEN.out; omega
      have HBR : Hid (Below w.heap.size w wr) := by obtain ⟨_, _, _, _, _, _, h⟩ := HT.out; exact h.bel
      obtain ⟨g, off, rfl, hg, c0, c1, c2⟩ := (HD.out.below HBR.out) j hjl
      have hxb := HZ.out xs[j] (List.getElem_mem hjl)
      obtain ⟨k, hk⟩ : ∃ k, k = xs[j].1 := ⟨_, rfl⟩
      obtain ⟨x, hx⟩ : ∃ x, x = xs[j].2.1 := ⟨_, rfl⟩
      obtain ⟨n, hn⟩ : ∃ n, n = xs[j].2.2 := ⟨_, rfl⟩
      rw [← hk] at c0
      rw [← hx] at c1 hxb
      rw [← hn] at c2
      have HXB := Lib.hid hxb
      have HTA := Lib.hid (ThreeAct.of k x n HT.out)
      have hc1 : (wr.alloc (.cells #[.int .i64 k, .int .i64 x, .int .i64 n] 28)).cell? ⟨X, 1, none⟩ = some (.int .i64 l.length) := by obtain ⟨_, _, _, _, _, _, h, _⟩ := HTA.out; exact h.x.c1
      have hbl := actBits_le l k x n
      have HC1 := Lib.hid hc1
      clear hk hx hn hxb hg hc1
      by_cases hk4 : k = 4
      · have t4 : (k != 4) = false := by simp [hk4]
        clear hk4
        go_wp2
        go_roundg (gk - 1)
        case rel => exact ⟨j + 1, l, by omega, by have := HGK.out; omega, by go_num, hl5, HTA.out.is⟩
        case measure => have := HGK.out; omega
      · have t4 : (k != 4) = true := by rw [bne_iff_ne]; exact hk4
        clear hk4
        by_cases h4 : l.length < 4000
        · have t5 : decide (((l.length : Nat) : Int) < 4000) = true := decide_eq_true (by omega)
          go_wp2_with fail
          refine (wLen X _ _ HC1.out).mono ?_
          rintro e w2 ⟨rfl, rfl⟩
          go_wp2_with fail
          refine (doX HTA.out HXB.out (by omega)).mono ?_
          rintro e w3 ⟨rfl, ht3⟩
          obtain ⟨a0, a1, a2⟩ := ht3.cells
          have HT3 := Lib.hid ht3
          clear ht3 c0 c1 c2 HC1
          generalize hA : wr.heap.size = A at a0 a1 a2 HT3 ⊢
          clear hA
          go_wp2_with fail
          refine (doZ HT3.out HXB.out (by omega)).mono ?_
          rintro e w4 ⟨rfl, ht4⟩
          have HT4 := Lib.hid ht4
          clear ht4
          go_wp2
          go_roundg (gk - 1)
          case rel => exact ⟨j + 1, actBits l k x n, by omega, by have := HGK.out; omega, by go_num, by omega, HT4.out.is⟩
          case measure => have := HGK.out; omega
        · have t5 : decide (((l.length : Nat) : Int) < 4000) = false := decide_eq_false (by omega)
          go_wp2_with fail
          refine (wLen X _ _ HC1.out).mono ?_
          rintro e w2 ⟨rfl, rfl⟩
          clear c0 c1 c2 HC1
          go_wp2
          go_roundg (gk - 1)
          case rel => exact ⟨j + 1, l, by omega, by have := HGK.out; omega, by go_num, hl5, HTA.out.is⟩
          case measure => have := HGK.out; omega
    · obtain rfl : j = len := by omega
      obtain ⟨la, hla⟩ : ∃ la, la = l := ⟨_, rfl⟩
      go_wp2
      have HT1 : Hid (ThreeIs w X Y Z wr l [] (l ++ [])) := by simpa [Hid] using HT.out
      go_loopg [46] len2 (fun gk i wr => ∃ (j : Nat) (m : List Bool), j ≤ len2 ∧ gk + j = len2 ∧ i = .int .i64 j ∧ m.length ≤ 5001 ∧ Hid (ThreeIs w X Y Z wr l m (l ++ m)))
      case atStart => exact ⟨0, [], Nat.zero_le _, by omega, rfl, by simp, HT1⟩
      case round =>
        obtain ⟨j, m, hj, hgk, rfl, hm5, HT⟩ := hrel
        have HGK := Lib.hid hgk
        clear hgk HT1
        by_cases hlt : j < len2
        · have hjl : j < ys.length := by have := HLEN2.out; omega
          have HBR : Hid (Below w.heap.size w wr) := by obtain ⟨_, _, _, _, _, _, h⟩ := HT.out; exact h.bel
          obtain ⟨g, off, rfl, hg, c0, c1, c2⟩ := (HD2.out.below HBR.out) j hjl
          have hxb := HZ2.out ys[j] (List.getElem_mem hjl)
          obtain ⟨k, hk⟩ : ∃ k, k = ys[j].1 := ⟨_, rfl⟩
          obtain ⟨x, hx⟩ : ∃ x, x = ys[j].2.1 := ⟨_, rfl⟩
          obtain ⟨n, hn⟩ : ∃ n, n = ys[j].2.2 := ⟨_, rfl⟩
          rw [← hk] at c0
          rw [← hx] at c1 hxb
          rw [← hn] at c2
          have HXB := Lib.hid hxb
          have HTA := Lib.hid (ThreeAct.of k x n HT.out)
          have hc1 : (wr.alloc (.cells #[.int .i64 k, .int .i64 x, .int .i64 n] 28)).cell? ⟨Y, 1, none⟩ = some (.int .i64 m.length) := by obtain ⟨_, _, _, _, _, _, h, _⟩ := HTA.out; exact h.y.c1
          have hbl := actBits_le m k x n
          have HC1 := Lib.hid hc1
          clear hk hx hn hxb hg hc1
          by_cases hk4 : k = 4
          · have t4 : (k != 4) = false := by simp [hk4]
            clear hk4
            go_wp2
            go_roundg (gk - 1)
            case rel => exact ⟨j + 1, m, by omega, by have := HGK.out; omega, by go_num, hm5, HTA.out.is⟩
            case measure => have := HGK.out; omega
          · have t4 : (k != 4) = true := by rw [bne_iff_ne]; exact hk4
            have HAPP := Lib.hid (actBits_app l m k x n hk4)
            clear hk4
            by_cases h4 : m.length < 4000
            · have t5 : decide (((m.length : Nat) : Int) < 4000) = true := decide_eq_true (by omega)
              go_wp2_with fail
              refine (wLen Y _ _ HC1.out).mono ?_
              rintro e w2 ⟨rfl, rfl⟩
              go_wp2_with fail
              refine (doY HTA.out HXB.out (by omega)).mono ?_
              rintro e w3 ⟨rfl, ht3⟩
              obtain ⟨a0, a1, a2⟩ := ht3.cells
              have HT3 := Lib.hid ht3
              clear ht3 c0 c1 c2 HC1
              generalize hA : wr.heap.size = A at a0 a1 a2 HT3 ⊢
              clear hA
              go_wp2_with fail
              refine (doZ HT3.out HXB.out (by simp; omega)).mono ?_
              rintro e w4 ⟨rfl, ht4⟩
              rw [HAPP.out] at ht4
              have HT4 := Lib.hid ht4
              clear ht4
              go_wp2
              go_roundg (gk - 1)
              case rel => exact ⟨j + 1, actBits m k x n, by omega, by have := HGK.out; omega, by go_num, by omega, HT4.out.is⟩
              case measure => have := HGK.out; omega
            · have t5 : decide (((m.length : Nat) : Int) < 4000) = false := decide_eq_false (by omega)
              go_wp2_with fail
              refine (wLen Y _ _ HC1.out).mono ?_
              rintro e w2 ⟨rfl, rfl⟩
              clear c0 c1 c2 HC1
              go_wp2
              go_roundg (gk - 1)
              case rel => exact ⟨j + 1, m, by omega, by have := HGK.out; omega, by go_num, hm5, HTA.out.is⟩
              case measure => have := HGK.out; omega
        · obtain rfl : j = len2 := by omega
          obtain ⟨vx, vy, vz, zx, zy, zz, h3⟩ := HT.out
          have HX := Lib.hid h3.x
          have HY := Lib.hid h3.y
          have HZZ := Lib.hid h3.z
          have HBEL := Lib.hid h3.bel
          have hzx : zx.length ≤ 100000 := by have := h3.x.packs.length; omega
          have hzy : zy.length ≤ 100000 := by have := h3.y.packs.length; omega
          have q1 : (str (bitsOf zx)).size = 8 * zx.length := by rw [str_size, bitsOf_length]
          have q2 : (str (bitsOf zy)).size = 8 * zy.length := by rw [str_size, bitsOf_length]
          have hx1 : l.length ≤ (str (bitsOf zx)).size := by have := h3.x.packs.length; omega
          have hy1 : m.length ≤ (str (bitsOf zy)).size := by have := h3.y.packs.length; omega
          have hx2 : (str (bitsOf zx)).size ≤ 800000 := by omega
          have hy2 : (str (bitsOf zy)).size ≤ 800000 := by omega
          have HEX := Lib.hid (cut_packs h3.x.packs)
          have HEY := Lib.hid (cut_packs h3.y.packs)
          obtain ⟨sx, hsx⟩ : ∃ sx, sx = str (bitsOf zx) := ⟨_, rfl⟩
          obtain ⟨sy, hsy⟩ : ∃ sy, sy = str (bitsOf zy) := ⟨_, rfl⟩
          rw [← hsx] at hx1 hx2 HEX
          rw [← hsy] at hy1 hy2 HEY
          have HSX := Lib.hid hsx
          have HSY := Lib.hid hsy
          clear h3 q1 q2 hsx hsy
          go_wp2
          go_region_with (first
            | (go_at_call_of 11 X; refine (wBytes X vx l zx _ (by omega) (HX.out.keeps (keeps_drew wr) (by simp) (by simp))).mono ?_; rintro e w2 ⟨g2, rfl, hown2, hb2⟩; have kk2 : Keeps [] wr w2 := (keeps_drew wr).trans (keeps_of_below hb2 []))
            | (go_at_call_of 21 g2; refine (refBits _ _ zx _ (by omega) HX.out.packs.1 (bytes_own hown2)).mono ?_; rintro e w3 ⟨rfl, hb3⟩; rw [← HSX.out]; have kk3 : Keeps [] wr w3 := kk2.trans (keeps_of_below hb3 []))
            | (go_at_call_of 10 X; refine (wLen X _ _ (HX.out.keeps kk3 (by simp) (by simp)).c1).mono ?_; rintro e w3' ⟨rfl, rfl⟩)
            | (go_at_call_of 11 Y; refine (wBytes Y vy m zy _ (by omega) (HY.out.keeps kk3 (by simp) (by simp))).mono ?_; rintro e w4 ⟨g4, rfl, hown4, hb4⟩; have kk4 : Keeps [] wr w4 := kk3.trans (keeps_of_below hb4 []))
            | (go_at_call_of 21 g4; refine (refBits _ _ zy _ (by omega) HY.out.packs.1 (bytes_own hown4)).mono ?_; rintro e w5 ⟨rfl, hb5⟩; rw [← HSY.out]; have kk5 : Keeps [] wr w5 := kk4.trans (keeps_of_below hb5 []))
            | (go_at_call_of 10 Y; refine (wLen Y _ _ (HY.out.keeps kk5 (by simp) (by simp)).c1).mono ?_; rintro e w5' ⟨rfl, rfl⟩))
          rw [HEX.out, HEY.out, ← str_append]
          have HZ5 := Lib.hid (HZZ.out.keeps kk5 (by simp) (by simp))
          have HB5 : Hid (Below w.heap.size w w5) := HBEL.out.trans (kk5.below HBEL.out.size (by simp))
          have hll : (l ++ m).length ≤ 20000 := by simp; omega
          have hsz : (str (l ++ m)).size = (l ++ m).length := str_size _
          have heq : ((((l ++ m).length : Nat) : Int) == ((str (l ++ m)).size : Int)) = true := by rw [beq_iff_eq, hsz]
          obtain ⟨L, hL⟩ : ∃ L, L = l ++ m := ⟨_, rfl⟩
          rw [← hL] at HZ5 hll heq ⊢
          clear hown2 hb2 hown4 hb4 hb3 hb5 kk2 kk3 kk4 kk5 hsz hL
          go_wp2
          go_region_with (first
            | (go_at_call_of 10 Z; refine (wLen Z _ _ (HZ5.out.keeps (keeps_drew w5) (by simp) (by simp)).c1).mono ?_; rintro e w5' ⟨rfl, rfl⟩)
            | (go_at_call_of 11 Z; refine (wBytes Z vz L zz _ (by omega) (HZ5.out.keeps (keeps_drew w5) (by simp) (by simp))).mono ?_; rintro e w6 ⟨g6, rfl, hown6, hb6⟩; have hcv6 := conv_row hown6)
            | (go_at_call 12; refine (refBytes L _ (by omega)).mono ?_; rintro e w7 ⟨v7, zs7, rfl, hp7, hown7, hb7⟩; obtain rfl := hp7.unique HZ5.out.packs; have hcv7 := conv_row hown7; have hcv8 := conv_row (ownsRow_below hown6 hb7)))
          all_goals
            go_wp2
            go_ret
            refine ⟨rfl, ?_⟩
            have hd : Below w.heap.size w w5.drew := HB5.out.drew
            exact (hd.trans (hb6.mono hd.size)).trans (hb7.mono (Nat.le_trans hd.size hb6.size))

set_option maxHeartbeats 1000000 in
theorem parts_big (ao bo : Option Addr) (cap cap2 len len2 : Nat) (w : World) (hl : 40 < len ∨ 40 < len2) :
    Calls Try.prog 5 #[.slice ao len cap, .slice bo len2 cap2] w fun e w' => e = .returned (.bool true) ∧ Below w.heap.size w w' := by
  have t : decide ((40 : Int) < (len : Int)) = true ∨ (decide ((40 : Int) < (len : Int)) = false ∧ decide ((40 : Int) < (len2 : Int)) = true) := by
    by_cases h : 40 < len
    · exact Or.inl (decide_eq_true (by omega))
    · exact Or.inr ⟨decide_eq_false (by omega), decide_eq_true (by omega)⟩
  clear hl
  rcases t with t1 | ⟨t1, t2⟩
  all_goals
    go_enter Try.func5, Try.ntmps5
    go_wp2_with fail
    refine (awake w).mono ?_
    rintro e w1 ⟨rfl, hb1⟩
    have HB1 := Lib.hid hb1
    clear hb1
    go_wp2_with fail
    refine (awake w1).mono ?_
    rintro e w2 ⟨rfl, hb2⟩
    have HB2 := Lib.hid hb2
    clear hb2
    go_wp2
    go_ret
    exact ⟨rfl, HB1.out.trans (HB2.out.mono HB1.out.size)⟩
end Go.Proofs.Ytanofklckifeaaa
