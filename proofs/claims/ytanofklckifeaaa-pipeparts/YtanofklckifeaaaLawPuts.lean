import Derived.Test.YtanofklckifeaaaActs2
import Derived.Deep.RegionWith
namespace Go.Proofs.Ytanofklckifeaaa
open Go.RowKit Go.Proofs Go.Proofs.PipeM Go.Proofs.PipeA

/-- Acts that lie in memory. -/
def ActsAt (w : World) (ao : Option Addr) (xs : List (Int × Int × Int)) : Prop :=
  ∀ i (h : i < xs.length), ∃ g off, ao = some ⟨g, off, none⟩ ∧ g < w.heap.size ∧ w.cell? ⟨g, off + i * 3, none⟩ = some (.int .i64 xs[i].1) ∧ w.cell? ⟨g, off + i * 3 + 1, none⟩ = some (.int .i64 xs[i].2.1) ∧ w.cell? ⟨g, off + i * 3 + 2, none⟩ = some (.int .i64 xs[i].2.2)

def ActsFit (xs : List (Int × Int × Int)) : Prop := ∀ a ∈ xs, -9223372036854775808 ≤ a.2.1 ∧ a.2.1 ≤ 9223372036854775807

theorem ActsAt.below {w w' : World} {ao : Option Addr} {xs : List (Int × Int × Int)} (h : ActsAt w ao xs) (hb : Below w.heap.size w w') : ActsAt w' ao xs := by
  intro i hi
  obtain ⟨g, off, h1, h2, h3, h4, h5⟩ := h i hi
  exact ⟨g, off, h1, Nat.lt_of_lt_of_le h2 hb.size, by rw [hb.cell (p := ⟨g, off + i * 3, none⟩) h2, h3], by rw [hb.cell (p := ⟨g, off + i * 3 + 1, none⟩) h2, h4], by rw [hb.cell (p := ⟨g, off + i * 3 + 2, none⟩) h2, h5]⟩

theorem keeps_drew (w : World) : Keeps [] w w.drew := ⟨rfl, rfl, rfl, Nat.le_refl _, fun _ _ _ => rfl⟩

theorem ownsRow_below {w w' : World} {base : Nat} {e : TypeId} {v : Value} {n : Nat} {xs : List Value} (h : w.ownsRow base e 1 v n xs) (hb : Below w.heap.size w w') : w'.ownsRow base e 1 v n xs := by
  refine ⟨h.1, ?_⟩
  rcases h.2 with h2 | ⟨g, cap, cur, hv', hg, hh, r⟩
  · exact Or.inl h2
  · have hlt : g < w.heap.size := by
      rcases Nat.lt_or_ge g w.heap.size with h5 | h5
      · exact h5
      · rw [Array.getElem?_eq_none h5] at hh; cases hh
    exact Or.inr ⟨g, cap, cur, hv', hg, by rw [hb.block g hlt]; exact hh, r⟩

set_option maxHeartbeats 1000000 in
theorem puts_small (ao : Option Addr) (cap : Nat) (xs : List (Int × Int × Int)) (w : World) (hl : xs.length ≤ 60) (hz : ActsFit xs) (hd : ActsAt w ao xs) :
    Calls Try.prog 3 #[.slice ao xs.length cap] w fun e w' => e = .returned (.bool true) ∧ Below w.heap.size w w' := by
  have HD := Lib.hid hd
  have HZ := Lib.hid hz
  clear hd hz
  obtain ⟨len, hlen⟩ : ∃ len, len = xs.length := ⟨_, rfl⟩
  rw [← hlen] at hl ⊢
  have HLEN := Lib.hid hlen
  clear hlen
  go_enter Try.func3, Try.ntmps3
  go_wp2_with fail
  refine (awake w).mono ?_
  rintro e w1 ⟨rfl, hb1⟩
  have HB1 := Lib.hid hb1
  clear hb1
  have t1 : decide ((60 : Int) < (len : Int)) = false := decide_eq_false (by omega)
  go_wp2
  obtain ⟨B, hB⟩ : ∃ B, B = w1.heap.size := ⟨_, rfl⟩
  have HW0 := Lib.hid (Wrote.refl (wr_fresh w1))
  have HBW : Hid (∀ l W, Wrote (w1.alloc (.cells #[.slice none 0 0, .int .i64 0] 26)) w1.heap.size (.slice none 0 0) l W → Below w.heap.size w W) :=
    fun l W h => HB1.out.trans ((wrote_below h).mono HB1.out.size)
  generalize hW0 : w1.alloc (.cells #[.slice none 0 0, .int .i64 0] 26) = W0 at HW0 HBW ⊢
  rw [← hB] at HW0 HBW ⊢
  clear hW0 hB
  go_loopg [4, 6, 7, 8, 19] len (fun gk s a nn ok i wr => ∃ (j : Nat) (l : List Bool), j ≤ len ∧ gk + j = len ∧ i = .int .i64 j ∧ s = .string (str l) ∧ l.length ≤ 8000 ∧ Hid (Wrote W0 B (.slice none 0 0) l wr))
  case atStart => exact ⟨0, [], Nat.zero_le _, by omega, rfl, rfl, by simp, HW0⟩
  case round =>
    obtain ⟨j, l, hj, hgk, rfl, rfl, hl8, HW⟩ := hrel
    have HGK := Lib.hid hgk
    clear hgk
    have HBR : Hid (Below w.heap.size w wr) := HBW.out _ _ HW.out
    by_cases hlt : j < len
    · have hjl : j < xs.length := by have := HLEN.out; omega
      obtain ⟨g, off, rfl, hg, c0, c1, c2⟩ := (HD.out.below HBR.out) j hjl
      have hxb := HZ.out xs[j] (List.getElem_mem hjl)
      obtain ⟨k, hk⟩ : ∃ k, k = xs[j].1 := ⟨_, rfl⟩
      obtain ⟨x, hx⟩ : ∃ x, x = xs[j].2.1 := ⟨_, rfl⟩
      obtain ⟨n, hn⟩ : ∃ n, n = xs[j].2.2 := ⟨_, rfl⟩
      rw [← hk] at c0
      rw [← hx] at c1 hxb
      rw [← hn] at c2
      clear hk hx hn
      have HXB := Lib.hid hxb
      clear hxb hg
      go_wp2_with fail
      refine (refAct l k x n _ (by omega) HXB.out).mono ?_
      rintro e w2 ⟨rfl, hb2⟩
      obtain ⟨A, hA⟩ : ∃ A, A = wr.heap.size := ⟨_, rfl⟩
      have a0 : w2.cell? ⟨A, 0, none⟩ = some (.int .i64 k) := by rw [hA, hb2.cell (p := ⟨wr.heap.size, 0, none⟩) (by simp)]; simp
      have a1 : w2.cell? ⟨A, 1, none⟩ = some (.int .i64 x) := by rw [hA, hb2.cell (p := ⟨wr.heap.size, 1, none⟩) (by simp)]; simp
      have a2 : w2.cell? ⟨A, 2, none⟩ = some (.int .i64 n) := by rw [hA, hb2.cell (p := ⟨wr.heap.size, 2, none⟩) (by simp)]; simp
      have hk2 : Keeps [] wr w2 := (keeps_of_below ((Below.refl _ _).alloc (Nat.le_refl _) _) _).trans (keeps_of_below hb2 _)
      have HB2 : Hid (Below w.heap.size w w2) := HBR.out.trans (hk2.below HBR.out.size (by simp))
      have HK2 := Lib.hid hk2
      rw [← hA]
      have hbl := actBits_le l k x n
      have hsl : (str (actBits l k x n)).size = (actBits l k x n).length := str_size _
      have HOKB : Hid (str (actBits l k x n) = str (actBits l k x n)) := rfl
      obtain ⟨l2, hl2⟩ : ∃ l2, l2 = actBits l k x n := ⟨_, rfl⟩
      obtain ⟨ok, hok⟩ : ∃ ok, ok = actOk k x n := ⟨_, rfl⟩
      rw [← hl2, ← hok]
      rw [← hl2] at hbl hsl
      have HL2 := Lib.hid hl2
      have HOK := Lib.hid hok
      have hs1 : (str l2).size ≤ l2.length := by omega
      have hs2 : l2.length ≤ (str l2).size := by omega
      clear hb2 hA hk2 c0 c1 c2 HOKB hl2 hok hsl
      by_cases hlong : 8000 < l2.length
      · have t2 : (8000 : Int) < ((str l2).size : Int) := by omega
        go_wp2
        go_ret
        exact ⟨rfl, HB2.out⟩
      · have t2 : ¬ ((8000 : Int) < ((str l2).size : Int)) := by omega
        obtain ⟨v1, zs1, hw1, hk1, ho1⟩ := HW.out
        have HW1 := Lib.hid (hw1.keeps HK2.out (by simp) (by simp))
        have HK1 : Hid (Keeps (B :: (Value.slice none 0 0).ownBlock.toList) W0 w2) := hk1.trans_new HK2.out (by simp)
        have HO1 := Lib.hid ho1
        clear hw1 hk1 ho1
        go_wp2_with fail
        refine (wDo B v1 l zs1 k x n w2 HXB.out (by omega) HW1.out).mono ?_
        rintro e w3 ⟨rfl, hw3⟩
        have hw4 := Wrote.next HK1.out HO1.out hw3
        rw [← HL2.out] at hw4
        rw [← HOK.out]
        have HW4 := Lib.hid hw4
        have hc1 : w3.cell? ⟨B, 1, none⟩ = some (.int .i64 l2.length) := by obtain ⟨_, _, h, _⟩ := hw4; exact h.c1
        clear hw3 hw4
        have hneq : (ok != ok) = false := by simp
        have hneq2 : (((l2.length : Nat) : Int) != ((str l2).size : Int)) = false := by rw [bne_eq_false_iff_eq]; omega
        go_wp2_with (go_at_call 10; refine (wLen _ _ _ hc1).mono ?_; rintro e w5 ⟨rfl, rfl⟩)
        go_roundg (gk - 1)
        case rel => exact ⟨j + 1, l2, by omega, by have := HGK.out; omega, by go_num, rfl, by omega, HW4⟩
        case measure => have := HGK.out; omega
    · obtain rfl : j = len := by omega
      obtain ⟨v1, zs1, hw1, hk1, ho1⟩ := HW.out
      have HW1 := Lib.hid hw1
      clear hw1 hk1 ho1
      go_wp2
      go_region_with (first
        | (go_at_call 11; refine (wBytes B v1 l zs1 _ (by omega) (HW1.out.keeps (keeps_drew wr) (by simp) (by simp))).mono ?_; rintro e w2 ⟨g2, rfl, hown2, hb2⟩; have hcv2 := conv_row hown2)
        | (go_at_call 12; refine (refBytes l _ (by omega)).mono ?_; rintro e w3 ⟨v3, zs3, rfl, hp3, hown3, hb3⟩; obtain rfl := hp3.unique HW1.out.packs; have hcv3 := conv_row hown3; have hcv4 := conv_row (ownsRow_below hown2 hb3)))
      all_goals
        go_wp2
        go_ret
        refine ⟨rfl, ?_⟩
        have hd : Below w.heap.size w wr.drew := HBR.out.drew
        exact (hd.trans (hb2.mono hd.size)).trans (hb3.mono (Nat.le_trans hd.size hb2.size))

set_option maxHeartbeats 1000000 in
theorem puts_big (ao : Option Addr) (cap len : Nat) (w : World) (hl : 60 < len) :
    Calls Try.prog 3 #[.slice ao len cap] w fun e w' => e = .returned (.bool true) ∧ Below w.heap.size w w' := by
  have t1 : decide ((60 : Int) < (len : Int)) = true := decide_eq_true (by omega)
  go_enter Try.func3, Try.ntmps3
  go_wp2_with fail
  refine (awake w).mono ?_
  rintro e w1 ⟨rfl, hb1⟩
  have HB1 := Lib.hid hb1
  clear hb1
  go_wp2_with fail
  refine (awake w1).mono ?_
  rintro e w2 ⟨rfl, hb2⟩
  have HB2 := Lib.hid hb2
  clear hb2
  go_wp2
  go_ret
  exact ⟨rfl, HB1.out.trans (HB2.out.mono HB1.out.size)⟩
end Go.Proofs.Ytanofklckifeaaa
