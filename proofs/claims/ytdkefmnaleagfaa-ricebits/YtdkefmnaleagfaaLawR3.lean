import Derived.Test.YtdkefmnaleagfaaLawR2
import Derived.Test.YtdkefmnaleagfaaCommon
import Derived.Deep.RegionWith
namespace Go.Proofs.Ytdkefmnaleagfaa
open Go.RowKit Go.Proofs Go.Proofs.PipeM Go.Proofs.PipeA

theorem codeOf_le (n k : Int) : (codeOf n k).length ≤ 59 := by
  unfold codeOf
  split
  · rename_i h
    have h4 : -8589934592 ≤ n ∧ n ≤ 8589934591 ∧ 0 ≤ k ∧ k ≤ 24 := of_decide_eq_true h
    rw [codeBits_length]; exact costN_le n _ (by omega)
  · simp

theorem end_zero {l : List Bool} (h : l.length < 8) (hz : ∀ b ∈ l, b = false) : RS.endv ⟨l, 0⟩ = 0 := by
  unfold RS.endv
  rw [if_neg (by simp), if_neg (by simp only; omega), if_pos ((num_zero l).2 hz)]

set_option maxRecDepth 100000 in
set_option maxHeartbeats 1600000 in
theorem rputs (n k : Int) (w : World) : Calls Try.prog 4 #[.int .i64 n, .int .i64 k] w fun e w' => e = .returned (.bool true) ∧ Below w.heap.size w w' := by
  go_enter Try.func4, Try.ntmps4
  go_wp2_with fail
  refine (awake2 w).mono ?_
  rintro e w1 ⟨rfl, hb1⟩
  have HB1 := Lib.hid hb1
  clear hb1
  go_wp2_with fail
  refine (refCode n k w1).mono ?_
  rintro e w2 ⟨rfl, hb2⟩
  have HB2 : Hid (Below w.heap.size w w2) := HB1.out.trans (hb2.mono HB1.out.size)
  clear hb2
  have hcl := codeOf_le n k
  have hsl : (str (codeOf n k)).size = (codeOf n k).length := str_size _
  have hco : codeOk n k = true → codeOf n k = codeBits n k.toNat := fun h => by unfold codeOf; rw [if_pos h]
  obtain ⟨c, hc⟩ : ∃ c, c = codeOf n k := ⟨_, rfl⟩
  obtain ⟨ok, hok⟩ : ∃ ok, ok = codeOk n k := ⟨_, rfl⟩
  rw [← hc, ← hok]
  rw [← hc] at hcl hsl hco
  rw [← hok] at hco
  have HC := Lib.hid hc
  have HO := Lib.hid hok
  have HCO := Lib.hid hco
  have hs1 : (str c).size ≤ c.length := by omega
  have hs2 : c.length ≤ (str c).size := by omega
  have HF := Lib.hid (wr_fresh w2)
  have HBF : Hid (∀ l W, Wrote (w2.alloc (.cells #[.slice none 0 0, .int .i64 0] 29)) w2.heap.size (.slice none 0 0) l W → Below w.heap.size w W) :=
    fun l W h => HB2.out.trans ((wrote_below h).mono HB2.out.size)
  have HBB : Hid (w.heap.size ≤ w2.heap.size) := HB2.out.size
  clear hc hok hsl hco
  go_wp2_with fail
  generalize w2.alloc (.cells #[.slice none 0 0, .int .i64 0] 29) = W2 at HF HBF ⊢
  generalize w2.heap.size = B at HF HBF HBB ⊢
  refine (cPut B (.slice none 0 0) [] [] n k W2 (by simp) HF.out).mono ?_
  rintro e w3 ⟨rfl, hw3⟩
  rw [← HC.out] at hw3
  rw [← HO.out]
  have HB3 := Lib.hid (HBF.out _ _ hw3)
  obtain ⟨v3, zs3, hi3, hk3, ho3⟩ := hw3
  have HI := Lib.hid hi3
  have c1 := hi3.c1
  rw [List.nil_append] at c1 HI
  have t1 : (ok != ok) = false := by simp
  clear hi3 hk3 ho3
  go_wp2_with fail
  refine (wLen _ _ _ c1).mono ?_
  rintro e w4 ⟨rfl, rfl⟩
  have t2 : ((((c.length : Nat) : Int)) != ((str c).size : Int)) = false := by rw [bne_eq_false_iff_eq]; omega
  go_wp2_with fail
  refine (cCost n k _).mono ?_
  rintro e w5 ⟨rfl, hb5⟩
  rw [← HC.out]
  have HI5 := Lib.hid (HI.out.keeps (keeps_of_below hb5 []) (by simp) (by simp))
  have HB5 : Hid (Below w.heap.size w w5) := HB3.out.trans (hb5.mono HB3.out.size)
  clear hb5 c1
  cases hokc : ok
  · subst hokc
    go_wp2
    go_ret
    exact ⟨rfl, HB5.out⟩
  · have HCB := Lib.hid (HCO.out hokc)
    have h4 : -8589934592 ≤ n ∧ n ≤ 8589934591 ∧ 0 ≤ k ∧ k ≤ 24 := of_decide_eq_true (by rw [← hokc, HO.out]; rfl)
    have H4 := Lib.hid h4
    subst hokc
    clear h4
    go_wp2_with fail
    refine (wBytes B v3 c zs3 w5 (by omega) HI5.out).mono ?_
    rintro e w6 ⟨g6, rfl, hown6, hb6⟩
    have HBA := Lib.hid (bytes_own hown6)
    have HG6 := Lib.hid (own_lt hown6).2.1
    have HI6 := Lib.hid (HI5.out.keeps (keeps_of_below hb6 []) (by simp) (by simp))
    have HB6 : Hid (Below w.heap.size w w6) := HB5.out.trans (hb6.mono HB5.out.size)
    have hzl : zs3.length ≤ 100 := by have := HI5.out.packs.length; omega
    clear hown6 hb6
    go_wp2_with fail
    refine (aOpen _ _ _ zs3 w6 (fun _ => rfl) HBA.out HI5.out.packs.1 (by omega)).mono ?_
    rintro e w7 ⟨rfl, hr7, hb7⟩
    have HI7 := Lib.hid (HI6.out.keeps (keeps_of_below hb7 []) (by simp) (by simp))
    have HB7 : Hid (Below w.heap.size w w7) := HB6.out.trans (hb7.mono HB6.out.size)
    have HR7 := Lib.hid hr7
    have hR : w.heap.size ≤ w6.heap.size := HB6.out.size
    have HBS : Hid (∀ g off, some (⟨g6, 0, none⟩ : Addr) = some ⟨g, off, none⟩ → g < w6.heap.size) := fun g off hg => by
      obtain ⟨rfl, _⟩ : g6 = g ∧ 0 = off := by simpa using hg
      exact HG6.out
    generalize w6.heap.size = R at HR7 hR HBS ⊢
    have HTK : Hid (∀ W, RdA W R (some ⟨g6, 0, none⟩) ⟨bitsOf zs3, 0⟩ → Calls Try.prog 21 #[.pointer (some ⟨R, 0, none⟩), .int .i64 k] W fun e w' => e = .returned (.int .i64 n) ∧ Reads W R (some ⟨g6, 0, none⟩) ⟨List.replicate ((8 - c.length % 8) % 8) false, 0⟩ w') := fun W hW => by
      have hrc : RS.rice ⟨bitsOf zs3, 0⟩ k = (⟨List.replicate ((8 - c.length % 8) % 8) false, 0⟩, n) := by
        obtain ⟨j, hj⟩ := Int.eq_ofNat_of_zero_le H4.out.2.2.1
        have hb : bitsOf zs3 = codeZ (foldN n) j ++ List.replicate ((8 - c.length % 8) % 8) false := by
          rw [HI5.out.packs.2, pad]; congr 1; rw [HCB.out, hj, Int.toNat_natCast]; rfl
        rw [hb, hj, rice_code (foldN n) j (foldN_lt ⟨H4.out.1, H4.out.2.1⟩) (by have := H4.out.2.2.2; omega), unfold_fold]
      have := cTake R (some ⟨g6, 0, none⟩) ⟨bitsOf zs3, 0⟩ k W hW
      rw [hrc] at this
      exact this
    have HEND : Hid (∀ W, RdA W R (some ⟨g6, 0, none⟩) ⟨List.replicate ((8 - c.length % 8) % 8) false, 0⟩ → Calls Try.prog 22 #[.pointer (some ⟨R, 0, none⟩)] W fun e w' => e = .returned (.int .i64 0) ∧ Keeps [] W w') := fun W hW => by
      have := aEnd R (some ⟨g6, 0, none⟩) ⟨List.replicate ((8 - c.length % 8) % 8) false, 0⟩ W hW
      rw [end_zero (by simp; omega) (fun b hb => List.eq_of_mem_replicate hb)] at this
      exact this
    have t5 : (n == n) = true := by simp
    clear hr7 hb7
    go_wp2
    go_region_with (first
      | (go_at_call 19; refine (wBytes B v3 c zs3 _ (by omega) (HI7.out.keeps (keeps_drew w7) (by simp) (by simp))).mono ?_; rintro e w8 ⟨g8, rfl, hown8, hb8⟩; have hcv8 := conv_row hown8; have kk8 : Keeps [] w7 w8 := (keeps_drew w7).trans (keeps_of_below hb8 []))
      | (go_at_call 20; refine (refBytes c _ (by omega)).mono ?_; rintro e w9 ⟨v9, zs9, rfl, hp9, hown9, hb9⟩; obtain rfl := hp9.unique HI5.out.packs; have hcv9 := conv_row hown9; have hcv10 := conv_row (ownsRow_below hown8 hb9); have kk9 : Keeps [] w7 w9 := kk8.trans (keeps_of_below hb9 []))
      | (go_at_call 21; refine (HTK.out _ (HR7.out.keeps kk9 (by simp) (by simp))).mono ?_; rintro e w10 ⟨rfl, hr10⟩)
      | (go_at_call 22; refine (HEND.out _ hr10.1).mono ?_; rintro e w11 ⟨rfl, kk11⟩))
    all_goals
      go_wp2
      go_ret
      refine ⟨rfl, ?_⟩
      have h9 : Below w.heap.size w w9 := HB7.out.trans (kk9.below HB7.out.size (by simp))
      have h10 : Below w.heap.size w w10 := h9.trans (hr10.2.below h9.size (by intro y hy; simp at hy; omega))
      exact h10.trans (kk11.below h10.size (by simp))
end Go.Proofs.Ytdkefmnaleagfaa
