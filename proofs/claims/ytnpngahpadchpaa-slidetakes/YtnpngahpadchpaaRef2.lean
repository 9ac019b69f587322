import Derived.Test.YtnpngahpadchpaaRefReader2
import Derived.Test.YtnpngahpadchpaaMathRice
import Derived.Deep.RegionWith
namespace Go.Proofs.Ytnpngahpadchpaa
open Go.RowKit Go.Proofs Go.Proofs.PipeM Go.Proofs.PipeA

set_option maxHeartbeats 400000 in
theorem refFold (n : Int) (w : World) (h : InR n) :
    Calls Try.prog 61 #[.int .i64 n] w fun e w' => e = .returned (.int .i64 (foldN n)) ∧ w = w' := by
  obtain ⟨h1, h2⟩ := h
  by_cases hn : n < 0
  · have HF : Hid ((foldN n : Int) = -(n + 1) * 2 + 1) := by show _ = _; unfold foldN; rw [if_pos hn]; omega
    go_enter Try.func61, Try.ntmps61
    go_wp2
    go_ret
    exact ⟨by rw [HF.out]; rfl, rfl⟩
  · have HF : Hid ((foldN n : Int) = n * 2) := by show _ = _; unfold foldN; rw [if_neg hn]; omega
    go_enter Try.func61, Try.ntmps61
    go_wp2
    go_ret
    exact ⟨by rw [HF.out]; rfl, rfl⟩

theorem pow24 (k : Nat) (hk : k ≤ 24) : 1 ≤ 2 ^ k ∧ 2 ^ k ≤ 16777216 := ⟨Nat.two_pow_pos k, Nat.le_trans (Nat.pow_le_pow_right (by decide) hk) (by decide)⟩

set_option maxHeartbeats 400000 in
theorem refLength (n : Int) (k : Nat) (w : World) (h : InR n) (hk : k ≤ 24) :
    Calls Try.prog 75 #[.int .i64 n, .int .i64 k] w fun e w' => e = .returned (.int .i64 (costN n k)) ∧ w = w' := by
  have HF := fun W => Lib.hid (refFold n W h)
  have HP := fun W => Lib.hid (refPower k W (by omega))
  obtain ⟨p1, p2⟩ := pow24 k hk
  have hz := foldN_lt h
  have hc : costN n k = if foldN n / 2 ^ k < 24 then foldN n / 2 ^ k + 1 + k else 59 := rfl
  obtain ⟨z, hzz⟩ : ∃ z, z = foldN n := ⟨_, rfl⟩
  obtain ⟨p, hp⟩ : ∃ p, p = 2 ^ k := ⟨_, rfl⟩
  rw [← hzz] at HF hz hc
  rw [← hp] at HP p1 p2 hc
  have hd : z / p ≤ z := Nat.div_le_self _ _
  obtain ⟨q, hq⟩ : ∃ q, q = z / p := ⟨_, rfl⟩
  have hqi : ((z : Int) / (p : Int)) = (q : Int) := by rw [hq, Int.natCast_ediv]
  rw [← hq] at hd hc
  by_cases hq24 : q < 24
  · have HC : Hid (costN n k = q + 1 + k) := by rw [hc, if_pos hq24]; rfl
    clear hc hzz hp hq h
    go_enter Try.func75, Try.ntmps75
    go_wp2_with (first | (go_at_call 61; refine (HF _).out.mono ?_; rintro e w1 ⟨rfl, rfl⟩) | (go_at_call 45; refine (HP _).out.mono ?_; rintro e w1 ⟨rfl, rfl⟩))
    go_ret
    refine ⟨?_, rfl⟩
    rw [HC.out]
    show Ending.returned (Value.int .i64 ((q : Int) + 1 + (k : Int))) = _
    congr 2
  · have HC : Hid (costN n k = 59) := by rw [hc, if_neg hq24]; rfl
    clear hc hzz hp hq h
    go_enter Try.func75, Try.ntmps75
    go_wp2_with (first | (go_at_call 61; refine (HF _).out.mono ?_; rintro e w1 ⟨rfl, rfl⟩) | (go_at_call 45; refine (HP _).out.mono ?_; rintro e w1 ⟨rfl, rfl⟩))
    go_ret
    exact ⟨by rw [HC.out]; rfl, rfl⟩

/-- Numbers that lie in memory. -/
def IntsAt (w : World) (ao : Option Addr) (l : List Int) : Prop :=
  ∀ j (h : j < l.length), ∃ b off, ao = some ⟨b, off, none⟩ ∧ b < w.heap.size ∧ w.cell? ⟨b, off + j, none⟩ = some (.int .i64 l[j])

theorem IntsAt.keeps {w w' : World} {bs : List Nat} {ao : Option Addr} {l : List Int} (h : IntsAt w ao l) (hk : Keeps bs w w') (hn : ∀ g off, ao = some ⟨g, off, none⟩ → g ∉ bs) : IntsAt w' ao l := by
  intro j hj
  obtain ⟨g, off, h1, h2, h3⟩ := h j hj
  exact ⟨g, off, h1, Nat.lt_of_lt_of_le h2 hk.size, by rw [hk.cell (p := ⟨g, off + j, none⟩) h2 (hn g off h1), h3]⟩
theorem IntsAt.below {w w' : World} {ao : Option Addr} {l : List Int} (h : IntsAt w ao l) (hb : Below w.heap.size w w') : IntsAt w' ao l := h.keeps (keeps_of_below hb []) (by simp)

set_option maxHeartbeats 400000 in
theorem refTotal (ao : Option Addr) (cap : Nat) (l : List Int) (k : Nat) (w : World) (hl : l.length ≤ 1000000) (hi : IntsAt w ao l) (hr : ∀ n ∈ l, InR n) (hk : k ≤ 24) :
    Calls Try.prog 58 #[.slice ao l.length cap, .int .i64 k] w fun e w' => e = .returned (.int .i64 (totalN l k)) ∧ w = w' := by
  have HI := Lib.hid hi
  have HR := Lib.hid hr
  clear hi hr
  go_enter Try.func58, Try.ntmps58
  go_wp2
  go_loopg [5, 6, 9] l.length (fun gk s q i wr => ∃ c : Nat, c ≤ l.length ∧ gk + c = l.length ∧ i = .int .i64 c ∧ s = .int .i64 (totalN (l.take c) k) ∧ wr = w)
  case atStart => exact ⟨0, Nat.zero_le _, by omega, rfl, rfl, rfl⟩
  case round =>
    obtain ⟨c, hc, hgk, rfl, rfl, rfl⟩ := hrel
    have HGK := Lib.hid hgk
    clear hgk
    have htl := totalN_le (l.take c) k hk
    rw [List.length_take] at htl
    obtain ⟨x, hx⟩ : ∃ x, x = totalN (l.take c) k := ⟨_, rfl⟩
    rw [← hx] at htl ⊢
    have HX := Lib.hid hx
    clear hx
    by_cases hlt : c < l.length
    · obtain ⟨g, off, rfl, hg, hcell⟩ := HI.out c hlt
      have hcl := costN_le l[c] k hk
      have hsn : totalN (l.take (c + 1)) k = totalN (l.take c) k + costN l[c] k := by rw [List.take_succ_eq_append_getElem hlt, totalN_snoc]
      have HL := fun W => Lib.hid (refLength l[c] k W (HR.out _ (List.getElem_mem hlt)) hk)
      obtain ⟨n, hn⟩ : ∃ n, n = l[c] := ⟨_, rfl⟩
      obtain ⟨y, hy⟩ : ∃ y, y = costN n k := ⟨_, rfl⟩
      rw [← hn] at hcell
      rw [← hn, ← hy] at hcl HL hsn
      have HSN := Lib.hid hsn
      clear hsn hn hy
      go_wp2_with (go_at_call 75; refine (HL _).out.mono ?_; rintro e w1 ⟨rfl, rfl⟩)
      go_roundg (gk - 1)
      case rel => exact ⟨c + 1, by omega, by have := HGK.out; omega, by go_num, by rw [HSN.out, ← HX.out]; go_num, rfl⟩
      case measure => have := HGK.out; omega
    · obtain rfl : c = l.length := by omega
      go_wp2
      go_ret
      exact ⟨by rw [show totalN l k = x by rw [HX.out, List.take_length]]; rfl, rfl⟩

/-- What the document's code answers. -/
def CodeIs (n k : Int) (w : World) (e : Ending) (w' : World) : Prop := e = .returned (.tuple #[.string (str (codeOf n k)), .bool (codeOk n k)]) ∧ Below w.heap.size w w'

set_option maxHeartbeats 400000 in
theorem refCode_no (n k : Int) (w : World) (h : codeOk n k = false) :
    Calls Try.prog 35 #[.int .i64 n, .int .i64 k] w (CodeIs n k w) := by
  have hno : ¬ (-8589934592 ≤ n ∧ n ≤ 8589934591 ∧ 0 ≤ k ∧ k ≤ 24) := of_decide_eq_false h
  have HC : Hid (codeOf n k = []) := by show _ = _; unfold codeOf; rw [h]; rfl
  have HO := Lib.hid h
  have t : decide (n < -8589934592) = true ∨ (decide (n < -8589934592) = false ∧ (decide (8589934591 < n) = true ∨ (decide (8589934591 < n) = false ∧ (decide (k < 0) = true ∨ (decide (k < 0) = false ∧ decide (24 < k) = true))))) := by
    by_cases h1 : n < -8589934592
    · exact Or.inl (decide_eq_true h1)
    · refine Or.inr ⟨decide_eq_false h1, ?_⟩
      by_cases h2 : 8589934591 < n
      · exact Or.inl (decide_eq_true h2)
      · refine Or.inr ⟨decide_eq_false h2, ?_⟩
        by_cases h3 : k < 0
        · exact Or.inl (decide_eq_true h3)
        · exact Or.inr ⟨decide_eq_false h3, decide_eq_true (by omega)⟩
  clear h hno
  rcases t with t1 | ⟨t1, t2 | ⟨t2, t3 | ⟨t3, t4⟩⟩⟩
  all_goals
    go_enter Try.func35, Try.ntmps35
    go_wp2
    go_ret2
    exact ⟨by rw [HC.out, HO.out]; rfl, Below.refl _ _⟩

set_option maxHeartbeats 800000 in
theorem refCode_yes (n : Int) (k : Nat) (w : World) (h : InR n) (hk : k ≤ 24) :
    Calls Try.prog 35 #[.int .i64 n, .int .i64 k] w (CodeIs n k w) := by
  have hok : codeOk n (k : Int) = true := by unfold codeOk; exact decide_eq_true ⟨h.1, h.2, by omega, by omega⟩
  have hco : codeOf n (k : Int) = codeZ (foldN n) k := by unfold codeOf; rw [hok]; simp [codeBits]
  have t1 : decide (n < -8589934592) = false := decide_eq_false (by have := h.1; omega)
  have t2 : decide (8589934591 < n) = false := decide_eq_false (by have := h.2; omega)
  have t3 : decide ((k : Int) < 0) = false := decide_eq_false (by omega)
  have t4 : decide ((24 : Int) < (k : Int)) = false := decide_eq_false (by omega)
  have HF := fun W => Lib.hid (refFold n W h)
  have HP := fun W => Lib.hid (refPower k W (by omega))
  obtain ⟨p1, p2⟩ := pow24 k hk
  have hz := foldN_lt h
  have HO := Lib.hid hok
  obtain ⟨z, hzz⟩ : ∃ z, z = foldN n := ⟨_, rfl⟩
  obtain ⟨p, hp⟩ : ∃ p, p = 2 ^ k := ⟨_, rfl⟩
  rw [← hzz] at HF hz hco
  have hcz : codeZ z k = if z / 2 ^ k < 24 then (List.replicate (z / 2 ^ k) false ++ [true]) ++ low (z % 2 ^ k) k else (List.replicate 24 false ++ [true]) ++ low z 34 := rfl
  rw [← hp] at HP p1 p2 hcz
  have hd : z / p ≤ z := Nat.div_le_self _ _
  have hm : z % p < p := Nat.mod_lt _ p1
  obtain ⟨q, hq⟩ : ∃ q, q = z / p := ⟨_, rfl⟩
  obtain ⟨r, hr⟩ : ∃ r, r = z % p := ⟨_, rfl⟩
  have hqi : ((z : Int) / (p : Int)) = (q : Int) := by rw [hq, Int.natCast_ediv]
  rw [← hq] at hd hcz
  rw [← hr] at hm hcz
  clear hzz hp h hok
  by_cases hq24 : q < 24
  · have HC : Hid (codeOf n (k : Int) = (List.replicate q false ++ [true]) ++ low r k) := by rw [hco, hcz, if_pos hq24]; rfl
    have hqt : (z : Int).tdiv (p : Int) = (q : Int) := by rw [Int.tdiv_eq_ediv_of_nonneg (by omega), hqi]
    have hrt : (z : Int).tmod (p : Int) = (r : Int) := by rw [Int.tmod_eq_emod_of_nonneg (by omega), hr, Int.natCast_emod]
    have hw : IntKind.i64.wrap (q : Int) = (q : Int) := IntWalk.i64_in _ (by omega)
    have hw2 : IntKind.i64.wrap (r : Int) = (r : Int) := IntWalk.i64_in _ (by omega)
    have HZ := fun W => Lib.hid (refZeros q W (by omega))
    have HU := fun W => Lib.hid (refPut r k W (by omega) (by omega))
    have hz1 : (str (List.replicate q false ++ [true])).size ≤ 25 := by rw [str_size]; simp; omega
    have hz2 : (str (low r k)).size ≤ 24 := by rw [str_size, low_length]; omega
    have hst : str (codeOf n (k : Int)) = str (List.replicate q false ++ [true]) ++ str (low r k) := by rw [HC.out, str_append]
    obtain ⟨s1, hs1⟩ : ∃ s1, s1 = str (List.replicate q false ++ [true]) := ⟨_, rfl⟩
    obtain ⟨s2, hs2⟩ : ∃ s2, s2 = str (low r k) := ⟨_, rfl⟩
    rw [← hs1] at HZ hz1 hst
    rw [← hs2] at HU hz2 hst
    have HST := Lib.hid hst
    clear hco hcz hq hr hs1 hs2 hst
    go_enter Try.func35, Try.ntmps35
    go_wp2_with (first | (go_at_call 61; refine (HF _).out.mono ?_; rintro e w1 ⟨rfl, rfl⟩) | (go_at_call 45; refine (HP _).out.mono ?_; rintro e w1 ⟨rfl, rfl⟩))
    go_region_with (first
      | (go_at_call 62; refine (HZ _).out.mono ?_; rintro e w2 ⟨rfl, rfl⟩)
      | (go_at_call 34; refine (HU _).out.mono ?_; rintro e w3 ⟨rfl, hb3⟩))
    all_goals
      go_wp2
      go_ret2
      refine ⟨?_, (Below.refl _ _).drew.trans hb3⟩
      rw [HST.out, HO.out]; rfl
  · have HC : Hid (codeOf n (k : Int) = (List.replicate 24 false ++ [true]) ++ low z 34) := by rw [hco, hcz, if_neg hq24]; rfl
    have HZ := fun W => Lib.hid (refZeros 24 W (by omega))
    have HU := fun W => Lib.hid (refPut z 34 W (by omega) (by omega))
    have hz1 : (str (List.replicate 24 false ++ [true])).size ≤ 25 := by rw [str_size]; simp
    have hz2 : (str (low z 34)).size ≤ 34 := by rw [str_size, low_length]; omega
    have hst : str (codeOf n (k : Int)) = str (List.replicate 24 false ++ [true]) ++ str (low z 34) := by rw [HC.out, str_append]
    obtain ⟨s1, hs1⟩ : ∃ s1, s1 = str (List.replicate 24 false ++ [true]) := ⟨_, rfl⟩
    obtain ⟨s2, hs2⟩ : ∃ s2, s2 = str (low z 34) := ⟨_, rfl⟩
    rw [← hs1] at HZ hz1 hst
    rw [← hs2] at HU hz2 hst
    have HST := Lib.hid hst
    clear hco hcz hq hr hs1 hs2 hst
    go_enter Try.func35, Try.ntmps35
    go_wp2_with (first | (go_at_call 61; refine (HF _).out.mono ?_; rintro e w1 ⟨rfl, rfl⟩) | (go_at_call 45; refine (HP _).out.mono ?_; rintro e w1 ⟨rfl, rfl⟩) | (go_at_call 62; refine (HZ _).out.mono ?_; rintro e w2 ⟨rfl, rfl⟩) | (go_at_call 34; refine (HU _).out.mono ?_; rintro e w3 ⟨rfl, hb3⟩))
    go_ret2
    refine ⟨?_, hb3⟩
    rw [HST.out, HO.out]; rfl

theorem refCode (n k : Int) (w : World) : Calls Try.prog 35 #[.int .i64 n, .int .i64 k] w (CodeIs n k w) := by
  by_cases h : codeOk n k = true
  · have h4 : -8589934592 ≤ n ∧ n ≤ 8589934591 ∧ 0 ≤ k ∧ k ≤ 24 := of_decide_eq_true h
    obtain ⟨m, rfl⟩ := Int.eq_ofNat_of_zero_le h4.2.2.1
    exact refCode_yes n m w ⟨h4.1, h4.2.1⟩ (by omega)
  · exact refCode_no n k w (by simpa using h)
end Go.Proofs.Ytnpngahpadchpaa
