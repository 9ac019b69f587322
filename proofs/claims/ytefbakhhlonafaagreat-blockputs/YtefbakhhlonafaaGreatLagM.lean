import Derived.Test.YtefbakhhlonafaaGreatAppend
import Derived.Test.YtefbakhhlonafaaGreatRefReader2
import Derived.Deep.RegionWith
import Derived.WalkKit
import Derived.ProofKit
import Derived.OpenShut
import Derived.ShutString
import Derived.ChangeOld
import Derived.Below
import Derived.Laws.BitsAllLaws

section
namespace Go.Proofs.PipeM

/-- A number without a sign, and back. -/
def foldN (n : Int) : Nat := if n < 0 then (-2 * n - 1).toNat else (2 * n).toNat
def unfoldN (z : Nat) : Int := if z % 2 = 1 then -(((z + 1) / 2 : Nat) : Int) else ((z / 2 : Nat) : Int)
def InR (n : Int) : Prop := -8589934592 ≤ n ∧ n ≤ 8589934591

theorem foldN_lt {n : Int} (h : InR n) : foldN n < 17179869184 := by
  unfold foldN InR at *; split <;> omega
theorem unfold_fold (n : Int) : unfoldN (foldN n) = n := by
  unfold foldN unfoldN
  split
  · split <;> omega
  · split <;> omega
/-- How many bits a number's code has. -/
def costN (n : Int) (k : Nat) : Nat := if foldN n / 2 ^ k < 24 then foldN n / 2 ^ k + 1 + k else 59

/-- A number's code. -/
def codeZ (z k : Nat) : List Bool := if z / 2 ^ k < 24 then (List.replicate (z / 2 ^ k) false ++ [true]) ++ low (z % 2 ^ k) k else (List.replicate 24 false ++ [true]) ++ low z 34
def codeBits (n : Int) (k : Nat) : List Bool := codeZ (foldN n) k

theorem codeBits_length (n : Int) (k : Nat) : (codeBits n k).length = costN n k := by
  unfold codeBits codeZ costN
  split
  · simp [low_length]; omega
  · simp [low_length]

theorem costN_le (n : Int) (k : Nat) (hk : k ≤ 24) : costN n k ≤ 59 := by
  unfold costN
  generalize foldN n / 2 ^ k = q
  split <;> omega
theorem costN_pos (n : Int) (k : Nat) : 1 ≤ costN n k := by
  unfold costN
  generalize foldN n / 2 ^ k = q
  split <;> omega

def codeOk (n k : Int) : Bool := decide (-8589934592 ≤ n ∧ n ≤ 8589934591 ∧ 0 ≤ k ∧ k ≤ 24)
def codeOf (n k : Int) : List Bool := if codeOk n k then codeBits n k.toNat else []

/-- What all numbers cost. -/
def totalN (l : List Int) (k : Nat) : Nat := (l.map fun n => costN n k).sum
theorem totalN_snoc (l : List Int) (n : Int) (k : Nat) : totalN (l ++ [n]) k = totalN l k + costN n k := by simp [totalN]
theorem totalN_le (l : List Int) (k : Nat) (hk : k ≤ 24) : totalN l k ≤ 59 * l.length := by
  induction l with
  | nil => simp [totalN]
  | cons n l ih =>
    have := costN_le n k hk
    simp [totalN] at ih ⊢
    omega

/-- The least parameter of the fewest bits. -/
def IsBest (l : List Int) (k : Nat) : Prop := k ≤ 24 ∧ ∀ p, p ≤ 24 → totalN l k ≤ totalN l p ∧ (totalN l p = totalN l k → k ≤ p)
theorem IsBest.unique {l : List Int} {a b : Nat} (ha : IsBest l a) (hb : IsBest l b) : a = b := by
  have h1 := ha.2 b hb.1
  have h2 := hb.2 a ha.1
  have h3 := h1.2 (by omega)
  have h4 := h2.2 (by omega)
  omega
end Go.Proofs.PipeM
end

section
namespace Go.Proofs.YtefbakhhlonafaaGreat
open Go.RowKit Go.Proofs Go.Proofs.PipeM Go.Proofs.PipeA

set_option maxHeartbeats 400000 in
theorem refFold (n : Int) (w : World) (h : InR n) :
    Calls Tryz.prog 85 #[.int .i64 n] w fun e w' => e = .returned (.int .i64 (foldN n)) ∧ w = w' := by
  obtain ⟨h1, h2⟩ := h
  by_cases hn : n < 0
  · have HF : Hid ((foldN n : Int) = -(n + 1) * 2 + 1) := by show _ = _; unfold foldN; rw [if_pos hn]; omega
    go_enter Tryz.func85, Tryz.ntmps85
    go_wp2
    go_ret
    exact ⟨by rw [HF.out]; rfl, rfl⟩
  · have HF : Hid ((foldN n : Int) = n * 2) := by show _ = _; unfold foldN; rw [if_neg hn]; omega
    go_enter Tryz.func85, Tryz.ntmps85
    go_wp2
    go_ret
    exact ⟨by rw [HF.out]; rfl, rfl⟩

theorem pow24 (k : Nat) (hk : k ≤ 24) : 1 ≤ 2 ^ k ∧ 2 ^ k ≤ 16777216 := ⟨Nat.two_pow_pos k, Nat.le_trans (Nat.pow_le_pow_right (by decide) hk) (by decide)⟩

set_option maxHeartbeats 400000 in
theorem refLength (n : Int) (k : Nat) (w : World) (h : InR n) (hk : k ≤ 24) :
    Calls Tryz.prog 87 #[.int .i64 n, .int .i64 k] w fun e w' => e = .returned (.int .i64 (costN n k)) ∧ w = w' := by
  have HF := fun W => Lib.hid (refFold n W h)
  have HP := fun W => Lib.hid (refPower k W (by omega))
  obtain ⟨p1, p2⟩ := pow24 k hk
  have hz := foldN_lt h
  have hc : costN n k = if foldN n / 2 ^ k < 24 then foldN n / 2 ^ k + 1 + k else 59 := rfl
  obtain ⟨z, hzz⟩ : ∃ z, z = foldN n := ⟨_, rfl⟩
  obtain ⟨p, hp⟩ : ∃ p, p = 2 ^ k := ⟨_, rfl⟩
  rw [← hzz] at HF hz hc
  rw [← hp] at HP p1 p2 hc
  have hd : z / p ≤ z := Nat.div_le_self _ _
  obtain ⟨q, hq⟩ : ∃ q, q = z / p := ⟨_, rfl⟩
  have hqi : ((z : Int) / (p : Int)) = (q : Int) := by rw [hq, Int.natCast_ediv]
  rw [← hq] at hd hc
  by_cases hq24 : q < 24
  · have HC : Hid (costN n k = q + 1 + k) := by rw [hc, if_pos hq24]; rfl
    clear hc hzz hp hq h
    go_enter Tryz.func87, Tryz.ntmps87
    go_wp2_with (first | (go_at_call 85; refine (HF _).out.mono ?_; rintro e w1 ⟨rfl, rfl⟩) | (go_at_call 29; refine (HP _).out.mono ?_; rintro e w1 ⟨rfl, rfl⟩))
    go_ret
    refine ⟨?_, rfl⟩
    rw [HC.out]
    show Ending.returned (Value.int .i64 ((q : Int) + 1 + (k : Int))) = _
    congr 2
  · have HC : Hid (costN n k = 59) := by rw [hc, if_neg hq24]; rfl
    clear hc hzz hp hq h
    go_enter Tryz.func87, Tryz.ntmps87
    go_wp2_with (first | (go_at_call 85; refine (HF _).out.mono ?_; rintro e w1 ⟨rfl, rfl⟩) | (go_at_call 29; refine (HP _).out.mono ?_; rintro e w1 ⟨rfl, rfl⟩))
    go_ret
    exact ⟨by rw [HC.out]; rfl, rfl⟩

/-- Numbers that lie in memory. -/
def IntsAt (w : World) (ao : Option Addr) (l : List Int) : Prop :=
  ∀ j (h : j < l.length), ∃ b off, ao = some ⟨b, off, none⟩ ∧ b < w.heap.size ∧ w.cell? ⟨b, off + j, none⟩ = some (.int .i64 l[j])

theorem IntsAt.keeps {w w' : World} {bs : List Nat} {ao : Option Addr} {l : List Int} (h : IntsAt w ao l) (hk : Keeps bs w w') (hn : ∀ g off, ao = some ⟨g, off, none⟩ → g ∉ bs) : IntsAt w' ao l := by
  intro j hj
  obtain ⟨g, off, h1, h2, h3⟩ := h j hj
  exact ⟨g, off, h1, Nat.lt_of_lt_of_le h2 hk.size, by rw [hk.cell (p := ⟨g, off + j, none⟩) h2 (hn g off h1), h3]⟩
theorem IntsAt.below {w w' : World} {ao : Option Addr} {l : List Int} (h : IntsAt w ao l) (hb : Below w.heap.size w w') : IntsAt w' ao l := h.keeps (keeps_of_below hb []) (by simp)

set_option maxHeartbeats 400000 in
theorem refTotal (ao : Option Addr) (cap : Nat) (l : List Int) (k : Nat) (w : World) (hl : l.length ≤ 1000000) (hi : IntsAt w ao l) (hr : ∀ n ∈ l, InR n) (hk : k ≤ 24) :
    Calls Tryz.prog 70 #[.slice ao l.length cap, .int .i64 k] w fun e w' => e = .returned (.int .i64 (totalN l k)) ∧ w = w' := by
  have HI := Lib.hid hi
  have HR := Lib.hid hr
  clear hi hr
  go_enter Tryz.func70, Tryz.ntmps70
  go_wp2
  go_loopg [5, 6, 9] l.length (fun gk s q i wr => ∃ c : Nat, c ≤ l.length ∧ gk + c = l.length ∧ i = .int .i64 c ∧ s = .int .i64 (totalN (l.take c) k) ∧ wr = w)
  case atStart => exact ⟨0, Nat.zero_le _, by omega, rfl, rfl, rfl⟩
  case round =>
    obtain ⟨c, hc, hgk, rfl, rfl, rfl⟩ := hrel
    have HGK := Lib.hid hgk
    clear hgk
    have htl := totalN_le (l.take c) k hk
    rw [List.length_take] at htl
    obtain ⟨x, hx⟩ : ∃ x, x = totalN (l.take c) k := ⟨_, rfl⟩
    rw [← hx] at htl ⊢
    have HX := Lib.hid hx
    clear hx
    by_cases hlt : c < l.length
    · obtain ⟨g, off, rfl, hg, hcell⟩ := HI.out c hlt
      have hcl := costN_le l[c] k hk
      have hsn : totalN (l.take (c + 1)) k = totalN (l.take c) k + costN l[c] k := by rw [List.take_succ_eq_append_getElem hlt, totalN_snoc]
      have HL := fun W => Lib.hid (refLength l[c] k W (HR.out _ (List.getElem_mem hlt)) hk)
      obtain ⟨n, hn⟩ : ∃ n, n = l[c] := ⟨_, rfl⟩
      obtain ⟨y, hy⟩ : ∃ y, y = costN n k := ⟨_, rfl⟩
      rw [← hn] at hcell
      rw [← hn, ← hy] at hcl HL hsn
      have HSN := Lib.hid hsn
      clear hsn hn hy
      go_wp2_with (go_at_call 87; refine (HL _).out.mono ?_; rintro e w1 ⟨rfl, rfl⟩)
      go_roundg (gk - 1)
      case rel => exact ⟨c + 1, by omega, by have := HGK.out; omega, by go_num, by rw [HSN.out, ← HX.out]; go_num, rfl⟩
      case measure => have := HGK.out; omega
    · obtain rfl : c = l.length := by omega
      go_wp2
      go_ret
      exact ⟨by rw [show totalN l k = x by rw [HX.out, List.take_length]]; rfl, rfl⟩

/-- What the document's code answers. -/
def CodeIs (n k : Int) (w : World) (e : Ending) (w' : World) : Prop := e = .returned (.tuple #[.string (str (codeOf n k)), .bool (codeOk n k)]) ∧ Below w.heap.size w w'

set_option maxHeartbeats 400000 in
theorem refCode_no (n k : Int) (w : World) (h : codeOk n k = false) :
    Calls Tryz.prog 69 #[.int .i64 n, .int .i64 k] w (CodeIs n k w) := by
  have hno : ¬ (-8589934592 ≤ n ∧ n ≤ 8589934591 ∧ 0 ≤ k ∧ k ≤ 24) := of_decide_eq_false h
  have HC : Hid (codeOf n k = []) := by show _ = _; unfold codeOf; rw [h]; rfl
  have HO := Lib.hid h
  have t : decide (n < -8589934592) = true ∨ (decide (n < -8589934592) = false ∧ (decide (8589934591 < n) = true ∨ (decide (8589934591 < n) = false ∧ (decide (k < 0) = true ∨ (decide (k < 0) = false ∧ decide (24 < k) = true))))) := by
    by_cases h1 : n < -8589934592
    · exact Or.inl (decide_eq_true h1)
    · refine Or.inr ⟨decide_eq_false h1, ?_⟩
      by_cases h2 : 8589934591 < n
      · exact Or.inl (decide_eq_true h2)
      · refine Or.inr ⟨decide_eq_false h2, ?_⟩
        by_cases h3 : k < 0
        · exact Or.inl (decide_eq_true h3)
        · exact Or.inr ⟨decide_eq_false h3, decide_eq_true (by omega)⟩
  clear h hno
  rcases t with t1 | ⟨t1, t2 | ⟨t2, t3 | ⟨t3, t4⟩⟩⟩
  all_goals
    go_enter Tryz.func69, Tryz.ntmps69
    go_wp2
    go_ret2
    exact ⟨by rw [HC.out, HO.out]; rfl, Below.refl _ _⟩

set_option maxHeartbeats 800000 in
theorem refCode_yes (n : Int) (k : Nat) (w : World) (h : InR n) (hk : k ≤ 24) :
    Calls Tryz.prog 69 #[.int .i64 n, .int .i64 k] w (CodeIs n k w) := by
  have hok : codeOk n (k : Int) = true := by unfold codeOk; exact decide_eq_true ⟨h.1, h.2, by omega, by omega⟩
  have hco : codeOf n (k : Int) = codeZ (foldN n) k := by unfold codeOf; rw [hok]; simp [codeBits]
  have t1 : decide (n < -8589934592) = false := decide_eq_false (by have := h.1; omega)
  have t2 : decide (8589934591 < n) = false := decide_eq_false (by have := h.2; omega)
  have t3 : decide ((k : Int) < 0) = false := decide_eq_false (by omega)
  have t4 : decide ((24 : Int) < (k : Int)) = false := decide_eq_false (by omega)
  have HF := fun W => Lib.hid (refFold n W h)
  have HP := fun W => Lib.hid (refPower k W (by omega))
  obtain ⟨p1, p2⟩ := pow24 k hk
  have hz := foldN_lt h
  have HO := Lib.hid hok
  obtain ⟨z, hzz⟩ : ∃ z, z = foldN n := ⟨_, rfl⟩
  obtain ⟨p, hp⟩ : ∃ p, p = 2 ^ k := ⟨_, rfl⟩
  rw [← hzz] at HF hz hco
  have hcz : codeZ z k = if z / 2 ^ k < 24 then (List.replicate (z / 2 ^ k) false ++ [true]) ++ low (z % 2 ^ k) k else (List.replicate 24 false ++ [true]) ++ low z 34 := rfl
  rw [← hp] at HP p1 p2 hcz
  have hd : z / p ≤ z := Nat.div_le_self _ _
  have hm : z % p < p := Nat.mod_lt _ p1
  obtain ⟨q, hq⟩ : ∃ q, q = z / p := ⟨_, rfl⟩
  obtain ⟨r, hr⟩ : ∃ r, r = z % p := ⟨_, rfl⟩
  have hqi : ((z : Int) / (p : Int)) = (q : Int) := by rw [hq, Int.natCast_ediv]
  rw [← hq] at hd hcz
  rw [← hr] at hm hcz
  clear hzz hp h hok
  by_cases hq24 : q < 24
  · have HC : Hid (codeOf n (k : Int) = (List.replicate q false ++ [true]) ++ low r k) := by rw [hco, hcz, if_pos hq24]; rfl
    have hqt : (z : Int).tdiv (p : Int) = (q : Int) := by rw [Int.tdiv_eq_ediv_of_nonneg (by omega), hqi]
    have hrt : (z : Int).tmod (p : Int) = (r : Int) := by rw [Int.tmod_eq_emod_of_nonneg (by omega), hr, Int.natCast_emod]
    have hw : IntKind.i64.wrap (q : Int) = (q : Int) := IntWalk.i64_in _ (by omega)
    have hw2 : IntKind.i64.wrap (r : Int) = (r : Int) := IntWalk.i64_in _ (by omega)
    have HZ := fun W => Lib.hid (refZeros q W (by omega))
    have HU := fun W => Lib.hid (refPut r k W (by omega) (by omega))
    have hz1 : (str (List.replicate q false ++ [true])).size ≤ 25 := by rw [str_size]; simp; omega
    have hz2 : (str (low r k)).size ≤ 24 := by rw [str_size, low_length]; omega
    have hst : str (codeOf n (k : Int)) = str (List.replicate q false ++ [true]) ++ str (low r k) := by rw [HC.out, str_append]
    obtain ⟨s1, hs1⟩ : ∃ s1, s1 = str (List.replicate q false ++ [true]) := ⟨_, rfl⟩
    obtain ⟨s2, hs2⟩ : ∃ s2, s2 = str (low r k) := ⟨_, rfl⟩
    rw [← hs1] at HZ hz1 hst
    rw [← hs2] at HU hz2 hst
    have HST := Lib.hid hst
    clear hco hcz hq hr hs1 hs2 hst
    go_enter Tryz.func69, Tryz.ntmps69
    go_wp2_with (first | (go_at_call 85; refine (HF _).out.mono ?_; rintro e w1 ⟨rfl, rfl⟩) | (go_at_call 29; refine (HP _).out.mono ?_; rintro e w1 ⟨rfl, rfl⟩))
    go_region_with (first
      | (go_at_call 86; refine (HZ _).out.mono ?_; rintro e w2 ⟨rfl, rfl⟩)
      | (go_at_call 37; refine (HU _).out.mono ?_; rintro e w3 ⟨rfl, hb3⟩))
    all_goals
      go_wp2
      go_ret2
      refine ⟨?_, (Below.refl _ _).drew.trans hb3⟩
      rw [HST.out, HO.out]; rfl
  · have HC : Hid (codeOf n (k : Int) = (List.replicate 24 false ++ [true]) ++ low z 34) := by rw [hco, hcz, if_neg hq24]; rfl
    have HZ := fun W => Lib.hid (refZeros 24 W (by omega))
    have HU := fun W => Lib.hid (refPut z 34 W (by omega) (by omega))
    have hz1 : (str (List.replicate 24 false ++ [true])).size ≤ 25 := by rw [str_size]; simp
    have hz2 : (str (low z 34)).size ≤ 34 := by rw [str_size, low_length]; omega
    have hst : str (codeOf n (k : Int)) = str (List.replicate 24 false ++ [true]) ++ str (low z 34) := by rw [HC.out, str_append]
    obtain ⟨s1, hs1⟩ : ∃ s1, s1 = str (List.replicate 24 false ++ [true]) := ⟨_, rfl⟩
    obtain ⟨s2, hs2⟩ : ∃ s2, s2 = str (low z 34) := ⟨_, rfl⟩
    rw [← hs1] at HZ hz1 hst
    rw [← hs2] at HU hz2 hst
    have HST := Lib.hid hst
    clear hco hcz hq hr hs1 hs2 hst
    go_enter Tryz.func69, Tryz.ntmps69
    go_wp2_with (first | (go_at_call 85; refine (HF _).out.mono ?_; rintro e w1 ⟨rfl, rfl⟩) | (go_at_call 29; refine (HP _).out.mono ?_; rintro e w1 ⟨rfl, rfl⟩) | (go_at_call 86; refine (HZ _).out.mono ?_; rintro e w2 ⟨rfl, rfl⟩) | (go_at_call 37; refine (HU _).out.mono ?_; rintro e w3 ⟨rfl, hb3⟩))
    go_ret2
    refine ⟨?_, hb3⟩
    rw [HST.out, HO.out]; rfl

theorem refCode (n k : Int) (w : World) : Calls Tryz.prog 69 #[.int .i64 n, .int .i64 k] w (CodeIs n k w) := by
  by_cases h : codeOk n k = true
  · have h4 : -8589934592 ≤ n ∧ n ≤ 8589934591 ∧ 0 ≤ k ∧ k ≤ 24 := of_decide_eq_true h
    obtain ⟨m, rfl⟩ := Int.eq_ofNat_of_zero_le h4.2.2.1
    exact refCode_yes n m w ⟨h4.1, h4.2.1⟩ (by omega)
  · exact refCode_no n k w (by simpa using h)
end Go.Proofs.YtefbakhhlonafaaGreat
end

section
namespace Go.Proofs.YtefbakhhlonafaaGreat
open Go.ChangeShapes Go.WideShapes Go.ChangeAt Go.RowKit Go.Proofs.PipeM
set_option maxRecDepth 100000

/-- A slice of integers that came in: nil, or a row of cells, its elements and its spare room. -/
def IsRow (k : IntKind) (w : World) (a : Option Addr) (len cap : Nat) (zs : List Int) : Prop :=
  (a = none ∧ len = 0 ∧ cap = 0 ∧ zs = []) ∨
  ∃ x, a = some x ∧ len ≤ cap ∧ cap ≤ maxLen ∧ zs.length = cap ∧ (∀ i, i < zs.length → w.cell? (x.add i) = some (.int k (zs.getD i 0))) ∧ ∀ n ∈ zs, (Lit.int k n).wf = true

theorem ints_of_row {w : World} {a : Option Addr} {len cap : Nat} {zs : List Int} (h : IsRow .i64 w a len cap zs) :
    ∃ ys : List Int, len = ys.length ∧ (∀ n ∈ ys, -9223372036854775808 ≤ n ∧ n ≤ 9223372036854775807) ∧ IntsAt w a ys := by
  rcases h with ⟨rfl, rfl, rfl, rfl⟩ | ⟨x, rfl, hl, hm, hz, hc, hw⟩
  · exact ⟨[], rfl, by simp, fun j hj => by simp at hj⟩
  · have hb : ∀ n ∈ zs, -9223372036854775808 ≤ n ∧ n ≤ 9223372036854775807 := fun n hn => by simpa [Lit.wf, IntKind.min, IntKind.max, IntKind.signed, IntKind.bits] using hw n hn
    refine ⟨zs.take len, by simp; omega, fun n hn => hb n (List.mem_of_mem_take hn), ?_⟩
    intro j hj
    simp at hj
    obtain ⟨b, off, rfl, hc2⟩ := ints_at hc (by omega)
    have hj2 : j < zs.length := by omega
    have hcj := hc2 j hj2
    refine ⟨b, off, rfl, World.block_lt_of_cell? _ _ hcj, ?_⟩
    rw [hcj]
    have e1 : zs.getD j 0 = zs[j] := by simp [List.getD, hj2]
    rw [e1]
    simp

end Go.Proofs.YtefbakhhlonafaaGreat
end

section
namespace Go.Proofs.LatM

/-- The rounded part of a product. -/
def rnd (p : Int) : Int := (p + 8192) / 16384
/-- An index's reflection at a place. -/
def refl (place : Nat) (i : Int) : Int := if place = 0 then 2 * (i + 64) * (i + 64) - 16384 else if place = 1 then 16384 - 2 * (i + 64) * (i + 64) else 256 * i
def ix (n : Int) : Bool := decide (-64 ≤ n ∧ n ≤ 63)
/-- Are numbers an index list? -/
def goodL (l : List Int) : Bool := l.all ix && decide (l.length ≤ 16)
/-- The coefficients behind one more reflection. -/
def stp (a : List Int) (k : Int) : List Int := (List.range a.length).map (fun j => a.getD j 0 + rnd (k * a.getD (a.length - 1 - j) 0)) ++ [k]
/-- The coefficients behind the first n indices. -/
def cf (l : List Int) : Nat → List Int
  | 0 => []
  | n + 1 => stp (cf l n) (refl n (l.getD n 0))
/-- What is summed for a prediction. -/
def psum (c p : List Int) : Nat → Int
  | 0 => 0
  | j + 1 => psum c p j + c.getD j 0 * p.getD (p.length - 1 - j) 0
def pred (c p : List Int) : Int := -(rnd (psum c p (min c.length p.length)))

theorem stp_length (a : List Int) (k : Int) : (stp a k).length = a.length + 1 := by simp [stp]
theorem cf_length (l : List Int) : ∀ n, (cf l n).length = n
  | 0 => rfl
  | n + 1 => by rw [cf, stp_length, cf_length l n]
theorem cf_congr {l m : List Int} : ∀ n, (∀ j, j < n → l.getD j 0 = m.getD j 0) → cf l n = cf m n
  | 0, _ => rfl
  | n + 1, h => by rw [cf, cf, cf_congr n (fun j hj => h j (by omega)), h n (by omega)]
theorem cf_take (l : List Int) {n m : Nat} (h : n ≤ m) : cf (l.take m) n = cf l n := by
  refine cf_congr n fun j hj => ?_
  simp only [List.getD, List.getElem?_take]
  rw [if_pos (by omega)]
theorem rnd_bound {k a M : Int} (hk : -16384 ≤ k ∧ k ≤ 16384) (ha : -M ≤ a ∧ a ≤ M) : -M ≤ rnd (k * a) ∧ rnd (k * a) ≤ M := by
  have hM : 0 ≤ M := by omega
  have h1 : k * a ≤ 16384 * M := by
    by_cases h : 0 ≤ a
    · exact Int.le_trans (Int.mul_le_mul_of_nonneg_right hk.2 h) (Int.mul_le_mul_of_nonneg_left ha.2 (by omega))
    · have h2 : (-k) * (-a) ≤ 16384 * (-a) := Int.mul_le_mul_of_nonneg_right (by omega) (by omega)
      have h3 : (16384 : Int) * (-a) ≤ 16384 * M := Int.mul_le_mul_of_nonneg_left (by omega) (by omega)
      rw [Int.neg_mul_neg] at h2
      omega
  have h4 : -(16384 * M) ≤ k * a := by
    by_cases h : 0 ≤ a
    · have h2 : (-k) * a ≤ 16384 * a := Int.mul_le_mul_of_nonneg_right (by omega) h
      have h3 : (16384 : Int) * a ≤ 16384 * M := Int.mul_le_mul_of_nonneg_left ha.2 (by omega)
      rw [Int.neg_mul] at h2
      omega
    · have h2 : k * (-a) ≤ 16384 * (-a) := Int.mul_le_mul_of_nonneg_right hk.2 (by omega)
      have h3 : (16384 : Int) * (-a) ≤ 16384 * M := Int.mul_le_mul_of_nonneg_left (by omega) (by omega)
      rw [Int.mul_neg] at h2
      omega
  unfold rnd
  omega

theorem sq_bound {u : Int} (h0 : 0 ≤ u) (h1 : u ≤ 127) : 0 ≤ 2 * u * u ∧ 2 * u * u ≤ 32258 := by
  have h2 : u * u ≤ 127 * 127 := Int.le_trans (Int.mul_le_mul_of_nonneg_right h1 h0) (Int.mul_le_mul_of_nonneg_left h1 (by omega))
  have h3 : 0 ≤ u * u := Int.mul_nonneg h0 h0
  rw [Int.mul_assoc]
  omega
theorem refl_bound (p : Nat) {i : Int} (h : -64 ≤ i ∧ i ≤ 63) : -16384 ≤ refl p i ∧ refl p i ≤ 16384 := by
  have := sq_bound (u := i + 64) (by omega) (by omega)
  unfold refl
  split
  · omega
  · split <;> omega

theorem good_len {l : List Int} (h : goodL l = true) : l.length ≤ 16 := by
  unfold goodL at h
  rw [Bool.and_eq_true] at h
  exact of_decide_eq_true h.2
theorem good_at {l : List Int} (h : goodL l = true) {j : Nat} (hj : j < l.length) : -64 ≤ l[j] ∧ l[j] ≤ 63 := by
  unfold goodL at h
  rw [Bool.and_eq_true] at h
  exact of_decide_eq_true (List.all_eq_true.1 h.1 _ (List.getElem_mem hj))
theorem good_get {l : List Int} (h : goodL l = true) (j : Nat) : -64 ≤ l.getD j 0 ∧ l.getD j 0 ≤ 63 := by
  by_cases hj : j < l.length
  · rw [List.getD, List.getElem?_eq_getElem hj]
    exact good_at h hj
  · rw [List.getD, List.getElem?_eq_none (by omega)]
    decide

theorem getD_bound {l : List Int} {M : Int} (hM : 0 ≤ M) (h : ∀ x ∈ l, -M ≤ x ∧ x ≤ M) (j : Nat) : -M ≤ l.getD j 0 ∧ l.getD j 0 ≤ M := by
  by_cases hj : j < l.length
  · rw [List.getD, List.getElem?_eq_getElem hj]
    exact h _ (List.getElem_mem hj)
  · rw [List.getD, List.getElem?_eq_none (by omega)]
    simp [hM]
theorem cf_bound {l : List Int} (hg : goodL l = true) : ∀ n, ∀ x ∈ cf l n, -((2 ^ (n + 13) : Nat) : Int) ≤ x ∧ x ≤ ((2 ^ (n + 13) : Nat) : Int)
  | 0, x, hx => by simp [cf] at hx
  | n + 1, x, hx => by
    have hp : 2 ^ (n + 1 + 13) = 2 * 2 ^ (n + 13) := by rw [show n + 1 + 13 = (n + 13) + 1 by omega, Nat.pow_succ]; omega
    have h14 : 2 ^ 14 ≤ 2 ^ (n + 1 + 13) := Nat.pow_le_pow_right (by decide) (by omega)
    have ih := cf_bound hg n
    have hk := refl_bound n (good_get hg n)
    rw [cf, stp, List.mem_append] at hx
    rcases hx with hx | hx
    · obtain ⟨j, _, rfl⟩ := List.mem_map.1 hx
      have h1 := getD_bound (by omega) ih j
      have h2 := rnd_bound hk (getD_bound (by omega) ih ((cf l n).length - 1 - j))
      omega
    · obtain rfl := List.mem_singleton.1 hx
      omega
theorem cf_small {l : List Int} (hg : goodL l = true) {n : Nat} (hn : n ≤ 16) : ∀ x ∈ cf l n, -536870912 ≤ x ∧ x ≤ 536870912 := by
  intro x hx
  have h1 := cf_bound hg n x hx
  have h2 : 2 ^ (n + 13) ≤ 2 ^ 29 := Nat.pow_le_pow_right (by decide) (by omega)
  omega

theorem psum_boundP {c p : List Int} (h : ∀ x ∈ c, ∀ y ∈ p, -72057594037927936 ≤ x * y ∧ x * y ≤ 72057594037927936) : ∀ n : Nat, -(72057594037927936 * (n : Int)) ≤ psum c p n ∧ psum c p n ≤ 72057594037927936 * (n : Int)
  | 0 => by simp [psum]
  | n + 1 => by
    have ih := psum_boundP h n
    have h3 : -72057594037927936 ≤ c.getD n 0 * p.getD (p.length - 1 - n) 0 ∧ c.getD n 0 * p.getD (p.length - 1 - n) 0 ≤ 72057594037927936 := by
      by_cases h1 : n < c.length
      · by_cases h2 : p.length - 1 - n < p.length
        · rw [List.getD, List.getElem?_eq_getElem h1, List.getD, List.getElem?_eq_getElem h2]
          exact h _ (List.getElem_mem h1) _ (List.getElem_mem h2)
        · have e : p.getD (p.length - 1 - n) 0 = 0 := by rw [List.getD, List.getElem?_eq_none (by omega)]; rfl
          rw [e, Int.mul_zero]; omega
      · have e : c.getD n 0 = 0 := by rw [List.getD, List.getElem?_eq_none (by omega)]; rfl
        rw [e, Int.zero_mul]; omega
    rw [psum]
    omega

end Go.Proofs.LatM
end

section
namespace Go.Proofs.FilM
open Go.Proofs.LatM

/-- May a number be a residual? -/
def isR (n : Int) : Bool := decide (-1152921504606846976 ≤ n ∧ n ≤ 1152921504606846976)
/-- What is foreseen behind past samples. -/
def fore (l p : List Int) : Int := pred (cf l (min l.length p.length)) p
/-- The residuals of samples. -/
def res (l xs : List Int) : List Int := (List.range xs.length).map fun i => xs.getD i 0 - fore l (xs.take i)
/-- The samples behind the first residuals. -/
def smp (l rs : List Int) : Nat → List Int
  | 0 => []
  | c + 1 => smp l rs c ++ [rs.getD c 0 + fore l (smp l rs c)]
/-- Is a number within a size? -/
def inM (most n : Int) : Bool := decide (-most - 1 ≤ n ∧ n ≤ most)
/-- What is wrong with samples to be told. -/
def codeS (l rs : List Int) (most : Int) : Int := if goodL l && decide (0 ≤ most) && decide (most ≤ 67108864) then (if rs.all isR then (if (smp l rs rs.length).all (inM most) then 0 else 9) else 9) else 1

theorem smp_length (l rs : List Int) : ∀ c, (smp l rs c).length = c
  | 0 => rfl
  | c + 1 => by rw [smp, List.length_append, smp_length l rs c]; rfl
theorem smp_take (l rs : List Int) : ∀ {c n : Nat}, c ≤ n → (smp l rs n).take c = smp l rs c
  | c, 0, h => by obtain rfl : c = 0 := by omega
                  rfl
  | c, n + 1, h => by
    by_cases e : c = n + 1
    · subst e
      rw [List.take_of_length_le (by rw [smp_length]; omega)]
    · rw [smp, List.take_append_of_le_length (by rw [smp_length]; omega)]
      exact smp_take l rs (by omega)
theorem smp_last (l rs : List Int) (c : Nat) : (smp l rs (c + 1))[c]'(by rw [smp_length]; omega) = rs.getD c 0 + fore l (smp l rs c) := by
  have h := smp_length l rs c
  simp only [smp]
  rw [List.getElem_append_right (by omega)]
  simp [h]
theorem smp_at (l rs : List Int) {c n : Nat} (h : c < n) : (smp l rs n)[c]'(by rw [smp_length]; exact h) = rs.getD c 0 + fore l (smp l rs c) := by
  rw [← smp_last l rs c]
  have e := smp_take l rs (show c + 1 ≤ n by omega)
  have : (smp l rs n)[c]? = (smp l rs (c + 1))[c]? := by rw [← e, List.getElem?_take, if_pos (by omega)]
  rw [List.getElem?_eq_getElem (by rw [smp_length]; exact h), List.getElem?_eq_getElem (by rw [smp_length]; omega)] at this
  exact Option.some.inj this
/-- Coefficients of an index list, and numbers about samples. -/
theorem prod_small {l p : List Int} (hg : goodL l = true) {n : Nat} (hn : n ≤ 16) (hp : ∀ y ∈ p, -67108865 ≤ y ∧ y ≤ 67108864) : ∀ x ∈ cf l n, ∀ y ∈ p, -72057594037927936 ≤ x * y ∧ x * y ≤ 72057594037927936 := by
  intro x hx y hy
  have h1 := cf_small hg hn x hx
  have h2 := hp y hy
  by_cases h : 0 ≤ y
  · have e1 : x * y ≤ 536870912 * y := Int.mul_le_mul_of_nonneg_right h1.2 h
    have e2 : (-x) * y ≤ 536870912 * y := Int.mul_le_mul_of_nonneg_right (by omega) h
    rw [Int.neg_mul] at e2
    omega
  · have e1 : x * (-y) ≤ 536870912 * (-y) := Int.mul_le_mul_of_nonneg_right h1.2 (by omega)
    have e2 : (-x) * (-y) ≤ 536870912 * (-y) := Int.mul_le_mul_of_nonneg_right (by omega) (by omega)
    rw [Int.mul_neg] at e1
    rw [Int.neg_mul_neg] at e2
    omega
theorem pred_bound {l p : List Int} (hg : goodL l = true) {n : Nat} (hn : n ≤ 16) (hp : ∀ y ∈ p, -67108865 ≤ y ∧ y ≤ 67108864) : -100000000000000 ≤ pred (cf l n) p ∧ pred (cf l n) p ≤ 100000000000000 := by
  have h := psum_boundP (prod_small hg hn hp) (min (cf l n).length p.length)
  have h2 : min (cf l n).length p.length ≤ 16 := by rw [cf_length]; omega
  unfold pred rnd
  omega
theorem fore_bound {l p : List Int} (hg : goodL l = true) (hp : ∀ y ∈ p, -67108865 ≤ y ∧ y ≤ 67108864) : -100000000000000 ≤ fore l p ∧ fore l p ≤ 100000000000000 :=
  pred_bound hg (by have := good_len hg; omega) hp

theorem isR_of {n : Int} (h : isR n = true) : -1152921504606846976 ≤ n ∧ n ≤ 1152921504606846976 := of_decide_eq_true h
theorem all_M {xs : List Int} {most : Int} (hm : most ≤ 67108864) (h : xs.all (inM most) = true) : ∀ x ∈ xs, -67108865 ≤ x ∧ x ≤ 67108864 := fun x hx => by
  have : _ ∧ _ := of_decide_eq_true (List.all_eq_true.1 h x hx)
  omega
end Go.Proofs.FilM
end

section
namespace Go.Proofs.LagM

/-- May a number be? -/
def inB (n : Int) : Bool := decide (-1099511627776 ≤ n ∧ n ≤ 1099511627776)
/-- May a term be? -/
def goodT (a g : Int) : Bool := (decide (a = 0) && decide (g = 0)) || (decide (1 ≤ a) && decide (a ≤ 255) && decide (1 ≤ g) && decide (g ≤ 15))
/-- What is wrong with a term, or with numbers. -/
def codeT (a g : Int) (l : List Int) : Int := if goodT a g then (if l.all inB then 0 else 9) else 1
/-- What a gain takes off for a number. -/
def tk (g n : Int) : Int := n * g / 16
/-- What is left at a place. -/
def offV (a : Nat) (g : Int) (l : List Int) (i : Nat) : Int := if a ≤ i then l.getD i 0 - tk g (l.getD (i - a) 0) else l.getD i 0
def offL (a : Nat) (g : Int) (l : List Int) : List Int := (List.range l.length).map (offV a g l)
/-- What comes out at a place. -/
def onV (a : Nat) (g : Int) (l : List Int) (i : Nat) : Int :=
  if _h : 0 < a ∧ a ≤ i then l.getD i 0 + tk g (onV a g l (i - a)) else l.getD i 0
  termination_by i
  decreasing_by omega
def onL (a : Nat) (g : Int) (l : List Int) : List Int := (List.range l.length).map (onV a g l)
/-- What is wrong with a term, or with numbers, or with what comes out. -/
def codeO (a g : Int) (l : List Int) : Int := if codeT a g l = 0 then (if (onL a.toNat g l).all inB then 0 else 9) else codeT a g l

theorem inB_of {n : Int} (h : inB n = true) : -1099511627776 ≤ n ∧ n ≤ 1099511627776 := of_decide_eq_true h
theorem all_B {l : List Int} (h : l.all inB = true) : ∀ x ∈ l, -1099511627776 ≤ x ∧ x ≤ 1099511627776 := fun x hx => inB_of (List.all_eq_true.1 h x hx)
theorem goodT_of {a g : Int} (h : goodT a g = true) : ∃ n : Nat, a = n ∧ n ≤ 255 ∧ 0 ≤ g ∧ g ≤ 15 ∧ (n = 0 → g = 0) ∧ (0 < n → 1 ≤ g) := by
  unfold goodT at h
  simp only [Bool.or_eq_true, Bool.and_eq_true, decide_eq_true_eq] at h
  obtain ⟨n, rfl⟩ : ∃ n : Nat, a = n := ⟨a.toNat, by omega⟩
  exact ⟨n, rfl, by omega, by omega, by omega, by omega, by omega⟩
theorem codeT_zero {a g : Int} {l : List Int} (h : codeT a g l = 0) : goodT a g = true ∧ l.all inB = true := by
  unfold codeT at h
  split at h
  · rename_i h1
    split at h
    · rename_i h2; exact ⟨h1, h2⟩
    · cases h
  · cases h
theorem codeT_of {a g : Int} {l : List Int} (h : goodT a g = true) (h2 : l.all inB = true) : codeT a g l = 0 := by unfold codeT; rw [h, h2]; rfl
theorem codeT_good {a g : Int} {l : List Int} (h : goodT a g = false) : codeT a g l = 1 := by unfold codeT; rw [h]; rfl
theorem codeT_all {a g : Int} {l : List Int} (h : goodT a g = true) (h2 : l.all inB = false) : codeT a g l = 9 := by unfold codeT; rw [h, h2]; rfl
theorem codeT_cases (a g : Int) (l : List Int) : codeT a g l = 0 ∨ codeT a g l = 1 ∨ codeT a g l = 9 := by
  unfold codeT
  split
  · split <;> simp
  · simp

theorem onL_length (a : Nat) (g : Int) (l : List Int) : (onL a g l).length = l.length := by simp [onL]
theorem onL_at {a : Nat} {g : Int} {l : List Int} {i : Nat} (h : i < l.length) : (onL a g l)[i]'(by rw [onL_length]; exact h) = onV a g l i := by simp [onL]
theorem getD_lt {l : List Int} {i : Nat} (h : i < l.length) : l.getD i 0 = l[i] := by rw [List.getD, List.getElem?_eq_getElem h]; rfl
theorem tk_zero (n : Int) : tk 0 n = 0 := by simp [tk]
theorem prod_bound {g n : Int} (hg : 0 ≤ g ∧ g ≤ 15) (hn : -1099511627776 ≤ n ∧ n ≤ 1099511627776) : -16492674416640 ≤ n * g ∧ n * g ≤ 16492674416640 := by
  have e1 : n * g ≤ 1099511627776 * g := Int.mul_le_mul_of_nonneg_right hn.2 hg.1
  have e2 : (-n) * g ≤ 1099511627776 * g := Int.mul_le_mul_of_nonneg_right (by omega) hg.1
  rw [Int.neg_mul] at e2
  omega
theorem tk_bound {g n : Int} (hg : 0 ≤ g ∧ g ≤ 15) (hn : -1099511627776 ≤ n ∧ n ≤ 1099511627776) : -1099511627776 ≤ tk g n ∧ tk g n ≤ 1099511627776 := by
  have := prod_bound hg hn
  unfold tk
  omega

theorem onV_late {a : Nat} {g : Int} {l : List Int} {i : Nat} (h : i < a) : onV a g l i = l.getD i 0 := by rw [onV, dif_neg (by omega)]
theorem onV_from {a : Nat} {g : Int} {l : List Int} {i : Nat} (h0 : a = 0 → g = 0) (h : a ≤ i) : onV a g l i = l.getD i 0 + tk g (onV a g l (i - a)) := by
  by_cases ha : 0 < a
  · rw [onV, dif_pos ⟨ha, h⟩]
  · rw [onV, dif_neg (by omega), h0 (by omega), tk_zero]; omega
theorem onV_zero {g : Int} (l : List Int) (i : Nat) : onV 0 g l i = l.getD i 0 := by rw [onV, dif_neg (by omega)]

theorem get_bound {l : List Int} (hb : ∀ x ∈ l, -1099511627776 ≤ x ∧ x ≤ 1099511627776) (i : Nat) : -1099511627776 ≤ l.getD i 0 ∧ l.getD i 0 ≤ 1099511627776 := by
  by_cases h : i < l.length
  · rw [getD_lt h]; exact hb _ (List.getElem_mem h)
  · rw [List.getD, List.getElem?_eq_none (by omega)]; simp
theorem codeO_ok {a : Nat} {g : Int} {l : List Int} (h : codeT (a : Int) g l = 0) (h2 : (onL a g l).all inB = true) : codeO (a : Int) g l = 0 := by
  unfold codeO
  rw [if_pos h, Int.toNat_natCast, h2]; rfl
theorem codeO_bad {a : Nat} {g : Int} {l : List Int} (h : codeT (a : Int) g l = 0) (h2 : (onL a g l).all inB = false) : codeO (a : Int) g l = 9 := by
  unfold codeO
  rw [if_pos h, Int.toNat_natCast, h2]; rfl
theorem codeO_not {a g : Int} {l : List Int} (h : codeT a g l ≠ 0) : codeO a g l = codeT a g l := if_neg h
theorem onL_all {a : Nat} {g : Int} {l : List Int} (h : ∀ j, j < l.length → inB (onV a g l j) = true) : (onL a g l).all inB = true := by
  rw [List.all_eq_true]
  intro x hx
  obtain ⟨i, hi, rfl⟩ := List.getElem_of_mem hx
  rw [onL_length] at hi
  rw [onL_at hi]
  exact h i hi
end Go.Proofs.LagM
end
