import Derived.Test.YtnfpkjnllkkngaaGreatDoorMathRice
import Derived.Test.YtnfpkjnllkkngaaGreatDoorLatM
import Derived.Test.YtnfpkjnllkkngaaGreatDoorLagM
import Derived.Lib.Hide
import Derived.Laws.Bits64b
import Derived.Lib.TrailingZeros
import Derived.RowKit

section
namespace Go.Proofs.PipeM

def kOk (k : Int) : Bool := decide (0 ≤ k ∧ k ≤ 24)
/-- May a list of so many numbers be told in these parts? -/
def partsOk (n : Nat) (P : Int) (ks : List Int) : Bool :=
  decide (1 ≤ n ∧ n ≤ 1024 ∧ 0 ≤ P ∧ P ≤ 3 ∧ n % 2 ^ P.toNat = 0 ∧ ks.length = 2 ^ P.toNat) && ks.all kOk
def nOk (n : Int) : Bool := decide (-8589934592 ≤ n ∧ n ≤ 8589934591)
def listOk (l : List Int) : Bool := l.all nOk && decide (1 ≤ l.length ∧ l.length ≤ 1024)

/-- A part's bits; the bits of parts of one length; a list's. -/
def partBits (k : Int) (c : List Int) : List Bool := low k.toNat 5 ++ c.flatMap (codeOf · k)
def bodyBits (size : Nat) : List Int → List Int → List Bool
  | [], _ => []
  | k :: ks, l => partBits k (l.take size) ++ bodyBits size ks (l.drop size)
def listBits (l : List Int) (P : Int) (ks : List Int) : List Bool := low P.toNat 2 ++ bodyBits (l.length / ks.length) ks l

theorem div_parts {n m : Nat} (h : n % m = 0) : n = (n / m) * m := by
  have := Nat.div_add_mod n m
  rw [h, Nat.mul_comm] at this
  omega

def slideOk (l : List Int) (P : Int) (ks : List Int) : Bool := partsOk l.length P ks && listOk l
def slideBits (l : List Int) (P : Int) (ks : List Int) : List Bool := if slideOk l P ks then listBits l P ks else []

theorem codeOf_len (n k : Int) : (codeOf n k).length ≤ 59 := by
  unfold codeOf
  split
  · rename_i h
    unfold codeOk at h
    have := of_decide_eq_true h
    rw [codeBits_length]
    exact costN_le _ _ (by omega)
  · simp

theorem slide_parts {l ks : List Int} {P : Int} (h : slideOk l P ks = true) :
    ∃ p : Nat, P = p ∧ p ≤ 3 ∧ ks.length = 2 ^ p ∧ ks.length ≤ 8 ∧ 1 ≤ ks.length ∧ 1 ≤ l.length ∧ l.length ≤ 1024 ∧ 1 ≤ l.length / ks.length ∧ l.length / ks.length ≤ 1024 ∧ l.length = (l.length / ks.length) * ks.length ∧ (∀ k ∈ ks, 0 ≤ k ∧ k ≤ 24) ∧ ∀ n ∈ l, InR n := by
  unfold slideOk partsOk listOk at h
  simp only [Bool.and_eq_true, decide_eq_true_eq] at h
  obtain ⟨⟨⟨h1, h2, h3, h4, h5, h6⟩, hk⟩, hn, h7⟩ := h
  obtain ⟨p, rfl⟩ := Int.eq_ofNat_of_zero_le h3
  rw [Int.toNat_natCast] at h5 h6
  have hp : 1 ≤ 2 ^ p ∧ 2 ^ p ≤ 8 := ⟨Nat.two_pow_pos p, Nat.le_trans (Nat.pow_le_pow_right (by decide) (by omega : p ≤ 3)) (by decide)⟩
  have hd : l.length = (l.length / ks.length) * ks.length := div_parts (by rw [h6]; exact h5)
  refine ⟨p, rfl, by omega, h6, by omega, by omega, h1, h2, ?_, Nat.le_trans (Nat.div_le_self _ _) h2, hd, ?_, ?_⟩
  · rcases Nat.eq_zero_or_pos (l.length / ks.length) with h | h
    · rw [h] at hd; omega
    · exact h
  · intro k hk2
    exact of_decide_eq_true (List.all_eq_true.1 hk k hk2)
  · intro n hn2
    have h8 : nOk n = true := List.all_eq_true.1 hn n hn2
    unfold nOk at h8
    have h9 := of_decide_eq_true h8
    exact h9
end Go.Proofs.PipeM
end

section
namespace Go.Proofs.BlkM
open Go.Proofs.LatM (goodL)
open Go.Proofs.FilM (smp codeS res)
open Go.Proofs.LagM (goodT codeT codeO onL offL)
open Go.Proofs.PipeM

/-- So many samples, told in one of four ways. -/
structure Blk where
  kind : Int
  value : Int
  shift : Int
  index : List Int
  lag : Int
  gain : Int
  part : Int
  rice : List Int
  data : List Int
/-- Is a number of bits one? Is a number of samples one? -/
def depthB (d : Int) : Bool := decide (8 ≤ d ∧ d ≤ 26)
def sizeN (n : Int) : Bool := decide (1 ≤ n ∧ n ≤ 1024)
/-- Is a number a sample, of half so many? -/
def hasP (P n : Int) : Bool := decide (-P ≤ n ∧ n < P)
def halfOf (d : Int) : Int := 2 ^ (d - 1).toNat
/-- What is wrong with a block's form. -/
def wrongKind (b : Blk) : Bool := decide (b.kind < 0) || decide (3 < b.kind)
def wrongMore (b : Blk) : Bool := decide (b.kind ≠ 2) && (decide (b.shift ≠ 0) || decide (0 < b.index.length) || decide (b.lag ≠ 0) || decide (b.gain ≠ 0) || decide (b.part ≠ 0) || decide (0 < b.rice.length))
def wrongData (b : Blk) (n : Int) : Bool := (decide (b.kind ≠ 1) && decide (b.value ≠ 0)) || (decide (b.kind < 2) && decide (0 < b.data.length)) || (decide (2 ≤ b.kind) && decide ((b.data.length : Int) ≠ n))
def wrongNormal (b : Blk) (n : Nat) (d : Int) : Bool := decide (b.kind = 2) && (decide (b.shift < 0) || decide (d ≤ b.shift) || !goodL b.index || !goodT b.lag b.gain || !partsOk n b.part b.rice || !listOk b.data)
def formB (b : Blk) (n : Nat) (d : Int) : Int := if wrongKind b then 16 else if wrongMore b then 2 else if wrongData b n then 2 else if wrongNormal b n d then 2 else 0
/-- What comes of a Normal's residuals. -/
def lowB (b : Blk) : List Int := smp b.index (onL b.lag.toNat b.gain b.data) (onL b.lag.toNat b.gain b.data).length
def outB (b : Blk) (n : Nat) : List Int := if b.kind = 2 then (lowB b).map (· * 2 ^ b.shift.toNat) else if b.kind = 3 then b.data else List.replicate n b.value
def wrongOut (b : Blk) (d : Int) : Bool := decide (b.kind = 2) && (decide (codeO b.lag b.gain b.data ≠ 0) || decide (codeS b.index (onL b.lag.toNat b.gain b.data) (halfOf d - 1) ≠ 0))
/-- What is wrong with a block. -/
def codeB (b : Blk) (n d : Int) : Int :=
  if !(sizeN n && depthB d) then 1
  else if formB b n.toNat d ≠ 0 then formB b n.toNat d
  else if wrongOut b d then 9
  else if (outB b n.toNat).all (hasP (halfOf d)) then 0 else 9
/-- A right block's bits. -/
def sg (d : Nat) (v : Int) : List Bool := low (v % 2 ^ d).toNat d
def bitsB (b : Blk) (d : Nat) : List Bool :=
  low b.kind.toNat 2 ++
  (if b.kind = 1 then sg d b.value
   else if b.kind = 3 then b.data.flatMap (sg d)
   else if b.kind = 2 then low b.shift.toNat 5 ++ (low b.index.length 5 ++ (b.index.flatMap (sg 7) ++ ((if b.lag = 0 then [false] else true :: (low b.lag.toNat 8 ++ low b.gain.toNat 4)) ++ slideBits b.data b.part b.rice)))
   else [])

theorem codeB_size {b : Blk} {n d : Int} (h : (sizeN n && depthB d) = false) : codeB b n d = 1 := by unfold codeB; rw [h]; rfl
theorem codeB_form {b : Blk} {n d : Int} (h : (sizeN n && depthB d) = true) (h2 : formB b n.toNat d ≠ 0) : codeB b n d = formB b n.toNat d := by unfold codeB; rw [h, if_neg (by simp), if_pos h2]
theorem codeB_out {b : Blk} {n d : Int} (h : (sizeN n && depthB d) = true) (h2 : formB b n.toNat d = 0) (h3 : wrongOut b d = true) : codeB b n d = 9 := by unfold codeB; rw [h, if_neg (by simp), if_neg (by omega), if_pos h3]
theorem codeB_all {b : Blk} {n d : Int} (h : (sizeN n && depthB d) = true) (h2 : formB b n.toNat d = 0) (h3 : wrongOut b d = false) : codeB b n d = if (outB b n.toNat).all (hasP (halfOf d)) then 0 else 9 := by
  unfold codeB
  rw [h, if_neg (by simp), if_neg (by omega), if_neg (by rw [h3]; simp)]
theorem sizeN_of {n : Int} (h : sizeN n = true) : ∃ m : Nat, n = m ∧ 1 ≤ m ∧ m ≤ 1024 := by
  have := of_decide_eq_true h
  exact ⟨n.toNat, by omega, by omega, by omega⟩
theorem depthB_of {d : Int} (h : depthB d = true) : ∃ m : Nat, d = m ∧ 8 ≤ m ∧ m ≤ 26 := by
  have := of_decide_eq_true h
  exact ⟨d.toNat, by omega, by omega, by omega⟩
theorem hp_nat {m : Nat} (h : 1 ≤ m) : halfOf (m : Int) = 2 ^ (m - 1) := by
  unfold halfOf
  rw [show ((m : Int) - 1).toNat = m - 1 by omega]
theorem hp_bound {m : Nat} (h1 : 8 ≤ m) (h2 : m ≤ 26) : 128 ≤ halfOf (m : Int) ∧ halfOf (m : Int) ≤ 33554432 := by
  rw [hp_nat (by omega)]
  have a : (2 : Int) ^ (m - 1) = ((2 ^ (m - 1) : Nat) : Int) := by simp
  have b1 : 2 ^ 7 ≤ 2 ^ (m - 1) := Nat.pow_le_pow_right (by decide) (by omega)
  have b2 : 2 ^ (m - 1) ≤ 2 ^ 25 := Nat.pow_le_pow_right (by decide) (by omega)
  rw [a]
  omega
end Go.Proofs.BlkM
end

section
namespace Go.Proofs.YtnfpkjnllkkngaaGreatDoor
open Go.RowKit Go.Proofs Go.Proofs.PipeM Go.Proofs.PipeA Go.Proofs.BlkM
set_option maxRecDepth 100000

theorem depthB_cases (d : Int) : (d < 8 ∧ depthB d = false) ∨ (8 ≤ d ∧ decide (d ≤ 26) = false ∧ depthB d = false) ∨ (8 ≤ d ∧ decide (d ≤ 26) = true ∧ depthB d = true) := by
  unfold depthB
  by_cases h1 : d < 8
  · exact .inl ⟨h1, decide_eq_false (by omega)⟩
  · by_cases h2 : d ≤ 26
    · exact .inr (.inr ⟨by omega, decide_eq_true h2, decide_eq_true (by omega)⟩)
    · exact .inr (.inl ⟨by omega, decide_eq_false h2, decide_eq_false (by omega)⟩)
theorem rDepth (d : Int) (w : World) :
    Calls Tryz.prog 22 #[.int .i64 d] w fun e w' => e = .returned (.bool (depthB d)) ∧ w = w' := by
  rcases depthB_cases d with ⟨h1, h2⟩ | ⟨h1, t, h2⟩ | ⟨h1, t, h2⟩
  all_goals
    rw [h2]
    clear h2
    go_enter Tryz.func22, Tryz.ntmps22
    go_wp2
    go_ret
    exact ⟨rfl, rfl⟩

theorem hp_pow (m : Nat) (h : 1 ≤ m) : ((2 ^ (m - 1) : Nat) : Int) = halfOf (m : Int) := by rw [hp_nat h]; simp
set_option maxHeartbeats 800000 in
theorem rHas (n : Int) (m : Nat) (w : World) (h1 : 8 ≤ m) (h2 : m ≤ 26) :
    Calls Tryz.prog 50 #[.int .i64 n, .int .i64 m] w fun e w' => e = .returned (.bool (hasP (halfOf (m : Int)) n)) ∧ w = w' := by
  have HP := Lib.hid (refPower (m - 1) w (by omega))
  rw [hp_pow m (by omega)] at HP
  have hb := hp_bound h1 h2
  have HK : Hid ((m : Int) - 1 = ((m - 1 : Nat) : Int)) := by show _ = _; omega
  generalize halfOf (m : Int) = P at *
  by_cases a1 : -P ≤ n
  · have t1 : decide (-P ≤ n) = true := decide_eq_true a1
    by_cases a2 : n < P
    · have HF : Hid (hasP P n = true) := decide_eq_true ⟨a1, a2⟩
      have t2 : decide (n < P) = true := decide_eq_true a2
      clear a1 a2
      go_enter Tryz.func50, Tryz.ntmps50
      go_wp2_with fail
      rw [HK.out]
      refine HP.out.mono ?_
      rintro e w1 ⟨rfl, rfl⟩
      go_wp2_with fail
      rw [HK.out]
      refine HP.out.mono ?_
      rintro e w1 ⟨rfl, rfl⟩
      go_wp2
      go_ret
      exact ⟨by rw [HF.out]; rfl, rfl⟩
    · have HF : Hid (hasP P n = false) := decide_eq_false (fun h => a2 h.2)
      have t2 : decide (n < P) = false := decide_eq_false a2
      clear a1 a2
      go_enter Tryz.func50, Tryz.ntmps50
      go_wp2_with fail
      rw [HK.out]
      refine HP.out.mono ?_
      rintro e w1 ⟨rfl, rfl⟩
      go_wp2_with fail
      rw [HK.out]
      refine HP.out.mono ?_
      rintro e w1 ⟨rfl, rfl⟩
      go_wp2
      go_ret
      exact ⟨by rw [HF.out]; rfl, rfl⟩
  · have HF : Hid (hasP P n = false) := decide_eq_false (fun h => a1 h.1)
    have t1 : decide (-P ≤ n) = false := decide_eq_false a1
    clear a1
    go_enter Tryz.func50, Tryz.ntmps50
    go_wp2_with fail
    rw [HK.out]
    refine HP.out.mono ?_
    rintro e w1 ⟨rfl, rfl⟩
    go_wp2
    go_ret
    exact ⟨by rw [HF.out]; rfl, rfl⟩

theorem all_step {l : List Int} {c : Nat} {p : Int → Bool} (hlt : c < l.length) (h : (l.take c).all p = true) (h2 : p l[c] = true) : (l.take (c + 1)).all p = true := by
  rw [List.take_succ_eq_append_getElem hlt, List.all_append, h]
  simp [h2]
theorem all_not {l : List Int} {c : Nat} {p : Int → Bool} (hlt : c < l.length) (h2 : p l[c] = false) : l.all p = false := by
  rw [List.all_eq_false]
  exact ⟨l[c], List.getElem_mem hlt, by simp [h2]⟩
set_option maxHeartbeats 800000 in
theorem rAll (ao : Option Addr) (cap : Nat) (l : List Int) (m : Nat) (w : World) (h1 : 8 ≤ m) (h2 : m ≤ 26) (hl : l.length ≤ 9223372036854775807) (hi : IntsAt w ao l) :
    Calls Tryz.prog 23 #[.slice ao l.length cap, .int .i64 m] w fun e w' => e = .returned (.bool (l.all (hasP (halfOf (m : Int))))) ∧ w = w' := by
  have HH := fun n => Lib.hid (rHas n m w h1 h2)
  have HI := Lib.hid hi
  clear hi
  go_enter Tryz.func23, Tryz.ntmps23
  go_wp2
  go_loopg [5, 8] l.length (fun gk q i wr => ∃ c : Nat, c ≤ l.length ∧ gk + c = l.length ∧ i = .int .i64 c ∧ Hid ((l.take c).all (hasP (halfOf (m : Int))) = true) ∧ w = wr)
  case atStart => exact ⟨0, Nat.zero_le _, by omega, rfl, rfl, rfl⟩
  case round =>
    obtain ⟨c, hc, hgk, rfl, HT, rfl⟩ := hrel
    have HGK := Lib.hid hgk
    clear hgk
    by_cases hlt : c < l.length
    · obtain ⟨g, off, rfl, hg, hcell⟩ := HI.out c hlt
      have HC := Lib.hid (HH l[c]).out
      cases hp : hasP (halfOf (m : Int)) l[c] with
      | true =>
        have HS := Lib.hid (all_step hlt HT.out hp)
        rw [hp] at HC
        clear hp
        generalize l[c] = x at *
        go_wp2_with fail
        refine HC.out.mono ?_
        rintro e w1 ⟨rfl, rfl⟩
        go_wp2
        go_roundg (gk - 1)
        case rel => exact ⟨c + 1, hlt, by have := HGK.out; omega, by go_num, HS, rfl⟩
        case measure => have := HGK.out; omega
      | false =>
        have HS := Lib.hid (all_not hlt hp)
        rw [hp] at HC
        clear hp
        generalize l[c] = x at *
        go_wp2_with fail
        refine HC.out.mono ?_
        rintro e w1 ⟨rfl, rfl⟩
        go_wp2
        go_ret
        exact ⟨by rw [HS.out]; rfl, rfl⟩
    · obtain rfl : c = l.length := by omega
      have HF : Hid (l.all (hasP (halfOf (m : Int))) = true) := by have := HT.out; rwa [List.take_length] at this
      go_wp2
      go_ret
      exact ⟨by rw [HF.out]; rfl, rfl⟩
end Go.Proofs.YtnfpkjnllkkngaaGreatDoor
end

section
namespace Go.Proofs.BlkB
open Go

/-- Two numbers' bits, each that one of them has. -/
def orI (a b : Int) : Int := bits BinOp.or IntKind.i64 a b
theorem toNat_mod (a : Int) {k : Nat} (hk : k ≤ 64) : ((BitVec.ofInt 64 a).toNat % 2 ^ k = 0) ↔ ((2 ^ k : Nat) : Int) ∣ a := by
  rw [BitVec.toNat_ofInt]
  obtain ⟨j, hj⟩ : ∃ j, 64 = k + j := ⟨64 - k, by omega⟩
  rw [hj]
  have hd : ((2 ^ k : Nat) : Int) ∣ ((2 ^ (k + j) : Nat) : Int) := ⟨((2 ^ j : Nat) : Int), by rw [Nat.pow_add]; simp⟩
  have hp : (0 : Int) < ((2 ^ (k + j) : Nat) : Int) := by have := Nat.two_pow_pos (k + j); omega
  have h0 : 0 ≤ a % ((2 ^ (k + j) : Nat) : Int) := Int.emod_nonneg _ (by omega)
  have e : a = a % ((2 ^ (k + j) : Nat) : Int) + ((2 ^ (k + j) : Nat) : Int) * (a / ((2 ^ (k + j) : Nat) : Int)) := (Int.emod_add_mul_ediv a _).symm
  have hq : ((2 ^ k : Nat) : Int) ∣ ((2 ^ (k + j) : Nat) : Int) * (a / ((2 ^ (k + j) : Nat) : Int)) := Int.dvd_trans hd (Int.dvd_mul_right _ _)
  constructor
  · intro h
    have h1 : ((2 ^ k : Nat) : Int) ∣ ((a % ((2 ^ (k + j) : Nat) : Int)).toNat : Int) := Int.ofNat_dvd.2 (Nat.dvd_of_mod_eq_zero h)
    rw [Int.toNat_of_nonneg h0] at h1
    rw [e]
    exact Int.dvd_add h1 hq
  · intro h
    have h1 : ((2 ^ k : Nat) : Int) ∣ a % ((2 ^ (k + j) : Nat) : Int) := by
      have := (Int.dvd_add_left (a := ((2 ^ k : Nat) : Int)) hq (b := a % ((2 ^ (k + j) : Nat) : Int))).1 (by rw [← e]; exact h)
      exact this
    rw [← Int.toNat_of_nonneg h0] at h1
    exact Nat.mod_eq_zero_of_dvd (Int.ofNat_dvd.1 h1)
theorem wrap_ofInt (z : Int) : BitVec.ofInt 64 (IntKind.i64.wrap z) = BitVec.ofInt 64 z := by
  apply BitVec.eq_of_toNat_eq
  rw [BitVec.toNat_ofInt, BitVec.toNat_ofInt]
  congr 1
  have : (IntKind.i64.wrap z - z) % ((2 ^ 64 : Nat) : Int) = 0 := by
    simp only [IntKind.wrap, IntKind.signed, IntKind.bits]
    simp
    split <;> omega
  omega
theorem or_dvd (a b : Int) {k : Nat} (hk : k ≤ 64) : ((2 ^ k : Nat) : Int) ∣ orI a b ↔ ((2 ^ k : Nat) : Int) ∣ a ∧ ((2 ^ k : Nat) : Int) ∣ b := by
  rw [← toNat_mod _ hk, ← toNat_mod a hk, ← toNat_mod b hk]
  have e : (BitVec.ofInt 64 (orI a b)).toNat = (BitVec.ofInt 64 a).toNat ||| (BitVec.ofInt 64 b).toNat := by
    show (BitVec.ofInt 64 (IntKind.i64.wrap ((BitVec.ofInt 64 a ||| BitVec.ofInt 64 b).toNat : Int))).toNat = _
    rw [wrap_ofInt, BitVec.ofInt_natCast, BitVec.toNat_ofNat, BitVec.toNat_or]
    refine Nat.mod_eq_of_lt ?_
    rw [← BitVec.toNat_or]
    exact BitVec.isLt _
  rw [e, Nat.or_mod_two_pow]
  exact Nat.or_eq_zero_iff
/-- A number of 64 bits. -/
def In64 (a : Int) : Prop := -9223372036854775808 ≤ a ∧ a ≤ 9223372036854775807
theorem or_in (a b : Int) : In64 (orI a b) := by
  show In64 (IntKind.i64.wrap _)
  unfold In64
  generalize ((BitVec.ofInt 64 a ||| BitVec.ofInt 64 b).toNat : Int) = z
  simp only [IntKind.wrap, IntKind.signed, IntKind.bits]
  simp
  split <;> omega
theorem dvd64 {a : Int} (h : In64 a) : ((2 ^ 64 : Nat) : Int) ∣ a ↔ a = 0 := by
  unfold In64 at h
  constructor
  · rintro ⟨c, hc⟩
    have : ((2 ^ 64 : Nat) : Int) = 18446744073709551616 := by decide
    rw [this] at hc
    omega
  · rintro rfl; exact Int.dvd_zero _
theorem or_zero {a b : Int} (ha : In64 a) (hb : In64 b) : orI a b = 0 ↔ a = 0 ∧ b = 0 := by
  rw [← dvd64 (or_in a b), or_dvd a b (Nat.le_refl 64), dvd64 ha, dvd64 hb]
theorem or_nought {a : Int} (h : In64 a) : orI a 0 = a := by
  show IntKind.i64.wrap ((BitVec.ofInt 64 a ||| BitVec.ofInt 64 0).toNat : Int) = a
  rw [show BitVec.ofInt 64 0 = 0#64 from rfl, BitVec.or_zero, BitVec.toNat_ofInt]
  unfold In64 at h
  simp only [IntKind.wrap, IntKind.signed, IntKind.bits]
  simp
  omega
/-- The bits of all. -/
def orAll (l : List Int) : Int := l.foldl orI 0
theorem orAll_snoc (l : List Int) (x : Int) : orAll (l ++ [x]) = orI (orAll l) x := by unfold orAll; rw [List.foldl_append]; rfl
theorem orAll_dvd {k : Nat} (hk : k ≤ 64) (l : List Int) : ((2 ^ k : Nat) : Int) ∣ orAll l ↔ ∀ x ∈ l, ((2 ^ k : Nat) : Int) ∣ x := by
  have H : ∀ (l : List Int) (a : Int), ((2 ^ k : Nat) : Int) ∣ l.foldl orI a ↔ ((2 ^ k : Nat) : Int) ∣ a ∧ ∀ x ∈ l, ((2 ^ k : Nat) : Int) ∣ x := by
    intro l
    induction l with
    | nil => intro a; simp
    | cons y r ih =>
      intro a
      rw [List.foldl_cons, ih, or_dvd a y hk]
      constructor
      · rintro ⟨⟨h1, h2⟩, h3⟩
        refine ⟨h1, fun x hx => ?_⟩
        rcases List.mem_cons.1 hx with rfl | hx
        · exact h2
        · exact h3 x hx
      · rintro ⟨h1, h2⟩
        exact ⟨⟨h1, h2 y (List.mem_cons_self ..)⟩, fun x hx => h2 x (List.mem_cons_of_mem _ hx)⟩
  unfold orAll
  rw [H]
  exact ⟨fun h => h.2, fun h => ⟨Int.dvd_zero _, h⟩⟩
/-- How many low bits are 0 of all. -/
def word (a : Int) : Nat := (a % 18446744073709551616).toNat
def zerosL (l : List Int) : Nat := Lib.ctz 64 (word (orAll l))
theorem word_lt (a : Int) : word a < 18446744073709551616 := by unfold word; omega
theorem ctz_dvd {x : Nat} (hx : x < 2 ^ 64) {k : Nat} (hk : k ≤ 64) : 2 ^ k ∣ x ↔ k ≤ Lib.ctz 64 x := by
  unfold Lib.ctz
  by_cases h0 : x = 0
  · rw [if_pos h0, h0]; exact ⟨fun _ => hk, fun _ => Nat.dvd_zero _⟩
  · rw [if_neg h0]
    obtain ⟨m, hm, hc⟩ := Lib.ctzFrom_spec 64 x (by omega) hx
    generalize Lib.ctzFrom 64 x = c at *
    constructor
    · intro h
      apply Nat.le_of_not_lt
      intro hlt
      obtain ⟨j, rfl⟩ : ∃ j, k = c + (j + 1) := ⟨k - c - 1, by omega⟩
      rw [hm, Nat.pow_add] at h
      have h2 := Nat.dvd_of_mul_dvd_mul_left (Nat.two_pow_pos c) h
      have h3 : 2 ∣ 2 * m + 1 := Nat.dvd_trans ⟨2 ^ j, by rw [Nat.pow_succ, Nat.mul_comm]⟩ h2
      omega
    · intro h
      rw [hm]
      exact Nat.dvd_trans (Nat.pow_dvd_pow 2 h) (Nat.dvd_mul_right _ _)
theorem word_dvd (a : Int) {k : Nat} (hk : k ≤ 64) : 2 ^ k ∣ word a ↔ ((2 ^ k : Nat) : Int) ∣ a := by
  rw [← toNat_mod a hk, BitVec.toNat_ofInt]
  exact ⟨fun h => Nat.mod_eq_zero_of_dvd h, fun h => Nat.dvd_of_mod_eq_zero h⟩
/-- **Of numbers: the greatest n such that all are multiples of 2^n.** -/
theorem zerosL_le (l : List Int) {k : Nat} (hk : k ≤ 64) : k ≤ zerosL l ↔ ∀ x ∈ l, ((2 ^ k : Nat) : Int) ∣ x := by
  unfold zerosL
  rw [← ctz_dvd (by have := word_lt (orAll l); omega) hk, word_dvd _ hk, orAll_dvd hk]
end Go.Proofs.BlkB
end
