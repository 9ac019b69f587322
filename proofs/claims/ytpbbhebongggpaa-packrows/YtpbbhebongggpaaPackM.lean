import Derived.Test.YtpbbhebongggpaaMath
import Derived.Laws.BitsLemmas
namespace Go.Proofs.PackM
open Go Go.Proofs.PipeM

/-- Is a form? -/
def good (B : Int) : Bool := decide (B = 8 ∨ B = 16 ∨ B = 24)
/-- Is a number a sample of so many bits? -/
def hasB (B n : Int) : Bool := decide ((B = 8 ∧ -128 ≤ n ∧ n < 128) ∨ (B = 16 ∧ -32768 ≤ n ∧ n < 32768) ∨ (B = 24 ∧ -8388608 ≤ n ∧ n < 8388608))

theorem good_cases {B : Int} (h : good B = true) : ∃ z : Nat, B = ((8 * z : Nat) : Int) ∧ (z = 1 ∨ z = 2 ∨ z = 3) := by
  have h1 : B = 8 ∨ B = 16 ∨ B = 24 := of_decide_eq_true h
  rcases h1 with h1 | h1 | h1
  · exact ⟨1, by omega, by omega⟩
  · exact ⟨2, by omega, by omega⟩
  · exact ⟨3, by omega, by omega⟩

/-- How far up the byte stands that comes at place i. -/
def shiftN (z : Nat) (g : Bool) (i : Nat) : Nat := 8 * (if g then z - 1 - i else i)
/-- A number's byte. -/
def byteOf (n : Int) (s : Nat) : Nat := (n / 2 ^ s % 256).toNat
theorem byteOf_lt (n : Int) (s : Nat) : byteOf n s < 256 := by unfold byteOf; omega
/-- The sample of a number. -/
def samp (rows : List (List Int)) (q : Nat) : Int := (rows.getD (q % rows.length) []).getD (q / rows.length) 0
def pAt (z : Nat) (g : Bool) (rows : List (List Int)) (i : Nat) : Nat := byteOf (samp rows (i / z)) (shiftN z g (i % z))
/-- Channels' bytes. -/
def packF (z : Nat) (g : Bool) (rows : List (List Int)) (n : Nat) : List Nat := (List.range n).map (pAt z g rows)
theorem packF_length (z : Nat) (g : Bool) (rows : List (List Int)) (n : Nat) : (packF z g rows n).length = n := by simp [packF]
theorem packF_lt (z : Nat) (g : Bool) (rows : List (List Int)) (n : Nat) : ∀ b ∈ packF z g rows n, b < 256 := by
  intro b hb
  simp only [packF, List.mem_map] at hb
  obtain ⟨i, _, rfl⟩ := hb
  exact byteOf_lt _ _
theorem packF_get (z : Nat) (g : Bool) (rows : List (List Int)) (n i : Nat) (h : i < n) : (packF z g rows n).getD i 0 = pAt z g rows i := by simp [packF, List.getD, h]

/-- A sample's bytes. -/
def sampBytes (z : Nat) (g : Bool) (n : Int) : List Nat := (List.range z).map fun i => byteOf n (shiftN z g i)
theorem packF_more (z : Nat) (g : Bool) (rows : List (List Int)) (q : Nat) (hz : 1 ≤ z) : packF z g rows ((q + 1) * z) = packF z g rows (q * z) ++ sampBytes z g (samp rows q) := by
  unfold packF sampBytes
  rw [Nat.add_mul, Nat.one_mul, List.range_add, List.map_append, List.map_map]
  congr 1
  refine List.map_congr_left (fun i hi => ?_)
  have hi : i < z := List.mem_range.1 hi
  have e1 : (q * z + i) / z = q := by rw [Nat.mul_comm, Nat.mul_add_div (by omega), Nat.div_eq_of_lt hi]; rfl
  have e2 : (q * z + i) % z = i := by rw [Nat.mul_comm, Nat.mul_add_mod, Nat.mod_eq_of_lt hi]
  simp only [Function.comp, pAt, e1, e2]

theorem low_add (v a : Nat) : ∀ b, low v (b + a) = low (v / 2 ^ a) b ++ low v a
  | 0 => by simp [low]
  | b + 1 => by
    rw [show b + 1 + a = (b + a) + 1 by omega]
    simp only [low, List.cons_append]
    rw [low_add v a b, Nat.testBit_div_two_pow]

theorem low16 (v : Nat) : low v 16 = low (v / 256 % 256) 8 ++ low (v % 256) 8 := by
  have h := low_add v 8 8
  have h1 : low (v / 256 % 256) 8 = low (v / 2 ^ 8) 8 := low_mod (v / 256) 8
  have h2 : low (v % 256) 8 = low v 8 := low_mod v 8
  rw [h1, h2]
  exact h
theorem low24 (v : Nat) : low v 24 = low (v / 65536 % 256) 8 ++ (low (v / 256 % 256) 8 ++ low (v % 256) 8) := by
  have h : low v 24 = low (v / 2 ^ 16) 8 ++ low v 16 := low_add v 16 8
  have h1 : low (v / 65536 % 256) 8 = low (v / 2 ^ 16) 8 := low_mod (v / 65536) 8
  rw [h1, ← low16]
  exact h
theorem bits_samp (z : Nat) (n : Int) (hz : z = 1 ∨ z = 2 ∨ z = 3) : bitsOf (sampBytes z true n) = low (n % 2 ^ (8 * z)).toNat (8 * z) := by
  rcases hz with rfl | rfl | rfl
  · simp only [sampBytes, List.range_succ, List.range_zero, List.nil_append, List.map_cons, List.map_nil, bitsOf, List.append_nil]
    congr 1
    simp [byteOf, shiftN]
  · rw [show 8 * 2 = 16 from rfl, low16]
    simp only [sampBytes, List.range_succ, List.range_zero, List.nil_append, List.cons_append, List.map_cons, List.map_nil, bitsOf, List.append_nil]
    congr 2
    · simp [byteOf, shiftN]; omega
    · simp [byteOf, shiftN]; omega
  · rw [show 8 * 3 = 24 from rfl, low24]
    simp only [sampBytes, List.range_succ, List.range_zero, List.nil_append, List.cons_append, List.map_cons, List.map_nil, bitsOf, List.append_nil]
    congr 2
    · simp [byteOf, shiftN]; omega
    · congr 1
      · congr 1; simp [byteOf, shiftN]; omega
    · congr 1; simp [byteOf, shiftN]; omega

theorem samp_packs (z : Nat) (n : Int) (hz : z = 1 ∨ z = 2 ∨ z = 3) : Packs (sampBytes z true n) (low (n % 2 ^ (8 * z)).toNat (8 * z)) := by
  refine ⟨?_, ?_⟩
  · intro b hb
    simp only [sampBytes, List.mem_map] at hb
    obtain ⟨i, _, rfl⟩ := hb
    exact byteOf_lt _ _
  · rw [bits_samp z n hz]
    unfold pad
    rw [low_length, show (8 - 8 * z % 8) % 8 = 0 by omega]
    simp

theorem samp_turned (z : Nat) (n : Int) (hz : z = 1 ∨ z = 2 ∨ z = 3) : (sampBytes z true n).reverse = sampBytes z false n := by
  rcases hz with rfl | rfl | rfl <;> simp [sampBytes, List.range_succ, shiftN]

/-- What a byte adds. -/
def sg (b : Nat) : Int := if b < 128 then (b : Int) else (b : Int) - 256
def worthI (z b s : Nat) : Int := if s = 8 * (z - 1) then sg b * 2 ^ s else (b : Int) * 2 ^ s
def orI (x y : Int) : Int := bits .or .i64 x y
theorem orI_def (x y : Int) : orI x y = IntKind.i64.wrap (((BitVec.ofInt 64 x ||| BitVec.ofInt 64 y).toNat : Nat) : Int) := rfl
theorem orI_comm (x y : Int) : orI x y = orI y x := by rw [orI_def, orI_def, BitVec.or_comm]
theorem orI_add (i : Nat) (x y : Int) (hi : i = 8 ∨ i = 16) (hx : x % 2 ^ i = 0) (h0 : 0 ≤ y) (h1 : y < 2 ^ i) (hr : -8388608 ≤ x) (hr2 : x ≤ 8388608) : orI x y = x + y := by
  rw [orI_def, BitVec.toNat_or, BitVec.toNat_ofInt, BitVec.toNat_ofInt]
  have hy : (y % ((2 ^ 64 : Nat) : Int)).toNat < 2 ^ i := by
    rcases hi with rfl | rfl <;> simp at h1 ⊢ <;> omega
  have hx2 : (x % ((2 ^ 64 : Nat) : Int)).toNat % 2 ^ i = 0 := by
    rcases hi with rfl | rfl <;> simp at hx ⊢ <;> omega
  rw [nat_join i _ _ hx2 hy, IntKind.wrap_i64]
  rcases hi with rfl | rfl <;> simp at h1 hx ⊢ <;> omega
theorem orI_zero (x : Int) (hr : -8388608 ≤ x) (hr2 : x ≤ 8388608) : orI 0 x = x := by
  rw [orI_def, BitVec.toNat_or, BitVec.toNat_ofInt, BitVec.toNat_ofInt]
  simp
  rw [IntKind.wrap_i64]
  omega

def part (z : Nat) (g : Bool) (b : Nat → Nat) : Nat → Int
  | 0 => 0
  | i + 1 => orI (part z g b i) (worthI z (b i) (shiftN z g i))
/-- What the cell of a sample's number holds, when these bytes have come. -/
def acc (z : Nat) (g : Bool) (b : Nat → Nat) (l : List Nat) (q : Nat) : Int :=
  l.foldl (fun a x => if x / z = q then orI a (worthI z (b x) (shiftN z g (x % z))) else a) 0
theorem acc_new (z : Nat) (g : Bool) (b : Nat → Nat) (l : List Nat) (x : Nat) : acc z g b (l ++ [x]) (x / z) = orI (acc z g b l (x / z)) (worthI z (b x) (shiftN z g (x % z))) := by
  simp [acc]
theorem acc_old (z : Nat) (g : Bool) (b : Nat → Nat) (l : List Nat) (x q : Nat) (h : q ≠ x / z) : acc z g b (l ++ [x]) q = acc z g b l q := by
  simp [acc, Ne.symm h]
theorem acc_range (z : Nat) (g : Bool) (b : Nat → Nat) (q : Nat) (hz : 1 ≤ z) : ∀ k, acc z g b (List.range k) q = part z g (fun i => b (q * z + i)) (min z (k - q * z))
  | 0 => by simp [acc, part]
  | k + 1 => by
    have hd := Nat.div_add_mod k z
    have hm := Nat.mod_lt k (show z > 0 by omega)
    rw [List.range_succ]
    by_cases h : k / z = q
    · subst h
      rw [acc_new, acc_range z g b (k / z) hz k]
      rw [Nat.mul_comm (k / z) z]
      have e1 : min z (k - z * (k / z)) = k % z := by omega
      have e2 : min z (k + 1 - z * (k / z)) = k % z + 1 := by omega
      rw [e1, e2]
      simp only [part]
      rw [hd]
    · rw [acc_old z g b _ k q (Ne.symm h), acc_range z g b q hz k]
      congr 1
      rcases Nat.lt_or_ge k (q * z) with h1 | h1
      · omega
      · have h2 : q ≤ k / z := (Nat.le_div_iff_mul_le (by omega)).2 h1
        have h3 : (q + 1) * z ≤ k := (Nat.le_div_iff_mul_le (by omega)).1 (by omega)
        rw [Nat.add_mul, Nat.one_mul] at h3
        omega

/-- The sample whose bytes these are. -/
def valZ (z : Nat) (g : Bool) (b : Nat → Nat) : Int :=
  if z = 1 then sg (b 0) else if z = 2 then (b (if g then 1 else 0) : Int) + 256 * sg (b (if g then 0 else 1)) else (b (if g then 2 else 0) : Int) + 256 * (b 1 : Int) + 65536 * sg (b (if g then 0 else 2))

theorem part_all (z : Nat) (g : Bool) (b : Nat → Nat) (hz : z = 1 ∨ z = 2 ∨ z = 3) (hb : ∀ i, b i < 256) : part z g b z = valZ z g b := by
  have h0 := hb 0
  have h1 := hb 1
  have h2 := hb 2
  have hs : ∀ i, -128 ≤ sg (b i) ∧ sg (b i) ≤ 127 := fun i => by have := hb i; unfold sg; split <;> omega
  have s0 := hs 0
  have s1 := hs 1
  have s2 := hs 2
  rcases hz with rfl | rfl | rfl
  · cases g <;> simp [part, valZ, worthI, shiftN] <;> rw [orI_zero _ (by omega) (by omega)]
  · cases g
    · simp [part, valZ, worthI, shiftN]
      rw [orI_zero _ (by omega) (by omega), orI_comm, orI_add 8 _ _ (.inl rfl) (by simp) (by omega) (by simp; omega) (by omega) (by omega)]
      omega
    · simp [part, valZ, worthI, shiftN]
      rw [orI_zero _ (by omega) (by omega), orI_add 8 _ _ (.inl rfl) (by simp) (by omega) (by simp; omega) (by omega) (by omega)]
      omega
  · cases g
    · simp [part, valZ, worthI, shiftN]
      rw [orI_zero _ (by omega) (by omega), orI_comm (b 0 : Int), orI_add 8 ((b 1 : Int) * 256) (b 0 : Int) (.inl rfl) (by simp) (by omega) (by simp; omega) (by omega) (by omega), orI_comm, orI_add 16 (sg (b 2) * 65536) _ (.inr rfl) (by simp) (by omega) (by simp; omega) (by omega) (by omega)]
      omega
    · simp [part, valZ, worthI, shiftN]
      rw [orI_zero _ (by omega) (by omega), orI_add 16 (sg (b 0) * 65536) ((b 1 : Int) * 256) (.inr rfl) (by simp) (by omega) (by simp; omega) (by omega) (by omega), orI_add 8 (sg (b 0) * 65536 + (b 1 : Int) * 256) (b 2 : Int) (.inl rfl) (by simp; omega) (by omega) (by simp; omega) (by omega) (by omega)]
      omega

theorem val_has (z : Nat) (g : Bool) (b : Nat → Nat) (hz : z = 1 ∨ z = 2 ∨ z = 3) (hb : ∀ i, b i < 256) : hasB ((8 * z : Nat) : Int) (valZ z g b) = true := by
  have hs : ∀ i, -128 ≤ sg (b i) ∧ sg (b i) ≤ 127 := fun i => by have := hb i; unfold sg; split <;> omega
  have h0 := hb 0
  have h1 := hb 1
  have h2 := hb 2
  have s0 := hs 0
  have s1 := hs 1
  have s2 := hs 2
  unfold hasB
  apply decide_eq_true
  rcases hz with rfl | rfl | rfl <;> cases g <;> simp [valZ] <;> omega

theorem val_byte (z : Nat) (g : Bool) (b : Nat → Nat) (hz : z = 1 ∨ z = 2 ∨ z = 3) (hb : ∀ i, b i < 256) (i : Nat) (hi : i < z) : byteOf (valZ z g b) (shiftN z g i) = b i := by
  have hs : ∀ i, (b i < 128 ∧ sg (b i) = b i) ∨ (128 ≤ b i ∧ sg (b i) = (b i : Int) - 256) := fun i => by unfold sg; split <;> omega
  have h0 := hb 0
  have h1 := hb 1
  have h2 := hb 2
  have s0 := hs 0
  have s1 := hs 1
  have s2 := hs 2
  rcases hz with rfl | rfl | rfl
  · obtain rfl : i = 0 := by omega
    cases g <;> simp [valZ, byteOf, shiftN] <;> omega
  · rcases (by omega : i = 0 ∨ i = 1) with rfl | rfl <;> cases g <;> simp [valZ, byteOf, shiftN] <;> omega
  · rcases (by omega : i = 0 ∨ i = 1 ∨ i = 2) with rfl | rfl | rfl <;> cases g <;> simp [valZ, byteOf, shiftN] <;> omega

theorem val_back (z : Nat) (g : Bool) (n : Int) (hz : z = 1 ∨ z = 2 ∨ z = 3) (h : hasB ((8 * z : Nat) : Int) n = true) : valZ z g (fun i => byteOf n (shiftN z g i)) = n := by
  have h : _ := of_decide_eq_true h
  rcases hz with rfl | rfl | rfl <;> cases g <;> simp [valZ, byteOf, shiftN, sg] at h ⊢ <;> (try split) <;> omega

/-- Bytes' channels. -/
def unpF (z : Nat) (g : Bool) (ch s : Nat) (zs : List Nat) : List (List Int) :=
  (List.range ch).map fun c => (List.range s).map fun k => valZ z g fun i => zs.getD ((k * ch + c) * z + i) 0
theorem unpF_length (z : Nat) (g : Bool) (ch s : Nat) (zs : List Nat) : (unpF z g ch s zs).length = ch := by simp [unpF]
theorem unpF_row (z : Nat) (g : Bool) (ch s : Nat) (zs : List Nat) (c : Nat) (h : c < ch) : (unpF z g ch s zs).getD c [] = (List.range s).map fun k => valZ z g fun i => zs.getD ((k * ch + c) * z + i) 0 := by
  simp [unpF, List.getD, h]
theorem unpF_mem (z : Nat) (g : Bool) (ch s : Nat) (zs : List Nat) (r : List Int) (h : r ∈ unpF z g ch s zs) : r.length = s := by
  simp only [unpF, List.mem_map] at h
  obtain ⟨c, _, rfl⟩ := h
  simp

theorem getD_lt' {zs : List Nat} (hz : ∀ z ∈ zs, z < 256) (j : Nat) : zs.getD j 0 < 256 := getD_lt hz j

theorem unpF_has (z : Nat) (g : Bool) (ch s : Nat) (zs : List Nat) (hz : z = 1 ∨ z = 2 ∨ z = 3) (hb : ∀ b ∈ zs, b < 256) : ∀ r ∈ unpF z g ch s zs, ∀ n ∈ r, hasB ((8 * z : Nat) : Int) n = true := by
  intro r hr n hn
  simp only [unpF, List.mem_map] at hr
  obtain ⟨c, _, rfl⟩ := hr
  simp only [List.mem_map] at hn
  obtain ⟨k, _, rfl⟩ := hn
  exact val_has z g _ hz (fun i => getD_lt' hb _)

/-- What is unpacked has just these bytes. -/
theorem pack_unp (z : Nat) (g : Bool) (ch s : Nat) (zs : List Nat) (hz : z = 1 ∨ z = 2 ∨ z = 3) (hb : ∀ b ∈ zs, b < 256) (hc : 1 ≤ ch) (hl : zs.length = s * ch * z) : packF z g (unpF z g ch s zs) (s * ch * z) = zs := by
  apply List.ext_getElem
  · rw [packF_length, hl]
  intro i h1 h2
  rw [packF_length] at h1
  have hz0 : 0 < z := by omega
  have e0 : (packF z g (unpF z g ch s zs) (s * ch * z))[i]'(by rw [packF_length]; exact h1) = pAt z g (unpF z g ch s zs) i := by simp [packF]
  rw [e0]
  have hq : i / z < s * ch := by rw [Nat.div_lt_iff_lt_mul hz0]; exact h1
  have hcm : (i / z) % ch < ch := Nat.mod_lt _ (by omega)
  have hks : i / z / ch < s := by rw [Nat.div_lt_iff_lt_mul (by omega)]; exact hq
  unfold pAt samp
  rw [unpF_length, unpF_row z g ch s zs _ hcm]
  have e1 : (((List.range s).map fun k => valZ z g fun j => zs.getD ((k * ch + i / z % ch) * z + j) 0).getD (i / z / ch) 0) = valZ z g fun j => zs.getD ((i / z / ch * ch + i / z % ch) * z + j) 0 := by
    simp [List.getD, hks]
  rw [e1, val_byte z g _ hz (fun j => getD_lt' hb _) (i % z) (Nat.mod_lt _ hz0)]
  have e2 : i / z / ch * ch + i / z % ch = i / z := by rw [Nat.mul_comm]; exact Nat.div_add_mod _ _
  have e3 : i / z * z + i % z = i := by rw [Nat.mul_comm]; exact Nat.div_add_mod _ _
  rw [e2, e3]
  simp [List.getD, h2]

/-- What is packed is unpacked as it was. -/
theorem unp_pack (z : Nat) (g : Bool) (s : Nat) (rows : List (List Int)) (hz : z = 1 ∨ z = 2 ∨ z = 3) (hr : ∀ r ∈ rows, r.length = s) (hh : ∀ r ∈ rows, ∀ n ∈ r, hasB ((8 * z : Nat) : Int) n = true) :
    unpF z g rows.length s (packF z g rows (s * rows.length * z)) = rows := by
  have hz0 : 0 < z := by omega
  apply List.ext_getElem
  · rw [unpF_length]
  intro c h1 h2
  rw [unpF_length] at h1
  have hlen := hr rows[c] (List.getElem_mem h2)
  apply List.ext_getElem
  · rw [hlen]; simp [unpF]
  intro k h3 h4
  simp only [unpF, List.getElem_map, List.getElem_range]
  have hks : k < s := by rw [← hlen]; exact h4
  have hq : k * rows.length + c < s * rows.length := by
    have : (k + 1) * rows.length ≤ s * rows.length := Nat.mul_le_mul_right _ hks
    rw [Nat.add_mul, Nat.one_mul] at this
    omega
  have hsamp : samp rows (k * rows.length + c) = rows[c][k] := by
    unfold samp
    have e1 : (k * rows.length + c) % rows.length = c := by rw [Nat.mul_comm, Nat.mul_add_mod, Nat.mod_eq_of_lt h1]
    have e2 : (k * rows.length + c) / rows.length = k := by rw [Nat.mul_comm, Nat.mul_add_div (by omega), Nat.div_eq_of_lt h1]; rfl
    rw [e1, e2]
    simp [List.getD, h2, h4]
  rw [← val_back z g rows[c][k] hz (hh _ (List.getElem_mem h2) _ (List.getElem_mem h4))]
  have hb : ∀ i, i < z → (packF z g rows (s * rows.length * z)).getD ((k * rows.length + c) * z + i) 0 = byteOf rows[c][k] (shiftN z g i) := by
    intro i hi
    have hlt : (k * rows.length + c) * z + i < s * rows.length * z := by
      have : (k * rows.length + c + 1) * z ≤ s * rows.length * z := Nat.mul_le_mul_right _ hq
      rw [Nat.add_mul _ 1, Nat.one_mul] at this
      omega
    rw [packF_get z g rows _ _ hlt]
    unfold pAt
    have e1 : ((k * rows.length + c) * z + i) / z = k * rows.length + c := by rw [Nat.mul_comm, Nat.mul_add_div hz0, Nat.div_eq_of_lt hi]; rfl
    have e2 : ((k * rows.length + c) * z + i) % z = i := by rw [Nat.mul_comm, Nat.mul_add_mod, Nat.mod_eq_of_lt hi]
    rw [e1, e2, hsamp]
  unfold valZ
  rcases hz with rfl | rfl | rfl
  · simp only [if_true]
    rw [hb 0 (by decide)]
  · simp only [show (2 : Nat) = 1 ↔ False by decide, if_false, if_true]
    cases g <;> simp only [Bool.false_eq_true, if_false, if_true] <;> rw [hb 0 (by decide), hb 1 (by decide)]
  · simp only [show (3 : Nat) = 1 ↔ False by decide, show (3 : Nat) = 2 ↔ False by decide, if_false]
    cases g <;> simp only [Bool.false_eq_true, if_false, if_true] <;> rw [hb 0 (by decide), hb 1 (by decide), hb 2 (by decide)]

/-- What is wrong with channels. -/
def level (rows : List (List Int)) : Bool := rows.all fun r => r.length == (rows.headD []).length
def allHas (B : Int) (rows : List (List Int)) : Bool := rows.all fun r => r.all (hasB B)
def code (B : Int) (rows : List (List Int)) : Int :=
  if good B = true then (if 1 ≤ rows.length ∧ rows.length ≤ 8 ∧ level rows = true then (if allHas B rows = true then 0 else 9) else 8) else 7

theorem code_zero {B : Int} {rows : List (List Int)} (h : code B rows = 0) : good B = true ∧ 1 ≤ rows.length ∧ rows.length ≤ 8 ∧ (∀ r ∈ rows, r.length = (rows.headD []).length) ∧ ∀ r ∈ rows, ∀ n ∈ r, hasB B n = true := by
  unfold code at h
  split at h
  · rename_i h1
    split at h
    · rename_i h2
      split at h
      · rename_i h3
        refine ⟨h1, h2.1, h2.2.1, ?_, ?_⟩
        · intro r hr
          simpa using List.all_eq_true.1 h2.2.2 r hr
        · intro r hr n hn
          exact List.all_eq_true.1 (List.all_eq_true.1 h3 r hr) n hn
      · cases h
    · cases h
  · cases h
theorem code_of {B : Int} {rows : List (List Int)} (h1 : good B = true) (h2 : 1 ≤ rows.length) (h3 : rows.length ≤ 8) (h4 : ∀ r ∈ rows, r.length = (rows.headD []).length) (h5 : ∀ r ∈ rows, ∀ n ∈ r, hasB B n = true) : code B rows = 0 := by
  unfold code
  rw [if_pos h1, if_pos ⟨h2, h3, List.all_eq_true.2 (fun r hr => by simpa using h4 r hr)⟩, if_pos (show allHas B rows = true from List.all_eq_true.2 (fun r hr => List.all_eq_true.2 (fun n hn => h5 r hr n hn)))]
end Go.Proofs.PackM
