import Derived.Test.YtbbcemgcanclnaaProg
import Derived.Test.YtbbcemgcanclnaaMath
import Derived.WalkKit
import Derived.WalkSpells
import Derived.WalkLawsBesides
import Derived.Lib.Hide
namespace Go.Proofs.Ytbbcemgcanclnaa
open Go.RowKit Go.Proofs Go.Proofs.PipeM

theorem und_bytes : Try.prog.underlying 39 = some (.slice 5) := by kernel_rfl
theorem und_u8 : Try.prog.underlying 5 = some (.int .u8) := by kernel_rfl
theorem und_string : Try.prog.underlying 9 = some .string := by kernel_rfl

/-- string([]byte{c}) -/
theorem conv_one (c : Int) (w : World) :
    (convert 39 9 (.slice (some ⟨w.heap.size, 0, none⟩) 1 1)).run Try.prog (w.alloc (.cells #[.int .u8 c] 5)) = .ok (.string (strOfNums [c])) (w.alloc (.cells #[.int .u8 c] 5)) := by
  refine run_convert_bytes_arg (w.alloc (.cells #[.int .u8 c] 5)) 39 5 und_bytes und_u8 w.heap.size 0 1 1 [c] rfl ?_ 9 und_string
  intro i hi
  obtain rfl : i = 0 := by omega
  simp

theorem digit_str (x : Nat) (b : Bool) (h : x % 2 = b.toNat) : strOfNums [48 + (x : Int) % 2] = str [b] := by
  have h2 : (48 + (x : Int) % 2) = ((48 + x % 2 : Nat) : Int) := by omega
  rw [h2, h]
  cases b <;> rfl

set_option maxHeartbeats 400000 in
theorem refPut (v n : Nat) (w : World) (hn : n ≤ 1000000) (hv : v ≤ 4611686018427387904) :
    Calls Try.prog 47 #[.int .i64 v, .int .i64 n] w fun e w' => e = .returned (.string (str (low v n))) ∧ Below w.heap.size w w' := by
  have hcv := conv_one
  go_enter Try.func47, Try.ntmps47
  go_wp2
  go_loopw [0, 5, 6] (fun x s i wr => ∃ k : Nat, k ≤ n ∧ i = .int .i64 k ∧ x = .int .i64 ((v / 2 ^ k : Nat) : Int) ∧ s = .string (str (low v k)) ∧ Below w.heap.size w wr)
    (fun _ _ i _ => n - (intOf i).toNat)
  case atStart => exact ⟨0, Nat.zero_le _, rfl, by simp, rfl, Below.refl _ _⟩
  case round =>
    obtain ⟨k, hk, rfl, rfl, rfl, hb⟩ := hrel
    by_cases hlt : k < n
    · obtain ⟨x, hx⟩ : ∃ x, x = v / 2 ^ k := ⟨_, rfl⟩
      have hxv : x ≤ v := by rw [hx]; exact Nat.div_le_self _ _
      rw [← hx]
      have hsz : (str (low v k)).size ≤ 1000000 := by rw [str_size, low_length]; omega
      have hone : (strOfNums [48 + (x : Int) % 2]).size ≤ 1 := by rw [strOfNums_size]; simp
      have hx2 : x / 2 = v / 2 ^ (k + 1) := by rw [hx, Nat.pow_succ, Nat.div_div_eq_div_mul]
      have hst : strOfNums [48 + (x : Int) % 2] ++ str (low v k) = str (low v (k + 1)) := by
        rw [digit_str x (v.testBit k) (by rw [Nat.toNat_testBit, hx]), ← str_append]; rfl
      have HX := Lib.hid hx2
      have HS := Lib.hid hst
      clear hx hx2 hst
      go_wp2
      go_roundw
      case rel => exact ⟨k + 1, by omega, by go_num, by rw [← HX.out]; go_num, by rw [← HS.out], hb.alloc hb.size _⟩
      case measure => simp [intOf]; omega
    · obtain rfl : k = n := by omega
      go_wp2
      go_ret
      exact ⟨rfl, hb⟩

/-- The cells of a slice of bytes. -/
def BytesAt (w : World) (ao : Option Addr) (zs : List Nat) : Prop :=
  ∀ j, j < zs.length → ∃ b off, ao = some ⟨b, off, none⟩ ∧ b < w.heap.size ∧ w.cell? ⟨b, off + j, none⟩ = some (.int .u8 ((zs.getD j 0 : Nat) : Int))

theorem BytesAt.below {w w' : World} {ao : Option Addr} {zs : List Nat} (h : BytesAt w ao zs) (hb : Below w.heap.size w w') : BytesAt w' ao zs := by
  intro j hj
  obtain ⟨b, off, h1, h2, h3⟩ := h j hj
  exact ⟨b, off, h1, Nat.lt_of_lt_of_le h2 hb.size, by rw [hb.cell (p := ⟨b, off + j, none⟩) h2, h3]⟩

theorem bitsOf_take (zs : List Nat) (k : Nat) (h : k < zs.length) : bitsOf (zs.take (k + 1)) = bitsOf (zs.take k) ++ low (zs.getD k 0) 8 := by
  rw [List.take_succ_eq_append_getElem h, bitsOf_append]
  simp [bitsOf, List.getD, List.getElem?_eq_getElem h]

set_option maxHeartbeats 400000 in
theorem refBits (ao : Option Addr) (cap : Nat) (zs : List Nat) (w : World) (hl : zs.length ≤ 100000) (hz : ∀ z ∈ zs, z < 256) (hc : BytesAt w ao zs) :
    Calls Try.prog 37 #[.slice ao zs.length cap] w fun e w' => e = .returned (.string (str (bitsOf zs))) ∧ Below w.heap.size w w' := by
  have HZ := Lib.hid hz
  have HC := Lib.hid hc
  clear hz hc
  go_enter Try.func37, Try.ntmps37
  go_wp2
  go_loopw [3, 7] (fun s i wr => ∃ k : Nat, k ≤ zs.length ∧ i = .int .i64 k ∧ s = .string (str (bitsOf (zs.take k))) ∧ Below w.heap.size w wr)
    (fun _ i _ => zs.length - (intOf i).toNat)
  case atStart => exact ⟨0, Nat.zero_le _, rfl, rfl, Below.refl _ _⟩
  case round =>
    obtain ⟨k, hk, rfl, rfl, hb⟩ := hrel
    by_cases hlt : k < zs.length
    · obtain ⟨b, off, rfl, h1, h2⟩ := (HC.out.below hb) k hlt
      have hz1 := getD_lt HZ.out k
      obtain ⟨z, hz2⟩ : ∃ z, z = zs.getD k 0 := ⟨_, rfl⟩
      rw [← hz2] at h2 hz1
      have hsz : (str (bitsOf (zs.take k))).size ≤ 800000 := by rw [str_size, bitsOf_length, List.length_take]; omega
      have hsz2 : (str (low z 8)).size ≤ 8 := by rw [str_size, low_length]; omega
      have hst : str (bitsOf (zs.take k)) ++ str (low z 8) = str (bitsOf (zs.take (k + 1))) := by
        rw [bitsOf_take zs k hlt, str_append, hz2]
      have HS := Lib.hid hst
      clear hst hz2
      go_wp2_with (go_at_call 47; refine (refPut z 8 _ (by omega) (by omega)).mono ?_; rintro e w1 ⟨rfl, hb1⟩)
      go_roundw
      case rel => exact ⟨k + 1, by omega, by go_num, by rw [← HS.out], hb.trans (hb1.mono hb.size)⟩
      case measure => simp [intOf]; omega
    · obtain rfl : k = zs.length := by omega
      go_wp2
      go_ret
      exact ⟨by rw [List.take_length]; rfl, hb⟩

set_option maxHeartbeats 400000 in
theorem refPower (n : Nat) (w : World) (hn : n ≤ 62) :
    Calls Try.prog 46 #[.int .i64 n] w fun e w' => e = .returned (.int .i64 ((2 ^ n : Nat) : Int)) ∧ w = w' := by
  go_enter Try.func46, Try.ntmps46
  go_wp2
  go_loop [3, 4] (fun p i => ∃ k : Nat, k ≤ n ∧ i = .int .i64 k ∧ p = .int .i64 ((2 ^ k : Nat) : Int)) (fun _ i => n - (intOf i).toNat)
  case atStart => exact ⟨0, Nat.zero_le _, rfl, rfl⟩
  case round =>
    obtain ⟨k, hk, rfl, rfl⟩ := hrel
    by_cases hlt : k < n
    · obtain ⟨x, hx⟩ : ∃ x, x = 2 ^ k := ⟨_, rfl⟩
      have hx1 : x ≤ 2 ^ 61 := by rw [hx]; exact Nat.pow_le_pow_right (by decide) (by omega)
      have hx2 : x * 2 = 2 ^ (k + 1) := by rw [hx, Nat.pow_succ]
      rw [← hx]
      have HX := Lib.hid hx2
      clear hx hx2
      go_wp2
      go_round
      case rel => exact ⟨k + 1, by omega, by go_num, by rw [← HX.out]; go_num⟩
      case measure => simp [intOf]; omega
    · obtain rfl : k = n := by omega
      go_wp2
      go_ret
      exact ⟨rfl, rfl⟩

theorem str_zeros (k : Nat) : str [false] ++ str (List.replicate k false ++ [true]) = str (List.replicate (k + 1) false ++ [true]) := by
  rw [← str_append]; rfl

def sizeOfV : Value → Nat | .string b => b.size | _ => 0

theorem rep_snoc (k : Nat) : List.replicate k false ++ [false] = List.replicate (k + 1) false := by
  rw [← List.replicate_succ']

theorem num_take_snoc (l : List Bool) (k : Nat) (h : k < l.length) : num (l.take (k + 1)) = 2 * num (l.take k) + (l[k]).toNat := by
  rw [List.take_succ_eq_append_getElem h, num_snoc]

theorem str_get (l : List Bool) (k : Nat) (h : k < l.length) (h' : k < (str l).size) : (str l)[k] = chr l[k] := by
  simp [str, ByteArray.getElem_eq_getElem_data]

theorem num_take_lt (l : List Bool) (k : Nat) (hl : l.length ≤ 50) : num (l.take k) < 1125899906842624 := by
  refine Nat.lt_of_lt_of_le (num_lt _) ?_
  have h : (l.take k).length ≤ 50 := by rw [List.length_take]; omega
  exact Nat.le_trans (Nat.pow_le_pow_right (by decide) h) (by decide)

set_option maxHeartbeats 400000 in
theorem refNumber (l : List Bool) (w : World) (hl : l.length ≤ 50) :
    Calls Try.prog 45 #[.string (str l)] w fun e w' => e = .returned (.int .i64 (num l)) ∧ w = w' := by
  have hsz := str_size l
  obtain ⟨s, hs⟩ : ∃ s, s = str l := ⟨_, rfl⟩
  rw [← hs] at hsz ⊢
  have h1 : s.size ≤ l.length := by omega
  have h2 : l.length ≤ s.size := by omega
  have HS := Lib.hid hs
  clear hs hsz
  go_enter Try.func45, Try.ntmps45
  go_wp2
  go_loop [3, 4] (fun v i => ∃ k : Nat, k ≤ l.length ∧ i = .int .i64 k ∧ v = .int .i64 (num (l.take k))) (fun _ i => l.length - (intOf i).toNat)
  case atStart => exact ⟨0, Nat.zero_le _, rfl, rfl⟩
  case round =>
    obtain ⟨k, hk, rfl, rfl⟩ := hrel
    have hb := num_take_lt l k hl
    obtain ⟨x, hx⟩ : ∃ x, x = num (l.take k) := ⟨_, rfl⟩
    rw [← hx] at hb ⊢
    by_cases hlt : k < l.length
    · have hn := num_take_snoc l k hlt
      have hg : ∀ h' : k < s.size, s[k] = chr l[k] := by subst x; have := HS.out; subst this; exact fun h' => str_get l k hlt h'
      have hks : k < s.size := by omega
      rw [← hx] at hn
      have HX := Lib.hid hx
      have HN := Lib.hid hn
      clear hx hn
      have HG := Lib.hid (hg hks)
      clear hg
      cases hbit : l[k]
      · have ht : ((s[k].toNat : Int) == 49) = false := by rw [HG.out, hbit]; rfl
        have HB := Lib.hid hbit
        clear hbit
        go_wp2
        go_round
        case rel => exact ⟨k + 1, by omega, by go_num, by rw [HN.out, HB.out]; simp; omega⟩
        case measure => simp [intOf]; omega
      · have ht : ((s[k].toNat : Int) == 49) = true := by rw [HG.out, hbit]; rfl
        have HB := Lib.hid hbit
        clear hbit
        go_wp2
        go_round
        case rel => exact ⟨k + 1, by omega, by go_num, by rw [HN.out, HB.out]; simp; omega⟩
        case measure => simp [intOf]; omega
    · obtain rfl : k = l.length := by omega
      have HX := Lib.hid hx
      clear hx
      go_wp2
      go_ret
      exact ⟨by rw [show num l = x by rw [HX.out, List.take_length]]; rfl, rfl⟩


theorem str_extract (l : List Bool) (a b : Nat) : (str l).extract a b = str ((l.drop a).take (b - a)) := by
  apply ByteArray.ext
  simp [str, ByteArray.data_extract, List.map_drop, List.map_take]

theorem info_u8 : (Try.prog.info? 5).map (fun i => (i.zero, i.size, i.bytes)) = some (some (.int .u8 0), 1, 1) := by kernel_rfl

/-- Bytes as cells. -/
def cellsOf (zs : List Nat) : List Value := zs.map fun z : Nat => Value.int .u8 ((z : Nat) : Int)

theorem cellsOf_snoc (zs : List Nat) (z : Nat) : cellsOf (zs ++ [z]) = cellsOf zs ++ [.int .u8 (z : Int)] := by simp [cellsOf]

end Go.Proofs.Ytbbcemgcanclnaa
