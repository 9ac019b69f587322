import Derived.Test.YtmgckfkdbepkdaaProg
import Derived.Test.YtmgckfkdbepkdaaMath
import Derived.WalkKit
import Derived.WalkSpells
import Derived.WalkLawsBesides
import Derived.Lib.Hide
namespace Go.Proofs.Ytmgckfkdbepkdaa
open Go.RowKit Go.Proofs Go.Proofs.PipeM

theorem und_bytes : Try.prog.underlying 36 = some (.slice 5) := by kernel_rfl
theorem und_u8 : Try.prog.underlying 5 = some (.int .u8) := by kernel_rfl
theorem und_string : Try.prog.underlying 9 = some .string := by kernel_rfl

/-- string([]byte{c}) -/
theorem conv_one (c : Int) (w : World) :
    (convert 36 9 (.slice (some ⟨w.heap.size, 0, none⟩) 1 1)).run Try.prog (w.alloc (.cells #[.int .u8 c] 5)) = .ok (.string (strOfNums [c])) (w.alloc (.cells #[.int .u8 c] 5)) := by
  refine run_convert_bytes_arg (w.alloc (.cells #[.int .u8 c] 5)) 36 5 und_bytes und_u8 w.heap.size 0 1 1 [c] rfl ?_ 9 und_string
  intro i hi
  obtain rfl : i = 0 := by omega
  simp

theorem digit_str (x : Nat) (b : Bool) (h : x % 2 = b.toNat) : strOfNums [48 + (x : Int) % 2] = str [b] := by
  have h2 : (48 + (x : Int) % 2) = ((48 + x % 2 : Nat) : Int) := by omega
  rw [h2, h]
  cases b <;> rfl

set_option maxHeartbeats 400000 in
theorem refPut (v n : Nat) (w : World) (hn : n ≤ 1000000) (hv : v ≤ 4611686018427387904) :
    Calls Try.prog 51 #[.int .i64 v, .int .i64 n] w fun e w' => e = .returned (.string (str (low v n))) ∧ Below w.heap.size w w' := by
  have hcv := conv_one
  go_enter Try.func51, Try.ntmps51
  go_wp2
  go_loopw [0, 5, 6] (fun x s i wr => ∃ k : Nat, k ≤ n ∧ i = .int .i64 k ∧ x = .int .i64 ((v / 2 ^ k : Nat) : Int) ∧ s = .string (str (low v k)) ∧ Below w.heap.size w wr)
    (fun _ _ i _ => n - (intOf i).toNat)
  case atStart => exact ⟨0, Nat.zero_le _, rfl, by simp, rfl, Below.refl _ _⟩
  case round =>
    obtain ⟨k, hk, rfl, rfl, rfl, hb⟩ := hrel
    by_cases hlt : k < n
    · obtain ⟨x, hx⟩ : ∃ x, x = v / 2 ^ k := ⟨_, rfl⟩
      have hxv : x ≤ v := by rw [hx]; exact Nat.div_le_self _ _
      rw [← hx]
      have hsz : (str (low v k)).size ≤ 1000000 := by rw [str_size, low_length]; omega
      have hone : (strOfNums [48 + (x : Int) % 2]).size ≤ 1 := by rw [strOfNums_size]; simp
      have hx2 : x / 2 = v / 2 ^ (k + 1) := by rw [hx, Nat.pow_succ, Nat.div_div_eq_div_mul]
      have hst : strOfNums [48 + (x : Int) % 2] ++ str (low v k) = str (low v (k + 1)) := by
        rw [digit_str x (v.testBit k) (by rw [Nat.toNat_testBit, hx]), ← str_append]; rfl
      have HX := Lib.hid hx2
      have HS := Lib.hid hst
      clear hx hx2 hst
      go_wp2
      go_roundw
      case rel => exact ⟨k + 1, by omega, by go_num, by rw [← HX.out]; go_num, by rw [← HS.out], hb.alloc hb.size _⟩
      case measure => simp [intOf]; omega
    · obtain rfl : k = n := by omega
      go_wp2
      go_ret
      exact ⟨rfl, hb⟩

/-- The cells of a slice of bytes. -/
def BytesAt (w : World) (ao : Option Addr) (zs : List Nat) : Prop :=
  ∀ j, j < zs.length → ∃ b off, ao = some ⟨b, off, none⟩ ∧ b < w.heap.size ∧ w.cell? ⟨b, off + j, none⟩ = some (.int .u8 ((zs.getD j 0 : Nat) : Int))

theorem BytesAt.below {w w' : World} {ao : Option Addr} {zs : List Nat} (h : BytesAt w ao zs) (hb : Below w.heap.size w w') : BytesAt w' ao zs := by
  intro j hj
  obtain ⟨b, off, h1, h2, h3⟩ := h j hj
  exact ⟨b, off, h1, Nat.lt_of_lt_of_le h2 hb.size, by rw [hb.cell (p := ⟨b, off + j, none⟩) h2, h3]⟩

theorem bitsOf_take (zs : List Nat) (k : Nat) (h : k < zs.length) : bitsOf (zs.take (k + 1)) = bitsOf (zs.take k) ++ low (zs.getD k 0) 8 := by
  rw [List.take_succ_eq_append_getElem h, bitsOf_append]
  simp [bitsOf, List.getD, List.getElem?_eq_getElem h]

set_option maxHeartbeats 400000 in
theorem refBits (ao : Option Addr) (cap : Nat) (zs : List Nat) (w : World) (hl : zs.length ≤ 100000) (hz : ∀ z ∈ zs, z < 256) (hc : BytesAt w ao zs) :
    Calls Try.prog 26 #[.slice ao zs.length cap] w fun e w' => e = .returned (.string (str (bitsOf zs))) ∧ Below w.heap.size w w' := by
  have HZ := Lib.hid hz
  have HC := Lib.hid hc
  clear hz hc
  go_enter Try.func26, Try.ntmps26
  go_wp2
  go_loopw [3, 7] (fun s i wr => ∃ k : Nat, k ≤ zs.length ∧ i = .int .i64 k ∧ s = .string (str (bitsOf (zs.take k))) ∧ Below w.heap.size w wr)
    (fun _ i _ => zs.length - (intOf i).toNat)
  case atStart => exact ⟨0, Nat.zero_le _, rfl, rfl, Below.refl _ _⟩
  case round =>
    obtain ⟨k, hk, rfl, rfl, hb⟩ := hrel
    by_cases hlt : k < zs.length
    · obtain ⟨b, off, rfl, h1, h2⟩ := (HC.out.below hb) k hlt
      have hz1 := getD_lt HZ.out k
      obtain ⟨z, hz2⟩ : ∃ z, z = zs.getD k 0 := ⟨_, rfl⟩
      rw [← hz2] at h2 hz1
      have hsz : (str (bitsOf (zs.take k))).size ≤ 800000 := by rw [str_size, bitsOf_length, List.length_take]; omega
      have hsz2 : (str (low z 8)).size ≤ 8 := by rw [str_size, low_length]; omega
      have hst : str (bitsOf (zs.take k)) ++ str (low z 8) = str (bitsOf (zs.take (k + 1))) := by
        rw [bitsOf_take zs k hlt, str_append, hz2]
      have HS := Lib.hid hst
      clear hst hz2
      go_wp2_with (go_at_call 51; refine (refPut z 8 _ (by omega) (by omega)).mono ?_; rintro e w1 ⟨rfl, hb1⟩)
      go_roundw
      case rel => exact ⟨k + 1, by omega, by go_num, by rw [← HS.out], hb.trans (hb1.mono hb.size)⟩
      case measure => simp [intOf]; omega
    · obtain rfl : k = zs.length := by omega
      go_wp2
      go_ret
      exact ⟨by rw [List.take_length]; rfl, hb⟩

theorem str_zeros (k : Nat) : str [false] ++ str (List.replicate k false ++ [true]) = str (List.replicate (k + 1) false ++ [true]) := by
  rw [← str_append]; rfl

def sizeOfV : Value → Nat | .string b => b.size | _ => 0

theorem rep_snoc (k : Nat) : List.replicate k false ++ [false] = List.replicate (k + 1) false := by
  rw [← List.replicate_succ']

set_option maxHeartbeats 400000 in
theorem refAlign (l : List Bool) (w : World) (hn : l.length ≤ 1000000) :
    Calls Try.prog 44 #[.string (str l)] w fun e w' => e = .returned (.string (str (pad l))) ∧ w = w' := by
  go_enter Try.func44, Try.ntmps44
  go_wp2
  go_loop [0] (fun s => ∃ k : Nat, k ≤ (8 - l.length % 8) % 8 ∧ s = .string (str (l ++ List.replicate k false))) (fun s => (l.length + 8) - sizeOfV s)
  case atStart => exact ⟨0, Nat.zero_le _, by simp⟩
  case round =>
    obtain ⟨k, hk, rfl⟩ := hrel
    have hsz : (str (l ++ List.replicate k false)).size = l.length + k := by rw [str_size]; simp
    by_cases hlt : k < (8 - l.length % 8) % 8
    · have hst : str (l ++ List.replicate k false) ++ str [false] = str (l ++ List.replicate (k + 1) false) := by
        rw [← str_append, List.append_assoc, rep_snoc]
      have HS := Lib.hid hst
      obtain ⟨s, hs⟩ : ∃ s, s = str (l ++ List.replicate k false) := ⟨_, rfl⟩
      rw [← hs] at hsz HS ⊢
      have h1 : s.size ≤ l.length + k := by omega
      have h2 : l.length + k ≤ s.size := by omega
      have hne : (((s.size : Int) % 8) != 0) = true := by rw [bne_iff_ne]; omega
      clear hs hst hsz
      go_wp2
      go_round
      case rel => exact ⟨k + 1, by omega, by rw [← HS.out]; rfl⟩
      case measure => have h48 : (ByteArray.mk #[48]).size = 1 := rfl; simp [sizeOfV, h48]; omega
    · obtain rfl : k = (8 - l.length % 8) % 8 := by omega
      obtain ⟨s, hs⟩ : ∃ s, s = str (l ++ List.replicate ((8 - l.length % 8) % 8) false) := ⟨_, rfl⟩
      have hs' : s = str (pad l) := hs
      rw [← hs] at hsz ⊢
      have hne : (((s.size : Int) % 8) != 0) = false := by rw [bne_eq_false_iff_eq]; omega
      have HS := Lib.hid hs'
      clear hs hs' hsz
      go_wp2
      go_ret
      exact ⟨by rw [← HS.out]; rfl, rfl⟩

theorem num_take_snoc (l : List Bool) (k : Nat) (h : k < l.length) : num (l.take (k + 1)) = 2 * num (l.take k) + (l[k]).toNat := by
  rw [List.take_succ_eq_append_getElem h, num_snoc]

theorem str_get (l : List Bool) (k : Nat) (h : k < l.length) (h' : k < (str l).size) : (str l)[k] = chr l[k] := by
  simp [str, ByteArray.getElem_eq_getElem_data]

theorem num_take_lt (l : List Bool) (k : Nat) (hl : l.length ≤ 50) : num (l.take k) < 1125899906842624 := by
  refine Nat.lt_of_lt_of_le (num_lt _) ?_
  have h : (l.take k).length ≤ 50 := by rw [List.length_take]; omega
  exact Nat.le_trans (Nat.pow_le_pow_right (by decide) h) (by decide)

set_option maxHeartbeats 400000 in
theorem refNumber (l : List Bool) (w : World) (hl : l.length ≤ 50) :
    Calls Try.prog 45 #[.string (str l)] w fun e w' => e = .returned (.int .i64 (num l)) ∧ w = w' := by
  have hsz := str_size l
  obtain ⟨s, hs⟩ : ∃ s, s = str l := ⟨_, rfl⟩
  rw [← hs] at hsz ⊢
  have h1 : s.size ≤ l.length := by omega
  have h2 : l.length ≤ s.size := by omega
  have HS := Lib.hid hs
  clear hs hsz
  go_enter Try.func45, Try.ntmps45
  go_wp2
  go_loop [3, 4] (fun v i => ∃ k : Nat, k ≤ l.length ∧ i = .int .i64 k ∧ v = .int .i64 (num (l.take k))) (fun _ i => l.length - (intOf i).toNat)
  case atStart => exact ⟨0, Nat.zero_le _, rfl, rfl⟩
  case round =>
    obtain ⟨k, hk, rfl, rfl⟩ := hrel
    have hb := num_take_lt l k hl
    obtain ⟨x, hx⟩ : ∃ x, x = num (l.take k) := ⟨_, rfl⟩
    rw [← hx] at hb ⊢
    by_cases hlt : k < l.length
    · have hn := num_take_snoc l k hlt
      have hg : ∀ h' : k < s.size, s[k] = chr l[k] := by subst x; have := HS.out; subst this; exact fun h' => str_get l k hlt h'
      have hks : k < s.size := by omega
      rw [← hx] at hn
      have HX := Lib.hid hx
      have HN := Lib.hid hn
      clear hx hn
      have HG := Lib.hid (hg hks)
      clear hg
      cases hbit : l[k]
      · have ht : ((s[k].toNat : Int) == 49) = false := by rw [HG.out, hbit]; rfl
        have HB := Lib.hid hbit
        clear hbit
        go_wp2
        go_round
        case rel => exact ⟨k + 1, by omega, by go_num, by rw [HN.out, HB.out]; simp; omega⟩
        case measure => simp [intOf]; omega
      · have ht : ((s[k].toNat : Int) == 49) = true := by rw [HG.out, hbit]; rfl
        have HB := Lib.hid hbit
        clear hbit
        go_wp2
        go_round
        case rel => exact ⟨k + 1, by omega, by go_num, by rw [HN.out, HB.out]; simp; omega⟩
        case measure => simp [intOf]; omega
    · obtain rfl : k = l.length := by omega
      have HX := Lib.hid hx
      clear hx
      go_wp2
      go_ret
      exact ⟨by rw [show num l = x by rw [HX.out, List.take_length]]; rfl, rfl⟩


theorem str_extract (l : List Bool) (a b : Nat) : (str l).extract a b = str ((l.drop a).take (b - a)) := by
  apply ByteArray.ext
  simp [str, ByteArray.data_extract, List.map_drop, List.map_take]

theorem info_u8 : (Try.prog.info? 5).map (fun i => (i.zero, i.size, i.bytes)) = some (some (.int .u8 0), 1, 1) := by kernel_rfl

/-- Bytes as cells. -/
def cellsOf (zs : List Nat) : List Value := zs.map fun z : Nat => Value.int .u8 ((z : Nat) : Int)

theorem cellsOf_snoc (zs : List Nat) (z : Nat) : cellsOf (zs ++ [z]) = cellsOf zs ++ [.int .u8 (z : Int)] := by simp [cellsOf]

set_option maxRecDepth 100000 in
set_option maxHeartbeats 400000 in
theorem refBytes (l : List Bool) (w : World) (hl : l.length ≤ 100000) :
    Calls Try.prog 19 #[.string (str l)] w fun e w' => ∃ v zs, e = .returned v ∧ Packs zs l ∧ w'.ownsRow w.heap.size 5 1 v zs.length (cellsOf zs) ∧ Below w.heap.size w w' := by
  obtain ⟨i0, hi, hz0, hz1, hz2⟩ := info_parts info_u8
  have hpl := pad_length l
  obtain ⟨m, hm⟩ : ∃ m, m = pad l := ⟨_, rfl⟩
  obtain ⟨q, hq⟩ : ∃ q, q = (l.length + 7) / 8 := ⟨_, rfl⟩
  rw [← hm, ← hq] at hpl
  have hq1 : q ≤ 20000 := by omega
  have hsz : (str m).size = 8 * q := by rw [str_size, hpl]
  have H1 := Lib.hid hpl
  have HM := Lib.hid hm
  clear hpl hq hm
  go_enter Try.func19, Try.ntmps19
  go_wp2_with (go_at_call 44; refine (refAlign l _ (by omega)).mono ?_; rintro e w1 ⟨rfl, rfl⟩; rw [← HM.out])
  obtain ⟨s, hs⟩ : ∃ s, s = str m := ⟨_, rfl⟩
  rw [← hs] at hsz ⊢
  have hs1 : s.size ≤ 8 * q := by omega
  have hs2 : 8 * q ≤ s.size := by omega
  have HS := Lib.hid hs
  clear hs hsz
  go_loopw [3, 4] (fun v i wr => ∃ (k : Nat) (zs : List Nat), k ≤ q ∧ i = .int .i64 ((8 * k : Nat) : Int) ∧ Hid (zs.length = k) ∧ Hid (∀ z ∈ zs, z < 256) ∧ Hid (bitsOf zs = m.take (8 * k)) ∧ wr.ownsRow w.heap.size 5 1 v k (cellsOf zs) ∧ Below w.heap.size w wr)
    (fun _ i _ => 8 * q - (intOf i).toNat)
  case atStart => exact ⟨0, [], Nat.zero_le _, rfl, rfl, by simp [Hid], rfl, World.ownsRow_nil _ _ _ _, Below.refl _ _⟩
  case round =>
    obtain ⟨k, zs, hk, rfl, HL, H256, HB, hown, hb⟩ := hrel
    by_cases hlt : k < q
    · have hd : (8 * (k : Int) < (s.size : Int)) := by omega
      have h8 : ((m.drop (8 * k)).take 8).length = 8 := by have := H1.out; simp; omega
      have hx : s.extract (8 * k) (8 * k + 8) = str ((m.drop (8 * k)).take 8) := by
        rw [HS.out, str_extract]; congr 2; omega
      have hn := num8_lt _ h8
      have hbits := bits_eight zs m k (by have := H1.out; omega) HB.out
      obtain ⟨z, hz⟩ : ∃ z, z = num ((m.drop (8 * k)).take 8) := ⟨_, rfl⟩
      rw [← hz] at hn hbits
      have HX := Lib.hid hx
      have H8 := Lib.hid h8
      have HBITS := Lib.hid hbits
      have HZ := Lib.hid hz
      clear hx h8 hbits hz
      go_wp2_with fail
      rw [HX.out]
      refine (refNumber _ _ (by rw [H8.out]; omega)).mono ?_
      rintro e w1 ⟨rfl, rfl⟩
      rw [← HZ.out]
      go_wp2_with (at_builtin; refine wpList_append_own _ rfl _ _ 36 rfl w.heap.size 5 i0 (.int .u8 0) 1 1 und_bytes hi hz0 hz1 hz2 rfl (by decide) _ _ _ rfl (hown.alloc _) ⟨wr.heap.size, 0, none⟩ 1 1 [.int .u8 (z : Int)] rfl rfl ?c1 ?c2 ?c3 ?c4 ?c5 ?_)
      case c1 =>
        intro j u hj
        match j, hj with
        | 0, hj => simp at hj; subst hj; simp [Addr.add]
      case c2 => intro u hu; simp at hu; subst hu; rfl
      case c3 => unfold maxLen; omega
      case c4 => omega
      case c5 => have := hb.size; simp; omega
      intro v' w2 hown' hgrow _
      have hb' : Below w.heap.size w w2 := (hb.alloc hb.size _).grown hgrow (by have := hb.size; simp; omega) (by
        intro g hg
        rcases hown.2 with ⟨rfl, _⟩ | ⟨g', cap, cur, rfl, h1, _⟩
        · cases hg
        · simp [Value.ownBlock] at hg; omega)
      rw [← cellsOf_snoc] at hown'
      clear hgrow hown
      go_wp2
      go_roundw
      case rel => exact ⟨k + 1, zs ++ [z], by omega, by go_num, by have := HL.out; simp [Hid]; exact this, by intro y hy; rw [List.mem_append] at hy; rcases hy with hy | hy; exact H256.out y hy; simp at hy; omega, HBITS.out, hown', hb'⟩
      case measure => simp [intOf]; omega
    · obtain rfl : k = q := by omega
      go_wp2
      go_ret
      refine ⟨_, zs, rfl, ⟨H256.out, ?_⟩, ?_, hb⟩
      · rw [HB.out, ← H1.out, List.take_length, HM.out]
      · rw [HL.out]; exact hown

end Go.Proofs.Ytmgckfkdbepkdaa
