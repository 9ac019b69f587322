import Derived.Laws.BitsAllLaws
namespace Go.Proofs.PipeM

/-- The lowest n bits of v, the highest first. -/
def low (v : Nat) : Nat → List Bool
  | 0 => []
  | n + 1 => v.testBit n :: low v n

/-- Bytes as bits. -/
def bitsOf : List Nat → List Bool
  | [] => []
  | z :: zs => low z 8 ++ bitsOf zs

/-- The number of bits. -/
def num (l : List Bool) : Nat := l.foldl (fun a b => 2 * a + b.toNat) 0

/-- A bit as a letter; bits as letters. -/
def chr (b : Bool) : UInt8 := if b then 49 else 48
def str (l : List Bool) : ByteArray := ⟨(l.map chr).toArray⟩

theorem low_length (v n : Nat) : (low v n).length = n := by
  induction n with
  | zero => rfl
  | succ n ih => simp [low, ih]

theorem bitsOf_length (zs : List Nat) : (bitsOf zs).length = 8 * zs.length := by
  induction zs with
  | nil => rfl
  | cons z zs ih => simp [bitsOf, low_length, ih]; omega

theorem bitsOf_append (a b : List Nat) : bitsOf (a ++ b) = bitsOf a ++ bitsOf b := by
  induction a with
  | nil => rfl
  | cons z zs ih => simp [bitsOf, ih]

theorem low_get (v n p : Nat) (h : p < n) : (low v n)[p]? = some (v.testBit (n - 1 - p)) := by
  induction n generalizing p with
  | zero => omega
  | succ n ih =>
    cases p with
    | zero => simp [low]
    | succ p =>
      simp only [low, List.getElem?_cons_succ]
      rw [ih p (by omega)]
      congr 2; omega

theorem bitsOf_get (zs : List Nat) (p : Nat) (h : p < 8 * zs.length) : (bitsOf zs)[p]? = some ((zs.getD (p / 8) 0).testBit (7 - p % 8)) := by
  induction zs generalizing p with
  | nil => simp at h
  | cons z zs ih =>
    simp only [bitsOf]
    by_cases hp : p < 8
    · rw [List.getElem?_append_left (by rw [low_length]; exact hp), low_get _ _ _ hp]
      have e1 : p / 8 = 0 := by omega
      have e2 : p % 8 = p := by omega
      rw [e1, e2]; simp
    · rw [List.getElem?_append_right (by rw [low_length]; omega), low_length, ih _ (by simp at h; omega)]
      have e1 : p / 8 = (p - 8) / 8 + 1 := by omega
      have e2 : p % 8 = (p - 8) % 8 := by omega
      rw [e1, e2]; simp

theorem num_snoc (l : List Bool) (b : Bool) : num (l ++ [b]) = 2 * num l + b.toNat := by simp [num]

theorem foldl_num (l : List Bool) (a : Nat) : l.foldl (fun a b => 2 * a + b.toNat) a = a * 2 ^ l.length + num l := by
  induction l generalizing a with
  | nil => simp [num]
  | cons b l ih =>
    simp only [List.foldl_cons, num, List.length_cons]
    rw [ih, ih]
    simp only [Nat.mul_zero, Nat.zero_add, Nat.add_mul, Nat.pow_succ]
    rw [Nat.mul_comm 2 a, Nat.mul_assoc, Nat.mul_comm 2, Nat.add_assoc]

theorem num_cons (b : Bool) (l : List Bool) : num (b :: l) = b.toNat * 2 ^ l.length + num l := by
  have := foldl_num l b.toNat
  simpa [num] using this

theorem num_lt (l : List Bool) : num l < 2 ^ l.length := by
  induction l with
  | nil => simp [num]
  | cons b l ih =>
    rw [num_cons, List.length_cons, Nat.pow_succ]
    cases b <;> simp <;> omega

theorem testBit_mod (v n : Nat) : v % 2 ^ (n + 1) = (v.testBit n).toNat * 2 ^ n + v % 2 ^ n := by
  rw [Nat.toNat_testBit, Nat.pow_succ, Nat.mod_mul, Nat.add_comm, Nat.mul_comm]

theorem num_low (v n : Nat) : num (low v n) = v % 2 ^ n := by
  induction n with
  | zero => simp [low, num, Nat.mod_one]
  | succ n ih => rw [low, num_cons, low_length, ih, testBit_mod]

theorem num_zero (l : List Bool) : num l = 0 ↔ ∀ b ∈ l, b = false := by
  induction l with
  | nil => simp [num]
  | cons b l ih =>
    rw [num_cons]
    have := Nat.two_pow_pos l.length
    cases b
    · simp [ih]
    · simp

theorem low_congr (v u n : Nat) (h : ∀ k, k < n → v.testBit k = u.testBit k) : low v n = low u n := by
  induction n with
  | zero => rfl
  | succ n ih => rw [low, low, h n (by omega), ih (fun k hk => h k (by omega))]

theorem low_mod (v n : Nat) : low (v % 2 ^ n) n = low v n :=
  low_congr _ _ _ fun k hk => by simp [Nat.testBit_mod_two_pow, hk]

theorem low_num (l : List Bool) : low (num l) l.length = l := by
  induction l with
  | nil => rfl
  | cons b l ih =>
    have hl := num_lt l
    rw [List.length_cons, low, num_cons]
    have e1 : low (b.toNat * 2 ^ l.length + num l) l.length = l := by
      rw [← low_mod, Nat.add_comm, Nat.add_mul_mod_self_right, Nat.mod_eq_of_lt hl, ih]
    rw [e1]
    congr 1
    cases b
    · simp [Nat.testBit_lt_two_pow hl]
    · simp only [Bool.toNat_true, Nat.one_mul]
      rw [Nat.testBit_two_pow_add_eq]; simp [Nat.testBit_lt_two_pow hl]

theorem str_size (l : List Bool) : (str l).size = l.length := by simp [str, ByteArray.size]
theorem str_nil : str [] = ⟨#[]⟩ := rfl
theorem str_append (a b : List Bool) : str (a ++ b) = str a ++ str b := by
  apply ByteArray.ext
  simp [str, ByteArray.data_append]
theorem chr_inj {a b : Bool} (h : chr a = chr b) : a = b := by revert h; cases a <;> cases b <;> decide

theorem map_chr_inj : ∀ {a b : List Bool}, a.map chr = b.map chr → a = b
  | [], [], _ => rfl
  | [], _ :: _, h => by simp at h
  | _ :: _, [], h => by simp at h
  | x :: a, y :: b, h => by
    simp only [List.map_cons, List.cons.injEq] at h
    rw [chr_inj h.1, map_chr_inj h.2]

theorem str_inj {a b : List Bool} (h : str a = str b) : a = b := by
  have : (str a).data.toList = (str b).data.toList := by rw [h]
  exact map_chr_inj (by simpa [str] using this)


/-- Bits with bits 0 up to a whole byte. -/
def pad (l : List Bool) : List Bool := l ++ List.replicate ((8 - l.length % 8) % 8) false

theorem pad_length (l : List Bool) : (pad l).length = 8 * ((l.length + 7) / 8) := by simp [pad]; omega

/-- The bytes whose bits are these, with bits 0 up to a whole byte. -/
def Packs (zs : List Nat) (l : List Bool) : Prop := (∀ z ∈ zs, z < 256) ∧ bitsOf zs = pad l

theorem Packs.length {zs : List Nat} {l : List Bool} (h : Packs zs l) : zs.length = (l.length + 7) / 8 := by
  have := congrArg List.length h.2
  rw [bitsOf_length, pad_length] at this
  omega

theorem bitsOf_inj : ∀ {a b : List Nat}, (∀ z ∈ a, z < 256) → (∀ z ∈ b, z < 256) → bitsOf a = bitsOf b → a = b
  | [], [], _, _, _ => rfl
  | [], y :: b, _, _, h => by have := congrArg List.length h; simp [bitsOf_length] at this
  | x :: a, [], _, _, h => by have := congrArg List.length h; simp [bitsOf_length] at this
  | x :: a, y :: b, h1, h2, h => by
    simp only [bitsOf] at h
    have h3 := List.append_inj h (by rw [low_length, low_length])
    have h4 : num (low x 8) = num (low y 8) := by rw [h3.1]
    rw [num_low, num_low, Nat.mod_eq_of_lt (h1 x (by simp)), Nat.mod_eq_of_lt (h2 y (by simp))] at h4
    rw [h4, bitsOf_inj (fun z hz => h1 z (by simp [hz])) (fun z hz => h2 z (by simp [hz])) h3.2]

theorem Packs.unique {a b : List Nat} {l : List Bool} (ha : Packs a l) (hb : Packs b l) : a = b :=
  bitsOf_inj ha.1 hb.1 (ha.2.trans hb.2.symm)

theorem packs_nil : Packs [] [] := ⟨by simp, rfl⟩

theorem low8_num (l : List Bool) (h : l.length = 8) : low (num l) 8 = l := by
  have := low_num l; rw [h] at this; exact this

theorem num8_lt (l : List Bool) (h : l.length = 8) : num l < 256 := by
  have := num_lt l; rw [h] at this; exact this

/-- Eight bits more. -/
theorem bits_eight (zs : List Nat) (m : List Bool) (k : Nat) (hk : 8 * k + 8 ≤ m.length) (h : bitsOf zs = m.take (8 * k)) :
    bitsOf (zs ++ [num ((m.drop (8 * k)).take 8)]) = m.take (8 * (k + 1)) := by
  rw [bitsOf_append, h]
  have h8 : ((m.drop (8 * k)).take 8).length = 8 := by simp; omega
  simp only [bitsOf, List.append_nil]
  rw [low8_num _ h8, Nat.mul_add, Nat.mul_one, List.take_add]

/-- A byte with one more bit. -/
def orBit (z : Nat) (b : Bool) (c : Nat) : Nat := z ||| (b.toNat * 2 ^ (7 - c % 8))

theorem orBit_test (z : Nat) (b : Bool) (c k : Nat) : (orBit z b c).testBit k = (z.testBit k || (b && decide (k = 7 - c % 8))) := by
  unfold orBit
  rw [Nat.testBit_or]
  congr 1
  cases b
  · simp
  · rw [Bool.toNat_true, Nat.one_mul, Nat.testBit_two_pow, Bool.true_and]
    by_cases h : 7 - c % 8 = k
    · simp [h]
    · simp [h, Ne.symm h]

theorem orBit_lt (z : Nat) (b : Bool) (c : Nat) (hz : z < 256) : orBit z b c < 256 := by
  unfold orBit
  have h1 : b.toNat * 2 ^ (7 - c % 8) < 2 ^ 8 := by
    have h2 : 2 ^ (7 - c % 8) ≤ 2 ^ 7 := Nat.pow_le_pow_right (by decide) (by omega)
    cases b
    · simp
    · rw [Bool.toNat_true, Nat.one_mul]; omega
  exact Nat.or_lt_two_pow (n := 8) hz h1

theorem orBit_wrap (z : Nat) (b : Bool) (c : Nat) (hz : z < 256) :
    bits .or .u8 (z : Int) (((b.toNat : Nat) : Int) * 2 ^ (7 - c % 8) % 256) = ((orBit z b c : Nat) : Int) := by
  have h2 : 2 ^ (7 - c % 8) ≤ 2 ^ 7 := Nat.pow_le_pow_right (by decide) (by omega)
  have h1 : b.toNat * 2 ^ (7 - c % 8) < 256 := by
    cases b
    · simp
    · rw [Bool.toNat_true, Nat.one_mul]; omega
  have e : (((b.toNat : Nat) : Int) * 2 ^ (7 - c % 8) % 256) = ((b.toNat * 2 ^ (7 - c % 8) : Nat) : Int) := by
    have e2 : (((b.toNat * 2 ^ (7 - c % 8) : Nat)) : Int) = ((b.toNat : Nat) : Int) * 2 ^ (7 - c % 8) := by
      rw [Int.natCast_mul, Int.natCast_pow]; rfl
    rw [← e2]; omega
  rw [e, u8_or_nat _ _ hz h1]; rfl

/-- One bit more, in a byte that is there: bits 0 stand behind. -/
theorem bits_or (zs : List Nat) (l : List Bool) (b : Bool) (j : Nat) (h : bitsOf zs = l ++ List.replicate (j + 1) false) :
    bitsOf (zs.set (l.length / 8) (orBit (zs.getD (l.length / 8) 0) b l.length)) = l ++ [b] ++ List.replicate j false := by
  have hlen : 8 * zs.length = l.length + (j + 1) := by
    have := congrArg List.length h
    rw [bitsOf_length] at this
    simpa using this
  apply List.ext_getElem?
  intro p
  by_cases hp : p < 8 * zs.length
  · rw [bitsOf_get _ _ (by simpa using hp)]
    have hold := bitsOf_get zs p hp
    rw [h] at hold
    by_cases hq : p / 8 = l.length / 8
    · have e1 : (zs.set (l.length / 8) (orBit (zs.getD (l.length / 8) 0) b l.length)).getD (p / 8) 0 = orBit (zs.getD (p / 8) 0) b l.length := by
        rw [hq]; simp [List.getD, show l.length / 8 < zs.length by omega]
      rw [e1, orBit_test]
      rw [List.append_assoc]
      rcases Nat.lt_trichotomy p l.length with hlt | heq | hgt
      · rw [List.getElem?_append_left hlt] at hold ⊢
        rw [hold]
        have : ¬ (7 - p % 8 = 7 - l.length % 8) := by omega
        simp [this]
      · subst heq
        rw [List.getElem?_append_right (Nat.le_refl _)] at hold ⊢
        simp only [Nat.sub_self, List.replicate_succ, List.getElem?_cons_zero, Option.some.injEq] at hold
        rw [← hold]; simp
      · rw [List.getElem?_append_right (by omega)] at hold ⊢
        have e2 : p - l.length = (p - l.length - 1) + 1 := by omega
        rw [e2] at hold ⊢
        simp only [List.replicate_succ, List.getElem?_cons_succ, List.cons_append, List.nil_append] at hold ⊢
        rw [hold]
        have : ¬ (7 - p % 8 = 7 - l.length % 8) := by omega
        simp [this]
    · have e1 : (zs.set (l.length / 8) (orBit (zs.getD (l.length / 8) 0) b l.length)).getD (p / 8) 0 = zs.getD (p / 8) 0 := by
        simp [List.getD, Ne.symm hq]
      rw [e1, List.append_assoc]
      rcases Nat.lt_trichotomy p l.length with hlt | heq | hgt
      · rw [List.getElem?_append_left hlt] at hold ⊢
        rw [hold]
      · omega
      · rw [List.getElem?_append_right (by omega)] at hold ⊢
        have e2 : p - l.length = (p - l.length - 1) + 1 := by omega
        rw [e2] at hold ⊢
        simp only [List.replicate_succ, List.getElem?_cons_succ, List.cons_append, List.nil_append] at hold ⊢
        rw [hold]
  · rw [List.getElem?_eq_none (by rw [bitsOf_length]; simpa using hp), List.getElem?_eq_none (by simp; omega)]

theorem mem_set_lt {zs : List Nat} (hz : ∀ z ∈ zs, z < 256) (i x : Nat) (hx : x < 256) : ∀ z ∈ zs.set i x, z < 256 := by
  intro z h
  rcases List.mem_or_eq_of_mem_set h with h | h
  · exact hz z h
  · omega

theorem getD_lt {zs : List Nat} (hz : ∀ z ∈ zs, z < 256) (j : Nat) : zs.getD j 0 < 256 := by
  by_cases h : j < zs.length
  · simp only [List.getD, List.getElem?_eq_getElem h, Option.getD_some]; exact hz _ (List.getElem_mem h)
  · simp [List.getD, List.getElem?_eq_none (show zs.length ≤ j by omega)]

/-- A bit more within the last byte. -/
theorem Packs.push {zs : List Nat} {l : List Bool} (h : Packs zs l) (b : Bool) (h8 : l.length % 8 ≠ 0) :
    Packs (zs.set (l.length / 8) (orBit (zs.getD (l.length / 8) 0) b l.length)) (l ++ [b]) := by
  refine ⟨mem_set_lt h.1 _ _ (orBit_lt _ _ _ (getD_lt h.1 _)), ?_⟩
  obtain ⟨j, hj⟩ : ∃ j, (8 - l.length % 8) % 8 = j + 1 := ⟨(8 - l.length % 8) % 8 - 1, by omega⟩
  have h2 := h.2
  unfold pad at h2
  rw [hj] at h2
  rw [bits_or zs l b j h2]
  unfold pad
  congr 2
  simp
  omega

/-- A bit more, in a new byte. -/
theorem Packs.push_new {zs : List Nat} {l : List Bool} (h : Packs zs l) (b : Bool) (h8 : l.length % 8 = 0) :
    Packs ((zs ++ [0]).set (l.length / 8) (orBit ((zs ++ [0]).getD (l.length / 8) 0) b l.length)) (l ++ [b]) := by
  have hz : ∀ z ∈ zs ++ [0], z < 256 := by
    intro z hz
    rw [List.mem_append] at hz
    rcases hz with hz | hz
    · exact h.1 z hz
    · simp at hz; omega
  refine ⟨mem_set_lt hz _ _ (orBit_lt _ _ _ (getD_lt hz _)), ?_⟩
  have h2 : bitsOf (zs ++ [0]) = l ++ List.replicate (7 + 1) false := by
    rw [bitsOf_append, h.2]
    unfold pad
    rw [h8]
    simp [bitsOf, low]
  rw [bits_or _ l b 7 h2]
  unfold pad
  congr 2
  simp
  omega

end Go.Proofs.PipeM
