/- Mathematics of sums of bytes: a register goes on by S a bit; what is fed is added (exclusive or) ahead; S is linear and loses nothing; multiplying by what S makes of 1 is going on. -/
namespace Go.Proofs.TollM
set_option maxRecDepth 100000

/-- The polynomial, reflected. -/
def PL : Nat := 3988292384

/-- The register goes on by one bit. -/
def S (r : Nat) : Nat := r / 2 ^^^ (if r % 2 = 1 then PL else 0)

/-- .. by so many. -/
def Sn : Nat → Nat → Nat
  | 0, r => r
  | n + 1, r => Sn n (S r)

theorem Sn_add (m n r : Nat) : Sn (m + n) r = Sn n (Sn m r) := by
  induction m generalizing r with
  | zero => simp [Sn]
  | succ m ih => rw [show m + 1 + n = (m + n) + 1 by omega]; simp only [Sn]; exact ih _

theorem Sn_succ' (n r : Nat) : Sn (n + 1) r = S (Sn n r) := by rw [Sn_add n 1 r]; rfl

theorem xor_div2 (a b : Nat) : (a ^^^ b) / 2 = a / 2 ^^^ b / 2 := by
  have := Nat.shiftRight_xor_distrib (a := a) (b := b) (i := 1)
  simpa [Nat.shiftRight_eq_div_pow] using this

theorem xor_mod2 (a b : Nat) : ((a ^^^ b) % 2 = 1) ↔ ¬ ((a % 2 = 1) ↔ (b % 2 = 1)) := Nat.xor_mod_two_eq_one

theorem S_xor (a b : Nat) : S (a ^^^ b) = S a ^^^ S b := by
  unfold S
  rw [xor_div2]
  by_cases ha : a % 2 = 1 <;> by_cases hb : b % 2 = 1 <;> simp only [xor_mod2, ha, hb, if_true, if_false, iff_true, iff_false, not_true, not_false_iff, iff_self, Nat.xor_zero]
  · rw [show a / 2 ^^^ PL ^^^ (b / 2 ^^^ PL) = a / 2 ^^^ b / 2 ^^^ (PL ^^^ PL) by ac_rfl, Nat.xor_self, Nat.xor_zero]
  · ac_rfl
  · ac_rfl

theorem Sn_xor (n a b : Nat) : Sn n (a ^^^ b) = Sn n a ^^^ Sn n b := by
  induction n generalizing a b with
  | zero => rfl
  | succ n ih => simp only [Sn, S_xor, ih]

theorem S_zero : S 0 = 0 := by decide
theorem Sn_zero (n : Nat) : Sn n 0 = 0 := by
  induction n with
  | zero => rfl
  | succ n ih => simp only [Sn, S_zero, ih]

theorem S_double (x : Nat) : S (2 * x) = x := by
  unfold S
  rw [if_neg (by omega), Nat.xor_zero]; omega

theorem Sn_shift (n x : Nat) : Sn n (x * 2 ^ n) = x := by
  induction n generalizing x with
  | zero => simp [Sn]
  | succ n ih => 
    simp only [Sn]
    rw [show x * 2 ^ (n + 1) = 2 * (x * 2 ^ n) by rw [Nat.pow_succ]; ac_rfl, S_double, ih]

theorem S_lt {a : Nat} (h : a < 2 ^ 32) : S a < 2 ^ 32 := by
  unfold S
  apply Nat.xor_lt_two_pow
  · omega
  · split <;> decide

theorem Sn_lt (n : Nat) {a : Nat} (h : a < 2 ^ 32) : Sn n a < 2 ^ 32 := by
  induction n generalizing a with
  | zero => exact h
  | succ n ih => exact ih (S_lt h)

/-- Nothing is lost. -/
theorem S_eq_zero {a : Nat} (h : a < 2 ^ 32) (e : S a = 0) : a = 0 := by
  unfold S at e
  split at e
  · have hb := congrArg (Nat.testBit · 31) e
    simp only [Nat.testBit_xor, Nat.zero_testBit] at hb
    rw [Nat.testBit_lt_two_pow (show a / 2 < 2 ^ 31 by omega)] at hb
    exact absurd hb (by decide)
  · rw [Nat.xor_zero] at e; omega

theorem Sn_eq_zero (n : Nat) {a : Nat} (h : a < 2 ^ 32) (e : Sn n a = 0) : a = 0 := by
  induction n generalizing a with
  | zero => exact e
  | succ n ih => exact S_eq_zero h (ih (S_lt h) e)

/-- A number's lowest bit, and the others. -/
theorem low_split (c : Nat) : c = c % 2 ^^^ 2 * (c / 2) := by
  apply Nat.eq_of_testBit_eq
  intro i
  rw [Nat.testBit_xor]
  cases i with
  | zero => simp [Nat.testBit_zero]
  | succ i =>
    rw [Nat.testBit_succ, Nat.testBit_succ, Nat.testBit_succ]
    have h1 : c % 2 / 2 = 0 := by omega
    have h2 : 2 * (c / 2) / 2 = c / 2 := by omega
    rw [h1, h2]; simp

/-- Bits fed one behind the other, the lowest first. -/
def feed : Nat → Nat → Nat → Nat
  | 0, s, _ => s
  | n + 1, s, c => feed n (S (s ^^^ c % 2)) (c / 2)

theorem feed_eq (n s c : Nat) (h : c < 2 ^ n) : feed n s c = Sn n (s ^^^ c) := by
  induction n generalizing s c with
  | zero => 
    have : c = 0 := by simpa using h
    subst this; simp [feed, Sn]
  | succ n ih =>
    simp only [feed, Sn]
    rw [ih _ _ (by rw [Nat.pow_succ] at h; omega)]
    congr 1
    conv => rhs; rw [low_split c, ← Nat.xor_assoc, S_xor, S_double]

/-- A register behind bytes. -/
def reg (s : Nat) (l : List Nat) : Nat := l.foldl (fun s c => Sn 8 (s ^^^ c)) s

theorem reg_append (s : Nat) (l m : List Nat) : reg s (l ++ m) = reg (reg s l) m := by simp [reg]

/-- Bytes as one number, the first the lowest. -/
def num : List Nat → Nat
  | [] => 0
  | c :: l => c ^^^ 256 * num l

theorem Sn8 (x : Nat) : Sn 8 (256 * x) = x := by
  have := Sn_shift 8 x
  rwa [show x * 2 ^ 8 = 256 * x by omega] at this

theorem reg_eq (s : Nat) (l : List Nat) : reg s l = Sn (8 * l.length) (s ^^^ num l) := by
  induction l generalizing s with
  | nil => simp [reg, num, Sn]
  | cons c l ih =>
    have : reg s (c :: l) = reg (Sn 8 (s ^^^ c)) l := rfl
    rw [this, ih, List.length_cons, show 8 * (l.length + 1) = 8 + 8 * l.length by omega, Sn_add]
    congr 1
    simp only [num]
    rw [← Nat.xor_assoc, Sn_xor 8 (s ^^^ c), Sn8]

theorem reg_lt {s : Nat} (l : List Nat) (h : s < 2 ^ 32) (hl : ∀ c ∈ l, c < 256) : reg s l < 2 ^ 32 := by
  induction l generalizing s with
  | nil => exact h
  | cons c l ih =>
    have : reg s (c :: l) = reg (Sn 8 (s ^^^ c)) l := rfl
    rw [this]
    refine ih (Sn_lt 8 (Nat.xor_lt_two_pow h ?_)) fun x hx => hl x (by simp [hx])
    have := hl c (by simp); omega

theorem num_zeros (n : Nat) : num (List.replicate n 0) = 0 := by
  induction n with
  | zero => rfl
  | succ n ih => simp [List.replicate_succ, num, ih]

/-- Bytes 0 only go on. -/
theorem reg_zeros (s n : Nat) : reg s (List.replicate n 0) = Sn (8 * n) s := by
  rw [reg_eq, num_zeros]; simp

/-- One bit of the bytes, turned. -/
theorem num_set (l : List Nat) (j k : Nat) (h : j < l.length) : num (l.set j (l[j] ^^^ 2 ^ k)) = num l ^^^ 2 ^ (8 * j + k) := by
  induction l generalizing j with
  | nil => simp at h
  | cons c l ih =>
    cases j with
    | zero => simp only [List.set_cons_zero, List.getElem_cons_zero, num]; rw [show 8 * 0 + k = k by omega]; ac_rfl
    | succ j =>
      simp only [List.set_cons_succ, List.getElem_cons_succ, num]
      rw [ih j (by simpa using h)]
      have e : 256 * (num l ^^^ 2 ^ (8 * j + k)) = 256 * num l ^^^ 2 ^ (8 * (j + 1) + k) := by
        have := Nat.shiftLeft_xor_distrib (a := num l) (b := 2 ^ (8 * j + k)) (i := 8)
        rw [Nat.shiftLeft_eq, Nat.shiftLeft_eq, Nat.shiftLeft_eq, show (2:Nat) ^ 8 = 256 by decide] at this
        rw [Nat.mul_comm 256, this, Nat.mul_comm (num l)]
        congr 1
        rw [show 8 * (j + 1) + k = (8 * j + k) + 8 by omega, Nat.pow_add 2 (8 * j + k) 8]
      rw [e, Nat.xor_assoc]

/-- The sum. -/
def sum (l : List Nat) : Nat := 4294967295 ^^^ reg 4294967295 l

theorem sum_lt (l : List Nat) (hl : ∀ c ∈ l, c < 256) : sum l < 4294967296 :=
  Nat.xor_lt_two_pow (n := 32) (by decide) (reg_lt l (by decide) hl)

theorem not_eq {x : Nat} (h : x < 4294967296) : 4294967295 ^^^ x = 4294967295 - x := by
  apply Nat.eq_of_testBit_eq
  intro i
  have h1 := Nat.testBit_two_pow_sub_one 32 i
  have h2 := Nat.testBit_two_pow_sub_succ (n := 32) (x := x) h i
  rw [show (2:Nat) ^ 32 - 1 = 4294967295 by decide] at h1
  rw [show 2 ^ 32 - (x + 1) = 4294967295 - x by omega] at h2
  rw [Nat.testBit_xor, h1, h2]
  by_cases hi : i < 32
  · simp [hi]
  · rw [Nat.testBit_lt_two_pow (Nat.lt_of_lt_of_le h (Nat.pow_le_pow_right (n := 2) (i := 32) (by decide) (by omega)))]; simp [hi]

/-- Bytes that differ within 32 bits: their sums are alike just if they don't. -/
theorem window {l m : List Nat} {a d : Nat} (hlen : m.length = l.length) (ha : a ≤ 8 * l.length) (hd : d < 2 ^ 32) (e : num m = num l ^^^ d * 2 ^ a) :
    sum m = sum l ↔ d = 0 := by
  have hx : sum m ^^^ sum l = Sn (8 * l.length - a) d := by
    unfold sum
    rw [reg_eq, reg_eq, hlen, e]
    rw [show 4294967295 ^^^ (num l ^^^ d * 2 ^ a) = (4294967295 ^^^ num l) ^^^ d * 2 ^ a by rw [Nat.xor_assoc], Sn_xor]
    generalize Sn (8 * l.length) (4294967295 ^^^ num l) = X
    have : Sn (8 * l.length) (d * 2 ^ a) = Sn (8 * l.length - a) d := by
      conv => lhs; rw [show 8 * l.length = a + (8 * l.length - a) by omega, Sn_add, Sn_shift]
    rw [this]
    generalize Sn (8 * l.length - a) d = Y
    rw [show 4294967295 ^^^ (X ^^^ Y) ^^^ (4294967295 ^^^ X) = Y ^^^ ((4294967295 ^^^ 4294967295) ^^^ (X ^^^ X)) by ac_rfl, Nat.xor_self, Nat.xor_self]; simp
  constructor
  · intro h
    rw [h, Nat.xor_self] at hx
    exact Sn_eq_zero _ hd hx.symm
  · intro h
    rw [h, Sn_zero] at hx
    have := congrArg (· ^^^ sum l) hx
    simpa [Nat.xor_assoc] using this

/-- So many steps of the product. -/
def horner : Nat → Nat → Nat → Nat → Nat
  | 0, p, _, _ => p
  | n + 1, p, a, b => horner n (S p ^^^ (if b % 2 = 1 then a else 0)) a (b / 2)

theorem pick_xor (a b c : Nat) : (if (b ^^^ c) % 2 = 1 then a else 0) = (if b % 2 = 1 then a else 0) ^^^ (if c % 2 = 1 then a else 0) := by
  by_cases hb : b % 2 = 1 <;> by_cases hc : c % 2 = 1 <;> simp [hb, hc]

theorem horner_b (n p q a b c : Nat) : horner n (p ^^^ q) a (b ^^^ c) = horner n p a b ^^^ horner n q a c := by
  induction n generalizing p q b c with
  | zero => rfl
  | succ n ih =>
    simp only [horner]
    rw [← ih, xor_div2, S_xor, pick_xor]
    congr 1
    ac_rfl

theorem horner_a (n p q a a' b : Nat) : horner n (p ^^^ q) (a ^^^ a') b = horner n p a b ^^^ horner n q a' b := by
  induction n generalizing p q b with
  | zero => rfl
  | succ n ih =>
    simp only [horner]
    rw [← ih, S_xor]
    congr 1
    split
    · ac_rfl
    · rw [Nat.xor_zero, Nat.xor_zero, Nat.xor_zero]

def mul (a b : Nat) : Nat := horner 32 0 a b

theorem mul_xor_right (a b c : Nat) : mul a (b ^^^ c) = mul a b ^^^ mul a c := by
  have := horner_b 32 0 0 a b c
  simpa [mul] using this
theorem mul_xor_left (a b c : Nat) : mul (a ^^^ b) c = mul a c ^^^ mul b c := by
  have := horner_a 32 0 0 a b c
  simpa [mul] using this

theorem horner_top (n a : Nat) : horner (n + 1) 0 a (2 ^ n) = a := by
  induction n with
  | zero => simp [horner, S_zero]
  | succ n ih =>
    rw [horner, if_neg (by rw [Nat.pow_succ]; omega), S_zero, show (2:Nat) ^ (n + 1) / 2 = 2 ^ n by rw [Nat.pow_succ]; omega]
    simpa using ih

theorem horner_more (n p a b : Nat) (h : b < 2 ^ n) : horner (n + 1) p a b = S (horner n p a b) := by
  induction n generalizing p b with
  | zero =>
    have : b = 0 := by simpa using h
    subst this; simp [horner]
  | succ n ih =>
    rw [horner, ih _ _ (by rw [Nat.pow_succ] at h; omega)]
    rfl

theorem horner_none (n p a : Nat) : horner n p a 0 = Sn n p := by
  induction n generalizing p with
  | zero => rfl
  | succ n ih => simp [horner, ih, Sn]

theorem mul_zero (b : Nat) : mul 0 b = 0 := by
  have : ∀ n b, horner n 0 0 b = 0 := by
    intro n
    induction n with
    | zero => intro b; rfl
    | succ n ih => intro b; simp [horner, S_zero, ih]
  exact this 32 b

/-- The highest bit, and the others. -/
theorem high_split (n a : Nat) (h : a < 2 ^ (n + 1)) : a = a % 2 ^ n ^^^ (if a.testBit n then 2 ^ n else 0) := by
  apply Nat.eq_of_testBit_eq
  intro i
  rw [Nat.testBit_xor, Nat.testBit_mod_two_pow]
  by_cases hi : i < n
  · have : (if a.testBit n then 2 ^ n else 0).testBit i = false := by
      split
      · rw [Nat.testBit_two_pow]; simp; omega
      · simp
    simp [hi, this]
  · by_cases he : i = n
    · subst he
      cases hb : a.testBit i <;> simp
    · have h1 : a.testBit i = false := Nat.testBit_lt_two_pow (Nat.lt_of_lt_of_le h (Nat.pow_le_pow_right (by decide) (by omega)))
      have : (if a.testBit n then 2 ^ n else 0).testBit i = false := by
        split
        · rw [Nat.testBit_two_pow]; simp; omega
        · simp
      simp [hi, h1, this]

theorem basis : ∀ j, j < 32 → mul (2 ^ j) PL = Sn 32 (2 ^ j) := by decide

/-- x to the 32 is what the polynomial says. -/
theorem mul_PL (n : Nat) (hn : n ≤ 32) (a : Nat) (h : a < 2 ^ n) : mul a PL = Sn 32 a := by
  induction n generalizing a with
  | zero =>
    have : a = 0 := by simpa using h
    subst this; rw [mul_zero, Sn_zero]
  | succ n ih =>
    rw [high_split n a h, mul_xor_left, Sn_xor, ih (by omega) _ (Nat.mod_lt _ (Nat.two_pow_pos n))]
    congr 1
    split
    · exact basis n (by omega)
    · rw [mul_zero, Sn_zero]

theorem mul_S {a b : Nat} (ha : a < 2 ^ 32) (hb : b < 2 ^ 32) : mul a (S b) = S (mul a b) := by
  have even : ∀ c, c < 2 ^ 31 → mul a c = S (mul a (2 * c)) := by
    intro c hc
    have e : mul a (2 * c) = horner 31 0 a c := by
      unfold mul
      rw [horner, if_neg (by omega), S_zero, show 2 * c / 2 = c by omega]; simp
    rw [e]
    exact horner_more 31 0 a c hc
  have e1 : mul a 1 = Sn 31 a := by
    unfold mul
    rw [horner, if_pos rfl, S_zero]
    simpa using horner_none 31 a a
  have hs := low_split b
  by_cases ho : b % 2 = 1
  · have hSb : S b = b / 2 ^^^ PL := by unfold S; rw [if_pos ho]
    rw [hSb, mul_xor_right, mul_PL 32 (by decide) a ha, even (b / 2) (by omega)]
    conv => rhs; rw [hs, ho, mul_xor_right, S_xor, e1]
    rw [Sn_succ' 31 a]; ac_rfl
  · have hSb : S b = b / 2 := by unfold S; rw [if_neg ho, Nat.xor_zero]
    rw [hSb, even (b / 2) (by omega), show 2 * (b / 2) = b by omega]

/-- To multiply by what going on makes of 1 is to go on. -/
theorem mul_Sn (k : Nat) {a : Nat} (ha : a < 2 ^ 32) : mul a (Sn k (2 ^ 31)) = Sn k a := by
  induction k with
  | zero => exact horner_top 31 a
  | succ k ih => rw [Sn_succ', mul_S ha (Sn_lt k (by decide)), ih, Sn_succ']

/-- Sums of four bits. -/
def tab : List Nat := [0, 498536548, 997073096, 651767980, 1994146192, 1802195444, 1303535960, 1342533948, 3988292384, 4027552580, 3604390888, 3412177804, 2607071920, 2262029012, 2685067896, 3183342108]

theorem tab_four : ∀ k, k < 16 → Sn 4 k = tab.getD k 0 := by decide

theorem four (r : Nat) : r / 16 ^^^ tab.getD (r % 16) 0 = Sn 4 r := by
  have e : r = r % 2 ^ 4 ^^^ (r / 16) * 2 ^ 4 := by
    apply Nat.eq_of_testBit_eq
    intro i
    rw [Nat.testBit_xor, Nat.testBit_mod_two_pow]
    by_cases hi : i < 4
    · rw [Nat.mul_comm, Nat.testBit_two_pow_mul]; simp [hi, show ¬ 4 ≤ i by omega]
    · rw [Nat.mul_comm, Nat.testBit_two_pow_mul]
      rw [show r / 16 = r / 2 ^ 4 by rfl, Nat.testBit_div_two_pow, show i - 4 + 4 = i by omega]
      simp [hi, show 4 ≤ i by omega]
  conv => rhs; rw [e, Sn_xor, Sn_shift, show (2:Nat) ^ 4 = 16 by decide, tab_four _ (Nat.mod_lt _ (by decide))]
  exact Nat.xor_comm _ _

/-- Sums, joined. -/
theorem join (l m : List Nat) : Sn (8 * m.length) (sum l) ^^^ sum m = sum (l ++ m) := by
  unfold sum
  rw [reg_append, Sn_xor, reg_eq _ m, reg_eq _ m, Sn_xor, Sn_xor]
  generalize Sn (8 * m.length) 4294967295 = A
  generalize Sn (8 * m.length) (reg 4294967295 l) = B
  generalize Sn (8 * m.length) (num m) = C
  rw [show A ^^^ B ^^^ (4294967295 ^^^ (A ^^^ C)) = 4294967295 ^^^ (B ^^^ C) ^^^ (A ^^^ A) by ac_rfl, Nat.xor_self, Nat.xor_zero]

theorem example9 : sum [49, 50, 51, 52, 53, 54, 55, 56, 57] = 3421780262 := by decide
end Go.Proofs.TollM
