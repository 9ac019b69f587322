import Derived.Test.YtefbakhhlonafaaRef3a
import Derived.Test.YtefbakhhlonafaaBlkG1
import Derived.Test.YtefbakhhlonafaaBlkC9
import Derived.Test.YtefbakhhlonafaaRef3g

section
namespace Go.Proofs.Ytefbakhhlonafaa
open Go.RowKit Go.Proofs Go.Proofs.PipeM Go.Proofs.PipeA

/-- Could an act be? -/
def actOk (k v n : Int) : Bool :=
  if k = 1 then decide (0 ≤ n ∧ n ≤ 48 ∧ 0 ≤ v ∧ v < 2 ^ n.toNat)
  else if k = 2 then decide (1 ≤ n ∧ n ≤ 48 ∧ -(2 ^ (n.toNat - 1)) ≤ v ∧ v < 2 ^ (n.toNat - 1))
  else if k = 3 then decide (0 ≤ n ∧ n ≤ 1000)
  else true

/-- The bits behind an act. -/
def actBits (l : List Bool) (k v n : Int) : List Bool :=
  if actOk k v n = false then l
  else if k = 1 then l ++ low v.toNat n.toNat
  else if k = 2 then l ++ low (v % 2 ^ n.toNat).toNat n.toNat
  else if k = 3 then l ++ (List.replicate n.toNat false ++ [true])
  else if k = 4 then pad l
  else l

theorem actBits_le (l : List Bool) (k v n : Int) : (actBits l k v n).length ≤ l.length + 1001 := by
  unfold actBits
  split
  · omega
  · rename_i h
    split
    · rename_i hk
      have : n ≤ 48 := by simp [actOk, hk] at h; omega
      simp [low_length]; omega
    · split
      · rename_i _ hk
        have : n ≤ 48 := by simp [actOk, hk] at h; omega
        simp [low_length]; omega
      · split
        · rename_i _ _ hk
          have : n ≤ 1000 := by simp [actOk, hk] at h; omega
          simp; omega
        · split
          · simp [pad]; omega
          · omega

/-- Any number, put as so many bits. -/
theorem wPut_any (b : Nat) (v : Value) (l : List Bool) (zs : List Nat) (x n : Int) (w : World) (hx : -9223372036854775808 ≤ x ∧ x ≤ 9223372036854775807) (hl : l.length ≤ 100000) (h : WrIs w b v l zs) :
    Calls Try.prog 33 #[.pointer (some ⟨b, 0, none⟩), .int .u64 (IntKind.u64.wrap x), .int .i64 n] w (Puts w b v (actOk 1 x n) (actBits l 1 x n)) := by
  rw [wrap_u64]
  by_cases hok : 0 ≤ n ∧ n ≤ 48 ∧ 0 ≤ x ∧ x < 2 ^ n.toNat
  · obtain ⟨h1, h2, h3, h4⟩ := hok
    obtain ⟨m, rfl⟩ := Int.eq_ofNat_of_zero_le h1
    obtain ⟨y, rfl⟩ := Int.eq_ofNat_of_zero_le h3
    have hy : y < 2 ^ m := by
      have e : ((2 ^ m : Nat) : Int) = (2 : Int) ^ m := by rw [Int.natCast_pow]; rfl
      rw [Int.toNat_natCast, ← e] at h4
      omega
    have e1 : ((y : Int) % 18446744073709551616).toNat = y := by omega
    have hok' : actOk 1 (y : Int) (m : Int) = true := by simp [actOk]; exact ⟨by omega, by simpa using h4⟩
    have e2 : actBits l 1 (y : Int) (m : Int) = l ++ low y m := by unfold actBits; rw [hok']; simp
    rw [e1, hok', e2]
    exact wPut_yes b v l zs y m w (by omega) hy hl h
  · have hok' : actOk 1 x n = false := by simp only [actOk, if_true]; exact decide_eq_false hok
    have e2 : actBits l 1 x n = l := by unfold actBits; rw [hok']; simp
    rw [hok', e2]
    refine (wPut_no b (x % 18446744073709551616).toNat n w ?_).mono ?_
    · by_cases h1 : n < 0
      · exact Or.inl h1
      · by_cases h2 : 48 < n
        · exact Or.inr (Or.inl h2)
        · refine Or.inr (Or.inr ⟨by omega, by omega, ?_⟩)
          obtain ⟨m, rfl⟩ := Int.eq_ofNat_of_zero_le (show 0 ≤ n by omega)
          rw [Int.toNat_natCast] at hok ⊢
          have e : ((2 ^ m : Nat) : Int) = (2 : Int) ^ m := by rw [Int.natCast_pow]; rfl
          rw [← e] at hok
          have h3 : 2 ^ m ≤ 2 ^ 48 := Nat.pow_le_pow_right (by decide) (by omega)
          by_cases h4 : 0 ≤ x
          · have : ¬ x < ((2 ^ m : Nat) : Int) := fun h5 => hok ⟨by omega, by omega, h4, h5⟩
            omega
          · omega
    · rintro e w' ⟨rfl, rfl⟩
      exact ⟨rfl, Wrote.refl h⟩

theorem wSigned_any (b : Nat) (v : Value) (l : List Bool) (zs : List Nat) (x n : Int) (w : World) (hl : l.length ≤ 100000) (h : WrIs w b v l zs) :
    Calls Try.prog 34 #[.pointer (some ⟨b, 0, none⟩), .int .i64 x, .int .i64 n] w (Puts w b v (actOk 2 x n) (actBits l 2 x n)) := by
  by_cases hok : 1 ≤ n ∧ n ≤ 48 ∧ -(2 ^ (n.toNat - 1)) ≤ x ∧ x < 2 ^ (n.toNat - 1)
  · have hok' : actOk 2 x n = true := by simp only [actOk]; exact decide_eq_true hok
    obtain ⟨h1, h2, h3, h4⟩ := hok
    obtain ⟨m, rfl⟩ := Int.eq_ofNat_of_zero_le (show 0 ≤ n by omega)
    rw [Int.toNat_natCast] at h3 h4
    have e2 : actBits l 2 x (m : Int) = l ++ low (x % 2 ^ m).toNat m := by unfold actBits; rw [hok']; simp
    rw [hok', e2]
    exact wSigned_yes b v l zs x m w (by omega) (by omega) h3 h4 hl h
  · have hok' : actOk 2 x n = false := by simp only [actOk]; exact decide_eq_false hok
    have e2 : actBits l 2 x n = l := by unfold actBits; rw [hok']; simp
    rw [hok', e2]
    refine (wSigned_no b x n w ?_).mono ?_
    · by_cases h1 : n < 1
      · exact Or.inl h1
      · by_cases h2 : 48 < n
        · exact Or.inr (Or.inl h2)
        · refine Or.inr (Or.inr ⟨by omega, by omega, ?_⟩)
          by_cases h4 : x < -(2 ^ (n.toNat - 1))
          · exact Or.inl h4
          · by_cases h5 : 2 ^ (n.toNat - 1) ≤ x
            · exact Or.inr h5
            · exact absurd ⟨by omega, by omega, Int.not_lt.1 h4, Int.not_le.1 h5⟩ hok
    · rintro e w' ⟨rfl, rfl⟩
      exact ⟨rfl, Wrote.refl h⟩

theorem wZeros_any (b : Nat) (v : Value) (l : List Bool) (zs : List Nat) (x n : Int) (w : World) (hl : l.length ≤ 100000) (h : WrIs w b v l zs) :
    Calls Try.prog 94 #[.pointer (some ⟨b, 0, none⟩), .int .i64 n] w (Puts w b v (actOk 3 x n) (actBits l 3 x n)) := by
  by_cases hok : 0 ≤ n ∧ n ≤ 1000
  · have hok' : actOk 3 x n = true := by simp only [actOk]; exact decide_eq_true hok
    obtain ⟨m, rfl⟩ := Int.eq_ofNat_of_zero_le hok.1
    have e2 : actBits l 3 x (m : Int) = l ++ (List.replicate m false ++ [true]) := by unfold actBits; rw [hok']; simp
    rw [hok', e2]
    exact wZeros_yes b v l zs m w (by omega) hl h
  · have hok' : actOk 3 x n = false := by simp only [actOk]; exact decide_eq_false hok
    have e2 : actBits l 3 x n = l := by unfold actBits; rw [hok']; simp
    rw [hok', e2]
    refine (wZeros_no b n w (by omega)).mono ?_
    rintro e w' ⟨rfl, rfl⟩
    exact ⟨rfl, Wrote.refl h⟩

end Go.Proofs.Ytefbakhhlonafaa
end

section
namespace Go.Proofs.Ytefbakhhlonafaa
open Go.RowKit Go.Proofs Go.Proofs.PipeM Go.Proofs.PipeA

/-- What the document's act answers. -/
def PutOf (l : List Bool) (k x n : Int) (w : World) (e : Ending) (w' : World) : Prop :=
  e = .returned (.tuple #[.string (str (actBits l k x n)), .bool (actOk k x n)]) ∧ Below w.heap.size w w'

theorem PutOf.no {l : List Bool} {k x n : Int} {w w' : World} (h : actOk k x n = false) (hb : Below w.heap.size w w') : PutOf l k x n w (.returned (.tuple #[.string (str l), .bool false])) w' := by
  have : actBits l k x n = l := by unfold actBits; rw [h]; simp
  exact ⟨by rw [this, h], hb⟩

theorem below_box (w : World) (o : Obj) (n : Nat) : Below w.heap.size w ((w.alloc o).drewN n) := (((Below.refl _ _).alloc (Nat.le_refl _) _).trans ⟨rfl, rfl, rfl, Nat.le_refl _, fun _ _ => rfl⟩)

theorem pow_cast (m : Nat) : ((2 ^ m : Nat) : Int) = (2 : Int) ^ m := by rw [Int.natCast_pow]; rfl

theorem mod_pow (x : Int) (m : Nat) (h0 : -(2 ^ m) ≤ x) (h1 : x < 2 ^ m) : (x % 2 ^ m).toNat = if x < 0 then (x + 2 ^ m).toNat else x.toNat := by
  have hp := pow_cast m
  have hp2 := Nat.two_pow_pos m
  generalize (2 : Int) ^ m = P at *
  split
  · rename_i h
    have : x % P = x + P := by
      rw [← Int.add_emod_right, Int.emod_eq_of_lt (by omega) (by omega)]
    rw [this]
  · rw [Int.emod_eq_of_lt (by omega) (by omega)]

end Go.Proofs.Ytefbakhhlonafaa
end

section
namespace Go.Proofs.Ytefbakhhlonafaa
open Go.RowKit Go.Proofs Go.Proofs.PipeM Go.Proofs.PipeA Go.Proofs.BlkM
open Go.Proofs.LatM (goodL)
open Go.Proofs.LagM (goodT)
set_option maxRecDepth 100000

theorem flat_take {α : Type} {l : List Int} {c : Nat} (f : Int → List α) (h : c < l.length) : (l.take (c + 1)).flatMap f = (l.take c).flatMap f ++ f l[c] := by
  rw [List.take_succ_eq_append_getElem h, List.flatMap_append]; simp
theorem flat_le (d : Nat) (l : List Int) (c : Nat) : ((l.take c).flatMap (sg d)).length ≤ l.length * d := by
  rw [flat_sg, List.length_take]
  exact Nat.mul_le_mul_right _ (by omega)
end Go.Proofs.Ytefbakhhlonafaa
end

section
namespace Go.Proofs.Ytefbakhhlonafaa
open Go.RowKit Go.Proofs Go.Proofs.PipeM Go.Proofs.PipeA Go.Proofs.BlkM Go.Proofs.BlkB
open Go.Proofs.LatM (goodL)
open Go.Proofs.LagM (goodT)
set_option maxRecDepth 100000

/-- What was written stays written, whatever memory is made. -/
theorem Wrote.still {w W W1 : World} {b : Nat} {v : Value} {l : List Bool} (h : Wrote w b v l W) (hb : Below W.heap.size W W1) : Wrote w b v l W1 := by
  obtain ⟨v1, zs1, h1, hk, ho⟩ := h
  exact ⟨v1, zs1, h1.keeps (keeps_of_below hb []) (by simp) (by simp), hk.trans (keeps_of_below hb _), ho⟩
theorem Wrote.cell {w W : World} {b : Nat} {v : Value} {l : List Bool} (h : Wrote w b v l W) {g off : Nat} (hg : g < w.heap.size) (ho : Off b v g) : W.cell? ⟨g, off, none⟩ = w.cell? ⟨g, off, none⟩ := by
  obtain ⟨v1, zs1, h1, hk, _⟩ := h
  exact hk.cell (p := ⟨g, off, none⟩) hg ho
theorem Wrote.ints {w W : World} {b : Nat} {v : Value} {l : List Bool} (h : Wrote w b v l W) {ao : Option Addr} {m : List Int} (hi : IntsAt w ao m) (ho : ∀ g off, 0 < m.length → ao = some ⟨g, off, none⟩ → Off b v g) : IntsAt W ao m := by
  obtain ⟨v1, zs1, h1, hk, _⟩ := h
  intro j hj
  exact hi.keeps hk (fun g off e => ho g off (by omega) e) j hj
theorem ints_lt {w : World} {ao : Option Addr} {m : List Int} (hi : IntsAt w ao m) {g off : Nat} (hl : 0 < m.length) (e : ao = some ⟨g, off, none⟩) : g < w.heap.size := by
  obtain ⟨g', off', e', hh, _⟩ := hi 0 hl
  rw [e] at e'
  cases e'
  exact hh
theorem Wrote.off {w W : World} {b : Nat} {v : Value} {l : List Bool} (h : Wrote w b v l W) : ∃ v1 zs1, WrIs W b v1 l zs1 ∧ (∀ g, g < w.heap.size → Off b v g → Off b v1 g) ∧ (∀ (l2 : List Bool) W2, Wrote W b v1 l2 W2 → Wrote w b v l2 W2) := by
  obtain ⟨v1, zs1, h1, hk, ho⟩ := h
  exact ⟨v1, zs1, h1, fun g hg hoff => hoff.next hg ho, fun l2 W2 h2 => Wrote.next hk ho h2⟩

set_option maxHeartbeats 1600000 in
theorem cPutEach (b : Nat) (v : Value) (l0 : List Bool) (zs : List Nat) (ao : Option Addr) (cap : Nat) (l : List Int) (d : Nat) (w : World) (hd1 : 1 ≤ d) (hd : d ≤ 26) (hin : ∀ x ∈ l, -(2 ^ (d - 1)) ≤ x ∧ x < 2 ^ (d - 1)) (hl : l.length ≤ 1000000) (hl0 : l0.length + l.length * d ≤ 100000) (hw : WrIs w b v l0 zs) (hi : IntsAt w ao l) (hoff : ∀ g off, 0 < l.length → ao = some ⟨g, off, none⟩ → Off b v g) :
    Calls Try.prog 36 #[.pointer (some ⟨b, 0, none⟩), .slice ao l.length cap, .int .i64 (d : Int)] w (Pushed w b v (l0 ++ l.flatMap (sg d))) := by
  have HW0 := Lib.hid (Wrote.refl hw)
  have HI := Lib.hid hi
  have HOF := Lib.hid hoff
  have HIN := Lib.hid hin
  have HSG := fun v1 l1 zs1 x W (h1 : -(2 ^ (d - 1)) ≤ x) (h2 : x < 2 ^ (d - 1)) (h3 : List.length l1 ≤ 100000) (h : WrIs W b v1 l1 zs1) => Lib.hid (wSigned_yes b v1 l1 zs1 x d W hd1 (by omega) h1 h2 h3 h)
  have HLD := Lib.hid hl0
  clear hi hoff hin hw hl0 hd hd1
  go_enter Try.func36, Try.ntmps36
  go_wp2
  go_loopg [7, 10] l.length (fun gk q i wr => ∃ c : Nat, c ≤ l.length ∧ gk + c = l.length ∧ i = .int .i64 c ∧ Hid (Wrote w b v (l0 ++ (l.take c).flatMap (sg d)) wr))
  case atStart => exact ⟨0, Nat.zero_le _, by omega, rfl, by simpa [Hid] using HW0.out⟩
  case round =>
    obtain ⟨c, hc, hgk, rfl, HT⟩ := hrel
    have HGK := Lib.hid hgk
    clear hgk
    by_cases hlt : c < l.length
    · obtain ⟨g, off, rfl, hg, hcell⟩ := (HT.out.ints HI.out HOF.out) c hlt
      have hx := HIN.out _ (List.getElem_mem hlt)
      obtain ⟨v1, zs1, hw1, _, hnx⟩ := HT.out.off
      have hl1 : (l0 ++ (l.take c).flatMap (sg d)).length ≤ 100000 := by
        have e : ((l.take c).flatMap (sg d)).length = c * d := by
          have : ∀ m : List Int, (m.flatMap (sg d)).length = m.length * d := fun m => by
            induction m with
            | nil => simp
            | cons y r ih => rw [List.flatMap_cons, List.length_append, ih, List.length_cons]; unfold sg; rw [low_length, Nat.succ_mul]; omega
          rw [this, List.length_take, Nat.min_eq_left (by omega)]
        have h2 : c * d ≤ l.length * d := Nat.mul_le_mul_right _ (by omega)
        have h3 := HLD.out
        rw [List.length_append, e]
        omega
      have HCA := HSG v1 _ zs1 l[c] wr hx.1 hx.2 hl1 hw1
      have HNX := Lib.hid hnx
      have HST : Hid ((l.take (c + 1)).flatMap (sg d) = (l.take c).flatMap (sg d) ++ sg d l[c]) := by
        show _ = _
        rw [List.take_succ_eq_append_getElem hlt, List.flatMap_append]
        simp
      generalize l[c] = x at hcell HCA HST
      have HEQ : Hid (sg d x = low ((x % 2 ^ d).toNat) d) := rfl
      clear hx hw1 hnx hl1 hg
      go_wp2_with fail
      refine HCA.out.mono ?_
      rintro e w2 ⟨rfl, hw2⟩
      have HW2 : Hid (Wrote w b v (l0 ++ (l.take (c + 1)).flatMap (sg d)) w2) := by
        have := HNX.out _ _ hw2
        rw [← HEQ.out, List.append_assoc, ← HST.out] at this
        exact this
      clear hw2 HCA
      go_wp2
      go_roundg (gk - 1)
      case rel => exact ⟨c + 1, by omega, by have := HGK.out; omega, by go_num, HW2⟩
      case measure => have := HGK.out; omega
    · obtain rfl : c = l.length := by omega
      have HF : Hid (Wrote w b v (l0 ++ l.flatMap (sg d)) wr) := by have := HT.out; rw [List.take_length] at this; exact this
      go_wp2
      go_end0
      exact ⟨rfl, HF.out⟩

/-- A term's bits. -/
def termBits (a g : Nat) : List Bool := if a = 0 then [false] else true :: (low a 8 ++ low g 4)
set_option maxHeartbeats 1600000 in
theorem cPutTerm (b : Nat) (v : Value) (l0 : List Bool) (zs : List Nat) (a g : Nat) (w : World) (ha : a ≤ 255) (hg : g ≤ 15) (hz : a = 0 → g = 0) (hl0 : l0.length ≤ 90000) (hw : WrIs w b v l0 zs) :
    Calls Try.prog 58 #[.pointer (some ⟨b, 0, none⟩), .agg #[.int .i64 (a : Int), .int .i64 (g : Int)]] w (Pushed w b v (l0 ++ termBits a g)) := by
  obtain ⟨W0, hW0⟩ : ∃ W0, W0 = w.alloc (.cells #[.int .i64 (a : Int), .int .i64 (g : Int)] 82) := ⟨_, rfl⟩
  have hb0 := box_below w (.cells #[.int .i64 (a : Int), .int .i64 (g : Int)] 82)
  have hn0 := World.alloc_heap_new w (.cells #[.int .i64 (a : Int), .int .i64 (g : Int)] 82)
  rw [← hW0] at hb0 hn0
  have hwr0 : Wrote w b v l0 W0 := (Wrote.refl hw).still hb0
  have hoffB : Off b v w.heap.size := Off.new hw (Nat.le_refl _)
  by_cases h0 : a = 0
  · obtain rfl := hz h0
    subst h0
    obtain ⟨v1, zs1, hw1, _, hnx⟩ := hwr0.off
    have HP := Lib.hid (wPut_yes b v1 l0 zs1 0 1 W0 (by omega) (by decide) (by omega) hw1)
    have HNX := Lib.hid hnx
    have HW0 : Hid (W0 = w.alloc (.cells #[.int .i64 0, .int .i64 0] 82)) := hW0
    have HE : Hid (termBits 0 0 = low 0 1) := rfl
    clear hb0 hn0 hwr0 hw1 hnx hW0 hw hz ha hg hoffB
    go_enter Try.func58, Try.ntmps58
    go_wp2_with fail
    rw [← HW0.out]
    refine HP.out.mono ?_
    rintro e w2 ⟨rfl, hw2⟩
    have HW2 := Lib.hid (HNX.out _ _ hw2)
    clear hw2
    go_wp2
    refine bodyPost_ret (results_none rfl _ _ _) rfl ?_
    exact ⟨rfl, by rw [HE.out]; exact HW2.out⟩
  · have t1 : ((a : Int) == (0 : Int)) = false := by rw [beq_eq_false_iff_ne]; omega
    have HCE : Hid (∀ (W : World) j val, W0.cell? ⟨w.heap.size, j, none⟩ = some val → ∀ l1, Wrote W0 b v l1 W → W.cell? ⟨w.heap.size, j, none⟩ = some val) := fun W j val h l1 hwr => (hwr.cell (g := w.heap.size) (off := j) (Array.getElem?_eq_some_iff.1 hn0).1 hoffB).trans h
    have hwi : WrIs W0 b v l0 zs := hw.keeps (keeps_of_below hb0 []) (by simp) (by simp)
    have HS : Hid (∀ l1 W, Wrote W0 b v l1 W → Wrote w b v l1 W) := fun l1 W h => Wrote.later (keeps_of_below hb0 []) h
    have HP := Lib.hid (wPut_yes b v l0 zs 1 1 W0 (by omega) (by decide) (by omega) hwi)
    have HP2 : Hid (∀ (x n : Nat) (l1 : List Bool) (W : World), n ≤ 48 → x < 2 ^ n → l1.length ≤ 100000 → Wrote W0 b v l1 W → Calls Try.prog 33 #[.pointer (some ⟨b, 0, none⟩), .int .u64 x, .int .i64 n] W fun e W' => e = .returned (.bool true) ∧ Wrote W0 b v (l1 ++ low x n) W') := fun x n l1 W h1 h2 h3 hwr => by
      obtain ⟨v1, zs1, hw1, _, hnx⟩ := hwr.off
      refine (wPut_yes b v1 l1 zs1 x n W h1 h2 h3 hw1).mono ?_
      rintro e W' ⟨h4, h5⟩
      exact ⟨h4, hnx _ _ h5⟩
    have hk0 : W0.cell? ⟨w.heap.size, 0, none⟩ = some (.int .i64 (a : Int)) := by rw [cell_of_heap hn0]; rfl
    have hk1 : W0.cell? ⟨w.heap.size, 1, none⟩ = some (.int .i64 (g : Int)) := by rw [cell_of_heap hn0]; rfl
    have HK0 := Lib.hid hk0
    have HK1 := Lib.hid hk1
    have HW0 := Lib.hid hW0
    have HE : Hid (((l0 ++ low 1 1) ++ low a 8) ++ low g 4 = l0 ++ termBits a g) := by
      show _ = _
      unfold termBits
      rw [if_neg h0, show low 1 1 = [true] from rfl]
      simp
    have HL1 : Hid ((l0 ++ low 1 1).length ≤ 100000) := by show _ ≤ _; rw [List.length_append, low_length]; omega
    have HL2 : Hid (((l0 ++ low 1 1) ++ low a 8).length ≤ 100000) := by show _ ≤ _; rw [List.length_append, List.length_append, low_length, low_length]; omega
    have ha8 : a < 2 ^ 8 := by omega
    have hg4 : g < 2 ^ 4 := by omega
    have HA8 := Lib.hid ha8
    have HG4 := Lib.hid hg4
    have hau : IntKind.u64.wrap (a : Int) = (a : Int) := by rw [IntKind.wrap_u64]; omega
    have hgu : IntKind.u64.wrap (g : Int) = (g : Int) := by rw [IntKind.wrap_u64]; omega
    clear hb0 hn0 hwr0 hW0 hw hz hg hoffB hwi hk0 hk1 ha8 hg4 h0
    go_enter Try.func58, Try.ntmps58
    go_wp2_with fail
    rw [← HW0.out]
    refine HP.out.mono ?_
    rintro e w2 ⟨rfl, hw2⟩
    have HW2 := Lib.hid hw2
    have k0 := HCE.out w2 0 _ HK0.out _ hw2
    clear hw2
    go_wp2_with fail
    refine (HP2.out a 8 _ w2 (by omega) HA8.out HL1.out HW2.out).mono ?_
    rintro e w3 ⟨rfl, hw3⟩
    have HW3 := Lib.hid hw3
    have k1 := HCE.out w3 1 _ HK1.out _ hw3
    clear hw3 k0
    go_wp2_with fail
    refine (HP2.out g 4 _ w3 (by omega) HG4.out HL2.out HW3.out).mono ?_
    rintro e w4 ⟨rfl, hw4⟩
    rw [HE.out] at hw4
    have HW4 := Lib.hid (HS.out _ _ hw4)
    clear hw4 k1
    go_wp2
    go_end0
    exact ⟨rfl, HW4.out⟩
end Go.Proofs.Ytefbakhhlonafaa
end

section
namespace Go.Proofs.Ytefbakhhlonafaa
open Go.RowKit Go.Proofs Go.Proofs.PipeM Go.Proofs.PipeA Go.Proofs.BlkM
open Go.Proofs.LatM (goodL)
set_option maxRecDepth 100000

theorem bits_normal_str (s a g : Nat) (part : Int) (index rice data : List Int) (m : Nat) : str (bitsB ⟨2, 0, s, index, a, g, part, rice, data⟩ m) = str (low 2 2) ++ str (low s 5) ++ str (low index.length 5) ++ str (index.flatMap (sg 7)) ++ (if a = 0 then ByteArray.mk #[48] else ByteArray.mk #[49] ++ str (low a 8) ++ str (low g 4)) ++ str (slideBits data part rice) := by
  have e : bitsB ⟨2, 0, s, index, a, g, part, rice, data⟩ m = low 2 2 ++ (low s 5 ++ (low index.length 5 ++ (index.flatMap (sg 7) ++ ((if a = 0 then [false] else true :: (low a 8 ++ low g 4)) ++ slideBits data part rice)))) := by
    unfold bitsB
    rw [if_neg (by simp), if_neg (by simp), if_pos rfl]
    by_cases h : a = 0
    · subst h; rfl
    · rw [if_neg (show ¬ ((a : Int) = 0) by omega), if_neg h]; rfl
  rw [e]
  by_cases h : a = 0
  · rw [if_pos h, if_pos h]
    have : ByteArray.mk #[48] = str [false] := rfl
    rw [this]
    simp only [str_append, ByteArray.append_assoc]
  · rw [if_neg h, if_neg h]
    have : ByteArray.mk #[49] = str [true] := rfl
    rw [this]
    have e2 : true :: (low a 8 ++ low g 4) = [true] ++ (low a 8 ++ low g 4) := rfl
    rw [e2]
    simp only [str_append, ByteArray.append_assoc]
theorem slide_size {data rice : List Int} {part : Int} (hp : slideOk data part rice = true) : (slideBits data part rice).length ≤ 1000000 := by
  obtain ⟨p, rfl, h3, hk1, hk8, hk0, hl1, hl2, hs1, hs2, hsp, hks, hin⟩ := slide_parts hp
  have := elemBits_len (data.length / rice.length) rice data data.length
  unfold slideBits
  rw [if_pos hp, listBits, ← elem_body _ (by omega) rice data hsp, List.length_append, low_length]
  omega
theorem good_ix {l : List Int} (h : goodL l = true) : ∀ x ∈ l, -64 ≤ x ∧ x < 64 := fun x hx => by
  unfold goodL at h
  rw [Bool.and_eq_true] at h
  have := of_decide_eq_true (List.all_eq_true.1 h.1 x hx)
  omega

end Go.Proofs.Ytefbakhhlonafaa
end
