import Derived.Test.YtnfpkjnllkkngaaGreatDoorRiceC1
import Derived.Test.YtnfpkjnllkkngaaGreatDoorRef3b

section
namespace Go.Proofs.YtnfpkjnllkkngaaGreatDoor
open Go.RowKit Go.Proofs Go.Proofs.PipeM Go.Proofs.PipeA

/-- The program's reader and the document's. -/
structure Sim (s : RS) (m : MR) : Prop where
  err : s.err = m.fail
  bits : m.fail = 0 → s.bits = m.bits
  spent : m.fail ≠ 0 → s.bits = []

theorem Sim.give {s : RS} {m : MR} (h : Sim s m) (e : Int) : Sim (s.give e) (m.give e) := by
  unfold RS.give MR.give
  by_cases hf : m.fail = 0
  · have hs : s.err = 0 := h.err.trans hf
    rw [if_pos hf]
    by_cases he : e = 0
    · rw [if_pos (Or.inl he), he]
      exact ⟨hs, fun _ => h.bits hf, fun hc => absurd rfl hc⟩
    · rw [if_neg (by rintro (h1 | h1); exact he h1; exact h1 hs)]
      exact ⟨rfl, fun hc => absurd hc he, fun _ => rfl⟩
  · rw [if_neg hf, if_pos (Or.inr (by rw [h.err]; exact hf))]
    exact h

theorem RS.give_spent {s : RS} (h : s.err ≠ 0) (e : Int) : s.give e = s := by unfold RS.give; rw [if_pos (Or.inr h)]
theorem MR.give_spent {m : MR} (h : m.fail ≠ 0) (e : Int) : m.give e = m := by unfold MR.give; rw [if_neg h]

theorem Sim.take {s : RS} {m : MR} (h : Sim s m) (n : Int) : Sim (s.takeS n) (m.take n).1 ∧ s.takeV n = (m.take n).2 := by
  unfold RS.takeS RS.takeV MR.take
  by_cases hn : n < 0 ∨ 48 < n
  · rw [if_pos hn, if_pos hn, if_neg (by omega)]
    exact ⟨h.give 1, rfl⟩
  · rw [if_neg hn, if_neg hn]
    by_cases hf : m.fail = 0
    · have hb := h.bits hf
      rw [hb]
      by_cases hl : (m.bits.length : Int) < n
      · rw [if_pos hl, if_pos hl, if_neg (by omega)]
        exact ⟨h.give 3, rfl⟩
      · rw [if_neg hl, if_neg hl, if_neg (by simp [hf]), if_pos (by omega)]
        exact ⟨⟨h.err, fun _ => rfl, fun hc => absurd hf hc⟩, rfl⟩
    · have hb := h.spent hf
      have hs : s.err ≠ 0 := by rw [h.err]; exact hf
      rw [hb]
      have e1 : (if (m.bits.length : Int) < n then (m.give 3, 0) else if m.fail ≠ 0 then (m, 0) else (⟨m.bits.drop n.toNat, m.all, m.fail⟩, num (m.bits.take n.toNat))) = (m, 0) := by
        by_cases hl : (m.bits.length : Int) < n
        · rw [if_pos hl, MR.give_spent hf]
        · rw [if_neg hl, if_pos hf]
      rw [e1]
      refine ⟨?_, ?_⟩
      · by_cases hl : ((([] : List Bool).length : Nat) : Int) < n
        · rw [if_pos hl, RS.give_spent hs]; exact h
        · rw [if_neg hl]
          exact ⟨h.err, fun hc => absurd hc hf, fun _ => by simp⟩
      · split
        · simp [num]
        · rfl

theorem zgo_rgo (most all : Int) (l : List Bool) (c : Nat) : Sim (zgo most 0 l c).2 (rgo most all l c).1 ∧ (zgo most 0 l c).1 = (rgo most all l c).2 := by
  induction l generalizing c with
  | nil => exact ⟨⟨rfl, fun hc => by simp [rgo] at hc, fun _ => rfl⟩, rfl⟩
  | cons b r ih =>
    cases b
    · rw [zgo, rgo]
      by_cases h : most ≤ (c : Int)
      · rw [if_pos h, if_pos h]
        exact ⟨⟨rfl, fun hc => by simp at hc, fun _ => rfl⟩, rfl⟩
      · rw [if_neg h, if_neg h]; exact ih (c + 1)
    · exact ⟨⟨rfl, fun _ => rfl, fun hc => absurd rfl hc⟩, rfl⟩

theorem Sim.zeros {s : RS} {m : MR} (h : Sim s m) (most : Int) : Sim (zgo most s.err s.bits 0).2 (m.run most).1 ∧ (zgo most s.err s.bits 0).1 = (m.run most).2 := by
  unfold MR.run
  by_cases hf : m.fail = 0
  · rw [if_neg (by simp [hf]), h.err, hf, h.bits hf]
    exact zgo_rgo most m.all m.bits 0
  · have hs : s.err ≠ 0 := by rw [h.err]; exact hf
    rw [if_pos hf, h.spent hf, zgo]
    refine ⟨?_, rfl⟩
    rw [RS.give_spent (by simpa using hs)]
    exact ⟨h.err, fun hc => absurd hc hf, fun _ => rfl⟩

/-- Rice's Take. -/
def RS.zeros (s : RS) (most : Int) : Nat × RS := zgo most s.err s.bits 0
def RS.riceA (t : RS) (v q k : Nat) : RS × Int := if t.err ≠ 0 then (t, 0) else (t, unfoldN (q * 2 ^ k + v))
def RS.riceB (t : RS) (v k : Nat) : RS × Int :=
  if (if v / 2 ^ k < 24 then t.give 2 else t).err ≠ 0 then ((if v / 2 ^ k < 24 then t.give 2 else t), 0) else ((if v / 2 ^ k < 24 then t.give 2 else t), unfoldN v)
def RS.rice (s : RS) (k : Int) : RS × Int :=
  if k < 0 ∨ 24 < k then (s.give 1, 0)
  else if (s.zeros 24).1 < 24 then RS.riceA ((s.zeros 24).2.takeS k) ((s.zeros 24).2.takeV k) (s.zeros 24).1 k.toNat
  else RS.riceB ((s.zeros 24).2.takeS 34) ((s.zeros 24).2.takeV 34) k.toNat

theorem Sim.rice {s : RS} {m : MR} (h : Sim s m) (k : Int) : Sim (s.rice k).1 (m.rice k).1 ∧ (s.rice k).2 = (m.rice k).2 := by
  unfold RS.rice MR.rice
  by_cases hk : k < 0 ∨ 24 < k
  · rw [if_pos hk, if_pos hk]; exact ⟨h.give 1, rfl⟩
  · rw [if_neg hk, if_neg hk]
    obtain ⟨hz1, hz2⟩ := h.zeros 24
    have e1 : (s.zeros 24).1 = (m.run 24).2 := hz2
    have e2 : Sim (s.zeros 24).2 (m.run 24).1 := hz1
    rw [e1]
    by_cases hq : (m.run 24).2 < 24
    · rw [if_pos hq, if_pos hq]
      obtain ⟨ht1, ht2⟩ := e2.take k
      unfold RS.riceA MR.riceA
      rw [ht2, ht1.err]
      split
      · exact ⟨ht1, rfl⟩
      · exact ⟨ht1, rfl⟩
    · rw [if_neg hq, if_neg hq]
      obtain ⟨ht1, ht2⟩ := e2.take 34
      unfold RS.riceB MR.riceB
      rw [ht2]
      by_cases hd : ((m.run 24).1.take 34).2 / 2 ^ k.toNat < 24
      · have hg := ht1.give 2
        simp only [if_pos hd]
        rw [hg.err]
        split
        · exact ⟨hg, rfl⟩
        · exact ⟨hg, rfl⟩
      · simp only [if_neg hd]
        rw [ht1.err]
        split
        · exact ⟨ht1, rfl⟩
        · exact ⟨ht1, rfl⟩
end Go.Proofs.YtnfpkjnllkkngaaGreatDoor
end

section
namespace Go.Proofs.YtnfpkjnllkkngaaGreatDoor
open Go.RowKit Go.Proofs Go.Proofs.PipeM Go.Proofs.PipeA

end Go.Proofs.YtnfpkjnllkkngaaGreatDoor
end

section
namespace Go.Proofs.YtnfpkjnllkkngaaGreatDoor
open Go.RowKit Go.Proofs Go.Proofs.PipeM Go.Proofs.PipeA

/-- How many bits 0, what comes behind them, and in how many bits. -/
def parts3 (n : Int) (k : Nat) : Nat × Nat × Nat := if foldN n / 2 ^ k < 24 then (foldN n / 2 ^ k, foldN n % 2 ^ k, k) else (24, foldN n, 34)
theorem codeV_parts (n : Int) (k : Nat) : codeV n k = codeVal (parts3 n k).1 (parts3 n k).2.1 (parts3 n k).2.2 := by
  unfold codeV parts3; split <;> rfl
theorem parts3_bits (n : Int) (k : Nat) : codeBits n k = (List.replicate (parts3 n k).1 false ++ [true]) ++ low (parts3 n k).2.1 (parts3 n k).2.2 := by
  unfold codeBits codeZ parts3; split <;> rfl
theorem parts3_lt (n : Int) (k : Nat) (h : InR n) (hk : k ≤ 24) : (parts3 n k).1 ≤ 24 ∧ (parts3 n k).2.1 < 2 ^ (parts3 n k).2.2 ∧ (parts3 n k).2.2 ≤ 34 := by
  unfold parts3
  split
  · exact ⟨by simp; omega, Nat.mod_lt _ (Nat.two_pow_pos k), by simp; omega⟩
  · exact ⟨by simp, foldN_lt h, by simp⟩

set_option maxHeartbeats 800000 in
theorem cCost_yes (n : Int) (k : Nat) (w : World) (h : InR n) (hk : k ≤ 24) :
    Calls Tryz.prog 91 #[.int .i64 n, .int .i64 k] w fun e w' => e = .returned (.int .i64 (costN n k)) ∧ Below w.heap.size w w' := by
  have HC := fun W => Lib.hid (cCode_yes n k W h hk)
  rw [codeV_parts] at HC
  have hl := codeBits_length n k
  rw [parts3_bits] at hl
  simp [low_length] at hl
  obtain ⟨l1, l2, l3⟩ := parts3_lt n k h hk
  obtain ⟨⟨a, b, c⟩, hp⟩ : ∃ p, p = parts3 n k := ⟨_, rfl⟩
  rw [← hp] at HC hl l1 l2 l3
  simp only at hl l1 l2 l3 HC
  have HL := Lib.hid hl
  clear hl hp l2
  simp only [codeVal] at HC
  go_enter Tryz.func91, Tryz.ntmps91
  go_wp2_with fail
  refine (HC _).out.mono ?_
  rintro e w1 ⟨rfl, hb⟩
  have HB := Lib.hid hb
  clear hb
  go_wp2
  go_ret
  exact ⟨by rw [← HL.out]; show Ending.returned (Value.int .i64 ((a : Int) + 1 + (c : Int))) = _; congr 2; omega, HB.out.alloc HB.out.size _⟩

set_option maxHeartbeats 800000 in
theorem cCost (n k : Int) (w : World) :
    Calls Tryz.prog 91 #[.int .i64 n, .int .i64 k] w fun e w' => e = .returned (.int .i64 ((codeOf n k).length : Nat)) ∧ Below w.heap.size w w' := by
  by_cases h : codeOk n k = true
  · have h4 : -8589934592 ≤ n ∧ n ≤ 8589934591 ∧ 0 ≤ k ∧ k ≤ 24 := of_decide_eq_true h
    obtain ⟨m, rfl⟩ := Int.eq_ofNat_of_zero_le h4.2.2.1
    have e : (codeOf n (m : Int)).length = costN n m := by unfold codeOf; rw [if_pos h, Int.toNat_natCast, codeBits_length]
    rw [e]
    exact cCost_yes n m w ⟨h4.1, h4.2.1⟩ (by omega)
  · have h' : codeOk n k = false := by simpa using h
    have e : (codeOf n k).length = 0 := by unfold codeOf; rw [h']; rfl
    rw [e]
    have HC := fun W => Lib.hid (cCode_no n k W h')
    simp only [codeVal] at HC
    clear h h' e
    go_enter Tryz.func91, Tryz.ntmps91
    go_wp2_with fail
    refine (HC _).out.mono ?_
    rintro e w1 ⟨rfl, hb⟩
    have HB := Lib.hid hb
    clear hb
    go_wp2
    go_ret
    exact ⟨rfl, HB.out.alloc HB.out.size _⟩

end Go.Proofs.YtnfpkjnllkkngaaGreatDoor
end

section
namespace Go.Proofs.YtnfpkjnllkkngaaGreatDoor
open Go.RowKit Go.Proofs Go.Proofs.PipeM Go.Proofs.PipeA

set_option maxHeartbeats 400000 in
theorem cTotal (ao : Option Addr) (cap : Nat) (l : List Int) (k : Nat) (w : World) (hl : l.length ≤ 100000) (hi : IntsAt w ao l) (hr : ∀ n ∈ l, InR n) (hk : k ≤ 24) :
    Calls Tryz.prog 96 #[.slice ao l.length cap, .int .i64 k] w fun e w' => e = .returned (.int .i64 (totalN l k)) ∧ Below w.heap.size w w' := by
  have HI := Lib.hid hi
  have HR := Lib.hid hr
  clear hi hr
  go_enter Tryz.func96, Tryz.ntmps96
  go_wp2
  go_loopg [5, 7, 10] l.length (fun gk s q i wr => ∃ c : Nat, c ≤ l.length ∧ gk + c = l.length ∧ i = .int .i64 c ∧ s = .int .i64 (totalN (l.take c) k) ∧ Hid (Below w.heap.size w wr))
  case atStart => exact ⟨0, Nat.zero_le _, by omega, rfl, rfl, Below.refl _ _⟩
  case round =>
    obtain ⟨c, hc, hgk, rfl, rfl, HB⟩ := hrel
    have HGK := Lib.hid hgk
    clear hgk
    have htl := totalN_le (l.take c) k hk
    rw [List.length_take] at htl
    obtain ⟨x, hx⟩ : ∃ x, x = totalN (l.take c) k := ⟨_, rfl⟩
    rw [← hx] at htl ⊢
    have HX := Lib.hid hx
    clear hx
    by_cases hlt : c < l.length
    · obtain ⟨g, off, rfl, hg, hcell⟩ := (HI.out.below HB.out) c hlt
      have hcl := costN_le l[c] k hk
      have hsn : totalN (l.take (c + 1)) k = totalN (l.take c) k + costN l[c] k := by rw [List.take_succ_eq_append_getElem hlt, totalN_snoc]
      have HL := fun W => Lib.hid (cCost_yes l[c] k W (HR.out _ (List.getElem_mem hlt)) hk)
      obtain ⟨n, hn⟩ : ∃ n, n = l[c] := ⟨_, rfl⟩
      obtain ⟨y, hy⟩ : ∃ y, y = costN n k := ⟨_, rfl⟩
      rw [← hn] at hcell
      rw [← hn, ← hy] at hcl HL hsn
      have HSN := Lib.hid hsn
      clear hsn hn hy
      go_wp2_with (go_at_call 91; refine (HL _).out.mono ?_; rintro e w1 ⟨rfl, hb1⟩; have HB1 := Lib.hid (HB.out.trans (hb1.mono HB.out.size)); clear hb1)
      go_roundg (gk - 1)
      case rel => exact ⟨c + 1, by omega, by have := HGK.out; omega, by go_num, by rw [HSN.out, ← HX.out]; go_num, HB1⟩
      case measure => have := HGK.out; omega
    · obtain rfl : c = l.length := by omega
      go_wp2
      go_ret
      exact ⟨by rw [show totalN l k = x by rw [HX.out, List.take_length]]; rfl, HB.out⟩
end Go.Proofs.YtnfpkjnllkkngaaGreatDoor
end
