import Derived.Test.YtnpngahpadchpaaRef3c
namespace Go.Proofs.Ytnpngahpadchpaa
open Go.RowKit Go.Proofs Go.Proofs.PipeM Go.Proofs.PipeA

theorem slide_elem {l ks : List Int} {P : Int} (h : slideOk l P ks = true) : slideBits l P ks = low P.toNat 2 ++ elemBits (l.length / ks.length) ks l l.length := by
  obtain ⟨p, hP, h3, hk1, hk8, hk0, hl1, hl2, hs1, hs2, hsp, hks, hin⟩ := slide_parts h
  unfold slideBits listBits
  rw [if_pos h, elem_body _ (by omega) ks l hsp]

/-- What holds while the document puts a list. -/
def PutRel (w : World) (B : Nat) (lo ao : Option Addr) (kl cap : Nat) (l ks : List Int) (wr : World) : Prop :=
  Below w.heap.size w wr ∧ IntsAt wr lo l ∧ IntsAt wr ao ks ∧ wr.cell? ⟨B, 1, none⟩ = some (.slice ao kl cap) ∧ B < wr.heap.size

theorem PutRel.below {w : World} {B : Nat} {lo ao : Option Addr} {kl cap : Nat} {l ks : List Int} {wr w2 : World} (h : PutRel w B lo ao kl cap l ks wr) (hb : Below wr.heap.size wr w2) : PutRel w B lo ao kl cap l ks w2 :=
  ⟨h.1.trans (hb.mono h.1.size), h.2.1.below hb, h.2.2.1.below hb, by rw [hb.cell (p := ⟨B, 1, none⟩) h.2.2.2.2]; exact h.2.2.2.1, Nat.lt_of_lt_of_le h.2.2.2.2 hb.size⟩

theorem PutRel.drewN {w : World} {B : Nat} {lo ao : Option Addr} {kl cap : Nat} {l ks : List Int} {wr : World} (h : PutRel w B lo ao kl cap l ks wr) (m : Nat) : PutRel w B lo ao kl cap l ks (wr.drewN m) :=
  h.below (below_drewN (Below.refl _ _) m)

set_option maxHeartbeats 3200000 in
theorem refSlide_yes (lo ao : Option Addr) (lcap cap : Nat) (l : List Int) (P : Int) (ks : List Int) (w : World) (hi : IntsAt w lo l) (hj : IntsAt w ao ks) (h : slideOk l P ks = true) :
    Calls Try.prog 11 #[.slice lo l.length lcap, .agg #[.int .i64 P, .slice ao ks.length cap]] w (SlideIs l P ks w) := by
  obtain ⟨p, rfl, h3, hk1, hk8, hk0, hl1, hl2, hs1, hs2, hsp, hks, hin⟩ := slide_parts h
  have hh := h
  unfold slideOk at hh
  simp only [Bool.and_eq_true] at hh
  have HSE := Lib.hid (slide_elem h)
  have HO := Lib.hid h
  have HIb := fun o => Lib.hid (hi.below (box_below w o))
  have HJb := fun o => Lib.hid (hj.below (box_below w o))
  have HG := fun W hj => Lib.hid (refGood l.length p ao cap ks W (by omega) (by omega) hj)
  have HL := fun W hi => Lib.hid (refList lo lcap l W (by omega) hi)
  have HKS := Lib.hid hks
  have HIN := Lib.hid hin
  rw [hh.1] at HG
  rw [hh.2] at HL
  clear hh h hi hj hks hin hk1
  obtain ⟨size, hsize⟩ : ∃ size, size = l.length / ks.length := ⟨_, rfl⟩
  have hdiv : (l.length : Int) / (ks.length : Int) = (size : Int) := by rw [hsize]; omega
  rw [← hsize] at hs1 hs2 hsp HSE
  have HSP := Lib.hid hsp
  clear hsize hsp
  obtain ⟨len, hlen⟩ : ∃ len, len = l.length := ⟨_, rfl⟩
  obtain ⟨kl, hkl⟩ : ∃ kl, kl = ks.length := ⟨_, rfl⟩
  rw [← hlen] at HG HL hl1 hl2 hdiv ⊢
  rw [← hkl] at HG hk8 hk0 hdiv ⊢
  have HLEN := Lib.hid hlen
  have HKL := Lib.hid hkl
  clear hlen hkl
  go_enter Try.func11, Try.ntmps11
  go_wp2_with fail
  refine (HG _ (HJb _).out).out.mono ?_
  rintro e w1 ⟨rfl, hbel⟩
  have HI1 := Lib.hid ((HIb _).out.below hbel)
  have HJ1 := Lib.hid ((HJb _).out.below hbel)
  have HB1 := Lib.hid ((box_below w _).trans (hbel.mono (box_below w _).size))
  have c0 : w1.cell? ⟨w.heap.size, 0, none⟩ = some (.int .i64 p) := by rw [hbel.cell (by simp)]; simp
  have c1 : w1.cell? ⟨w.heap.size, 1, none⟩ = some (.slice ao kl cap) := by rw [hbel.cell (by simp)]; simp
  have hBl : w.heap.size < w1.heap.size := by have := hbel.size; simp at this; omega
  have HC1 := Lib.hid c1
  clear hbel HIb HJb HG
  go_wp2_with fail
  refine (HL _ HI1.out).out.mono ?_
  rintro e w2 ⟨rfl, rfl⟩
  clear HL
  go_wp2_with fail
  refine (refPut p 2 _ (by omega) (by omega)).mono ?_
  rintro e w2 ⟨rfl, hb2⟩
  have HI2 := Lib.hid (HI1.out.below hb2)
  have HJ2 := Lib.hid (HJ1.out.below hb2)
  have HB2 := Lib.hid (HB1.out.trans (hb2.mono HB1.out.size))
  have c1' : w2.cell? ⟨w.heap.size, 1, none⟩ = some (.slice ao kl cap) := by rw [hb2.cell (by simpa using hBl)]; exact HC1.out
  have hBl2 : w.heap.size < w2.heap.size := Nat.lt_of_lt_of_le hBl hb2.size
  have c2 := c1'
  clear c1 c0 hb2 HC1 HI1 HJ1 HB1 c1' hBl
  have HREL : Hid (PutRel w w.heap.size lo ao kl cap l ks w2) := ⟨HB2.out, HI2.out, HJ2.out, c2, hBl2⟩
  go_wp2
  clear HI2 HJ2 HB2 c2 hBl2 hdiv
  generalize w.heap.size = B at HREL ⊢
  go_loopg [6, 8, 9, 10, 11, 33] len (fun gk s a b d f i wr => ∃ c : Nat, c ≤ len ∧ gk + c = len ∧ i = .int .i64 c ∧ s = .string (str (low p 2 ++ elemBits size ks l c)) ∧ Hid (PutRel w B lo ao kl cap l ks wr))
  case atStart => exact ⟨0, Nat.zero_le _, by omega, rfl, by simp [elemBits], HREL⟩
  case round =>
    obtain ⟨c, hc, hgk, rfl, rfl, HT⟩ := hrel
    have HGK := Lib.hid hgk
    clear hgk HREL
    by_cases hlt : c < len
    · have hcl : c < l.length := by have := HLEN.out; omega
      obtain ⟨q, hq⟩ : ∃ q, q = c / size := ⟨_, rfl⟩
      have hqk : q < ks.length := by
        rw [hq]
        exact Nat.div_lt_of_lt_mul (by rw [← HSP.out]; exact hcl)
      have hqk2 : q < kl := by have := HKL.out; omega
      have hqd : (c : Int) / (size : Int) = (q : Int) := by rw [hq]; omega
      obtain ⟨g, off, rfl, hg, kcell⟩ := HT.out.2.2.1 q hqk
      obtain ⟨g2, off2, rfl, hg2, ncell⟩ := HT.out.2.1 c hcl
      have c1 := HT.out.2.2.2.1
      have hkr := HKS.out ks[q] (List.getElem_mem hqk)
      have hnr := HIN.out l[c] (List.getElem_mem hcl)
      have HSN : Hid (elemBits size ks l (c + 1) = elemBits size ks l c ++ ((if c % size = 0 then low ks[q].toNat 5 else []) ++ codeOf l[c] ks[q])) := by
        show _ = _
        rw [elemBits_succ, elemAt, ← hq]
        simp [List.getD, hqk, hcl]
      have hel := elemBits_len size ks l c
      obtain ⟨k, hk⟩ : ∃ k, k = ks[q] := ⟨_, rfl⟩
      obtain ⟨n, hn⟩ : ∃ n, n = l[c] := ⟨_, rfl⟩
      rw [← hk] at kcell hkr HSN
      rw [← hn] at ncell hnr HSN
      obtain ⟨kn, rfl⟩ := Int.eq_ofNat_of_zero_le hkr.1
      have hcol := codeOf_len n kn
      obtain ⟨s0, hs0⟩ : ∃ s0, s0 = low p 2 ++ elemBits size ks l c := ⟨_, rfl⟩
      have hsl : (str s0).size ≤ 70000 := by rw [str_size, hs0, List.length_append, low_length]; omega
      rw [← hs0]
      have HS0 := Lib.hid hs0
      clear hk hn hq hqk hcl hs0 hel
      have HTN := fun m => Lib.hid (HT.out.drewN m)
      have hsz0 : 1 ≤ size := hs1
      go_wp2_with fail
      go_quiet (fail)
      have HTQ := HTN nq
      clear HTN HT
      have ncell : (wr.drewN nq).cell? ⟨g2, off2 + c, none⟩ = some (.int .i64 n) := ncell
      generalize wr.drewN nq = W at HTQ ncell ⊢
      by_cases hm : c % size = 0
      · have t5 : ((c : Int) % (size : Int) == 0) = true := by rw [beq_iff_eq]; omega
        have HSN2 : Hid (str s0 ++ str (low kn 5) ++ str (codeOf n kn) = str (low p 2 ++ elemBits size ks l (c + 1))) := by
          show _ = _
          rw [HSN.out, HS0.out, if_pos hm, Int.toNat_natCast]
          simp only [str_append, ByteArray.append_assoc]
        have hs1l : (str s0 ++ str (low kn 5)).size ≤ 70010 := by rw [← str_append, str_size, List.length_append, low_length]; rw [str_size] at hsl; omega
        clear hm
        go_wp2_with fail
        refine (refPut kn 5 _ (by omega) (by omega)).mono ?_
        rintro e w4 ⟨rfl, hb4⟩
        have HT4 := Lib.hid (HTQ.out.below hb4)
        have ncell : w4.cell? ⟨g2, off2 + c, none⟩ = some (.int .i64 n) := by rw [hb4.cell (p := ⟨g2, off2 + c, none⟩) (World.block_lt_of_cell? _ _ ncell)]; exact ncell
        clear hb4
        have hks5 : (str (low kn 5)).size = 5 := by rw [str_size, low_length]
        go_wp2_with fail
        refine (refCode n kn _).mono ?_
        rintro e w5 ⟨rfl, hb5⟩
        have HT5 := Lib.hid (HT4.out.below hb5)
        clear hb5
        have hcs : (str (codeOf n kn)).size ≤ 59 := by rw [str_size]; exact hcol
        go_wp2
        go_roundg (gk - 1)
        case rel => exact ⟨c + 1, by omega, by have := HGK.out; omega, by go_num, by rw [← HSN2.out], HT5⟩
        case measure => have := HGK.out; omega
      · have t5 : ((c : Int) % (size : Int) == 0) = false := by rw [beq_eq_false_iff_ne]; omega
        have HSN2 : Hid (str s0 ++ str (codeOf n kn) = str (low p 2 ++ elemBits size ks l (c + 1))) := by
          show _ = _
          rw [HSN.out, HS0.out, if_neg hm]
          simp only [str_append, ByteArray.append_assoc, List.nil_append]
        clear hm
        go_wp2_with fail
        refine (refCode n kn _).mono ?_
        rintro e w5 ⟨rfl, hb5⟩
        have HT5 := Lib.hid (HTQ.out.below hb5)
        clear hb5
        have hcs : (str (codeOf n kn)).size ≤ 59 := by rw [str_size]; exact hcol
        go_wp2
        go_roundg (gk - 1)
        case rel => exact ⟨c + 1, by omega, by have := HGK.out; omega, by go_num, by rw [← HSN2.out], HT5⟩
        case measure => have := HGK.out; omega
    · obtain rfl : c = len := by omega
      go_wp2
      go_ret2
      exact ⟨by rw [HSE.out, HO.out, HLEN.out, Int.toNat_natCast]; rfl, HT.out.1⟩

theorem refSlide (lo ao : Option Addr) (lcap cap : Nat) (l : List Int) (P : Int) (ks : List Int) (w : World) (hl : l.length ≤ 1000000) (hk : ks.length ≤ 1000000) (hi : IntsAt w lo l) (hj : IntsAt w ao ks) :
    Calls Try.prog 11 #[.slice lo l.length lcap, .agg #[.int .i64 P, .slice ao ks.length cap]] w (SlideIs l P ks w) := by
  cases h : slideOk l P ks
  · exact refSlide_no lo ao lcap cap l P ks w hl hk hi hj h
  · exact refSlide_yes lo ao lcap cap l P ks w hi hj h
end Go.Proofs.Ytnpngahpadchpaa
