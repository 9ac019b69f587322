import Derived.Test.YtefbakhhlonafaaGreatFxLatC1
import Derived.Test.YtefbakhhlonafaaGreatRefReader
import Derived.Test.YtefbakhhlonafaaGreatBlkB

section
namespace Go.Proofs.YtefbakhhlonafaaGreat
open Go.RowKit Go.Proofs Go.Proofs.PipeM Go.Proofs.PipeA

/-- What the document's bits of a list are. -/
def SlideIs (l : List Int) (P : Int) (ks : List Int) (w : World) (e : Ending) (w' : World) : Prop :=
  e = .returned (.tuple #[.string (str (slideBits l P ks)), .bool (slideOk l P ks)]) ∧ Below w.heap.size w w'

set_option maxHeartbeats 1600000 in
theorem refSlide_no (lo ao : Option Addr) (lcap cap : Nat) (l : List Int) (P : Int) (ks : List Int) (w : World) (hl : l.length ≤ 1000000) (hk : ks.length ≤ 1000000) (hi : IntsAt w lo l) (hj : IntsAt w ao ks) (h : slideOk l P ks = false) :
    Calls Tryz.prog 39 #[.slice lo l.length lcap, .agg #[.int .i64 P, .slice ao ks.length cap]] w (SlideIs l P ks w) := by
  have HS : Hid (slideBits l P ks = []) := by show _ = _; unfold slideBits; rw [h]; rfl
  have HO := Lib.hid h
  have HIb := fun o => Lib.hid (hi.below (box_below w o))
  have HJb := fun o => Lib.hid (hj.below (box_below w o))
  obtain ⟨b1, hb1⟩ : ∃ b1, b1 = partsOk l.length P ks := ⟨_, rfl⟩
  obtain ⟨b2, hb2⟩ : ∃ b2, b2 = listOk l := ⟨_, rfl⟩
  have HG := fun W hj => Lib.hid (refGood l.length P ao cap ks W (by omega) (by omega) hj)
  have HL := fun W hi => Lib.hid (refList lo lcap l W (by omega) hi)
  have hb : (b1 && b2) = false := by rw [hb1, hb2]; exact h
  rw [← hb1] at HG
  rw [← hb2] at HL
  clear h hb1 hb2 hi hj
  obtain ⟨len, hlen⟩ : ∃ len, len = l.length := ⟨_, rfl⟩
  rw [← hlen] at HG HL hl ⊢
  clear hlen
  go_enter Tryz.func39, Tryz.ntmps39
  go_wp2_with fail
  refine (HG _ (HJb _).out).out.mono ?_
  rintro e w1 ⟨rfl, hbel⟩
  have HI1 := Lib.hid ((HIb _).out.below hbel)
  have HB1 := Lib.hid ((box_below w _).trans (hbel.mono (box_below w _).size))
  clear hbel
  cases b1
  · go_wp2
    go_ret2
    exact ⟨by rw [HS.out, HO.out]; rfl, HB1.out⟩
  · obtain rfl : b2 = false := hb
    go_wp2_with fail
    refine (HL _ HI1.out).out.mono ?_
    rintro e w2 ⟨rfl, rfl⟩
    go_wp2
    go_ret2
    exact ⟨by rw [HS.out, HO.out]; rfl, HB1.out⟩
end Go.Proofs.YtefbakhhlonafaaGreat
end

section
namespace Go.Proofs.YtefbakhhlonafaaGreat
open Go.RowKit Go.Proofs Go.Proofs.PipeM Go.Proofs.PipeA

theorem slide_elem {l ks : List Int} {P : Int} (h : slideOk l P ks = true) : slideBits l P ks = low P.toNat 2 ++ elemBits (l.length / ks.length) ks l l.length := by
  obtain ⟨p, hP, h3, hk1, hk8, hk0, hl1, hl2, hs1, hs2, hsp, hks, hin⟩ := slide_parts h
  unfold slideBits listBits
  rw [if_pos h, elem_body _ (by omega) ks l hsp]

/-- What holds while the document puts a list. -/
def PutRel (w : World) (B : Nat) (lo ao : Option Addr) (kl cap : Nat) (l ks : List Int) (wr : World) : Prop :=
  Below w.heap.size w wr ∧ IntsAt wr lo l ∧ IntsAt wr ao ks ∧ wr.cell? ⟨B, 1, none⟩ = some (.slice ao kl cap) ∧ B < wr.heap.size

theorem PutRel.below {w : World} {B : Nat} {lo ao : Option Addr} {kl cap : Nat} {l ks : List Int} {wr w2 : World} (h : PutRel w B lo ao kl cap l ks wr) (hb : Below wr.heap.size wr w2) : PutRel w B lo ao kl cap l ks w2 :=
  ⟨h.1.trans (hb.mono h.1.size), h.2.1.below hb, h.2.2.1.below hb, by rw [hb.cell (p := ⟨B, 1, none⟩) h.2.2.2.2]; exact h.2.2.2.1, Nat.lt_of_lt_of_le h.2.2.2.2 hb.size⟩

theorem PutRel.drewN {w : World} {B : Nat} {lo ao : Option Addr} {kl cap : Nat} {l ks : List Int} {wr : World} (h : PutRel w B lo ao kl cap l ks wr) (m : Nat) : PutRel w B lo ao kl cap l ks (wr.drewN m) :=
  h.below (below_drewN (Below.refl _ _) m)

set_option maxHeartbeats 3200000 in
theorem refSlide_yes (lo ao : Option Addr) (lcap cap : Nat) (l : List Int) (P : Int) (ks : List Int) (w : World) (hi : IntsAt w lo l) (hj : IntsAt w ao ks) (h : slideOk l P ks = true) :
    Calls Tryz.prog 39 #[.slice lo l.length lcap, .agg #[.int .i64 P, .slice ao ks.length cap]] w (SlideIs l P ks w) := by
  obtain ⟨p, rfl, h3, hk1, hk8, hk0, hl1, hl2, hs1, hs2, hsp, hks, hin⟩ := slide_parts h
  have hh := h
  unfold slideOk at hh
  simp only [Bool.and_eq_true] at hh
  have HSE := Lib.hid (slide_elem h)
  have HO := Lib.hid h
  have HIb := fun o => Lib.hid (hi.below (box_below w o))
  have HJb := fun o => Lib.hid (hj.below (box_below w o))
  have HG := fun W hj => Lib.hid (refGood l.length p ao cap ks W (by omega) (by omega) hj)
  have HL := fun W hi => Lib.hid (refList lo lcap l W (by omega) hi)
  have HKS := Lib.hid hks
  have HIN := Lib.hid hin
  rw [hh.1] at HG
  rw [hh.2] at HL
  clear hh h hi hj hks hin hk1
  obtain ⟨size, hsize⟩ : ∃ size, size = l.length / ks.length := ⟨_, rfl⟩
  have hdiv : (l.length : Int) / (ks.length : Int) = (size : Int) := by rw [hsize]; omega
  rw [← hsize] at hs1 hs2 hsp HSE
  have HSP := Lib.hid hsp
  clear hsize hsp
  obtain ⟨len, hlen⟩ : ∃ len, len = l.length := ⟨_, rfl⟩
  obtain ⟨kl, hkl⟩ : ∃ kl, kl = ks.length := ⟨_, rfl⟩
  rw [← hlen] at HG HL hl1 hl2 hdiv ⊢
  rw [← hkl] at HG hk8 hk0 hdiv ⊢
  have HLEN := Lib.hid hlen
  have HKL := Lib.hid hkl
  clear hlen hkl
  go_enter Tryz.func39, Tryz.ntmps39
  go_wp2_with fail
  refine (HG _ (HJb _).out).out.mono ?_
  rintro e w1 ⟨rfl, hbel⟩
  have HI1 := Lib.hid ((HIb _).out.below hbel)
  have HJ1 := Lib.hid ((HJb _).out.below hbel)
  have HB1 := Lib.hid ((box_below w _).trans (hbel.mono (box_below w _).size))
  have c0 : w1.cell? ⟨w.heap.size, 0, none⟩ = some (.int .i64 p) := by rw [hbel.cell (by simp)]; simp
  have c1 : w1.cell? ⟨w.heap.size, 1, none⟩ = some (.slice ao kl cap) := by rw [hbel.cell (by simp)]; simp
  have hBl : w.heap.size < w1.heap.size := by have := hbel.size; simp at this; omega
  have HC1 := Lib.hid c1
  clear hbel HIb HJb HG
  go_wp2_with fail
  refine (HL _ HI1.out).out.mono ?_
  rintro e w2 ⟨rfl, rfl⟩
  clear HL
  go_wp2_with fail
  refine (refPut p 2 _ (by omega) (by omega)).mono ?_
  rintro e w2 ⟨rfl, hb2⟩
  have HI2 := Lib.hid (HI1.out.below hb2)
  have HJ2 := Lib.hid (HJ1.out.below hb2)
  have HB2 := Lib.hid (HB1.out.trans (hb2.mono HB1.out.size))
  have c1' : w2.cell? ⟨w.heap.size, 1, none⟩ = some (.slice ao kl cap) := by rw [hb2.cell (by simpa using hBl)]; exact HC1.out
  have hBl2 : w.heap.size < w2.heap.size := Nat.lt_of_lt_of_le hBl hb2.size
  have c2 := c1'
  clear c1 c0 hb2 HC1 HI1 HJ1 HB1 c1' hBl
  have HREL : Hid (PutRel w w.heap.size lo ao kl cap l ks w2) := ⟨HB2.out, HI2.out, HJ2.out, c2, hBl2⟩
  go_wp2
  clear HI2 HJ2 HB2 c2 hBl2 hdiv
  generalize w.heap.size = B at HREL ⊢
  go_loopg [6, 8, 9, 10, 11, 33] len (fun gk s a b d f i wr => ∃ c : Nat, c ≤ len ∧ gk + c = len ∧ i = .int .i64 c ∧ s = .string (str (low p 2 ++ elemBits size ks l c)) ∧ Hid (PutRel w B lo ao kl cap l ks wr))
  case atStart => exact ⟨0, Nat.zero_le _, by omega, rfl, by simp [elemBits], HREL⟩
  case round =>
    obtain ⟨c, hc, hgk, rfl, rfl, HT⟩ := hrel
    have HGK := Lib.hid hgk
    clear hgk HREL
    by_cases hlt : c < len
    · have hcl : c < l.length := by have := HLEN.out; omega
      obtain ⟨q, hq⟩ : ∃ q, q = c / size := ⟨_, rfl⟩
      have hqk : q < ks.length := by
        rw [hq]
        exact Nat.div_lt_of_lt_mul (by rw [← HSP.out]; exact hcl)
      have hqk2 : q < kl := by have := HKL.out; omega
      have hqd : (c : Int) / (size : Int) = (q : Int) := by rw [hq]; omega
      obtain ⟨g, off, rfl, hg, kcell⟩ := HT.out.2.2.1 q hqk
      obtain ⟨g2, off2, rfl, hg2, ncell⟩ := HT.out.2.1 c hcl
      have c1 := HT.out.2.2.2.1
      have hkr := HKS.out ks[q] (List.getElem_mem hqk)
      have hnr := HIN.out l[c] (List.getElem_mem hcl)
      have HSN : Hid (elemBits size ks l (c + 1) = elemBits size ks l c ++ ((if c % size = 0 then low ks[q].toNat 5 else []) ++ codeOf l[c] ks[q])) := by
        show _ = _
        rw [elemBits_succ, elemAt, ← hq]
        simp [List.getD, hqk, hcl]
      have hel := elemBits_len size ks l c
      obtain ⟨k, hk⟩ : ∃ k, k = ks[q] := ⟨_, rfl⟩
      obtain ⟨n, hn⟩ : ∃ n, n = l[c] := ⟨_, rfl⟩
      rw [← hk] at kcell hkr HSN
      rw [← hn] at ncell hnr HSN
      obtain ⟨kn, rfl⟩ := Int.eq_ofNat_of_zero_le hkr.1
      have hcol := codeOf_len n kn
      obtain ⟨s0, hs0⟩ : ∃ s0, s0 = low p 2 ++ elemBits size ks l c := ⟨_, rfl⟩
      have hsl : (str s0).size ≤ 70000 := by rw [str_size, hs0, List.length_append, low_length]; omega
      rw [← hs0]
      have HS0 := Lib.hid hs0
      clear hk hn hq hqk hcl hs0 hel
      have HTN := fun m => Lib.hid (HT.out.drewN m)
      have hsz0 : 1 ≤ size := hs1
      go_wp2_with fail
      go_quiet (fail)
      have HTQ := HTN nq
      clear HTN HT
      have ncell : (wr.drewN nq).cell? ⟨g2, off2 + c, none⟩ = some (.int .i64 n) := ncell
      generalize wr.drewN nq = W at HTQ ncell ⊢
      by_cases hm : c % size = 0
      · have t5 : ((c : Int) % (size : Int) == 0) = true := by rw [beq_iff_eq]; omega
        have HSN2 : Hid (str s0 ++ str (low kn 5) ++ str (codeOf n kn) = str (low p 2 ++ elemBits size ks l (c + 1))) := by
          show _ = _
          rw [HSN.out, HS0.out, if_pos hm, Int.toNat_natCast]
          simp only [str_append, ByteArray.append_assoc]
        have hs1l : (str s0 ++ str (low kn 5)).size ≤ 70010 := by rw [← str_append, str_size, List.length_append, low_length]; rw [str_size] at hsl; omega
        clear hm
        go_wp2_with fail
        refine (refPut kn 5 _ (by omega) (by omega)).mono ?_
        rintro e w4 ⟨rfl, hb4⟩
        have HT4 := Lib.hid (HTQ.out.below hb4)
        have ncell : w4.cell? ⟨g2, off2 + c, none⟩ = some (.int .i64 n) := by rw [hb4.cell (p := ⟨g2, off2 + c, none⟩) (World.block_lt_of_cell? _ _ ncell)]; exact ncell
        clear hb4
        have hks5 : (str (low kn 5)).size = 5 := by rw [str_size, low_length]
        go_wp2_with fail
        refine (refCode n kn _).mono ?_
        rintro e w5 ⟨rfl, hb5⟩
        have HT5 := Lib.hid (HT4.out.below hb5)
        clear hb5
        have hcs : (str (codeOf n kn)).size ≤ 59 := by rw [str_size]; exact hcol
        go_wp2
        go_roundg (gk - 1)
        case rel => exact ⟨c + 1, by omega, by have := HGK.out; omega, by go_num, by rw [← HSN2.out], HT5⟩
        case measure => have := HGK.out; omega
      · have t5 : ((c : Int) % (size : Int) == 0) = false := by rw [beq_eq_false_iff_ne]; omega
        have HSN2 : Hid (str s0 ++ str (codeOf n kn) = str (low p 2 ++ elemBits size ks l (c + 1))) := by
          show _ = _
          rw [HSN.out, HS0.out, if_neg hm]
          simp only [str_append, ByteArray.append_assoc, List.nil_append]
        clear hm
        go_wp2_with fail
        refine (refCode n kn _).mono ?_
        rintro e w5 ⟨rfl, hb5⟩
        have HT5 := Lib.hid (HTQ.out.below hb5)
        clear hb5
        have hcs : (str (codeOf n kn)).size ≤ 59 := by rw [str_size]; exact hcol
        go_wp2
        go_roundg (gk - 1)
        case rel => exact ⟨c + 1, by omega, by have := HGK.out; omega, by go_num, by rw [← HSN2.out], HT5⟩
        case measure => have := HGK.out; omega
    · obtain rfl : c = len := by omega
      go_wp2
      go_ret2
      exact ⟨by rw [HSE.out, HO.out, HLEN.out, Int.toNat_natCast]; rfl, HT.out.1⟩

theorem refSlide (lo ao : Option Addr) (lcap cap : Nat) (l : List Int) (P : Int) (ks : List Int) (w : World) (hl : l.length ≤ 1000000) (hk : ks.length ≤ 1000000) (hi : IntsAt w lo l) (hj : IntsAt w ao ks) :
    Calls Tryz.prog 39 #[.slice lo l.length lcap, .agg #[.int .i64 P, .slice ao ks.length cap]] w (SlideIs l P ks w) := by
  cases h : slideOk l P ks
  · exact refSlide_no lo ao lcap cap l P ks w hl hk hi hj h
  · exact refSlide_yes lo ao lcap cap l P ks w hi hj h
end Go.Proofs.YtefbakhhlonafaaGreat
end

section
namespace Go.Proofs.YtefbakhhlonafaaGreat
open Go.RowKit Go.Proofs Go.Proofs.PipeM Go.Proofs.PipeA

set_option maxHeartbeats 800000 in
theorem refSame (ao bo : Option Addr) (cap cap2 : Nat) (l m : List Int) (w : World) (hl : l.length ≤ 1000000000) (hi : IntsAt w ao l) (hj : IntsAt w bo m) :
    Calls Tryz.prog 19 #[.slice ao l.length cap, .slice bo m.length cap2] w fun e w' => e = .returned (.bool (decide (l = m))) ∧ ∃ k, w' = w.drewN k := by
  by_cases hlm : l.length = m.length
  · have HI := Lib.hid hi
    have HJ := Lib.hid hj
    have HLM := Lib.hid hlm
    have t1 : ((l.length : Int) != (m.length : Int)) = false := by rw [bne_eq_false_iff_eq]; omega
    obtain ⟨lm, hlm2⟩ : ∃ lm, lm = m.length := ⟨_, rfl⟩
    rw [← hlm2] at t1 ⊢
    have HLM2 := Lib.hid hlm2
    clear hi hj hlm hlm2
    go_enter Tryz.func19, Tryz.ntmps19
    go_wp2
    go_loopg [5, 13] l.length (fun gk q i wr => ∃ c d : Nat, c ≤ l.length ∧ gk + c = l.length ∧ i = .int .i64 c ∧ Hid (l.take c = m.take c) ∧ Hid (wr = w.drewN d))
    case atStart => exact ⟨0, 0, Nat.zero_le _, by omega, rfl, by show _ = _; simp, rfl⟩
    case round =>
      obtain ⟨c, d, hc, hgk, rfl, HT, HW⟩ := hrel
      have HGK := Lib.hid hgk
      clear hgk
      by_cases hlt : c < l.length
      · have hltm : c < m.length := by have := HLM.out; omega
        have hltm2 : c < lm := by have := HLM2.out; omega
        obtain ⟨g, off, rfl, hg, hcell⟩ := HI.out c hlt
        obtain ⟨g2, off2, rfl, hg2, hcell2⟩ := HJ.out c hltm
        have HNX : Hid (l[c] = m[c] → l.take (c + 1) = m.take (c + 1)) := by
          intro h
          rw [List.take_succ_eq_append_getElem hlt, List.take_succ_eq_append_getElem hltm, HT.out, h]
        have HNO : Hid (l[c] ≠ m[c] → decide (l = m) = false) := by
          intro h
          exact decide_eq_false (fun he => h (by subst he; rfl))
        obtain ⟨x, hx⟩ : ∃ x, x = l[c] := ⟨_, rfl⟩
        obtain ⟨y, hy⟩ : ∃ y, y = m[c] := ⟨_, rfl⟩
        rw [← hx] at hcell HNX HNO
        rw [← hy] at hcell2 HNX HNO
        have k1 : wr.cell? ⟨g, off + c, none⟩ = some (.int .i64 x) := by rw [HW.out]; exact hcell
        have k2 : wr.cell? ⟨g2, off2 + c, none⟩ = some (.int .i64 y) := by rw [HW.out]; exact hcell2
        clear hx hy hltm hg hg2 hcell hcell2
        by_cases he : x = y
        · have t2 : (x != y) = false := by simp [he]
          have HN2 := Lib.hid (HNX.out he)
          clear he
          go_wp2
          go_quiet (fail)
          go_wp2
          go_roundg (gk - 1)
          case rel => exact ⟨c + 1, _, by omega, by have := HGK.out; omega, by go_num, HN2, by show _ = _; rw [HW.out]; exact World.drewN_drewN _ _ _⟩
          case measure => have := HGK.out; omega
        · have t2 : (x != y) = true := by rw [bne_iff_ne]; exact he
          have HN2 := Lib.hid (HNO.out he)
          clear he
          go_wp2
          go_quiet (fail)
          go_wp2
          go_ret
          exact ⟨by rw [HN2.out]; rfl, _, by rw [HW.out]; exact World.drewN_drewN _ _ _⟩
      · obtain rfl : c = l.length := by omega
        have HA : Hid (decide (l = m) = true) := by
          apply decide_eq_true
          have := HT.out
          rw [List.take_length, HLM.out, List.take_length] at this
          exact this
        go_wp2
        go_ret
        exact ⟨by rw [HA.out]; rfl, _, HW.out⟩
  · have t1 : ((l.length : Int) != (m.length : Int)) = true := by rw [bne_iff_ne]; omega
    have HA : Hid (decide (l = m) = false) := decide_eq_false (fun he => hlm (by rw [he]))
    clear hlm
    go_enter Tryz.func19, Tryz.ntmps19
    go_wp2
    go_ret
    exact ⟨by rw [HA.out]; rfl, 0, rfl⟩

end Go.Proofs.YtefbakhhlonafaaGreat
end

section
namespace Go.Proofs.YtefbakhhlonafaaGreat
open Go.RowKit Go.Proofs Go.Proofs.PipeM Go.Proofs.PipeA

end Go.Proofs.YtefbakhhlonafaaGreat
end

section
namespace Go.Proofs.PipeM

def sumTo (f : Nat → Nat) : Nat → Nat
  | 0 => 0
  | n + 1 => sumTo f n + f n
theorem sumTo_shift (f : Nat → Nat) : ∀ n, sumTo f (n + 1) = f 0 + sumTo (fun i => f (i + 1)) n
  | 0 => by simp [sumTo]
  | n + 1 => by
    show sumTo f (n + 1) + f (n + 1) = _
    rw [sumTo_shift f n]
    simp [sumTo]
    omega

/-- A part of a list; how many bits parts have. -/
def partNo (size : Nat) (l : List Int) (j : Nat) : List Int := (l.drop (j * size)).take size
def partLen (size : Nat) (ks l : List Int) (j : Nat) : Nat := 5 + totalN (partNo size l j) (ks.getD j 0).toNat
def bodyLen (size : Nat) (ks l : List Int) (n : Nat) : Nat := sumTo (partLen size ks l) n

theorem codes_length (k : Int) (hk : 0 ≤ k ∧ k ≤ 24) : ∀ l : List Int, (∀ n ∈ l, InR n) → (l.flatMap (codeOf · k)).length = totalN l k.toNat
  | [], _ => rfl
  | n :: l, h => by
    have ih := codes_length k hk l (fun x hx => h x (List.mem_cons_of_mem _ hx))
    have hn := h n (List.mem_cons_self ..)
    have hc : codeOf n k = codeBits n k.toNat := by
      unfold codeOf
      rw [if_pos]
      unfold codeOk
      exact decide_eq_true ⟨hn.1, hn.2, hk.1, hk.2⟩
    rw [List.flatMap_cons, List.length_append, ih, hc, codeBits_length]
    simp [totalN]

theorem body_length (size : Nat) : ∀ ks l : List Int, (∀ k ∈ ks, 0 ≤ k ∧ k ≤ 24) → (∀ n ∈ l, InR n) → (bodyBits size ks l).length = bodyLen size ks l ks.length
  | [], _, _, _ => rfl
  | k :: ks, l, hk, hl => by
    have ih := body_length size ks (l.drop size) (fun x hx => hk x (List.mem_cons_of_mem _ hx)) (fun x hx => hl x (List.mem_of_mem_drop hx))
    have h0 := codes_length k (hk k (List.mem_cons_self ..)) (l.take size) (fun x hx => hl x (List.mem_of_mem_take hx))
    have hf : (fun i => partLen size (k :: ks) l (i + 1)) = partLen size ks (l.drop size) := by
      funext i
      simp only [partLen, partNo, List.getD_cons_succ, List.drop_drop]
      rw [show (i + 1) * size = size + i * size by rw [Nat.add_mul]; omega]
    rw [List.length_cons, bodyLen, sumTo_shift, hf]
    rw [bodyBits, partBits, List.length_append, List.length_append, low_length, h0, ih]
    simp [partLen, partNo, bodyLen]

def slideLen (l : List Int) (P : Int) (ks : List Int) : Nat := (slideBits l P ks).length
theorem slide_len {l ks : List Int} {P : Int} (h : slideOk l P ks = true) : slideLen l P ks = 2 + bodyLen (l.length / ks.length) ks l ks.length := by
  obtain ⟨p, hP, h3, hk1, hk8, hk0, hl1, hl2, hs1, hs2, hsp, hks, hin⟩ := slide_parts h
  unfold slideLen slideBits listBits
  rw [if_pos h, List.length_append, low_length, body_length _ ks l hks hin]

theorem partNo_length {size : Nat} {l : List Int} {j : Nat} (h : (j + 1) * size ≤ l.length) : (partNo size l j).length = size := by
  unfold partNo
  rw [Nat.add_mul] at h
  simp
  omega
theorem partNo_in {size : Nat} {l : List Int} {j : Nat} (h : ∀ n ∈ l, InR n) : ∀ n ∈ partNo size l j, InR n :=
  fun n hn => h n (List.mem_of_mem_drop (List.mem_of_mem_take hn))
end Go.Proofs.PipeM
end

section
namespace Go.Proofs.YtefbakhhlonafaaGreat
open Go.RowKit Go.Proofs Go.Proofs.PipeM Go.Proofs.PipeA

theorem IntsAt.part {w : World} {g off : Nat} {l : List Int} (h : IntsAt w (some ⟨g, off, none⟩) l) (size j : Nat) (hj : (j + 1) * size ≤ l.length) : IntsAt w (some ⟨g, off + j * size, none⟩) (partNo size l j) := by
  intro i hi
  rw [partNo_length hj] at hi
  rw [Nat.add_mul] at hj
  obtain ⟨b, o, h1, h2, h3⟩ := h (j * size + i) (by omega)
  cases h1
  refine ⟨_, _, rfl, h2, ?_⟩
  rw [Nat.add_assoc, h3]
  simp [partNo]

end Go.Proofs.YtefbakhhlonafaaGreat
end
