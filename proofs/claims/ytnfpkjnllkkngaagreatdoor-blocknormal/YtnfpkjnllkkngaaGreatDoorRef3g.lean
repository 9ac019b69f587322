import Derived.Test.YtnfpkjnllkkngaaGreatDoorRef3b
import Derived.Test.YtnfpkjnllkkngaaGreatDoorMathRice
import Derived.Test.YtnfpkjnllkkngaaGreatDoorBlkB

section
namespace Go.Proofs.YtnfpkjnllkkngaaGreatDoor
open Go.RowKit Go.Proofs Go.Proofs.PipeM Go.Proofs.PipeA

end Go.Proofs.YtnfpkjnllkkngaaGreatDoor
end

section
namespace Go.Proofs.YtnfpkjnllkkngaaGreatDoor
open Go.RowKit Go.Proofs Go.Proofs.PipeM Go.Proofs.PipeA

/-- What holds while the document puts a list. -/
def PutRel (w : World) (B : Nat) (lo ao : Option Addr) (kl cap : Nat) (l ks : List Int) (wr : World) : Prop :=
  Below w.heap.size w wr ∧ IntsAt wr lo l ∧ IntsAt wr ao ks ∧ wr.cell? ⟨B, 1, none⟩ = some (.slice ao kl cap) ∧ B < wr.heap.size

theorem PutRel.below {w : World} {B : Nat} {lo ao : Option Addr} {kl cap : Nat} {l ks : List Int} {wr w2 : World} (h : PutRel w B lo ao kl cap l ks wr) (hb : Below wr.heap.size wr w2) : PutRel w B lo ao kl cap l ks w2 :=
  ⟨h.1.trans (hb.mono h.1.size), h.2.1.below hb, h.2.2.1.below hb, by rw [hb.cell (p := ⟨B, 1, none⟩) h.2.2.2.2]; exact h.2.2.2.1, Nat.lt_of_lt_of_le h.2.2.2.2 hb.size⟩

theorem PutRel.drewN {w : World} {B : Nat} {lo ao : Option Addr} {kl cap : Nat} {l ks : List Int} {wr : World} (h : PutRel w B lo ao kl cap l ks wr) (m : Nat) : PutRel w B lo ao kl cap l ks (wr.drewN m) :=
  h.below (below_drewN (Below.refl _ _) m)

end Go.Proofs.YtnfpkjnllkkngaaGreatDoor
end

section
namespace Go.Proofs.YtnfpkjnllkkngaaGreatDoor
open Go.RowKit Go.Proofs Go.Proofs.PipeM Go.Proofs.PipeA

set_option maxHeartbeats 800000 in
theorem refSame (ao bo : Option Addr) (cap cap2 : Nat) (l m : List Int) (w : World) (hl : l.length ≤ 1000000000) (hi : IntsAt w ao l) (hj : IntsAt w bo m) :
    Calls Tryz.prog 8 #[.slice ao l.length cap, .slice bo m.length cap2] w fun e w' => e = .returned (.bool (decide (l = m))) ∧ ∃ k, w' = w.drewN k := by
  by_cases hlm : l.length = m.length
  · have HI := Lib.hid hi
    have HJ := Lib.hid hj
    have HLM := Lib.hid hlm
    have t1 : ((l.length : Int) != (m.length : Int)) = false := by rw [bne_eq_false_iff_eq]; omega
    obtain ⟨lm, hlm2⟩ : ∃ lm, lm = m.length := ⟨_, rfl⟩
    rw [← hlm2] at t1 ⊢
    have HLM2 := Lib.hid hlm2
    clear hi hj hlm hlm2
    go_enter Tryz.func8, Tryz.ntmps8
    go_wp2
    go_loopg [5, 13] l.length (fun gk q i wr => ∃ c d : Nat, c ≤ l.length ∧ gk + c = l.length ∧ i = .int .i64 c ∧ Hid (l.take c = m.take c) ∧ Hid (wr = w.drewN d))
    case atStart => exact ⟨0, 0, Nat.zero_le _, by omega, rfl, by show _ = _; simp, rfl⟩
    case round =>
      obtain ⟨c, d, hc, hgk, rfl, HT, HW⟩ := hrel
      have HGK := Lib.hid hgk
      clear hgk
      by_cases hlt : c < l.length
      · have hltm : c < m.length := by have := HLM.out; omega
        have hltm2 : c < lm := by have := HLM2.out; omega
        obtain ⟨g, off, rfl, hg, hcell⟩ := HI.out c hlt
        obtain ⟨g2, off2, rfl, hg2, hcell2⟩ := HJ.out c hltm
        have HNX : Hid (l[c] = m[c] → l.take (c + 1) = m.take (c + 1)) := by
          intro h
          rw [List.take_succ_eq_append_getElem hlt, List.take_succ_eq_append_getElem hltm, HT.out, h]
        have HNO : Hid (l[c] ≠ m[c] → decide (l = m) = false) := by
          intro h
          exact decide_eq_false (fun he => h (by subst he; rfl))
        obtain ⟨x, hx⟩ : ∃ x, x = l[c] := ⟨_, rfl⟩
        obtain ⟨y, hy⟩ : ∃ y, y = m[c] := ⟨_, rfl⟩
        rw [← hx] at hcell HNX HNO
        rw [← hy] at hcell2 HNX HNO
        have k1 : wr.cell? ⟨g, off + c, none⟩ = some (.int .i64 x) := by rw [HW.out]; exact hcell
        have k2 : wr.cell? ⟨g2, off2 + c, none⟩ = some (.int .i64 y) := by rw [HW.out]; exact hcell2
        clear hx hy hltm hg hg2 hcell hcell2
        by_cases he : x = y
        · have t2 : (x != y) = false := by simp [he]
          have HN2 := Lib.hid (HNX.out he)
          clear he
          go_wp2
          go_quiet (fail)
          go_wp2
          go_roundg (gk - 1)
          case rel => exact ⟨c + 1, _, by omega, by have := HGK.out; omega, by go_num, HN2, by show _ = _; rw [HW.out]; exact World.drewN_drewN _ _ _⟩
          case measure => have := HGK.out; omega
        · have t2 : (x != y) = true := by rw [bne_iff_ne]; exact he
          have HN2 := Lib.hid (HNO.out he)
          clear he
          go_wp2
          go_quiet (fail)
          go_wp2
          go_ret
          exact ⟨by rw [HN2.out]; rfl, _, by rw [HW.out]; exact World.drewN_drewN _ _ _⟩
      · obtain rfl : c = l.length := by omega
        have HA : Hid (decide (l = m) = true) := by
          apply decide_eq_true
          have := HT.out
          rw [List.take_length, HLM.out, List.take_length] at this
          exact this
        go_wp2
        go_ret
        exact ⟨by rw [HA.out]; rfl, _, HW.out⟩
  · have t1 : ((l.length : Int) != (m.length : Int)) = true := by rw [bne_iff_ne]; omega
    have HA : Hid (decide (l = m) = false) := decide_eq_false (fun he => hlm (by rw [he]))
    clear hlm
    go_enter Tryz.func8, Tryz.ntmps8
    go_wp2
    go_ret
    exact ⟨by rw [HA.out]; rfl, 0, rfl⟩

end Go.Proofs.YtnfpkjnllkkngaaGreatDoor
end

section
namespace Go.Proofs.YtnfpkjnllkkngaaGreatDoor
open Go.RowKit Go.Proofs Go.Proofs.PipeM Go.Proofs.PipeA

/-- The least parameter of the fewest bits, of those up to one. -/
def BestTo (l : List Int) (i k : Nat) : Prop := k < i ∧ ∀ p, p < i → totalN l k ≤ totalN l p ∧ (totalN l p = totalN l k → k ≤ p)

def LeastIs (l : List Int) (w : World) (e : Ending) (w' : World) : Prop := ∃ k : Nat, e = .returned (.int .i64 k) ∧ IsBest l k ∧ w = w'

set_option maxHeartbeats 800000 in
theorem refLeast (ao : Option Addr) (cap : Nat) (l : List Int) (w : World) (hl : l.length ≤ 100000) (hi : IntsAt w ao l) (hr : ∀ n ∈ l, InR n) :
    Calls Tryz.prog 53 #[.slice ao l.length cap] w (LeastIs l w) := by
  have HT := fun k hk => Lib.hid (refTotal ao cap l k w (by omega) hi hr hk)
  have HT0 := HT 0 (by omega)
  have htl0 := totalN_le l 0 (by omega)
  obtain ⟨C0, hC0⟩ : ∃ C, C = totalN l 0 := ⟨_, rfl⟩
  rw [← hC0] at HT0 htl0
  have HC0 := Lib.hid hC0
  obtain ⟨len, hlen⟩ : ∃ len, len = l.length := ⟨_, rfl⟩
  rw [← hlen] at hl htl0 HT0 ⊢
  have HLEN := Lib.hid hlen
  clear hi hr hC0 hlen
  go_enter Tryz.func53, Tryz.ntmps53
  go_wp2_with fail
  refine HT0.out.mono ?_
  rintro e w1 ⟨rfl, rfl⟩
  go_wp2
  go_loopg [3, 4, 5, 6] 24 (fun gk k f i n wr => ∃ (c b t : Nat), 1 ≤ c ∧ c ≤ 25 ∧ gk + c = 25 ∧ i = .int .i64 c ∧ k = .int .i64 b ∧ f = .int .i64 t ∧ b ≤ 24 ∧ t ≤ 59 * len ∧ Hid (t = totalN l b ∧ BestTo l c b) ∧ w = wr)
  case atStart => exact ⟨1, 0, C0, by omega, by omega, by omega, rfl, rfl, rfl, by omega, htl0, ⟨HC0.out, by omega, fun p hp => by obtain rfl : p = 0 := (by omega); exact ⟨Nat.le_refl _, fun _ => Nat.le_refl _⟩⟩, rfl⟩
  case round =>
    obtain ⟨c, b, t, hc1, hc2, hgk, rfl, rfl, rfl, hb, ht, HB, rfl⟩ := hrel
    have HGK := Lib.hid hgk
    clear hgk
    by_cases hlt : c ≤ 24
    · have HTc := HT c hlt
      have htc := totalN_le l c hlt
      obtain ⟨T, hT⟩ : ∃ T, T = totalN l c := ⟨_, rfl⟩
      rw [← hT] at HTc htc
      rw [← HLEN.out] at HTc htc
      have HT2 := Lib.hid hT
      clear hT
      by_cases hTt : T < t
      · have HB2 : Hid (T = totalN l c ∧ BestTo l (c + 1) c) := by
          obtain ⟨e1, e2, e3⟩ := HB.out
          refine ⟨HT2.out, by omega, fun p hp => ?_⟩
          have := HT2.out
          by_cases hpc : p < c
          · have := e3 p hpc
            exact ⟨by omega, fun h => by omega⟩
          · obtain rfl : p = c := by omega
            exact ⟨Nat.le_refl _, fun _ => Nat.le_refl _⟩
        go_wp2_with fail
        refine HTc.out.mono ?_
        rintro e w1 ⟨rfl, rfl⟩
        go_wp2
        go_roundg (gk - 1)
        case rel => exact ⟨c + 1, c, T, by omega, by omega, by have := HGK.out; omega, by go_num, rfl, rfl, by omega, htc, HB2, rfl⟩
        case measure => have := HGK.out; omega
      · have HB2 : Hid (t = totalN l b ∧ BestTo l (c + 1) b) := by
          obtain ⟨e1, e2, e3⟩ := HB.out
          refine ⟨e1, by omega, fun p hp => ?_⟩
          have := HT2.out
          by_cases hpc : p < c
          · exact e3 p hpc
          · obtain rfl : p = c := by omega
            exact ⟨by omega, fun h => by omega⟩
        have hTt2 : t ≤ T := by omega
        clear hTt
        go_wp2_with fail
        refine HTc.out.mono ?_
        rintro e w1 ⟨rfl, rfl⟩
        go_wp2
        go_roundg (gk - 1)
        case rel => exact ⟨c + 1, b, t, by omega, by omega, by have := HGK.out; omega, by go_num, rfl, rfl, by omega, ht, HB2, rfl⟩
        case measure => have := HGK.out; omega
    · obtain rfl : c = 25 := by omega
      go_wp2
      go_ret
      refine ⟨b, rfl, ?_, rfl⟩
      obtain ⟨e1, e2, e3⟩ := HB.out
      exact ⟨by omega, fun p hp => e3 p (by omega)⟩
end Go.Proofs.YtnfpkjnllkkngaaGreatDoor
end

section
namespace Go.Proofs.PipeM

def sumTo (f : Nat → Nat) : Nat → Nat
  | 0 => 0
  | n + 1 => sumTo f n + f n
theorem sumTo_shift (f : Nat → Nat) : ∀ n, sumTo f (n + 1) = f 0 + sumTo (fun i => f (i + 1)) n
  | 0 => by simp [sumTo]
  | n + 1 => by
    show sumTo f (n + 1) + f (n + 1) = _
    rw [sumTo_shift f n]
    simp [sumTo]
    omega

/-- A part of a list; how many bits parts have. -/
def partNo (size : Nat) (l : List Int) (j : Nat) : List Int := (l.drop (j * size)).take size
def partLen (size : Nat) (ks l : List Int) (j : Nat) : Nat := 5 + totalN (partNo size l j) (ks.getD j 0).toNat
def bodyLen (size : Nat) (ks l : List Int) (n : Nat) : Nat := sumTo (partLen size ks l) n

theorem codes_length (k : Int) (hk : 0 ≤ k ∧ k ≤ 24) : ∀ l : List Int, (∀ n ∈ l, InR n) → (l.flatMap (codeOf · k)).length = totalN l k.toNat
  | [], _ => rfl
  | n :: l, h => by
    have ih := codes_length k hk l (fun x hx => h x (List.mem_cons_of_mem _ hx))
    have hn := h n (List.mem_cons_self ..)
    have hc : codeOf n k = codeBits n k.toNat := by
      unfold codeOf
      rw [if_pos]
      unfold codeOk
      exact decide_eq_true ⟨hn.1, hn.2, hk.1, hk.2⟩
    rw [List.flatMap_cons, List.length_append, ih, hc, codeBits_length]
    simp [totalN]

theorem body_length (size : Nat) : ∀ ks l : List Int, (∀ k ∈ ks, 0 ≤ k ∧ k ≤ 24) → (∀ n ∈ l, InR n) → (bodyBits size ks l).length = bodyLen size ks l ks.length
  | [], _, _, _ => rfl
  | k :: ks, l, hk, hl => by
    have ih := body_length size ks (l.drop size) (fun x hx => hk x (List.mem_cons_of_mem _ hx)) (fun x hx => hl x (List.mem_of_mem_drop hx))
    have h0 := codes_length k (hk k (List.mem_cons_self ..)) (l.take size) (fun x hx => hl x (List.mem_of_mem_take hx))
    have hf : (fun i => partLen size (k :: ks) l (i + 1)) = partLen size ks (l.drop size) := by
      funext i
      simp only [partLen, partNo, List.getD_cons_succ, List.drop_drop]
      rw [show (i + 1) * size = size + i * size by rw [Nat.add_mul]; omega]
    rw [List.length_cons, bodyLen, sumTo_shift, hf]
    rw [bodyBits, partBits, List.length_append, List.length_append, low_length, h0, ih]
    simp [partLen, partNo, bodyLen]

def slideLen (l : List Int) (P : Int) (ks : List Int) : Nat := (slideBits l P ks).length
theorem slide_len {l ks : List Int} {P : Int} (h : slideOk l P ks = true) : slideLen l P ks = 2 + bodyLen (l.length / ks.length) ks l ks.length := by
  obtain ⟨p, hP, h3, hk1, hk8, hk0, hl1, hl2, hs1, hs2, hsp, hks, hin⟩ := slide_parts h
  unfold slideLen slideBits listBits
  rw [if_pos h, List.length_append, low_length, body_length _ ks l hks hin]

theorem partNo_length {size : Nat} {l : List Int} {j : Nat} (h : (j + 1) * size ≤ l.length) : (partNo size l j).length = size := by
  unfold partNo
  rw [Nat.add_mul] at h
  simp
  omega
theorem partNo_in {size : Nat} {l : List Int} {j : Nat} (h : ∀ n ∈ l, InR n) : ∀ n ∈ partNo size l j, InR n :=
  fun n hn => h n (List.mem_of_mem_drop (List.mem_of_mem_take hn))
theorem bodyLen_le (size : Nat) (ks l : List Int) (hk : ∀ k ∈ ks, 0 ≤ k ∧ k ≤ 24) : ∀ n, n ≤ ks.length → bodyLen size ks l n ≤ n * (5 + 59 * size)
  | 0, _ => by simp [bodyLen, sumTo]
  | n + 1, h => by
    have ih := bodyLen_le size ks l hk n (by omega)
    show bodyLen size ks l n + partLen size ks l n ≤ _
    have hg : ks.getD n 0 = ks[n] := by rw [List.getD, List.getElem?_eq_getElem (by omega)]; rfl
    have h1 := hk ks[n] (List.getElem_mem (by omega))
    have h2 := totalN_le (partNo size l n) (ks.getD n 0).toNat (by rw [hg]; omega)
    have h3 : (partNo size l n).length ≤ size := by unfold partNo; simp; omega
    have h4 : 59 * (partNo size l n).length ≤ 59 * size := Nat.mul_le_mul_left 59 h3
    unfold partLen
    rw [Nat.add_mul (n) 1]
    omega
end Go.Proofs.PipeM
end

section
namespace Go.Proofs.YtnfpkjnllkkngaaGreatDoor
open Go.RowKit Go.Proofs Go.Proofs.PipeM Go.Proofs.PipeA

theorem IntsAt.part {w : World} {g off : Nat} {l : List Int} (h : IntsAt w (some ⟨g, off, none⟩) l) (size j : Nat) (hj : (j + 1) * size ≤ l.length) : IntsAt w (some ⟨g, off + j * size, none⟩) (partNo size l j) := by
  intro i hi
  rw [partNo_length hj] at hi
  rw [Nat.add_mul] at hj
  obtain ⟨b, o, h1, h2, h3⟩ := h (j * size + i) (by omega)
  cases h1
  refine ⟨_, _, rfl, h2, ?_⟩
  rw [Nat.add_assoc, h3]
  simp [partNo]

set_option maxHeartbeats 3200000 in
theorem refSBits (lo ao : Option Addr) (lcap cap : Nat) (l : List Int) (P : Int) (ks : List Int) (w : World) (hcap : l.length ≤ lcap) (hi : IntsAt w lo l) (hj : IntsAt w ao ks) (h : slideOk l P ks = true) :
    Calls Tryz.prog 54 #[.slice lo l.length lcap, .agg #[.int .i64 P, .slice ao ks.length cap]] w fun e w' => e = .returned (.int .i64 (slideLen l P ks)) ∧ Below w.heap.size w w' := by
  obtain ⟨p, rfl, h3, hk1, hk8, hk0, hl1, hl2, hs1, hs2, hsp, hks, hin⟩ := slide_parts h
  have HSE := Lib.hid (slide_len h)
  obtain ⟨size, hsize⟩ : ∃ size, size = l.length / ks.length := ⟨_, rfl⟩
  have hdiv : (l.length : Int) / (ks.length : Int) = (size : Int) := by rw [hsize]; omega
  have HBL := Lib.hid (bodyLen_le size ks l hks)
  have HKS := Lib.hid hks
  have HIN := Lib.hid hin
  rw [← hsize] at hs1 hs2 hsp HSE
  have HSP := Lib.hid hsp
  clear hsize hsp hks hin h hk1
  obtain ⟨len, hlen⟩ : ∃ len, len = l.length := ⟨_, rfl⟩
  obtain ⟨kl, hkl⟩ : ∃ kl, kl = ks.length := ⟨_, rfl⟩
  rw [← hlen] at hl1 hl2 hdiv hcap ⊢
  rw [← hkl] at hk8 hk0 hdiv ⊢
  have HLEN := Lib.hid hlen
  have HKL := Lib.hid hkl
  have HREL : Hid (PutRel w w.heap.size lo ao kl cap l ks (w.alloc (.cells #[.int .i64 p, .slice ao kl cap] 66))) :=
    ⟨box_below w _, hi.below (box_below w _), hj.below (box_below w _), by simp, by simp⟩
  clear hlen hkl hi hj
  go_enter Tryz.func54, Tryz.ntmps54
  go_wp2
  clear hdiv
  generalize w.alloc (.cells #[.int .i64 p, .slice ao kl cap] 66) = W0 at HREL ⊢
  generalize w.heap.size = B at HREL ⊢
  go_loopg [6, 7, 17] kl (fun gk s a i wr => ∃ c n : Nat, c ≤ kl ∧ gk + c = kl ∧ i = .int .i64 c ∧ s = .int .i64 n ∧ Hid (n = 2 + bodyLen size ks l c) ∧ Hid (PutRel w B lo ao kl cap l ks wr))
  case atStart => exact ⟨0, 2, Nat.zero_le _, by omega, rfl, rfl, rfl, HREL⟩
  case round =>
    obtain ⟨c, n, hc, hgk, rfl, rfl, HN, HT⟩ := hrel
    have HGK := Lib.hid hgk
    clear hgk HREL
    by_cases hlt : c < kl
    · have hck : c < ks.length := by have := HKL.out; omega
      have hx1 : (c + 1) * size ≤ l.length := by
        rw [HSP.out, Nat.mul_comm size]
        exact Nat.mul_le_mul_right size hck
      have hx2 : c * size + size = (c + 1) * size := by rw [Nat.add_mul, Nat.one_mul]
      obtain ⟨g, off, rfl, hg, kcell⟩ := HT.out.2.2.1 c hck
      obtain ⟨g2, off2, rfl, hg2, ncell⟩ := HT.out.2.1 0 (by have := HLEN.out; omega)
      have HP := HT.out.2.1.part size c hx1
      have c1 := HT.out.2.2.2.1
      have hkr := HKS.out ks[c] (List.getElem_mem hck)
      have HTT := fun m => Lib.hid (refTotal (some ⟨g2, off2 + c * size, none⟩) (lcap - c * size) (partNo size l c) ks[c].toNat (wr.drewN m) (by rw [partNo_length hx1]; omega) (HP.keeps (keeps_drewN wr m []) (by simp)) (partNo_in HIN.out) (by omega))
      rw [partNo_length hx1] at HTT
      have hbl := HBL.out c (by omega)
      have hn2 := HN.out
      have htl : totalN (partNo size l c) ks[c].toNat ≤ 59 * size := by have := totalN_le (partNo size l c) ks[c].toNat (by omega); rw [partNo_length hx1] at this; exact this
      have HSN : Hid (2 + bodyLen size ks l (c + 1) = n + 5 + totalN (partNo size l c) ks[c].toNat) := by
        show _ = _
        have hg : ks.getD c 0 = ks[c] := by rw [List.getD, List.getElem?_eq_getElem hck]; rfl
        show 2 + (bodyLen size ks l c + partLen size ks l c) = _
        rw [partLen, hg, hn2]
        omega
      have hnb : n ≤ 1000000 := by
        have h8 : c * (5 + 59 * size) ≤ 8 * (5 + 59 * 1024) := Nat.mul_le_mul (by omega) (by omega)
        omega
      obtain ⟨t, ht⟩ : ∃ t, t = totalN (partNo size l c) ks[c].toNat := ⟨_, rfl⟩
      rw [← ht] at HTT htl HSN
      obtain ⟨k, hk⟩ : ∃ k, k = ks[c] := ⟨_, rfl⟩
      rw [← hk] at kcell hkr HTT
      obtain ⟨kn, rfl⟩ := Int.eq_ofNat_of_zero_le hkr.1
      rw [Int.toNat_natCast] at HTT
      obtain ⟨a, ha⟩ : ∃ a, a = c * size := ⟨_, rfl⟩
      obtain ⟨b, hb⟩ : ∃ b, b = (c + 1) * size := ⟨_, rfl⟩
      have ha2 : (c : Int) * (size : Int) = (a : Int) := by rw [ha]; simp
      have hb2 : ((c : Int) + 1) * (size : Int) = (b : Int) := by rw [hb]; simp
      rw [← ha] at HTT hx2
      rw [← hb] at hx1 hx2
      have hx3 : b ≤ len := by have := HLEN.out; omega
      have hab : a ≤ b := by omega
      have hba : b - a = size := by omega
      have HTN := fun m => Lib.hid (HT.out.drewN m)
      clear hk ht ha hb hck hbl hn2 HP ncell hx1
      go_wp2_with fail
      go_quiet ((go_at_call 81; exact quiet_left (HTT _).out))
      have HTQ := HTN nq
      clear HTN HT
      generalize wr.drewN nq = W at HTQ ⊢
      go_wp2
      go_roundg (gk - 1)
      case rel => exact ⟨c + 1, n + 5 + t, by omega, by have := HGK.out; omega, by go_num, by go_num, HSN.out.symm, HTQ⟩
      case measure => have := HGK.out; omega
    · obtain rfl : c = kl := by omega
      go_wp2
      go_ret
      exact ⟨by rw [HSE.out, ← HKL.out, ← HN.out]; rfl, HT.out.1⟩
end Go.Proofs.YtnfpkjnllkkngaaGreatDoor
end
