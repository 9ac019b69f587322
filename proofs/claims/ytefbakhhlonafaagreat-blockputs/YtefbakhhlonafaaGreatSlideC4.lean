import Derived.Test.YtefbakhhlonafaaGreatRef3d
import Derived.Test.YtefbakhhlonafaaGreatRefReader2
import Derived.Test.YtefbakhhlonafaaGreatBlkB

section
namespace Go.Proofs.YtefbakhhlonafaaGreat
open Go.RowKit Go.Proofs Go.Proofs.PipeM Go.Proofs.PipeA

set_option maxHeartbeats 800000 in
theorem refSame (ao bo : Option Addr) (cap cap2 : Nat) (l m : List Int) (w : World) (hl : l.length ≤ 1000000000) (hi : IntsAt w ao l) (hj : IntsAt w bo m) :
    Calls Tryz.prog 19 #[.slice ao l.length cap, .slice bo m.length cap2] w fun e w' => e = .returned (.bool (decide (l = m))) ∧ ∃ k, w' = w.drewN k := by
  by_cases hlm : l.length = m.length
  · have HI := Lib.hid hi
    have HJ := Lib.hid hj
    have HLM := Lib.hid hlm
    have t1 : ((l.length : Int) != (m.length : Int)) = false := by rw [bne_eq_false_iff_eq]; omega
    obtain ⟨lm, hlm2⟩ : ∃ lm, lm = m.length := ⟨_, rfl⟩
    rw [← hlm2] at t1 ⊢
    have HLM2 := Lib.hid hlm2
    clear hi hj hlm hlm2
    go_enter Tryz.func19, Tryz.ntmps19
    go_wp2
    go_loopg [5, 13] l.length (fun gk q i wr => ∃ c d : Nat, c ≤ l.length ∧ gk + c = l.length ∧ i = .int .i64 c ∧ Hid (l.take c = m.take c) ∧ Hid (wr = w.drewN d))
    case atStart => exact ⟨0, 0, Nat.zero_le _, by omega, rfl, by show _ = _; simp, rfl⟩
    case round =>
      obtain ⟨c, d, hc, hgk, rfl, HT, HW⟩ := hrel
      have HGK := Lib.hid hgk
      clear hgk
      by_cases hlt : c < l.length
      · have hltm : c < m.length := by have := HLM.out; omega
        have hltm2 : c < lm := by have := HLM2.out; omega
        obtain ⟨g, off, rfl, hg, hcell⟩ := HI.out c hlt
        obtain ⟨g2, off2, rfl, hg2, hcell2⟩ := HJ.out c hltm
        have HNX : Hid (l[c] = m[c] → l.take (c + 1) = m.take (c + 1)) := by
          intro h
          rw [List.take_succ_eq_append_getElem hlt, List.take_succ_eq_append_getElem hltm, HT.out, h]
        have HNO : Hid (l[c] ≠ m[c] → decide (l = m) = false) := by
          intro h
          exact decide_eq_false (fun he => h (by subst he; rfl))
        obtain ⟨x, hx⟩ : ∃ x, x = l[c] := ⟨_, rfl⟩
        obtain ⟨y, hy⟩ : ∃ y, y = m[c] := ⟨_, rfl⟩
        rw [← hx] at hcell HNX HNO
        rw [← hy] at hcell2 HNX HNO
        have k1 : wr.cell? ⟨g, off + c, none⟩ = some (.int .i64 x) := by rw [HW.out]; exact hcell
        have k2 : wr.cell? ⟨g2, off2 + c, none⟩ = some (.int .i64 y) := by rw [HW.out]; exact hcell2
        clear hx hy hltm hg hg2 hcell hcell2
        by_cases he : x = y
        · have t2 : (x != y) = false := by simp [he]
          have HN2 := Lib.hid (HNX.out he)
          clear he
          go_wp2
          go_quiet (fail)
          go_wp2
          go_roundg (gk - 1)
          case rel => exact ⟨c + 1, _, by omega, by have := HGK.out; omega, by go_num, HN2, by show _ = _; rw [HW.out]; exact World.drewN_drewN _ _ _⟩
          case measure => have := HGK.out; omega
        · have t2 : (x != y) = true := by rw [bne_iff_ne]; exact he
          have HN2 := Lib.hid (HNO.out he)
          clear he
          go_wp2
          go_quiet (fail)
          go_wp2
          go_ret
          exact ⟨by rw [HN2.out]; rfl, _, by rw [HW.out]; exact World.drewN_drewN _ _ _⟩
      · obtain rfl : c = l.length := by omega
        have HA : Hid (decide (l = m) = true) := by
          apply decide_eq_true
          have := HT.out
          rw [List.take_length, HLM.out, List.take_length] at this
          exact this
        go_wp2
        go_ret
        exact ⟨by rw [HA.out]; rfl, _, HW.out⟩
  · have t1 : ((l.length : Int) != (m.length : Int)) = true := by rw [bne_iff_ne]; omega
    have HA : Hid (decide (l = m) = false) := decide_eq_false (fun he => hlm (by rw [he]))
    clear hlm
    go_enter Tryz.func19, Tryz.ntmps19
    go_wp2
    go_ret
    exact ⟨by rw [HA.out]; rfl, 0, rfl⟩

end Go.Proofs.YtefbakhhlonafaaGreat
end

section
namespace Go.Proofs.YtefbakhhlonafaaGreat
open Go.RowKit Go.Proofs Go.Proofs.PipeM Go.Proofs.PipeA

end Go.Proofs.YtefbakhhlonafaaGreat
end

section
namespace Go.Proofs.PipeM

def sumTo (f : Nat → Nat) : Nat → Nat
  | 0 => 0
  | n + 1 => sumTo f n + f n
theorem sumTo_shift (f : Nat → Nat) : ∀ n, sumTo f (n + 1) = f 0 + sumTo (fun i => f (i + 1)) n
  | 0 => by simp [sumTo]
  | n + 1 => by
    show sumTo f (n + 1) + f (n + 1) = _
    rw [sumTo_shift f n]
    simp [sumTo]
    omega

/-- A part of a list; how many bits parts have. -/
def partNo (size : Nat) (l : List Int) (j : Nat) : List Int := (l.drop (j * size)).take size
def partLen (size : Nat) (ks l : List Int) (j : Nat) : Nat := 5 + totalN (partNo size l j) (ks.getD j 0).toNat
def bodyLen (size : Nat) (ks l : List Int) (n : Nat) : Nat := sumTo (partLen size ks l) n

theorem codes_length (k : Int) (hk : 0 ≤ k ∧ k ≤ 24) : ∀ l : List Int, (∀ n ∈ l, InR n) → (l.flatMap (codeOf · k)).length = totalN l k.toNat
  | [], _ => rfl
  | n :: l, h => by
    have ih := codes_length k hk l (fun x hx => h x (List.mem_cons_of_mem _ hx))
    have hn := h n (List.mem_cons_self ..)
    have hc : codeOf n k = codeBits n k.toNat := by
      unfold codeOf
      rw [if_pos]
      unfold codeOk
      exact decide_eq_true ⟨hn.1, hn.2, hk.1, hk.2⟩
    rw [List.flatMap_cons, List.length_append, ih, hc, codeBits_length]
    simp [totalN]

theorem body_length (size : Nat) : ∀ ks l : List Int, (∀ k ∈ ks, 0 ≤ k ∧ k ≤ 24) → (∀ n ∈ l, InR n) → (bodyBits size ks l).length = bodyLen size ks l ks.length
  | [], _, _, _ => rfl
  | k :: ks, l, hk, hl => by
    have ih := body_length size ks (l.drop size) (fun x hx => hk x (List.mem_cons_of_mem _ hx)) (fun x hx => hl x (List.mem_of_mem_drop hx))
    have h0 := codes_length k (hk k (List.mem_cons_self ..)) (l.take size) (fun x hx => hl x (List.mem_of_mem_take hx))
    have hf : (fun i => partLen size (k :: ks) l (i + 1)) = partLen size ks (l.drop size) := by
      funext i
      simp only [partLen, partNo, List.getD_cons_succ, List.drop_drop]
      rw [show (i + 1) * size = size + i * size by rw [Nat.add_mul]; omega]
    rw [List.length_cons, bodyLen, sumTo_shift, hf]
    rw [bodyBits, partBits, List.length_append, List.length_append, low_length, h0, ih]
    simp [partLen, partNo, bodyLen]

def slideLen (l : List Int) (P : Int) (ks : List Int) : Nat := (slideBits l P ks).length
theorem slide_len {l ks : List Int} {P : Int} (h : slideOk l P ks = true) : slideLen l P ks = 2 + bodyLen (l.length / ks.length) ks l ks.length := by
  obtain ⟨p, hP, h3, hk1, hk8, hk0, hl1, hl2, hs1, hs2, hsp, hks, hin⟩ := slide_parts h
  unfold slideLen slideBits listBits
  rw [if_pos h, List.length_append, low_length, body_length _ ks l hks hin]

theorem partNo_length {size : Nat} {l : List Int} {j : Nat} (h : (j + 1) * size ≤ l.length) : (partNo size l j).length = size := by
  unfold partNo
  rw [Nat.add_mul] at h
  simp
  omega
theorem partNo_in {size : Nat} {l : List Int} {j : Nat} (h : ∀ n ∈ l, InR n) : ∀ n ∈ partNo size l j, InR n :=
  fun n hn => h n (List.mem_of_mem_drop (List.mem_of_mem_take hn))
theorem bodyLen_le (size : Nat) (ks l : List Int) (hk : ∀ k ∈ ks, 0 ≤ k ∧ k ≤ 24) : ∀ n, n ≤ ks.length → bodyLen size ks l n ≤ n * (5 + 59 * size)
  | 0, _ => by simp [bodyLen, sumTo]
  | n + 1, h => by
    have ih := bodyLen_le size ks l hk n (by omega)
    show bodyLen size ks l n + partLen size ks l n ≤ _
    have hg : ks.getD n 0 = ks[n] := by rw [List.getD, List.getElem?_eq_getElem (by omega)]; rfl
    have h1 := hk ks[n] (List.getElem_mem (by omega))
    have h2 := totalN_le (partNo size l n) (ks.getD n 0).toNat (by rw [hg]; omega)
    have h3 : (partNo size l n).length ≤ size := by unfold partNo; simp; omega
    have h4 : 59 * (partNo size l n).length ≤ 59 * size := Nat.mul_le_mul_left 59 h3
    unfold partLen
    rw [Nat.add_mul (n) 1]
    omega
end Go.Proofs.PipeM
end

section
namespace Go.Proofs.YtefbakhhlonafaaGreat
open Go.RowKit Go.Proofs Go.Proofs.PipeM Go.Proofs.PipeA

theorem IntsAt.part {w : World} {g off : Nat} {l : List Int} (h : IntsAt w (some ⟨g, off, none⟩) l) (size j : Nat) (hj : (j + 1) * size ≤ l.length) : IntsAt w (some ⟨g, off + j * size, none⟩) (partNo size l j) := by
  intro i hi
  rw [partNo_length hj] at hi
  rw [Nat.add_mul] at hj
  obtain ⟨b, o, h1, h2, h3⟩ := h (j * size + i) (by omega)
  cases h1
  refine ⟨_, _, rfl, h2, ?_⟩
  rw [Nat.add_assoc, h3]
  simp [partNo]

set_option maxHeartbeats 3200000 in
theorem refSBits (lo ao : Option Addr) (lcap cap : Nat) (l : List Int) (P : Int) (ks : List Int) (w : World) (hcap : l.length ≤ lcap) (hi : IntsAt w lo l) (hj : IntsAt w ao ks) (h : slideOk l P ks = true) :
    Calls Tryz.prog 41 #[.slice lo l.length lcap, .agg #[.int .i64 P, .slice ao ks.length cap]] w fun e w' => e = .returned (.int .i64 (slideLen l P ks)) ∧ Below w.heap.size w w' := by
  obtain ⟨p, rfl, h3, hk1, hk8, hk0, hl1, hl2, hs1, hs2, hsp, hks, hin⟩ := slide_parts h
  have HSE := Lib.hid (slide_len h)
  obtain ⟨size, hsize⟩ : ∃ size, size = l.length / ks.length := ⟨_, rfl⟩
  have hdiv : (l.length : Int) / (ks.length : Int) = (size : Int) := by rw [hsize]; omega
  have HBL := Lib.hid (bodyLen_le size ks l hks)
  have HKS := Lib.hid hks
  have HIN := Lib.hid hin
  rw [← hsize] at hs1 hs2 hsp HSE
  have HSP := Lib.hid hsp
  clear hsize hsp hks hin h hk1
  obtain ⟨len, hlen⟩ : ∃ len, len = l.length := ⟨_, rfl⟩
  obtain ⟨kl, hkl⟩ : ∃ kl, kl = ks.length := ⟨_, rfl⟩
  rw [← hlen] at hl1 hl2 hdiv hcap ⊢
  rw [← hkl] at hk8 hk0 hdiv ⊢
  have HLEN := Lib.hid hlen
  have HKL := Lib.hid hkl
  have HREL : Hid (PutRel w w.heap.size lo ao kl cap l ks (w.alloc (.cells #[.int .i64 p, .slice ao kl cap] 71))) :=
    ⟨box_below w _, hi.below (box_below w _), hj.below (box_below w _), by simp, by simp⟩
  clear hlen hkl hi hj
  go_enter Tryz.func41, Tryz.ntmps41
  go_wp2
  clear hdiv
  generalize w.alloc (.cells #[.int .i64 p, .slice ao kl cap] 71) = W0 at HREL ⊢
  generalize w.heap.size = B at HREL ⊢
  go_loopg [6, 7, 17] kl (fun gk s a i wr => ∃ c n : Nat, c ≤ kl ∧ gk + c = kl ∧ i = .int .i64 c ∧ s = .int .i64 n ∧ Hid (n = 2 + bodyLen size ks l c) ∧ Hid (PutRel w B lo ao kl cap l ks wr))
  case atStart => exact ⟨0, 2, Nat.zero_le _, by omega, rfl, rfl, rfl, HREL⟩
  case round =>
    obtain ⟨c, n, hc, hgk, rfl, rfl, HN, HT⟩ := hrel
    have HGK := Lib.hid hgk
    clear hgk HREL
    by_cases hlt : c < kl
    · have hck : c < ks.length := by have := HKL.out; omega
      have hx1 : (c + 1) * size ≤ l.length := by
        rw [HSP.out, Nat.mul_comm size]
        exact Nat.mul_le_mul_right size hck
      have hx2 : c * size + size = (c + 1) * size := by rw [Nat.add_mul, Nat.one_mul]
      obtain ⟨g, off, rfl, hg, kcell⟩ := HT.out.2.2.1 c hck
      obtain ⟨g2, off2, rfl, hg2, ncell⟩ := HT.out.2.1 0 (by have := HLEN.out; omega)
      have HP := HT.out.2.1.part size c hx1
      have c1 := HT.out.2.2.2.1
      have hkr := HKS.out ks[c] (List.getElem_mem hck)
      have HTT := fun m => Lib.hid (refTotal (some ⟨g2, off2 + c * size, none⟩) (lcap - c * size) (partNo size l c) ks[c].toNat (wr.drewN m) (by rw [partNo_length hx1]; omega) (HP.keeps (keeps_drewN wr m []) (by simp)) (partNo_in HIN.out) (by omega))
      rw [partNo_length hx1] at HTT
      have hbl := HBL.out c (by omega)
      have hn2 := HN.out
      have htl : totalN (partNo size l c) ks[c].toNat ≤ 59 * size := by have := totalN_le (partNo size l c) ks[c].toNat (by omega); rw [partNo_length hx1] at this; exact this
      have HSN : Hid (2 + bodyLen size ks l (c + 1) = n + 5 + totalN (partNo size l c) ks[c].toNat) := by
        show _ = _
        have hg : ks.getD c 0 = ks[c] := by rw [List.getD, List.getElem?_eq_getElem hck]; rfl
        show 2 + (bodyLen size ks l c + partLen size ks l c) = _
        rw [partLen, hg, hn2]
        omega
      have hnb : n ≤ 1000000 := by
        have h8 : c * (5 + 59 * size) ≤ 8 * (5 + 59 * 1024) := Nat.mul_le_mul (by omega) (by omega)
        omega
      obtain ⟨t, ht⟩ : ∃ t, t = totalN (partNo size l c) ks[c].toNat := ⟨_, rfl⟩
      rw [← ht] at HTT htl HSN
      obtain ⟨k, hk⟩ : ∃ k, k = ks[c] := ⟨_, rfl⟩
      rw [← hk] at kcell hkr HTT
      obtain ⟨kn, rfl⟩ := Int.eq_ofNat_of_zero_le hkr.1
      rw [Int.toNat_natCast] at HTT
      obtain ⟨a, ha⟩ : ∃ a, a = c * size := ⟨_, rfl⟩
      obtain ⟨b, hb⟩ : ∃ b, b = (c + 1) * size := ⟨_, rfl⟩
      have ha2 : (c : Int) * (size : Int) = (a : Int) := by rw [ha]; simp
      have hb2 : ((c : Int) + 1) * (size : Int) = (b : Int) := by rw [hb]; simp
      rw [← ha] at HTT hx2
      rw [← hb] at hx1 hx2
      have hx3 : b ≤ len := by have := HLEN.out; omega
      have hab : a ≤ b := by omega
      have hba : b - a = size := by omega
      have HTN := fun m => Lib.hid (HT.out.drewN m)
      clear hk ht ha hb hck hbl hn2 HP ncell hx1
      go_wp2_with fail
      go_quiet ((go_at_call 70; exact quiet_left (HTT _).out))
      have HTQ := HTN nq
      clear HTN HT
      generalize wr.drewN nq = W at HTQ ⊢
      go_wp2
      go_roundg (gk - 1)
      case rel => exact ⟨c + 1, n + 5 + t, by omega, by have := HGK.out; omega, by go_num, by go_num, HSN.out.symm, HTQ⟩
      case measure => have := HGK.out; omega
    · obtain rfl : c = kl := by omega
      go_wp2
      go_ret
      exact ⟨by rw [HSE.out, ← HKL.out, ← HN.out]; rfl, HT.out.1⟩
end Go.Proofs.YtefbakhhlonafaaGreat
end

section
namespace Go.Proofs.YtefbakhhlonafaaGreat
open Go.RowKit Go.Shelf Go.Proofs Go.Proofs.PipeM Go.Proofs.PipeA
set_option maxRecDepth 100000

theorem cellA {W : World} {a : Addr} {v : Value} (o : Obj) (h : W.cell? a = some v) : (W.alloc o).cell? a = some v := cell_kept h (World.grownBy_alloc W o none) (fun r e => by cases e)

set_option maxHeartbeats 800000 in
theorem cBits_no (lo ao : Option Addr) (lcap cap : Nat) (l : List Int) (P : Int) (ks : List Int) (w : World) (hl : l.length ≤ 1000000) (hk : ks.length ≤ 1000000) (hi : IntsAt w lo l) (hj : IntsAt w ao ks) (h : slideOk l P ks = false) :
    Calls Tryz.prog 68 #[.slice lo l.length lcap, .agg #[.int .i64 P, .slice ao ks.length cap]] w fun e w' => e = .returned (.int .i64 (slideLen l P ks)) ∧ Below w.heap.size w w' := by
  have HS : Hid (slideLen l P ks = 0) := by show _ = _; unfold slideLen slideBits; rw [h]; rfl
  have HM := fun o => Lib.hid (cMayTell lo ao lcap cap l P ks (w.alloc o) hl hk (hi.below (box_below w o)) (hj.below (box_below w o)))
  have HB := fun o => Lib.hid (box_below w o)
  rw [h] at HM
  clear hi hj h
  generalize ks.length = kl at HM hk ⊢
  generalize l.length = ll at HM hl ⊢
  go_enter Tryz.func68, Tryz.ntmps68
  go_wp2_with (go_at_call 81; refine (HM _).out.mono ?_; rintro e w1 ⟨rfl, hb⟩)
  go_ret
  exact ⟨by rw [HS.out]; rfl, (HB _).out.trans (hb.mono (HB _).out.size)⟩

attribute [local go_sem] Oper.semAt_some

/-- How many bits the parts that have come have. -/
def sumP (f : Nat → Nat) {m : Nat} (pre : List (Fin m)) : Nat := (pre.map fun j => f j.val).sum
theorem sumP_snoc (f : Nat → Nat) {m : Nat} (pre : List (Fin m)) (x : Fin m) : sumP f (pre ++ [x]) = sumP f pre + f x.val := by simp [sumP]
theorem sumP_le (f : Nat → Nat) (k : Nat) {m : Nat} (h : ∀ j, j < m → f j ≤ k) : ∀ pre : List (Fin m), sumP f pre ≤ pre.length * k
  | [] => by simp [sumP]
  | x :: r => by
    have := sumP_le f k h r
    have h1 := h x.val x.2
    simp only [sumP, List.map_cons, List.sum_cons, List.length_cons, Nat.add_mul, Nat.one_mul] at this ⊢
    omega
theorem sum_range (f : Nat → Nat) : ∀ n, ((List.range n).map f).sum = sumTo f n
  | 0 => rfl
  | n + 1 => by rw [List.range_succ, List.map_append, List.sum_append, sum_range f n]; simp [sumTo]
theorem sumP_all (f : Nat → Nat) {m : Nat} {xs : List (Fin m)} (h : xs.map (·.val) = List.range m) : sumP f xs = sumTo f m := by
  rw [← sum_range, ← h, List.map_map]; rfl

set_option maxHeartbeats 3200000 in
theorem cBits_yes (lo ao : Option Addr) (lcap cap : Nat) (l : List Int) (P : Int) (ks : List Int) (w : World) (hcap : l.length ≤ lcap) (hi : IntsAt w lo l) (hj : IntsAt w ao ks) (h : slideOk l P ks = true) :
    Calls Tryz.prog 68 #[.slice lo l.length lcap, .agg #[.int .i64 P, .slice ao ks.length cap]] w fun e w' => e = .returned (.int .i64 (slideLen l P ks)) ∧ Below w.heap.size w w' := by
  obtain ⟨p, rfl, h3, hk1, hk8, hk0, hl1, hl2, hs1, hs2, hsp, hks, hin⟩ := slide_parts h
  have HSE := Lib.hid (slide_len h)
  have HM := fun o => Lib.hid (cMayTell lo ao lcap cap l p ks (w.alloc o) (by omega) (by omega) (hi.below (box_below w o)) (hj.below (box_below w o)))
  rw [h] at HM
  obtain ⟨size, hsize⟩ : ∃ size, size = l.length / ks.length := ⟨_, rfl⟩
  rw [← hsize] at hs1 hs2 hsp HSE
  have HKS := Lib.hid hks
  have HIN := Lib.hid hin
  obtain ⟨g, off, rfl, hg0, _⟩ := hi 0 hl1
  obtain ⟨ga, offa, rfl, hga0, _⟩ := hj 0 hk0
  have HI := Lib.hid hi
  have HJ := Lib.hid hj
  have HB := fun o => Lib.hid (box_below w o)
  obtain ⟨len, hlen⟩ : ∃ len, len = l.length := ⟨_, rfl⟩
  obtain ⟨m, hm⟩ : ∃ m, m = ks.length := ⟨_, rfl⟩
  rw [← hlen] at hl1 hl2 hcap HM hsp ⊢
  rw [← hm] at hk8 hk0 HM HSE hsp hk1 ⊢
  have HST := fun c t W => Lib.hid (each1_stops (n := 4) g off len lcap p size m c t W (by omega) h3 hk1 hsp hs1 hl2 hcap)
  have HLEN := Lib.hid hlen
  have HML := Lib.hid hm
  have HPT := fun W => Lib.hid (cParts (some ⟨g, off, none⟩) len lcap p W h3)
  have HSP := Lib.hid hsp
  clear hsize hsp hks hin h hk1 hlen hm hi hj
  refine (callsIn_wide (n := 5)).1 ?_
  refine callsIn_of_wp_marks Tryz.func68 rfl trivial ?_ rfl
  simp only [Tryz.ntmps68, List.size_toArray, List.length_cons, List.length_nil, Nat.reduceAdd, Nat.reduceSub, Array.replicate_succ, Array.replicate_zero, List.push_toArray, List.append_toArray, List.nil_append, List.cons_append]
  gi_wp2_with fail
  refine ⟨trivial, (callsIn_wide.2 (HM _).out).mono ?_⟩
  rintro e w1 ⟨rfl, hb⟩
  have HB1 := Lib.hid ((HB _).out.trans (hb.mono (HB _).out.size))
  have c0 : w1.cell? ⟨w.heap.size, 0, none⟩ = some (.int .i64 p) := (hb.cell (p := ⟨w.heap.size, 0, none⟩) (by simp)).trans (by simp)
  have c1 : w1.cell? ⟨w.heap.size, 1, none⟩ = some (.slice (some ⟨ga, offa, none⟩) m cap) := (hb.cell (p := ⟨w.heap.size, 1, none⟩) (by simp)).trans (by simp)
  have hsz1 : w.heap.size + 1 ≤ w1.heap.size := by have := hb.size; simpa using this
  have d0 := cellA (.cells #[.int .i64 2] 3) c0
  have d1 := cellA (.cells #[.int .i64 2] 3) c1
  have d2 : (w1.alloc (.cells #[.int .i64 2] 3)).cell? ⟨w1.heap.size, 0, none⟩ = some (.int .i64 2) := by simp
  have d3 : (w1.alloc (.cells #[.int .i64 2] 3)).frozen? ⟨w1.heap.size, 0, none⟩ = false := by simp
  have HB2 := Lib.hid (HB1.out.alloc HB1.out.size (.cells #[.int .i64 2] 3))
  have hsz2 : w1.heap.size + 1 ≤ (w1.alloc (.cells #[.int .i64 2] 3)).heap.size := by simp
  clear hb HM HB c0 c1 HB1
  gi_wp2_with fail
  refine ⟨trivial, (callsIn_wide.2 (HPT _).out).mono ?_⟩
  generalize hWA : w1.alloc (.cells #[.int .i64 2] 3) = wa at d0 d1 d2 d3 HB2 hsz2 ⊢
  generalize hB5 : w1.heap.size = B5 at hsz1 d2 d3 hsz2 ⊢
  clear hWA hB5
  rintro e w2 ⟨c, t, rfl, hpa, hc1, ht1, hc2, ht2, hb2⟩
  unfold partsF
  gi_wp2_with fail
  have hbb := Lib.hid (HB2.out.trans (hb2.mono HB2.out.size))
  have hB5 : B5 < w2.heap.size := Nat.lt_of_lt_of_le hsz2 hb2.size
  have hne1 : w.heap.size ≠ B5 := by omega
  have hne2 : g ≠ B5 := by omega
  have hne3 : ga ≠ B5 := by omega
  have hne4 : c ≠ B5 := by omega
  have hne5 : t ≠ B5 := by omega
  have hws : w.heap.size < w2.heap.size := by omega
  have hgs : g < w2.heap.size := by omega
  have hgas : ga < w2.heap.size := by omega
  have e1 := (hb2.cell (p := ⟨w.heap.size, 1, none⟩) (by show w.heap.size < _; omega)).trans d1
  have e2 := (hb2.cell (p := ⟨B5, 0, none⟩) (by show B5 < _; omega)).trans d2
  have e3 := (hb2.frozen (p := ⟨B5, 0, none⟩) (by show B5 < _; omega)).trans d3
  have HI2 := Lib.hid (HI.out.below hbb.out)
  have HJ2 := Lib.hid (HJ.out.below hbb.out)
  have hseq := (HST c t w2).out hpa hc2 ht2
  clear d0 d1 d2 d3 HB2 hb2 hpa HST HI HJ HPT
  have hpl : ∀ j, j < m → partLen size ks l j ≤ 5 + 59 * 1024 := fun j hj => by
    have hjk : j < ks.length := by have := HML.out; omega
    have hg : ks.getD j 0 = ks[j] := by rw [List.getD, List.getElem?_eq_getElem hjk]; rfl
    have h1 := HKS.out ks[j] (List.getElem_mem hjk)
    have h2 := totalN_le (partNo size l j) (ks.getD j 0).toNat (by rw [hg]; omega)
    have h3 : (partNo size l j).length ≤ size := by unfold partNo; simp; omega
    unfold partLen
    omega
  refine wpIn_rangeFunc_ownG rfl (by omega) (gf := 124) (lb := #[.pointer (some ⟨c, 0, none⟩), .pointer (some ⟨t, 0, none⟩)]) rfl trivial (enters_of Tryz.func124 (by kernel_rfl) rfl)
    hseq kpB_t (kpB_b hc2 ht2) (Below.refl _ _) (fun _ => rfl)
    (fun pre W => (W.cell? ⟨B5, 0, none⟩ = some (.int .i64 ((2 + sumP (partLen size ks l) pre : Nat) : Int)) ∧ W.frozen? ⟨B5, 0, none⟩ = false) ∧ Keeps [B5] w2 W)
    (fun _ _ _ => False)
    ((own_cell ⟨B5, 0, none⟩ _).and own_keeps) (fun _ _ _ _ _ hs _ _ => hs.elim)
    ⟨⟨e2, e3⟩, Keeps.refl _ _⟩
    (fun x => { tmps := #[.slice (some ⟨g, off, none⟩) len lcap, .agg #[.int .i64 p, .slice (some ⟨ga, offa, none⟩) m cap], undef, .pointer (some ⟨w.heap.size, 0, none⟩), .int .i64 0, .pointer (some ⟨B5, 0, none⟩), .int .i64 ((x.val : Nat) : Int), partV g off size lcap x.val,
      .slice (some ⟨g, off, none⟩) len lcap, .agg #[.int .i64 p, .slice (some ⟨ga, offa, none⟩) m cap], .bool true, .bool false, .slice (some ⟨g, off, none⟩) len lcap, .pointer (some ⟨w.heap.size, 0, none⟩), .int .i64 p, .agg #[.slice (some ⟨g, off, none⟩) len lcap, .int .i64 p],
      .func (.func 124) #[] #[.pointer (some ⟨c, 0, none⟩), .pointer (some ⟨t, 0, none⟩)], .int .i64 ((x.val : Nat) : Int), partV g off size lcap x.val, undef, undef, undef, undef, undef, undef, undef, undef, undef, undef, undef], defers := [] }) ?assign ?body ?done ?stop
  case assign =>
    intro l' x W K hK
    unfold encP partV
    unfold partV at hK
    gi_wp2
    exact hK
  case body =>
    rintro l' pre ⟨x, hx⟩ W ⟨⟨hc, hf⟩, hK⟩ hpre
    have hmx : Tryz.prog.follows .mixedOrders = true := by kernel_rfl
    have hxk : x < ks.length := by have := HML.out; omega
    have hx1 : (x + 1) * size ≤ l.length := by
      rw [← HLEN.out, HSP.out, Nat.mul_comm size]
      exact Nat.mul_le_mul_right size hx
    have kcell : W.cell? ⟨ga, offa + x, none⟩ = some (.int .i64 ks[x]) := by
      obtain ⟨g', off', h1, h2, h3⟩ := HJ2.out x hxk
      cases h1
      exact (hK.cell (p := ⟨ga, offa + x, none⟩) h2 (by simp; exact hne3)).trans h3
    have k1 := (hK.cell (p := ⟨w.heap.size, 1, none⟩) hws (by simp; exact hne1)).trans e1
    have hkr := HKS.out ks[x] (List.getElem_mem hxk)
    have HIW := Lib.hid ((HI2.out.keeps hK (by intro g' off' hh; cases hh; simp; exact hne2)).part size x hx1)
    have HTT := fun W' (h : Below W.heap.size W W') => Lib.hid (cTotal (some ⟨g, off + x * size, none⟩) (lcap - x * size) (partNo size l x) ks[x].toNat W' (by rw [partNo_length hx1]; omega) (HIW.out.below h) (partNo_in HIN.out) (by omega))
    rw [partNo_length hx1] at HTT
    have hb1 := sumP_le (partLen size ks l) _ hpl pre
    have hb2 : pre.length * (5 + 59 * 1024) ≤ 8 * (5 + 59 * 1024) := Nat.mul_le_mul_right _ (by omega)
    have htl := hpl x hx
    have hpx : partLen size ks l x = 5 + totalN (partNo size l x) ks[x].toNat := by
      unfold partLen
      rw [show ks.getD x 0 = ks[x] by rw [List.getD, List.getElem?_eq_getElem hxk]; rfl]
    have HSN := Lib.hid (sumP_snoc (partLen size ks l) pre ⟨x, hx⟩)
    rw [hpx] at HSN htl
    generalize sumP (partLen size ks l) pre = sp at hb1 HSN hc
    generalize totalN (partNo size l x) ks[x].toNat = tt at HTT HSN htl
    generalize ks[x] = k at kcell hkr HTT
    obtain ⟨kn, rfl⟩ := Int.eq_ofNat_of_zero_le hkr.1
    rw [Int.toNat_natCast] at HTT
    have HK := Lib.hid hK
    have hBW : B5 < W.heap.size := Nat.lt_of_lt_of_le hB5 hK.size
    have hcW : c < W.heap.size := Nat.lt_of_lt_of_le hc2 hK.size
    have htW : t < W.heap.size := Nat.lt_of_lt_of_le ht2 hK.size
    clear hpx hxk hx1 hK hkr hb2
    have HEND : ∀ w3, Below W.drew.heap.size W.drew w3 → (fun W' => KeepsFrom w2.heap.size W W' ∧ KpB c t W W' ∧ ((W'.cell? ⟨B5, 0, none⟩ = some (.int .i64 ((2 + sumP (partLen size ks l) (pre ++ [⟨x, hx⟩]) : Nat) : Int)) ∧ W'.frozen? ⟨B5, 0, none⟩ = false) ∧ Keeps [B5] w2 W')) (w3.setCell ⟨B5, 0, none⟩ (.int .i64 (IntKind.i64.wrap (2 + (sp : Int) + IntKind.i64.wrap (5 + (tt : Int)))))) := by
      intro w3 hb3
      have hB3 : w3.cell? ⟨B5, 0, none⟩ = some (.int .i64 ((2 + sp : Nat) : Int)) := (hb3.cell (p := ⟨B5, 0, none⟩) hBW).trans hc
      have hF3 : w3.frozen? ⟨B5, 0, none⟩ = false := (hb3.frozen (p := ⟨B5, 0, none⟩) hBW).trans hf
      have kk : Keeps [B5] W (w3.setCell ⟨B5, 0, none⟩ (.int .i64 (IntKind.i64.wrap (2 + (sp : Int) + IntKind.i64.wrap (5 + (tt : Int)))))) := ((keeps_drew_b W [B5]).trans (keeps_of_below hb3 [B5])).trans (keeps_setCell w3 B5 0 _)
      refine ⟨keepsFrom_of kk (fun k hk => by simp at hk; subst hk; exact Or.inl hB5), kpB_keeps kk hcW htW (by simp; exact hne4) (by simp; exact hne5), ⟨?_, ?_⟩, HK.out.trans kk⟩
      · rw [World.cell?_setCell_same' _ _ _ (by rw [hB3]; rfl), HSN.out]
        congr 2
        rw [IntWalk.i64_in (5 + (tt : Int)) ⟨by omega, by omega⟩, IntWalk.i64_in _ ⟨by omega, by omega⟩]
        omega
      · rw [World.frozen?_setCell]; exact hF3
    unfold partV
    gi_wp2_with fail
    refine regionR hmx (by kernel_rfl) ?_
    refine wpAnyIn_take (i := 1) (v := ?_) rfl rfl (by kernel_rfl) (by kernel_rfl) (by kernel_rfl) (fun _ _ _ h => h) ⟨Or.inl ⟨by rfl, ?_⟩, fun _ => rfl⟩ ?_
    rotate_left
    · intro w9; go_simp; try with_reducible rfl
    refine wpAnyIn_take (i := 2) (v := ?_) rfl rfl (by kernel_rfl) (by kernel_rfl) (by kernel_rfl) (fun _ _ _ h => h) ⟨Or.inl ⟨by rfl, ?_⟩, fun _ => rfl⟩ ?_
    rotate_left
    · intro w9; go_simp; try with_reducible rfl
    refine wpAnyIn_take (i := 4) (v := ?_) rfl rfl (by kernel_rfl) (by kernel_rfl) (by kernel_rfl) (fun _ _ _ h => h) ⟨Or.inl ⟨by rfl, ?_⟩, fun _ => rfl⟩ ?_
    rotate_left
    · intro w9; go_simp; try with_reducible rfl
    refine wpAnyIn_ready (rs := [0, 3]) (by kernel_rfl) (by simp) ?_
    refine AllReadyIn.cons rfl (fun K hK => ?_) ?_
    · go_simp
      refine hK _ _ ?_
      clear hK K
      refine wpAnyIn_ready (rs := [3]) (by kernel_rfl) (by simp) ?_
      refine AllReadyIn.cons rfl (fun K hK => ?_) ?_
      · go_simp
        refine hK _ _ ?_
        clear hK K
        refine wpAnyIn_take (i := 5) (v := ?_) rfl rfl (by kernel_rfl) (by kernel_rfl) (by kernel_rfl) (fun _ _ _ h => h) ⟨Or.inl ⟨by rfl, ?_⟩, fun _ => rfl⟩ ?_
        rotate_left
        · intro w9; go_simp; try with_reducible rfl
        refine wpAnyIn_ready (rs := [6]) (by kernel_rfl) (by simp) ?_
        refine AllReadyIn.cons rfl (fun K hK => ?_) ?_
        · go_simp
          refine hK _ _ ?_
          clear hK K
          refine wpAnyIn_ready (rs := [7]) (by kernel_rfl) (by simp) ?_
          refine AllReadyIn.cons rfl (fun K hK => ?_) ?_
          · go_simp
            refine ⟨trivial, (callsIn_wide.2 (HTT _ ((keeps_drew W).below (Nat.le_refl _) (by simp))).out).mono ?_⟩
            rintro e w3 ⟨rfl, hb3⟩
            have b1 : w3.cell? ⟨B5, 0, none⟩ = some (.int .i64 ((2 + sp : Nat) : Int)) := (hb3.cell (p := ⟨B5, 0, none⟩) hBW).trans hc
            have b2 : w3.frozen? ⟨B5, 0, none⟩ = false := (hb3.frozen (p := ⟨B5, 0, none⟩) hBW).trans hf
            refine hK _ _ ?_
            clear hK K
            refine wpAnyIn_take (i := 8) (v := ?_) rfl rfl (by kernel_rfl) (by kernel_rfl) (by kernel_rfl) (fun _ _ _ h => h) ⟨Or.inl ⟨by rfl, ?_⟩, fun _ => rfl⟩ ?_
            rotate_left
            · intro w9; go_simp; try with_reducible rfl
            refine wpAnyIn_take (i := 9) (v := ?_) rfl rfl (by kernel_rfl) (by kernel_rfl) (by kernel_rfl) (fun _ _ _ h => h) ⟨Or.inl ⟨by rfl, ?_⟩, fun _ => rfl⟩ ?_
            rotate_left
            · intro w9; go_simp; try with_reducible rfl
            refine wpAnyIn_ready (rs := [10]) (by kernel_rfl) (by simp) ?_
            refine AllReadyIn.cons rfl (fun K hK => ?_) ?_
            · go_simp
              refine hK _ _ ?_
              clear hK K
              refine wpAnyIn_done (by kernel_rfl) ?_ _
              gi_wp2
              exact HEND w3 hb3
            exact AllReadyIn.nil
          exact AllReadyIn.nil
        exact AllReadyIn.nil
      exact AllReadyIn.nil
    refine AllReadyIn.cons rfl (fun K hK => ?_) ?_
    · go_simp
      refine hK _ _ ?_
      clear hK K
      refine wpAnyIn_take (i := 5) (v := ?_) rfl rfl (by kernel_rfl) (by kernel_rfl) (by kernel_rfl) (fun _ _ _ h => h) ⟨Or.inl ⟨by rfl, ?_⟩, fun _ => rfl⟩ ?_
      rotate_left
      · intro w9; go_simp; try with_reducible rfl
      refine wpAnyIn_ready (rs := [0, 6]) (by kernel_rfl) (by simp) ?_
      refine AllReadyIn.cons rfl (fun K hK => ?_) ?_
      · go_simp
        refine hK _ _ ?_
        clear hK K
        refine wpAnyIn_ready (rs := [6]) (by kernel_rfl) (by simp) ?_
        refine AllReadyIn.cons rfl (fun K hK => ?_) ?_
        · go_simp
          refine hK _ _ ?_
          clear hK K
          refine wpAnyIn_ready (rs := [7]) (by kernel_rfl) (by simp) ?_
          refine AllReadyIn.cons rfl (fun K hK => ?_) ?_
          · go_simp
            refine ⟨trivial, (callsIn_wide.2 (HTT _ ((keeps_drew W).below (Nat.le_refl _) (by simp))).out).mono ?_⟩
            rintro e w3 ⟨rfl, hb3⟩
            have b1 : w3.cell? ⟨B5, 0, none⟩ = some (.int .i64 ((2 + sp : Nat) : Int)) := (hb3.cell (p := ⟨B5, 0, none⟩) hBW).trans hc
            have b2 : w3.frozen? ⟨B5, 0, none⟩ = false := (hb3.frozen (p := ⟨B5, 0, none⟩) hBW).trans hf
            refine hK _ _ ?_
            clear hK K
            refine wpAnyIn_take (i := 8) (v := ?_) rfl rfl (by kernel_rfl) (by kernel_rfl) (by kernel_rfl) (fun _ _ _ h => h) ⟨Or.inl ⟨by rfl, ?_⟩, fun _ => rfl⟩ ?_
            rotate_left
            · intro w9; go_simp; try with_reducible rfl
            refine wpAnyIn_take (i := 9) (v := ?_) rfl rfl (by kernel_rfl) (by kernel_rfl) (by kernel_rfl) (fun _ _ _ h => h) ⟨Or.inl ⟨by rfl, ?_⟩, fun _ => rfl⟩ ?_
            rotate_left
            · intro w9; go_simp; try with_reducible rfl
            refine wpAnyIn_ready (rs := [10]) (by kernel_rfl) (by simp) ?_
            refine AllReadyIn.cons rfl (fun K hK => ?_) ?_
            · go_simp
              refine hK _ _ ?_
              clear hK K
              refine wpAnyIn_done (by kernel_rfl) ?_ _
              gi_wp2
              exact HEND w3 hb3
            exact AllReadyIn.nil
          exact AllReadyIn.nil
        exact AllReadyIn.nil
      refine AllReadyIn.cons rfl (fun K hK => ?_) ?_
      · go_simp
        refine hK _ _ ?_
        clear hK K
        refine wpAnyIn_ready (rs := [0, 7]) (by kernel_rfl) (by simp) ?_
        refine AllReadyIn.cons rfl (fun K hK => ?_) ?_
        · go_simp
          refine hK _ _ ?_
          clear hK K
          refine wpAnyIn_ready (rs := [7]) (by kernel_rfl) (by simp) ?_
          refine AllReadyIn.cons rfl (fun K hK => ?_) ?_
          · go_simp
            refine ⟨trivial, (callsIn_wide.2 (HTT _ ((keeps_drew W).below (Nat.le_refl _) (by simp))).out).mono ?_⟩
            rintro e w3 ⟨rfl, hb3⟩
            have b1 : w3.cell? ⟨B5, 0, none⟩ = some (.int .i64 ((2 + sp : Nat) : Int)) := (hb3.cell (p := ⟨B5, 0, none⟩) hBW).trans hc
            have b2 : w3.frozen? ⟨B5, 0, none⟩ = false := (hb3.frozen (p := ⟨B5, 0, none⟩) hBW).trans hf
            refine hK _ _ ?_
            clear hK K
            refine wpAnyIn_take (i := 8) (v := ?_) rfl rfl (by kernel_rfl) (by kernel_rfl) (by kernel_rfl) (fun _ _ _ h => h) ⟨Or.inl ⟨by rfl, ?_⟩, fun _ => rfl⟩ ?_
            rotate_left
            · intro w9; go_simp; try with_reducible rfl
            refine wpAnyIn_take (i := 9) (v := ?_) rfl rfl (by kernel_rfl) (by kernel_rfl) (by kernel_rfl) (fun _ _ _ h => h) ⟨Or.inl ⟨by rfl, ?_⟩, fun _ => rfl⟩ ?_
            rotate_left
            · intro w9; go_simp; try with_reducible rfl
            refine wpAnyIn_ready (rs := [10]) (by kernel_rfl) (by simp) ?_
            refine AllReadyIn.cons rfl (fun K hK => ?_) ?_
            · go_simp
              refine hK _ _ ?_
              clear hK K
              refine wpAnyIn_done (by kernel_rfl) ?_ _
              gi_wp2
              exact HEND w3 hb3
            exact AllReadyIn.nil
          exact AllReadyIn.nil
        refine AllReadyIn.cons rfl (fun K hK => ?_) ?_
        · go_simp
          refine ⟨trivial, (callsIn_wide.2 (HTT _ ((keeps_drew W).below (Nat.le_refl _) (by simp))).out).mono ?_⟩
          rintro e w3 ⟨rfl, hb3⟩
          have b1 : w3.cell? ⟨B5, 0, none⟩ = some (.int .i64 ((2 + sp : Nat) : Int)) := (hb3.cell (p := ⟨B5, 0, none⟩) hBW).trans hc
          have b2 : w3.frozen? ⟨B5, 0, none⟩ = false := (hb3.frozen (p := ⟨B5, 0, none⟩) hBW).trans hf
          refine hK _ _ ?_
          clear hK K
          refine wpAnyIn_take (i := 8) (v := ?_) rfl rfl (by kernel_rfl) (by kernel_rfl) (by kernel_rfl) (fun _ _ _ h => h) ⟨Or.inl ⟨by rfl, ?_⟩, fun _ => rfl⟩ ?_
          rotate_left
          · intro w9; go_simp; try with_reducible rfl
          refine wpAnyIn_ready (rs := [0]) (by kernel_rfl) (by simp) ?_
          refine AllReadyIn.cons rfl (fun K hK => ?_) ?_
          · go_simp
            refine hK _ _ ?_
            clear hK K
            refine wpAnyIn_take (i := 9) (v := ?_) rfl rfl (by kernel_rfl) (by kernel_rfl) (by kernel_rfl) (fun _ _ _ h => h) ⟨Or.inl ⟨by rfl, ?_⟩, fun _ => rfl⟩ ?_
            rotate_left
            · intro w9; go_simp; try with_reducible rfl
            refine wpAnyIn_ready (rs := [10]) (by kernel_rfl) (by simp) ?_
            refine AllReadyIn.cons rfl (fun K hK => ?_) ?_
            · go_simp
              refine hK _ _ ?_
              clear hK K
              refine wpAnyIn_done (by kernel_rfl) ?_ _
              gi_wp2
              exact HEND w3 hb3
            exact AllReadyIn.nil
          exact AllReadyIn.nil
        exact AllReadyIn.nil
      exact AllReadyIn.nil
    exact AllReadyIn.nil
  case done =>
    rintro D xs W hD hS ⟨⟨hc, hf⟩, hK⟩ hDW
    have HV : Hid (2 + sumP (partLen size ks l) xs = slideLen l p ks) := by
      show _ = _
      rw [HSE.out, sumP_all _ hS]; rfl
    have HK := Lib.hid hK
    rw [HV.out] at hc
    clear hK HV
    gi_wp2
    refine ⟨by simp, .inl ⟨_, _, rfl, run_takeDeferred hDW, ?_⟩⟩
    refine ⟨_, results_tmp rfl _ _ _, rfl, ?_⟩
    exact (hbb.out.trans (HK.out.below hbb.out.size (by simp; omega))).trans (belowK_b (w := w2) (by have := hbb.out.size; omega) W D _ _ hD hDW rfl rfl)
  case stop =>
    rintro D c pre W _ _ h _
    exact h.elim
end Go.Proofs.YtefbakhhlonafaaGreat
end
