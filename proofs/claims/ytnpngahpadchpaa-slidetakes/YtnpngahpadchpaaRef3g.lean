import Derived.Test.YtnpngahpadchpaaRef3f
import Derived.Test.YtnpngahpadchpaaMathSlide2
namespace Go.Proofs.Ytnpngahpadchpaa
open Go.RowKit Go.Proofs Go.Proofs.PipeM Go.Proofs.PipeA

theorem IntsAt.part {w : World} {g off : Nat} {l : List Int} (h : IntsAt w (some ⟨g, off, none⟩) l) (size j : Nat) (hj : (j + 1) * size ≤ l.length) : IntsAt w (some ⟨g, off + j * size, none⟩) (partNo size l j) := by
  intro i hi
  rw [partNo_length hj] at hi
  rw [Nat.add_mul] at hj
  obtain ⟨b, o, h1, h2, h3⟩ := h (j * size + i) (by omega)
  cases h1
  refine ⟨_, _, rfl, h2, ?_⟩
  rw [Nat.add_assoc, h3]
  simp [partNo]

set_option maxHeartbeats 3200000 in
theorem refSBits (lo ao : Option Addr) (lcap cap : Nat) (l : List Int) (P : Int) (ks : List Int) (w : World) (hcap : l.length ≤ lcap) (hi : IntsAt w lo l) (hj : IntsAt w ao ks) (h : slideOk l P ks = true) :
    Calls Try.prog 31 #[.slice lo l.length lcap, .agg #[.int .i64 P, .slice ao ks.length cap]] w fun e w' => e = .returned (.int .i64 (slideLen l P ks)) ∧ Below w.heap.size w w' := by
  obtain ⟨p, rfl, h3, hk1, hk8, hk0, hl1, hl2, hs1, hs2, hsp, hks, hin⟩ := slide_parts h
  have HSE := Lib.hid (slide_len h)
  obtain ⟨size, hsize⟩ : ∃ size, size = l.length / ks.length := ⟨_, rfl⟩
  have hdiv : (l.length : Int) / (ks.length : Int) = (size : Int) := by rw [hsize]; omega
  have HBL := Lib.hid (bodyLen_le size ks l hks)
  have HKS := Lib.hid hks
  have HIN := Lib.hid hin
  rw [← hsize] at hs1 hs2 hsp HSE
  have HSP := Lib.hid hsp
  clear hsize hsp hks hin h hk1
  obtain ⟨len, hlen⟩ : ∃ len, len = l.length := ⟨_, rfl⟩
  obtain ⟨kl, hkl⟩ : ∃ kl, kl = ks.length := ⟨_, rfl⟩
  rw [← hlen] at hl1 hl2 hdiv hcap ⊢
  rw [← hkl] at hk8 hk0 hdiv ⊢
  have HLEN := Lib.hid hlen
  have HKL := Lib.hid hkl
  have HREL : Hid (PutRel w w.heap.size lo ao kl cap l ks (w.alloc (.cells #[.int .i64 p, .slice ao kl cap] 29))) :=
    ⟨box_below w _, hi.below (box_below w _), hj.below (box_below w _), by simp, by simp⟩
  clear hlen hkl hi hj
  go_enter Try.func31, Try.ntmps31
  go_wp2
  clear hdiv
  generalize w.alloc (.cells #[.int .i64 p, .slice ao kl cap] 29) = W0 at HREL ⊢
  generalize w.heap.size = B at HREL ⊢
  go_loopg [6, 7, 17] kl (fun gk s a i wr => ∃ c n : Nat, c ≤ kl ∧ gk + c = kl ∧ i = .int .i64 c ∧ s = .int .i64 n ∧ Hid (n = 2 + bodyLen size ks l c) ∧ Hid (PutRel w B lo ao kl cap l ks wr))
  case atStart => exact ⟨0, 2, Nat.zero_le _, by omega, rfl, rfl, rfl, HREL⟩
  case round =>
    obtain ⟨c, n, hc, hgk, rfl, rfl, HN, HT⟩ := hrel
    have HGK := Lib.hid hgk
    clear hgk HREL
    by_cases hlt : c < kl
    · have hck : c < ks.length := by have := HKL.out; omega
      have hx1 : (c + 1) * size ≤ l.length := by
        rw [HSP.out, Nat.mul_comm size]
        exact Nat.mul_le_mul_right size hck
      have hx2 : c * size + size = (c + 1) * size := by rw [Nat.add_mul, Nat.one_mul]
      obtain ⟨g, off, rfl, hg, kcell⟩ := HT.out.2.2.1 c hck
      obtain ⟨g2, off2, rfl, hg2, ncell⟩ := HT.out.2.1 0 (by have := HLEN.out; omega)
      have HP := HT.out.2.1.part size c hx1
      have c1 := HT.out.2.2.2.1
      have hkr := HKS.out ks[c] (List.getElem_mem hck)
      have HTT := fun m => Lib.hid (refTotal (some ⟨g2, off2 + c * size, none⟩) (lcap - c * size) (partNo size l c) ks[c].toNat (wr.drewN m) (by rw [partNo_length hx1]; omega) (HP.keeps (keeps_drewN wr m []) (by simp)) (partNo_in HIN.out) (by omega))
      rw [partNo_length hx1] at HTT
      have hbl := HBL.out c (by omega)
      have hn2 := HN.out
      have htl : totalN (partNo size l c) ks[c].toNat ≤ 59 * size := by have := totalN_le (partNo size l c) ks[c].toNat (by omega); rw [partNo_length hx1] at this; exact this
      have HSN : Hid (2 + bodyLen size ks l (c + 1) = n + 5 + totalN (partNo size l c) ks[c].toNat) := by
        show _ = _
        have hg : ks.getD c 0 = ks[c] := by rw [List.getD, List.getElem?_eq_getElem hck]; rfl
        show 2 + (bodyLen size ks l c + partLen size ks l c) = _
        rw [partLen, hg, hn2]
        omega
      have hnb : n ≤ 1000000 := by
        have h8 : c * (5 + 59 * size) ≤ 8 * (5 + 59 * 1024) := Nat.mul_le_mul (by omega) (by omega)
        omega
      obtain ⟨t, ht⟩ : ∃ t, t = totalN (partNo size l c) ks[c].toNat := ⟨_, rfl⟩
      rw [← ht] at HTT htl HSN
      obtain ⟨k, hk⟩ : ∃ k, k = ks[c] := ⟨_, rfl⟩
      rw [← hk] at kcell hkr HTT
      obtain ⟨kn, rfl⟩ := Int.eq_ofNat_of_zero_le hkr.1
      rw [Int.toNat_natCast] at HTT
      obtain ⟨a, ha⟩ : ∃ a, a = c * size := ⟨_, rfl⟩
      obtain ⟨b, hb⟩ : ∃ b, b = (c + 1) * size := ⟨_, rfl⟩
      have ha2 : (c : Int) * (size : Int) = (a : Int) := by rw [ha]; simp
      have hb2 : ((c : Int) + 1) * (size : Int) = (b : Int) := by rw [hb]; simp
      rw [← ha] at HTT hx2
      rw [← hb] at hx1 hx2
      have hx3 : b ≤ len := by have := HLEN.out; omega
      have hab : a ≤ b := by omega
      have hba : b - a = size := by omega
      have HTN := fun m => Lib.hid (HT.out.drewN m)
      clear hk ht ha hb hck hbl hn2 HP ncell hx1
      go_wp2_with fail
      go_quiet ((go_at_call 58; exact quiet_left (HTT _).out))
      have HTQ := HTN nq
      clear HTN HT
      generalize wr.drewN nq = W at HTQ ⊢
      go_wp2
      go_roundg (gk - 1)
      case rel => exact ⟨c + 1, n + 5 + t, by omega, by have := HGK.out; omega, by go_num, by go_num, HSN.out.symm, HTQ⟩
      case measure => have := HGK.out; omega
    · obtain rfl : c = kl := by omega
      go_wp2
      go_ret
      exact ⟨by rw [HSE.out, ← HKL.out, ← HN.out]; rfl, HT.out.1⟩
end Go.Proofs.Ytnpngahpadchpaa
