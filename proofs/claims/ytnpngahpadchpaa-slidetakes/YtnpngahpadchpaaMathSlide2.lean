import Derived.Test.YtnpngahpadchpaaMathSlide
namespace Go.Proofs.PipeM

def sumTo (f : Nat → Nat) : Nat → Nat
  | 0 => 0
  | n + 1 => sumTo f n + f n
theorem sumTo_shift (f : Nat → Nat) : ∀ n, sumTo f (n + 1) = f 0 + sumTo (fun i => f (i + 1)) n
  | 0 => by simp [sumTo]
  | n + 1 => by
    show sumTo f (n + 1) + f (n + 1) = _
    rw [sumTo_shift f n]
    simp [sumTo]
    omega

/-- A part of a list; how many bits parts have. -/
def partNo (size : Nat) (l : List Int) (j : Nat) : List Int := (l.drop (j * size)).take size
def partLen (size : Nat) (ks l : List Int) (j : Nat) : Nat := 5 + totalN (partNo size l j) (ks.getD j 0).toNat
def bodyLen (size : Nat) (ks l : List Int) (n : Nat) : Nat := sumTo (partLen size ks l) n

theorem codes_length (k : Int) (hk : 0 ≤ k ∧ k ≤ 24) : ∀ l : List Int, (∀ n ∈ l, InR n) → (l.flatMap (codeOf · k)).length = totalN l k.toNat
  | [], _ => rfl
  | n :: l, h => by
    have ih := codes_length k hk l (fun x hx => h x (List.mem_cons_of_mem _ hx))
    have hn := h n (List.mem_cons_self ..)
    have hc : codeOf n k = codeBits n k.toNat := by
      unfold codeOf
      rw [if_pos]
      unfold codeOk
      exact decide_eq_true ⟨hn.1, hn.2, hk.1, hk.2⟩
    rw [List.flatMap_cons, List.length_append, ih, hc, codeBits_length]
    simp [totalN]

theorem body_length (size : Nat) : ∀ ks l : List Int, (∀ k ∈ ks, 0 ≤ k ∧ k ≤ 24) → (∀ n ∈ l, InR n) → (bodyBits size ks l).length = bodyLen size ks l ks.length
  | [], _, _, _ => rfl
  | k :: ks, l, hk, hl => by
    have ih := body_length size ks (l.drop size) (fun x hx => hk x (List.mem_cons_of_mem _ hx)) (fun x hx => hl x (List.mem_of_mem_drop hx))
    have h0 := codes_length k (hk k (List.mem_cons_self ..)) (l.take size) (fun x hx => hl x (List.mem_of_mem_take hx))
    have hf : (fun i => partLen size (k :: ks) l (i + 1)) = partLen size ks (l.drop size) := by
      funext i
      simp only [partLen, partNo, List.getD_cons_succ, List.drop_drop]
      rw [show (i + 1) * size = size + i * size by rw [Nat.add_mul]; omega]
    rw [List.length_cons, bodyLen, sumTo_shift, hf]
    rw [bodyBits, partBits, List.length_append, List.length_append, low_length, h0, ih]
    simp [partLen, partNo, bodyLen]

def slideLen (l : List Int) (P : Int) (ks : List Int) : Nat := (slideBits l P ks).length
theorem slide_len {l ks : List Int} {P : Int} (h : slideOk l P ks = true) : slideLen l P ks = 2 + bodyLen (l.length / ks.length) ks l ks.length := by
  obtain ⟨p, hP, h3, hk1, hk8, hk0, hl1, hl2, hs1, hs2, hsp, hks, hin⟩ := slide_parts h
  unfold slideLen slideBits listBits
  rw [if_pos h, List.length_append, low_length, body_length _ ks l hks hin]

theorem partNo_length {size : Nat} {l : List Int} {j : Nat} (h : (j + 1) * size ≤ l.length) : (partNo size l j).length = size := by
  unfold partNo
  rw [Nat.add_mul] at h
  simp
  omega
theorem partNo_in {size : Nat} {l : List Int} {j : Nat} (h : ∀ n ∈ l, InR n) : ∀ n ∈ partNo size l j, InR n :=
  fun n hn => h n (List.mem_of_mem_drop (List.mem_of_mem_take hn))
theorem bodyLen_le (size : Nat) (ks l : List Int) (hk : ∀ k ∈ ks, 0 ≤ k ∧ k ≤ 24) : ∀ n, n ≤ ks.length → bodyLen size ks l n ≤ n * (5 + 59 * size)
  | 0, _ => by simp [bodyLen, sumTo]
  | n + 1, h => by
    have ih := bodyLen_le size ks l hk n (by omega)
    show bodyLen size ks l n + partLen size ks l n ≤ _
    have hg : ks.getD n 0 = ks[n] := by rw [List.getD, List.getElem?_eq_getElem (by omega)]; rfl
    have h1 := hk ks[n] (List.getElem_mem (by omega))
    have h2 := totalN_le (partNo size l n) (ks.getD n 0).toNat (by rw [hg]; omega)
    have h3 : (partNo size l n).length ≤ size := by unfold partNo; simp; omega
    have h4 : 59 * (partNo size l n).length ≤ 59 * size := Nat.mul_le_mul_left 59 h3
    unfold partLen
    rw [Nat.add_mul (n) 1]
    omega
end Go.Proofs.PipeM
