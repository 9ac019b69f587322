import Derived.Test.YtefbakhhlonafaaDoorRef3b
import Derived.Test.YtefbakhhlonafaaDoorRef2
import Derived.Test.YtefbakhhlonafaaDoorBlkF1

section
namespace Go.Proofs.YtefbakhhlonafaaDoor
open Go.RowKit Go.Proofs Go.Proofs.PipeM Go.Proofs.PipeA

end Go.Proofs.YtefbakhhlonafaaDoor
end

section
namespace Go.Proofs.YtefbakhhlonafaaDoor
open Go.RowKit Go.Proofs Go.Proofs.PipeM Go.Proofs.PipeA

/-- What holds while the document puts a list. -/
def PutRel (w : World) (B : Nat) (lo ao : Option Addr) (kl cap : Nat) (l ks : List Int) (wr : World) : Prop :=
  Below w.heap.size w wr ∧ IntsAt wr lo l ∧ IntsAt wr ao ks ∧ wr.cell? ⟨B, 1, none⟩ = some (.slice ao kl cap) ∧ B < wr.heap.size

theorem PutRel.below {w : World} {B : Nat} {lo ao : Option Addr} {kl cap : Nat} {l ks : List Int} {wr w2 : World} (h : PutRel w B lo ao kl cap l ks wr) (hb : Below wr.heap.size wr w2) : PutRel w B lo ao kl cap l ks w2 :=
  ⟨h.1.trans (hb.mono h.1.size), h.2.1.below hb, h.2.2.1.below hb, by rw [hb.cell (p := ⟨B, 1, none⟩) h.2.2.2.2]; exact h.2.2.2.1, Nat.lt_of_lt_of_le h.2.2.2.2 hb.size⟩

theorem PutRel.drewN {w : World} {B : Nat} {lo ao : Option Addr} {kl cap : Nat} {l ks : List Int} {wr : World} (h : PutRel w B lo ao kl cap l ks wr) (m : Nat) : PutRel w B lo ao kl cap l ks (wr.drewN m) :=
  h.below (below_drewN (Below.refl _ _) m)

end Go.Proofs.YtefbakhhlonafaaDoor
end

section
namespace Go.Proofs.YtefbakhhlonafaaDoor
open Go.RowKit Go.Proofs Go.Proofs.PipeM Go.Proofs.PipeA

end Go.Proofs.YtefbakhhlonafaaDoor
end

section
namespace Go.Proofs.YtefbakhhlonafaaDoor
open Go.RowKit Go.Proofs Go.Proofs.PipeM Go.Proofs.PipeA

end Go.Proofs.YtefbakhhlonafaaDoor
end

section
namespace Go.Proofs.PipeM

def sumTo (f : Nat → Nat) : Nat → Nat
  | 0 => 0
  | n + 1 => sumTo f n + f n
theorem sumTo_shift (f : Nat → Nat) : ∀ n, sumTo f (n + 1) = f 0 + sumTo (fun i => f (i + 1)) n
  | 0 => by simp [sumTo]
  | n + 1 => by
    show sumTo f (n + 1) + f (n + 1) = _
    rw [sumTo_shift f n]
    simp [sumTo]
    omega

/-- A part of a list; how many bits parts have. -/
def partNo (size : Nat) (l : List Int) (j : Nat) : List Int := (l.drop (j * size)).take size
def partLen (size : Nat) (ks l : List Int) (j : Nat) : Nat := 5 + totalN (partNo size l j) (ks.getD j 0).toNat
def bodyLen (size : Nat) (ks l : List Int) (n : Nat) : Nat := sumTo (partLen size ks l) n

theorem codes_length (k : Int) (hk : 0 ≤ k ∧ k ≤ 24) : ∀ l : List Int, (∀ n ∈ l, InR n) → (l.flatMap (codeOf · k)).length = totalN l k.toNat
  | [], _ => rfl
  | n :: l, h => by
    have ih := codes_length k hk l (fun x hx => h x (List.mem_cons_of_mem _ hx))
    have hn := h n (List.mem_cons_self ..)
    have hc : codeOf n k = codeBits n k.toNat := by
      unfold codeOf
      rw [if_pos]
      unfold codeOk
      exact decide_eq_true ⟨hn.1, hn.2, hk.1, hk.2⟩
    rw [List.flatMap_cons, List.length_append, ih, hc, codeBits_length]
    simp [totalN]

theorem body_length (size : Nat) : ∀ ks l : List Int, (∀ k ∈ ks, 0 ≤ k ∧ k ≤ 24) → (∀ n ∈ l, InR n) → (bodyBits size ks l).length = bodyLen size ks l ks.length
  | [], _, _, _ => rfl
  | k :: ks, l, hk, hl => by
    have ih := body_length size ks (l.drop size) (fun x hx => hk x (List.mem_cons_of_mem _ hx)) (fun x hx => hl x (List.mem_of_mem_drop hx))
    have h0 := codes_length k (hk k (List.mem_cons_self ..)) (l.take size) (fun x hx => hl x (List.mem_of_mem_take hx))
    have hf : (fun i => partLen size (k :: ks) l (i + 1)) = partLen size ks (l.drop size) := by
      funext i
      simp only [partLen, partNo, List.getD_cons_succ, List.drop_drop]
      rw [show (i + 1) * size = size + i * size by rw [Nat.add_mul]; omega]
    rw [List.length_cons, bodyLen, sumTo_shift, hf]
    rw [bodyBits, partBits, List.length_append, List.length_append, low_length, h0, ih]
    simp [partLen, partNo, bodyLen]

def slideLen (l : List Int) (P : Int) (ks : List Int) : Nat := (slideBits l P ks).length
theorem slide_len {l ks : List Int} {P : Int} (h : slideOk l P ks = true) : slideLen l P ks = 2 + bodyLen (l.length / ks.length) ks l ks.length := by
  obtain ⟨p, hP, h3, hk1, hk8, hk0, hl1, hl2, hs1, hs2, hsp, hks, hin⟩ := slide_parts h
  unfold slideLen slideBits listBits
  rw [if_pos h, List.length_append, low_length, body_length _ ks l hks hin]

theorem partNo_length {size : Nat} {l : List Int} {j : Nat} (h : (j + 1) * size ≤ l.length) : (partNo size l j).length = size := by
  unfold partNo
  rw [Nat.add_mul] at h
  simp
  omega
theorem partNo_in {size : Nat} {l : List Int} {j : Nat} (h : ∀ n ∈ l, InR n) : ∀ n ∈ partNo size l j, InR n :=
  fun n hn => h n (List.mem_of_mem_drop (List.mem_of_mem_take hn))
end Go.Proofs.PipeM
end

section
namespace Go.Proofs.YtefbakhhlonafaaDoor
open Go.RowKit Go.Proofs Go.Proofs.PipeM Go.Proofs.PipeA

theorem IntsAt.part {w : World} {g off : Nat} {l : List Int} (h : IntsAt w (some ⟨g, off, none⟩) l) (size j : Nat) (hj : (j + 1) * size ≤ l.length) : IntsAt w (some ⟨g, off + j * size, none⟩) (partNo size l j) := by
  intro i hi
  rw [partNo_length hj] at hi
  rw [Nat.add_mul] at hj
  obtain ⟨b, o, h1, h2, h3⟩ := h (j * size + i) (by omega)
  cases h1
  refine ⟨_, _, rfl, h2, ?_⟩
  rw [Nat.add_assoc, h3]
  simp [partNo]

end Go.Proofs.YtefbakhhlonafaaDoor
end
