import Derived.Test.YtbbcemgcanclnaaReader4
namespace Go.Proofs.Ytbbcemgcanclnaa
open Go.RowKit Go.Proofs Go.Proofs.PipeM Go.Proofs.PipeA

/-- Align: so many bits are taken, if all are 0. -/
def ago (err : Int) : Nat → List Bool → RS
  | 0, l => ⟨l, err⟩
  | _ + 1, [] => ⟨[], err⟩
  | _ + 1, true :: r => RS.give ⟨r, err⟩ 5
  | k + 1, false :: r => ago err k r
def RS.align (s : RS) : RS := ago s.err (s.bits.length % 8) s.bits

/-- The cell that tells how many bits were taken. -/
theorem RdA.at {w : World} {b : Nat} {ao : Option Addr} {s : RS} (h : RdA w b ao s) : ∃ p : Nat, w.cell? ⟨b, 1, none⟩ = some (.int .i64 p) ∧ (p + s.bits.length) % 8 = 0 ∧ p ≤ 800000000 := by
  obtain ⟨ao', cap, zs, p, h1, h2, h3, h4⟩ := h
  have e : s.bits.length = 8 * zs.length - p := by rw [h2]; simp [bitsOf_length]
  have := h1.le
  have := h1.len
  exact ⟨p, h1.c1, by omega, by omega⟩

/-- How a reader ended. -/
def RS.endv (s : RS) : Int := if s.err ≠ 0 then s.err else if 8 ≤ s.bits.length then 4 else if num s.bits = 0 then 0 else 5

/-- A new reader upon bytes. -/
theorem aOpen (ao ao2 : Option Addr) (cap : Nat) (zs : List Nat) (w : World) (h2 : 0 < zs.length → ao = ao2) (hd : BytesAt w ao zs) (hs : ∀ z ∈ zs, z < 256) (hl : zs.length ≤ 100000000) :
    Calls Try.prog 14 #[.slice ao zs.length cap] w fun e w' => e = .returned (.pointer (some ⟨w.heap.size, 0, none⟩)) ∧ RdA w' w.heap.size ao2 ⟨bitsOf zs, 0⟩ ∧ Below w.heap.size w w' := by
  refine (rOpen ao cap zs w hd hs hl).mono ?_
  rintro e w1 ⟨rfl, h1, hb⟩
  exact ⟨rfl, ⟨ao, cap, zs, 0, h1, by simp, h2, by simp⟩, hb⟩
end Go.Proofs.Ytbbcemgcanclnaa
