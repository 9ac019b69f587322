import Derived.Test.YtbbcemgcanclnaaArgsI9
namespace Go.Proofs.Ytbbcemgcanclnaa
open Go.ChangeShapes Go.WideShapes Go.ChangeAt Go.RowKit Go.Proofs.PipeM
set_option maxRecDepth 100000

theorem bytes_of_row {w : World} {a : Option Addr} {len cap : Nat} {zs : List Int} (h : IsRow .u8 w a len cap zs) :
    ∃ ys : List Nat, len = ys.length ∧ (∀ z ∈ ys, z < 256) ∧ BytesAt w a ys := by
  rcases h with ⟨rfl, rfl, rfl, rfl⟩ | ⟨x, rfl, hl, hm, hz, hc, hw⟩
  · exact ⟨[], rfl, by simp, fun j hj => by simp at hj⟩
  · have hb : ∀ n ∈ zs, 0 ≤ n ∧ n ≤ 255 := fun n hn => by simpa [Lit.wf, IntKind.min, IntKind.max, IntKind.signed, IntKind.bits] using hw n hn
    refine ⟨(zs.take len).map Int.toNat, by simp; omega, ?_, ?_⟩
    · intro z hz
      simp only [List.mem_map] at hz
      obtain ⟨n, hn, rfl⟩ := hz
      have := hb n (List.mem_of_mem_take hn)
      omega
    · intro j hj
      simp at hj
      obtain ⟨b, off, rfl, hc2⟩ := ints_at hc (by omega)
      have hj2 : j < zs.length := by omega
      have hcj := hc2 j hj2
      refine ⟨b, off, rfl, World.block_lt_of_cell? _ _ hcj, ?_⟩
      rw [hcj]
      have hjz := hb zs[j] (List.getElem_mem hj2)
      have e1 : zs.getD j 0 = zs[j] := by simp [List.getD, hj2]
      have hj3 : j < len := by omega
      have e2 : ((zs.take len).map Int.toNat).getD j 0 = zs[j].toNat := by simp [List.getD, hj3, hj2]
      rw [e1, e2]
      congr 2
      omega
end Go.Proofs.Ytbbcemgcanclnaa
