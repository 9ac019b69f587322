import Derived.Test.YtpbbhebongggpaaPackL1
import Derived.WalkKit
import Derived.ProofKit
import Derived.OpenShut
import Derived.ShutString
import Derived.ChangeOld
import Derived.ChangeSame
import Derived.Below
import Derived.Deep.Matrix
namespace Go.Proofs.Ytpbbhebongggpaa
open Go.ChangeShapes Go.WideShapes Go.ChangeAt Go.RowKit Go.Proofs.PipeM Go.Proofs.PackM
set_option maxRecDepth 100000

theorem cells_i : Try.prog.cellsOf 3 = 1 := by kernel_rfl
theorem cells_b : Try.prog.cellsOf 4 = 1 := by kernel_rfl
theorem cells_s : Try.prog.cellsOf 45 = 1 := by kernel_rfl
theorem cells_f : Try.prog.cellsOf 23 = 2 := by kernel_rfl

/-- A form that came in. -/
theorem form_of {H : Type} {enc : TypeId × Value → H} {W : World} {base : Nat} {held : Bool} {cs : Array Value} {d : DataW H} {ps : List MemPlace} (hsz : cs.size = Try.prog.cellsOf 23)
    (h : DataW.Trod enc Try.prog W base (fun _ => true) held 23 (.agg cs) d ps) :
    ∃ B g, cs = #[.int .i64 B, .bool g] := by
  obtain ⟨fuel, hf⟩ := h
  rw [cells_f] at hsz
  obtain ⟨c0, c1, rfl⟩ : ∃ c0 c1, cs = #[c0, c1] := by
    obtain ⟨l⟩ := cs
    match l, hsz with
    | [c0, c1], _ => exact ⟨c0, c1, rfl⟩
  obtain ⟨y0, y1, n', _, _, h0, h1⟩ := trod_struct2 Try.underlying23 hf
  simp only [Value.cells, cells_i, cells_b, List.drop_zero, List.take_succ_cons, List.take_zero, List.drop_succ_cons] at h0 h1
  obtain ⟨k0, e0, _, w0⟩ := DataW.trod_int Try.underlying3 h0
  simp only [List.cons.injEq, and_true] at e0
  subst e0
  obtain ⟨b0, e1, _⟩ := DataW.trod_bool Try.underlying4 h1
  simp only [List.cons.injEq, and_true] at e1
  subst e1
  exact ⟨k0, b0, rfl⟩

/-- Channels that came in. -/
theorem rows_of {H : Type} {enc : TypeId × Value → H} {W : World} {base : Nat} {held : Bool} {a : Option Addr} {len cap : Nat} {d : DataW H} {ps : List MemPlace}
    (h : DataW.Trod enc Try.prog W base (fun _ => true) held 24 (.slice a len cap) d ps) :
    ∃ rows : List (List Int), len = rows.length ∧ RowsAt W a rows ∧ rows.length ≤ 9223372036854775807 := by
  obtain ⟨fuel, hf⟩ := h
  rcases Go.Deep.open_int_rows Try.underlying24 Try.underlying45 Try.underlying3 cells_s cells_i hf with ⟨hcs, _⟩ | ⟨x, l, c, A, L, C, Z, hcs, _, hl, hm, _, hr⟩
  · simp [Value.cells] at hcs
    obtain ⟨rfl, rfl, rfl⟩ := hcs
    exact ⟨[], rfl, fun i hi => by simp at hi, by simp⟩
  · simp [Value.cells] at hcs
    obtain ⟨rfl, rfl, rfl⟩ := hcs
    refine ⟨(List.range len).map fun r => (Z r).take (L r), by simp, ?_, by simp; unfold maxLen at hm; omega⟩
    intro i hi
    have hi : i < len := by simpa using hi
    obtain ⟨h1, h2, h3, h4, h5, h6, h7⟩ := hr i (by omega)
    have h00 := (hr 0 (by omega)).1
    obtain ⟨b, off, spot⟩ := x
    have hspot : spot = none := by simpa [Addr.add] using World.cell?_spot h00
    subst hspot
    rw [Go.WideShapes.add_plain] at h1
    have hb0 := World.block_lt_of_cell? _ _ h1
    have e1 : ((List.range len).map fun r => (Z r).take (L r))[i]'(by simpa using hi) = (Z i).take (L i) := by simp
    rw [e1]
    have e2 : ((Z i).take (L i)).length = L i := by simp; omega
    refine ⟨b, off, A i, C i, rfl, hb0, by rw [e2]; exact h1, ?_⟩
    intro j hj
    rw [e2] at hj
    cases hA : A i with
    | none => have := h6 hA; omega
    | some a' =>
      have h8 := (h7 a' hA).2
      obtain ⟨b', off', rfl, hc⟩ := ints_at (k := .i64) (zs := Z i) (fun q hq => h8 q (by omega)) (by omega)
      have hcj := hc j (by omega)
      refine ⟨b', off', rfl, World.block_lt_of_cell? _ _ hcj, ?_⟩
      rw [hcj]
      have hjz : j < (Z i).length := by omega
      simp [List.getD, hjz]
theorem bytes_of {H : Type} {enc : TypeId × Value → H} {W : World} {base : Nat} {held : Bool} {a : Option Addr} {len cap : Nat} {d : DataW H} {ps : List MemPlace}
    (h : DataW.Trod enc Try.prog W base (fun _ => true) held 30 (.slice a len cap) d ps) :
    ∃ zs : List Nat, len = zs.length ∧ (∀ z ∈ zs, z < 256) ∧ BytesAt W a zs ∧ zs.length ≤ 9223372036854775807 := by
  obtain ⟨fuel, hf⟩ := h
  rcases open_ints Try.underlying30 Try.underlying5 (by kernel_rfl) hf with ⟨hcs, _⟩ | ⟨x, l, c, zs, hcs, _, hl, hm, hz, _, hcell, hwz⟩
  · simp [Value.cells] at hcs
    obtain ⟨rfl, rfl, rfl⟩ := hcs
    exact ⟨[], rfl, by simp, fun j hj => by simp at hj, by simp⟩
  · simp [Value.cells] at hcs
    obtain ⟨rfl, rfl, rfl⟩ := hcs
    have hz : zs.length = cap := by simpa using hz
    have hb : ∀ n ∈ zs, 0 ≤ n ∧ n ≤ 255 := fun n hn => by simpa [Lit.wf, IntKind.min, IntKind.max, IntKind.signed, IntKind.bits] using hwz n hn
    refine ⟨(zs.take len).map Int.toNat, by simp; omega, ?_, ?_, by simp; unfold maxLen at hm; omega⟩
    · intro z hz
      simp only [List.mem_map] at hz
      obtain ⟨n, hn, rfl⟩ := hz
      have := hb n (List.mem_of_mem_take hn)
      omega
    · intro j hj
      simp at hj
      obtain ⟨b, off, rfl, hc2⟩ := ints_at hcell (by omega)
      have hj2 : j < zs.length := by omega
      have hcj := hc2 j hj2
      refine ⟨b, off, rfl, World.block_lt_of_cell? _ _ hcj, ?_⟩
      rw [hcj]
      have hjz := hb zs[j] (List.getElem_mem hj2)
      have e1 : zs.getD j 0 = zs[j] := by simp [List.getD, hj2]
      have hj3 : j < len := by omega
      have e2 : ((zs.take len).map Int.toNat).getD j 0 = zs[j].toNat := by simp [List.getD, hj3, hj2]
      rw [e1, e2]
      congr 2
      omega
end Go.Proofs.Ytpbbhebongggpaa
