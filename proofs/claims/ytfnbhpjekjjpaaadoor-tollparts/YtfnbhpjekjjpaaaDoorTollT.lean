import Derived.Test.YtfnbhpjekjjpaaaDoorTollL1
import Derived.Test.YtfnbhpjekjjpaaaDoorRows
import Derived.Test.YtfnbhpjekjjpaaaDoorTie
import Derived.ProofKit
import Derived.LaidMore
import Derived.OpenShut
import Derived.ChangeOld
import Derived.Below
import Derived.Stop.Joined
namespace Go.Proofs.YtfnbhpjekjjpaaaDoor
open Go.ChangeShapes Go.WideShapes Go.ChangeAt Go.RowKit Go.Proofs.TollM
set_option maxRecDepth 100000

theorem gSums : Tryd.prog.globalNamed "sackbut/toll.sums" = some 0 := by kernel_rfl
theorem tSums : (Tryd.prog.globals[0]?).map (·.type) = some 45 := by kernel_rfl
theorem undArr : Tryd.prog.underlying 45 = some (.array 16 25) := by kernel_rfl
theorem undU32 : Tryd.prog.underlying 25 = some (.int .u32) := by kernel_rfl

theorem of_laid {W : World} (h : laidMetH Tryd.prog [("sackbut/toll.sums", Rows.laid_sackbut_toll_sums)] W) : Tab W := by
  rw [MakeChecks.laidMetH_plain _ _ _ (by kernel_rfl)] at h
  obtain ⟨ps, ⟨g0, t0, cs0, f0, p0, q0, hg0, ht0, hv0, hd0, _⟩, _, _⟩ := h
  obtain rfl := Option.some.inj (gSums.symm.trans hg0)
  obtain rfl := Option.some.inj (tSums.symm.trans ht0)
  obtain ⟨xs, m1, rfl, hx1, hlen, hn3, hel⟩ := DataW.trod_array undArr hd0
  have c25 : Tryd.prog.cellsOf 25 = 1 := by kernel_rfl
  have hL : (Rows.laid_sackbut_toll_sums : DataW Unit) = .agg (tab.map fun t => .lit (.int .u32 ((t : Nat) : Int))) := rfl
  simp only [Prod.mk.injEq, hL, DataW.agg.injEq] at hx1
  have hcell : ∀ k, k < 16 → W.cell? ⟨0, k, none⟩ = some (.int .u32 ((tab.getD k 0 : Nat) : Int)) := by
    intro k hk
    have hk2 : k < xs.length := by omega
    have hk3 : k < tab.length := hk
    have he := hel k hk
    rw [List.getElem?_eq_getElem hk2, c25, Nat.mul_one] at he
    obtain ⟨v, e1, e2, _⟩ := DataW.trod_int undU32 he
    have h1 : (xs.map fun x => x.fst)[k]? = some (.lit (.int .u32 ((tab.getD k 0 : Nat) : Int))) := by
      rw [← hx1.1, List.getElem?_map, List.getElem?_eq_getElem hk3]
      simp [List.getD, hk3]
    rw [List.getElem?_map, List.getElem?_eq_getElem hk2, e2] at h1
    simp only [Option.map_some, Option.some.injEq, DataW.lit.injEq, Lit.int.injEq, true_and] at h1
    have h2 : cs0[k]? = some (.int .u32 v) := by
      have h3 := congrArg (·[0]?) e1
      simp only [List.getElem?_take, List.getElem?_drop] at h3
      simpa using h3
    have := World.var?_cell hg0 hv0 k
    rw [this, h2, h1]
  exact ⟨World.block_lt_of_cell? _ _ (hcell 0 (by decide)), hcell⟩

/-- A slice of bytes that came in: nil, or a row of cells, its elements and its spare room. -/
def IsRow (k : IntKind) (w : World) (a : Option Addr) (len cap : Nat) (zs : List Int) : Prop :=
  (a = none ∧ len = 0 ∧ cap = 0 ∧ zs = []) ∨
  ∃ x, a = some x ∧ len ≤ cap ∧ cap ≤ maxLen ∧ zs.length = cap ∧ (∀ i, i < zs.length → w.cell? (x.add i) = some (.int k (zs.getD i 0))) ∧ ∀ n ∈ zs, (Lit.int k n).wf = true

theorem bytes_of_row {w : World} {a : Option Addr} {len cap : Nat} {zs : List Int} (h : IsRow .u8 w a len cap zs) :
    ∃ ys : List Nat, len = ys.length ∧ (∀ z ∈ ys, z < 256) ∧ BytesAt w a ys ∧ (a = none → ys = []) ∧ ys.length ≤ cap ∧ cap ≤ maxLen := by
  rcases h with ⟨rfl, rfl, rfl, rfl⟩ | ⟨x, rfl, hl, hm, hz, hc, hw⟩
  · exact ⟨[], rfl, by simp, fun j hj => by simp at hj, fun _ => rfl, by simp, by unfold maxLen; omega⟩
  · have hb : ∀ n ∈ zs, 0 ≤ n ∧ n ≤ 255 := fun n hn => by simpa [Lit.wf, IntKind.min, IntKind.max, IntKind.signed, IntKind.bits] using hw n hn
    refine ⟨(zs.take len).map Int.toNat, by simp; omega, ?_, ?_, by simp, by simp; omega, hm⟩
    · intro z hz
      simp only [List.mem_map] at hz
      obtain ⟨n, hn, rfl⟩ := hz
      have := hb n (List.mem_of_mem_take hn)
      omega
    · intro j hj
      simp at hj
      obtain ⟨b, off, rfl, hc2⟩ := ints_at hc (by omega)
      have hj2 : j < zs.length := by omega
      have hcj := hc2 j hj2
      refine ⟨b, off, rfl, World.block_lt_of_cell? _ _ hcj, ?_⟩
      rw [hcj]
      have hjz := hb zs[j] (List.getElem_mem hj2)
      have e1 : zs.getD j 0 = zs[j] := by simp [List.getD, hj2]
      have hj3 : j < len := by omega
      have e2 : ((zs.take len).map Int.toNat).getD j 0 = zs[j].toNat := by simp [List.getD, hj3, hj2]
      rw [e1, e2]
      congr 2
      omega

theorem u16_wf {a : Int} (h : (Lit.int .u16 a).wf = true) : ∃ n : Nat, a = n ∧ n < 65536 := by
  have : 0 ≤ a ∧ a ≤ 65535 := by simpa [Lit.wf, IntKind.min, IntKind.max, IntKind.signed, IntKind.bits] using h
  exact ⟨a.toNat, by omega, by omega⟩
theorem u32_wf {a : Int} (h : (Lit.int .u32 a).wf = true) : ∃ n : Nat, a = n ∧ n < 4294967296 := by
  have : 0 ≤ a ∧ a ≤ 4294967295 := by simpa [Lit.wf, IntKind.min, IntKind.max, IntKind.signed, IntKind.bits] using h
  exact ⟨a.toNat, by omega, by omega⟩

/-- The heap that the program's own start-up code leaves meets the condition. -/
theorem door_met (os : Os) (args : Array Value) : laidMetH Tryd.prog [("sackbut/toll.sums", Rows.laid_sackbut_toll_sums)] ((World.doorLaid Tryd.prog 400 os).forCall (fun _ _ => 0) ⟨#[], args, []⟩).memory :=
  laidMetH_of_parts3 (fuel := 8) (laidMet_of_run' 8 (by kernel_rfl) (by kernel_rfl)) (by kernel_rfl) (by kernel_rfl)
end Go.Proofs.YtfnbhpjekjjpaaaDoor
