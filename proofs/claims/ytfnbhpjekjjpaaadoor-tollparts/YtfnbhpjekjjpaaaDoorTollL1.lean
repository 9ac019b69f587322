import Derived.Test.YtfnbhpjekjjpaaaDoorTollR
import Derived.Laws.OwnMore
import Derived.Deep.AppendSrc
import Derived.Laws.AppendOwn
import Derived.Lib.SlBytesConst
namespace Go.Proofs.YtfnbhpjekjjpaaaDoor
open Go.RowKit Go.Proofs Go.Proofs.TollM
set_option maxRecDepth 100000

theorem und_bytes : Tryd.prog.underlying 22 = some (.slice 5) := by kernel_rfl
theorem und_u8 : Tryd.prog.underlying 5 = some (.int .u8) := by kernel_rfl
theorem und_string : Tryd.prog.underlying 9 = some .string := by kernel_rfl

theorem BytesAt.below {w w' : World} {ao : Option Addr} {zs : List Nat} (h : BytesAt w ao zs) (hb : Below w.heap.size w w') : BytesAt w' ao zs := by
  intro j hj
  obtain ⟨b, off, h1, h2, h3⟩ := h j hj
  exact ⟨b, off, h1, Nat.lt_of_lt_of_le h2 hb.size, by rw [hb.cell (p := ⟨b, off + j, none⟩) h2, h3]⟩

/-- The text of bytes. -/
def bstr (zs : List Nat) : ByteArray := strOfNums (zs.map fun z : Nat => (z : Int))

theorem conv_bytes {w : World} {ao : Option Addr} {cap : Nat} {zs : List Nat} (h : BytesAt w ao zs) :
    (convert 22 9 (.slice ao zs.length cap)).run Tryd.prog w = .ok (.string (bstr zs)) w := by
  by_cases h0 : 0 < zs.length
  · obtain ⟨g, off, rfl, _, _⟩ := h 0 h0
    refine run_convert_bytes_arg w 22 5 und_bytes und_u8 g off zs.length cap (zs.map fun z : Nat => (z : Int)) (by simp) ?_ 9 und_string
    intro i hi
    obtain ⟨g', off', he, _, hc⟩ := h i hi
    simp only [Option.some.injEq, Addr.mk.injEq, and_true] at he
    obtain ⟨rfl, rfl⟩ := he
    rw [hc]
    simp [List.getD, hi]
  · obtain rfl : zs = [] := List.eq_nil_of_length_eq_zero (by omega)
    cases ao with
    | none => exact run_convert_bytes_nil w 22 5 und_bytes und_u8 0 cap 9 und_string
    | some a =>
      rw [List.length_nil, run_convert_bytes_string w 22 9 5 _ 0 cap und_bytes und_u8 und_string]
      have hl : (loadCells a 0).run Tryd.prog w = .ok #[] w := run_loadCells_list (P := Tryd.prog) w a [] (by simp)
      simp [Conv.bytesToString, bstr, strOfNums, hl]
      rfl

def cellsOf (zs : List Nat) : List Value := zs.map fun z : Nat => Value.int .u8 ((z : Nat) : Int)
theorem cellsOf_length (zs : List Nat) : (cellsOf zs).length = zs.length := by simp [cellsOf]
theorem cellsOf_get (zs : List Nat) (j : Nat) (h : j < zs.length) : (cellsOf zs)[j]? = some (.int .u8 ((zs.getD j 0 : Nat) : Int)) := by
  simp [cellsOf, List.getD, h]
theorem cellsOf_set (zs : List Nat) (j y : Nat) : cellsOf (zs.set j y) = (cellsOf zs).set j (.int .u8 (y : Int)) := by simp [cellsOf, List.map_set]

theorem bytes_own {w : World} {base g cap : Nat} {zs : List Nat} (h : w.ownsRow base 5 1 (.slice (some ⟨g, 0, none⟩) zs.length cap) zs.length (cellsOf zs)) : BytesAt w (some ⟨g, 0, none⟩) zs := by
  intro j hj
  refine ⟨g, 0, rfl, ?_, ?_⟩
  · rcases h.2 with ⟨h', _⟩ | ⟨g', cap', cur, h', hb, hg, _⟩
    · simp at h'
    · simp only [Value.slice.injEq, Option.some.injEq, Addr.mk.injEq, and_true, true_and] at h'
      obtain ⟨rfl, rfl⟩ := h'
      rcases Nat.lt_or_ge g w.heap.size with h3 | h3
      · exact h3
      · rw [Array.getElem?_eq_none h3] at hg; cases hg
  · rw [Nat.zero_add]
    have := h.cells (g := g) rfl j _ (cellsOf_get zs j hj)
    rw [Addr.add_lit, Nat.zero_add] at this
    exact this

/-- append, where it is known what it makes. -/
theorem wpList_append_run {P : Program} {w : World} {ops : Array Oper} {rest : List Oper} {o : Oper} {a : Act} {Q : Exit → Act → World → Prop} (hgd : o.guard = none) (s x : Operand) (t : TypeId)
    (ho : o.op = .call { callee := .builtin .append, args := #[s, x], argTypes := #[t, t] }) (v y v' : Value) (w' : World) (hs : a.eval s = v) (hx : a.eval x = y)
    (hr : (Builtin.append_ #[t, t] o.type #[v, y]).run P w = .ok v' w') (h : wpList P ops Q rest (a.put o.dst v') w') : wpList P ops Q (o :: rest) a w := by
  refine wpList_plain hgd fun _ hK => ?_
  unfold Oper.wp execOp
  simp only [ho, resolve, invoke, builtin, Sem.run_bind, Sem.run_pure, Result.andThen_ok, List.map_toArray, List.map_cons, List.map_nil, hs, hx, hr]
  exact hK _ _ h

theorem info_u8 : (Tryd.prog.info? 5).map (fun i => (i.zero, i.size, i.bytes)) = some (some (.int .u8 0), 1, 1) := by kernel_rfl

/-- The cells of a slice that came in: where it has an address, its cells stand there. -/
theorem cells_at {w : World} {a : Addr} {zs : List Nat} (h : BytesAt w (some a) zs) : ∀ j u, (cellsOf zs)[j]? = some u → w.cell? (a.add j) = some u := by
  intro j u hj
  have hlt : j < zs.length := by
    rcases Nat.lt_or_ge j zs.length with h1 | h1
    · exact h1
    · rw [List.getElem?_eq_none (by rw [cellsOf_length]; exact h1)] at hj; cases hj
  obtain ⟨b, off, he, _, hc⟩ := h j hlt
  simp only [Option.some.injEq] at he
  subst he
  rw [cellsOf_get zs j hlt] at hj
  simp only [Option.some.injEq] at hj
  subst hj
  rw [Addr.add_lit]
  exact hc

theorem cells_one (zs : List Nat) : ∀ u ∈ cellsOf zs, u.oneCell' = true := by
  intro u hu
  simp only [cellsOf, List.mem_map] at hu
  obtain ⟨z, _, rfl⟩ := hu
  rfl

/-- append([]byte{}, b...): a copy in memory of its own. -/
theorem run_copy {w : World} {g : Nat} {ao : Option Addr} {cap ty : Nat} {zs : List Nat} (hg : w.heap[g]? = some (.cells #[] 5)) (hl : zs.length ≤ 100000) (h : BytesAt w ao zs) (hn : ao = none → zs = []) :
    ∃ g' cap' w', (Builtin.append_ #[22, 22] ty #[.slice (some ⟨g, 0, none⟩) 0 0, .slice ao zs.length cap]).run Tryd.prog w = .ok (.slice (some ⟨g', 0, none⟩) zs.length cap') w' ∧
      w'.ownsRow g 5 1 (.slice (some ⟨g', 0, none⟩) zs.length cap') zs.length (cellsOf zs) ∧ Below g w w' := by
  have hlt : g < w.heap.size := by
    rcases Nat.lt_or_ge g w.heap.size with h3 | h3
    · exact h3
    · rw [Array.getElem?_eq_none h3] at hg; cases hg
  have hown : w.ownsRow g 5 1 (.slice (some ⟨g, 0, none⟩) 0 0) 0 [] := ⟨rfl, .inr ⟨g, 0, #[], rfl, Nat.le_refl _, hg, Nat.le_refl _, by unfold maxLen; omega, rfl, rfl⟩⟩
  obtain ⟨i0, hi, hz0, hz1, hz2⟩ := info_parts info_u8
  cases ao with
  | none =>
    obtain rfl := hn rfl
    have hs : Src Tryd.prog i0.size 22 (.slice none 0 cap) 0 [] w := by rw [hz1]; exact Src.ofNil w und_bytes cap
    have := run_append_room_src w 22 22 ty 5 i0 und_bytes hi g 0 0 0 (.slice none 0 cap) 0 [] hs (Nat.le_refl _) (by simp) (by simp)
    exact ⟨g, 0, w, by simpa [World.setCells] using this, by simpa [cellsOf] using hown, Below.refl _ _⟩
  | some a =>
    obtain ⟨v', w', hr, h2, h3, h4⟩ := run_append_own (P := Tryd.prog) w g 22 ty 5 i0 (.int .u8 0) 1 1 und_bytes hi hz0 hz1 hz2 rfl (by decide) (.slice (some ⟨g, 0, none⟩) 0 0) 0 [] hown a zs.length cap (cellsOf zs) (by rw [cellsOf_length, Nat.mul_one]) (cells_at h) (cells_one zs) (by unfold maxLen; omega) (by omega) (by omega)
    rw [Nat.zero_add, List.nil_append] at h2
    rcases h2.2 with ⟨rfl, h0⟩ | ⟨g', cap', cur, rfl, r⟩
    · exact absurd (h4.1 rfl).1 (by simp)
    · exact ⟨g', cap', w', hr, h2, (Below.refl g w).grown h3 (by omega) (by intro x hx; simp [Value.ownBlock] at hx; omega)⟩

theorem cell_new (w : World) (C : Array Value) (e : TypeId) (fz : Nat × Nat) (j : Nat) : (w.alloc (.cells C e fz)).cell? ⟨w.heap.size, j, none⟩ = C[j]? := by
  have h : (w.alloc (.cells C e fz)).heap[w.heap.size]? = some (.cells C e fz) := by
    show (w.heap.push (.cells C e fz))[w.heap.size]? = _
    simp
  unfold World.cell?
  simp only [h]
  rfl

set_option maxHeartbeats 400000 in
theorem awake (w : World) (ht : Tab w) : Calls Tryd.prog 6 #[] w fun e w' => e = .returned (.bool true) ∧ Below w.heap.size w w' := by
  have hcv := fun (w : World) (C : Array Value) (n c : Nat) => Lib.run_convert_bytes_const (P := Tryd.prog) w 22 5 C n c und_bytes und_u8
  have hb : Below w.heap.size w (w.alloc (.cells #[.int .u8 49, .int .u8 50, .int .u8 51, .int .u8 52, .int .u8 53, .int .u8 54, .int .u8 55, .int .u8 56, .int .u8 57] 5 (9, 10))) := (Below.refl _ _).alloc (Nat.le_refl _) _
  have hs := cSum (some ⟨w.heap.size, 0, none⟩) 9 [49, 50, 51, 52, 53, 54, 55, 56, 57] (w.alloc (.cells #[.int .u8 49, .int .u8 50, .int .u8 51, .int .u8 52, .int .u8 53, .int .u8 54, .int .u8 55, .int .u8 56, .int .u8 57] 5 (9, 10))) (by decide) (by decide) (by
      intro j hj
      refine ⟨w.heap.size, 0, rfl, by simp, ?_⟩
      have hj : j < 9 := hj
      rw [Nat.zero_add, cell_new]
      rcases (by omega : j = 0 ∨ j = 1 ∨ j = 2 ∨ j = 3 ∨ j = 4 ∨ j = 5 ∨ j = 6 ∨ j = 7 ∨ j = 8) with rfl | rfl | rfl | rfl | rfl | rfl | rfl | rfl | rfl <;> rfl) (ht.below hb)
  rw [example9] at hs
  have HS := Lib.hid hs
  have HB := Lib.hid hb
  clear hs hb
  go_enter Tryd.func6, Tryd.ntmps6
  go_wp2_with fail
  refine HS.out.mono ?_
  rintro e w1 ⟨rfl, rfl⟩
  go_wp2
  go_ret
  exact ⟨rfl, HB.out⟩

/-- A tally in a block of its own. -/
structure TallyAt (w : World) (b s n : Nat) : Prop where
  lt : b < w.heap.size
  c0 : w.cell? ⟨b, 0, none⟩ = some (.int .u32 (s : Int))
  c1 : w.cell? ⟨b, 1, none⟩ = some (.int .i64 (n : Int))
  f0 : w.frozen? ⟨b, 0, none⟩ = false
  f1 : w.frozen? ⟨b, 1, none⟩ = false

theorem tSum (b s n : Nat) (w : World) (h : TallyAt w b s n) :
    Calls Tryd.prog 10 #[.pointer (some ⟨b, 0, none⟩)] w fun e w' => e = .returned (.int .u32 (s : Int)) ∧ w' = w := by
  have h0 := h.c0
  go_enter Tryd.func10, Tryd.ntmps10
  go_wp2
  go_ret
  exact ⟨rfl, rfl⟩

theorem tLen (b s n : Nat) (w : World) (h : TallyAt w b s n) :
    Calls Tryd.prog 11 #[.pointer (some ⟨b, 0, none⟩)] w fun e w' => e = .returned (.int .i64 (n : Int)) ∧ w' = w := by
  have h1 := h.c1
  go_enter Tryd.func11, Tryd.ntmps11
  go_wp2
  go_ret
  exact ⟨rfl, rfl⟩

set_option maxHeartbeats 400000 in
theorem tAdd (b s n : Nat) (ao : Option Addr) (cap : Nat) (zs : List Nat) (w : World) (h : TallyAt w b s n) (hs : s < 4294967296) (hn : n ≤ 1000000) (hl : zs.length ≤ 100000) (hz : ∀ z ∈ zs, z < 256) (hc : BytesAt w ao zs) (ht : Tab w) :
    Calls Tryd.prog 12 #[.pointer (some ⟨b, 0, none⟩), .slice ao zs.length cap] w fun e w' => ∃ v, e = .returned v ∧ w' = (w.setCell ⟨b, 0, none⟩ (.int .u32 ((4294967295 - reg (4294967295 - s) zs : Nat) : Int))).setCell ⟨b, 1, none⟩ (.int .i64 ((n + zs.length : Nat) : Int)) := by
  have HG := Lib.hid (cGoOn s ao cap zs w hs hl hz hc ht)
  obtain ⟨lt, h0, h1, f0, f1⟩ := h
  clear hz hc
  go_enter Tryd.func12, Tryd.ntmps12
  go_wp2_with fail
  refine HG.out.mono ?_
  rintro e w1 ⟨rfl, rfl⟩
  go_wp2
  refine bodyPost_end (v := .tuple #[]) (by simp [results, Tryd.results12, go_sem]) rfl ?_
  exact ⟨_, rfl, by rw [Int.natCast_add]⟩

theorem tally_set {w : World} {b s n : Nat} (h : TallyAt w b s n) (s' n' : Nat) : TallyAt ((w.setCell ⟨b, 0, none⟩ (.int .u32 (s' : Int))).setCell ⟨b, 1, none⟩ (.int .i64 (n' : Int))) b s' n' := by
  obtain ⟨lt, h0, h1, f0, f1⟩ := h
  refine ⟨by simpa using lt, ?_, ?_, by simpa using f0, by simpa using f1⟩
  · rw [World.cell?_setCell_other _ _ _ _ (by simp), World.cell?_setCell_same _ _ _ h0]
  · have h2 : (w.setCell ⟨b, 0, none⟩ (.int .u32 (s' : Int))).cell? ⟨b, 1, none⟩ = some (.int .i64 (n : Int)) := by rw [World.cell?_setCell_other _ _ _ _ (by simp), h1]
    exact World.cell?_setCell_same _ _ _ h2

theorem tally_below {w0 w : World} {b : Nat} (hb : Below b w0 w) (u v : Value) : Below b w0 ((w.setCell ⟨b, 0, none⟩ u).setCell ⟨b, 1, none⟩ v) := (hb.setCell (p := ⟨b, 0, none⟩) (Nat.le_refl _) u).setCell (p := ⟨b, 1, none⟩) (Nat.le_refl _) v

theorem heap_new (w : World) (o : Obj) : (w.alloc o).heap[w.heap.size]? = some o := by
  show (w.heap.push o)[w.heap.size]? = _
  simp

theorem cSum2 (ao : Option Addr) (cap m : Nat) (zs : List Nat) (w : World) (hm : zs.length = m) (hl : zs.length ≤ 100000) (hz : ∀ z ∈ zs, z < 256) (hc : BytesAt w ao zs) (ht : Tab w) :
    Calls Tryd.prog 7 #[.slice ao m cap] w fun e w' => e = .returned (.int .u32 ((sum zs : Nat) : Int)) ∧ w' = w := by
  subst hm
  exact cSum ao cap zs w hl hz hc ht
end Go.Proofs.YtfnbhpjekjjpaaaDoor
