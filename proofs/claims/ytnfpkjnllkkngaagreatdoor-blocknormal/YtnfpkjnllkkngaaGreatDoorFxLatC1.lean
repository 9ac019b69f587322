import Derived.Test.YtnfpkjnllkkngaaGreatDoorProg
import Derived.WalkKit
import Derived.WalkSpells
import Derived.WalkLawsBesides
import Derived.Lib.Hide
import Derived.Test.YtnfpkjnllkkngaaGreatDoorAppend
import Derived.BigQuiet
import Derived.Deep.QuietTactic
import Derived.Deep.AppendSrc
import Derived.Laws.OwnMore
import Derived.Laws.AppendOwn
import Derived.Laws.MakeOwn
import Derived.Deep.RegionWith
import Derived.Deep.LoopGhost
import Derived.Test.YtnfpkjnllkkngaaGreatDoorLatM

section
namespace Go.Proofs.YtnfpkjnllkkngaaGreatDoor.Fx
open Go.RowKit Go.Proofs Go.Proofs.PipeA
set_option maxRecDepth 100000

/-- Nothing that was there has turned but blocks of a list. -/
structure Keeps (bs : List Nat) (w w' : World) : Prop where
  os : w'.os = w.os
  tape : w'.tape = w.tape
  output : w'.output = w.output
  size : w.heap.size ≤ w'.heap.size
  block : ∀ k, k < w.heap.size → k ∉ bs → w'.heap[k]? = w.heap[k]?

theorem Keeps.refl (bs : List Nat) (w : World) : Keeps bs w w := ⟨rfl, rfl, rfl, Nat.le_refl _, fun _ _ _ => rfl⟩
theorem Keeps.trans {bs : List Nat} {a b c : World} (h : Keeps bs a b) (k : Keeps bs b c) : Keeps bs a c :=
  ⟨k.os.trans h.os, k.tape.trans h.tape, k.output.trans h.output, Nat.le_trans h.size k.size, fun i hi hn => (k.block i (Nat.lt_of_lt_of_le hi h.size) hn).trans (h.block i hi hn)⟩
/-- A block that is new may turn besides. -/
theorem Keeps.trans_new {bs cs : List Nat} {a b c : World} (h : Keeps bs a b) (k : Keeps cs b c) (hn : ∀ x ∈ cs, x ∈ bs ∨ a.heap.size ≤ x) : Keeps bs a c :=
  ⟨k.os.trans h.os, k.tape.trans h.tape, k.output.trans h.output, Nat.le_trans h.size k.size, fun i hi hni =>
    (k.block i (Nat.lt_of_lt_of_le hi h.size) (fun hc => by rcases hn i hc with h1 | h1; exact hni h1; omega)).trans (h.block i hi hni)⟩
theorem Keeps.below {bs : List Nat} {w w' : World} {B : Nat} (h : Keeps bs w w') (hB : B ≤ w.heap.size) (hn : ∀ x ∈ bs, B ≤ x) : Below B w w' :=
  ⟨h.os, h.tape, h.output, h.size, fun k hk => h.block k (by omega) (fun hc => by have := hn k hc; omega)⟩
theorem Keeps.cell {bs : List Nat} {w w' : World} (h : Keeps bs w w') {p : Addr} (hp : p.block < w.heap.size) (hn : p.block ∉ bs) : w'.cell? p = w.cell? p := World.cell?_of_block (w := w) (h.block p.block hp hn)
theorem Keeps.frozen {bs : List Nat} {w w' : World} (h : Keeps bs w w') {p : Addr} (hp : p.block < w.heap.size) (hn : p.block ∉ bs) : w'.frozen? p = w.frozen? p := World.frozen?_of_block (w := w) (h.block p.block hp hn)
theorem keeps_of_below {w w' : World} (h : Below w.heap.size w w') (bs : List Nat) : Keeps bs w w' := ⟨h.os, h.tape, h.output, h.size, fun k hk _ => h.block k hk⟩
theorem keeps_drew_b (w : World) (bs : List Nat) : Keeps bs w w.drew := ⟨rfl, rfl, rfl, Nat.le_refl _, fun _ _ _ => rfl⟩
theorem keeps_drewN (w : World) (n : Nat) (bs : List Nat) : Keeps bs w (w.drewN n) := ⟨rfl, rfl, rfl, Nat.le_refl _, fun _ _ _ => rfl⟩
theorem below_drewN {w W : World} (h : Below w.heap.size w W) (m : Nat) : Below w.heap.size w (W.drewN m) := h.trans ((keeps_drewN W m []).below h.size (by simp))
theorem box_below (w : World) (o : Obj) : Below w.heap.size w (w.alloc o) := (Below.refl _ _).alloc (Nat.le_refl _) _
theorem below2 (w : World) (o1 o2 : Obj) : Below w.heap.size w ((w.alloc o1).alloc o2) := ((Below.refl _ _).alloc (Nat.le_refl _) _).alloc (by simp) _
theorem keeps_setCell (w : World) (b off : Nat) (v : Value) : Keeps [b] w (w.setCell ⟨b, off, none⟩ v) :=
  ⟨rfl, rfl, rfl, by simp [World.setCell], fun k _ hn => Below.heap_setCell _ _ _ _ (fun e => hn (by simp [e]))⟩
theorem cell_of_heap {W : World} {b : Nat} {cs : Array Value} {t : TypeId} (h : W.heap[b]? = some (.cells cs t)) (j : Nat) : W.cell? ⟨b, j, none⟩ = cs[j]? := by simp [World.cell?, h]
theorem frozen_of_heap {W : World} {b : Nat} {cs : Array Value} {t : TypeId} (h : W.heap[b]? = some (.cells cs t)) (j : Nat) : W.frozen? ⟨b, j, none⟩ = false := by simp [World.frozen?, h]

/-- Numbers that lie in memory. -/
def IntsAt (w : World) (ao : Option Addr) (l : List Int) : Prop :=
  ∀ j (h : j < l.length), ∃ b off, ao = some ⟨b, off, none⟩ ∧ b < w.heap.size ∧ w.cell? ⟨b, off + j, none⟩ = some (.int .i64 l[j])
theorem IntsAt.keeps {w w' : World} {bs : List Nat} {ao : Option Addr} {l : List Int} (h : IntsAt w ao l) (hk : Keeps bs w w') (hn : ∀ g off, ao = some ⟨g, off, none⟩ → g ∉ bs) : IntsAt w' ao l := by
  intro j hj
  obtain ⟨g, off, h1, h2, h3⟩ := h j hj
  exact ⟨g, off, h1, Nat.lt_of_lt_of_le h2 hk.size, by rw [hk.cell (p := ⟨g, off + j, none⟩) h2 (hn g off h1), h3]⟩
theorem IntsAt.below {w w' : World} {ao : Option Addr} {l : List Int} (h : IntsAt w ao l) (hb : Below w.heap.size w w') : IntsAt w' ao l := h.keeps (keeps_of_below hb []) (by simp)
theorem IntsAt.drewN {w : World} {ao : Option Addr} {l : List Int} (h : IntsAt w ao l) (n : Nat) : IntsAt (w.drewN n) ao l := h
theorem IntsAt.nil {w : World} {l : List Int} (h : IntsAt w none l) : l = [] := by
  cases l with
  | nil => rfl
  | cons x r => obtain ⟨_, _, e, _⟩ := h 0 (by simp); cases e

theorem own_lt {w : World} {base n cap g : Nat} {xs : List Value} {e : TypeId} (h : w.ownsRow base e 1 (.slice (some ⟨g, 0, none⟩) n cap) n xs) : base ≤ g ∧ g < w.heap.size ∧ n ≤ cap ∧ cap ≤ maxLen := by
  rcases h.2 with ⟨h', _⟩ | ⟨g', cap', cur, h', hb, hg, h1, h2, _⟩
  · simp at h'
  · simp only [Value.slice.injEq, Option.some.injEq, Addr.mk.injEq, and_true, true_and] at h'
    obtain ⟨rfl, rfl⟩ := h'
    refine ⟨hb, ?_, h1, h2⟩
    rcases Nat.lt_or_ge g w.heap.size with h3 | h3
    · exact h3
    · rw [Array.getElem?_eq_none h3] at hg; cases hg
theorem own_block_lt {w : World} {base n size : Nat} {e : TypeId} {xs : List Value} {v : Value} (h : w.ownsRow base e size v n xs) : ∀ g, v.ownBlock = some g → base ≤ g ∧ g < w.heap.size := by
  intro g hg
  rcases h.2 with ⟨rfl, rfl⟩ | ⟨g', cap, cur, rfl, hb, hh, _⟩
  · cases hg
  · simp [Value.ownBlock] at hg
    subst hg
    exact ⟨hb, (Array.getElem?_eq_some_iff.1 hh).1⟩
theorem own_slice {w : World} {base n size : Nat} {e : TypeId} {xs : List Value} {v : Value} (h : w.ownsRow base e size v n xs) : ∃ ao cap, v = .slice ao n cap ∧ ∀ a, ao = some a → ∃ g, a = ⟨g, 0, none⟩ := by
  rcases h.2 with ⟨rfl, rfl⟩ | ⟨g, cap, cur, rfl, _⟩
  · exact ⟨none, 0, rfl, fun a e => by cases e⟩
  · exact ⟨_, cap, rfl, fun a e => by cases e; exact ⟨g, rfl⟩⟩
theorem ownsRow_below {w w' : World} {base size : Nat} {e : TypeId} {v : Value} {n : Nat} {xs : List Value} (h : w.ownsRow base e size v n xs) (hb : Below w.heap.size w w') : w'.ownsRow base e size v n xs := by
  refine ⟨h.1, ?_⟩
  rcases h.2 with h2 | ⟨g, cap, cur, hv', hg, hh, r⟩
  · exact Or.inl h2
  · exact Or.inr ⟨g, cap, cur, hv', hg, by rw [hb.block g (Array.getElem?_eq_some_iff.1 hh).1]; exact hh, r⟩

theorem info_int : (Tryz.prog.info? 3).map (fun i => (i.zero, i.size, i.bytes)) = some (some (.int .i64 0), 1, 8) := by kernel_rfl
def intsOf (l : List Int) : List Value := l.map fun n => Value.int .i64 n
theorem ints_own {w : World} {base : Nat} {ao : Option Addr} {cap : Nat} {l : List Int} (h : w.ownsRow base 3 1 (.slice ao l.length cap) l.length (intsOf l)) : IntsAt w ao l := by
  rcases h.2 with ⟨h1, h2⟩ | ⟨g, cap', cur, h1, _, hh, _⟩
  · have : l = [] := List.eq_nil_of_length_eq_zero h2
    subst this
    intro j hj; simp at hj
  · simp only [Value.slice.injEq] at h1
    obtain ⟨rfl, _, rfl⟩ := h1
    intro j hj
    refine ⟨g, 0, rfl, (Array.getElem?_eq_some_iff.1 hh).1, ?_⟩
    rw [Nat.zero_add, h.cellAt j (by simpa [intsOf] using hj)]
    simp [intsOf]
theorem icells_at {w : World} {a : Addr} {l : List Int} (h : IntsAt w (some a) l) : ∀ j u, (intsOf l)[j]? = some u → w.cell? (a.add j) = some u := by
  intro j u hj
  have hlt : j < l.length := by
    rcases Nat.lt_or_ge j l.length with h1 | h1
    · exact h1
    · rw [List.getElem?_eq_none (by simpa [intsOf] using h1)] at hj; cases hj
  obtain ⟨b, off, he, _, hc⟩ := h j hlt
  simp only [Option.some.injEq] at he
  subst he
  simp [intsOf, hlt] at hj
  subst hj
  rw [Addr.add_lit]
  exact hc
theorem icells_one (l : List Int) : ∀ u ∈ intsOf l, u.oneCell' = true := by
  intro u hu
  simp only [intsOf, List.mem_map] at hu
  obtain ⟨z, _, rfl⟩ := hu
  rfl
/-- append([]int{}, l...): a copy in memory of its own. -/
theorem run_copyI {w : World} {g : Nat} {ao : Option Addr} {cap ty : Nat} {l : List Int} (hg : w.heap[g]? = some (.cells #[] 3)) (hl : l.length ≤ 100000) (h : IntsAt w ao l) :
    ∃ g' cap' w', (Builtin.append_ #[22, 22] ty #[.slice (some ⟨g, 0, none⟩) 0 0, .slice ao l.length cap]).run Tryz.prog w = .ok (.slice (some ⟨g', 0, none⟩) l.length cap') w' ∧
      IntsAt w' (some ⟨g', 0, none⟩) l ∧ g ≤ g' ∧ g' < w'.heap.size ∧ l.length ≤ cap' ∧ Below g w w' := by
  have hlt : g < w.heap.size := (Array.getElem?_eq_some_iff.1 hg).1
  have hown : w.ownsRow g 3 1 (.slice (some ⟨g, 0, none⟩) 0 0) 0 [] := ⟨rfl, .inr ⟨g, 0, #[], rfl, Nat.le_refl _, hg, Nat.le_refl _, by unfold maxLen; omega, rfl, rfl⟩⟩
  obtain ⟨i0, hi, hz0, hz1, hz2⟩ := info_parts info_int
  cases ao with
  | none =>
    obtain rfl := h.nil
    have hs : Src Tryz.prog i0.size 22 (.slice none 0 cap) 0 [] w := by rw [hz1]; exact Src.ofNil w Tryz.underlying22 cap
    have := run_append_room_src w 22 22 ty 3 i0 Tryz.underlying22 hi g 0 0 0 (.slice none 0 cap) 0 [] hs (Nat.le_refl _) (by simp) (by simp)
    exact ⟨g, 0, w, by simpa [World.setCells] using this, fun j hj => by simp at hj, Nat.le_refl _, hlt, Nat.le_refl _, Below.refl _ _⟩
  | some a =>
    obtain ⟨v', w', hr, h2, h3, h4⟩ := run_append_own (P := Tryz.prog) w g 22 ty 3 i0 (.int .i64 0) 1 8 Tryz.underlying22 hi hz0 hz1 hz2 rfl (by decide) (.slice (some ⟨g, 0, none⟩) 0 0) 0 [] hown a l.length cap (intsOf l) (by simp [intsOf]) (icells_at h) (icells_one l) (by unfold maxLen; omega) (by omega) (by omega)
    rw [Nat.zero_add, List.nil_append] at h2
    rcases h2.2 with ⟨rfl, h0⟩ | ⟨g', cap', cur, rfl, r⟩
    · exact absurd (h4.1 rfl).1 (by simp)
    · have ho := own_lt h2
      exact ⟨g', cap', w', hr, ints_own h2, ho.1, ho.2.1, ho.2.2.1, (Below.refl g w).grown h3 (by omega) (by intro x hx; simp [Value.ownBlock] at hx; omega)⟩

/-- append, where it is known what it makes. -/
theorem wpList_append_run {P : Program} {w : World} {ops : Array Oper} {rest : List Oper} {o : Oper} {a : Act} {Q : Exit → Act → World → Prop} (hgd : o.guard = none) (s x : Operand) (t : TypeId)
    (ho : o.op = .call { callee := .builtin .append, args := #[s, x], argTypes := #[t, t] }) (v y v' : Value) (w' : World) (hs : a.eval s = v) (hx : a.eval x = y)
    (hr : (Builtin.append_ #[t, t] o.type #[v, y]).run P w = .ok v' w') (h : wpList P ops Q rest (a.put o.dst v') w') : wpList P ops Q (o :: rest) a w := by
  refine wpList_plain hgd fun _ hK => ?_
  unfold Oper.wp execOp
  simp only [ho, resolve, invoke, builtin, Sem.run_bind, Sem.run_pure, Result.andThen_ok, List.map_toArray, List.map_cons, List.map_nil, hs, hx, hr]
  exact hK _ _ h

theorem makeInts (m : Nat) (hm : m ≤ 100000) : ∃ cs : Array Value, (∀ j, j < m → cs[j]? = some (.int .i64 0)) ∧ ∀ W, (Instr.makeSlice 22 (.int .i64 (m : Int)) (.int .i64 (m : Int))).run Tryz.prog W = .ok (.slice (some ⟨W.heap.size, 0, none⟩) m m) (W.alloc (.cells cs 3)) := by
  obtain ⟨i0, hi, hz0, hz1, hz2⟩ := info_parts info_int
  refine ⟨madeCells (Value.cells (.int .i64 0)) (m * i0.size), ?_, fun W => ?_⟩
  · intro j hj
    rw [hz1]
    simp [madeCells, Value.cells, hj]
    rw [Nat.mod_one]; rfl
  · have := run_make (P := Tryz.prog) W 22 3 i0 (.int .i64 0) Tryz.underlying22 hi hz0 .i64 .i64 m m (by omega) (Int.le_refl _) (by rw [hz2]; omega) (by omega)
    simpa using this
theorem quiet_drew {P : Program} {f : FuncId} {args : Array Value} {w : World} {n : Nat} {v : Value}
    (h : Calls P f args (w.drewN n) fun e w' => e = .returned v ∧ ∃ k, w' = (w.drewN n).drewN k) : Calls P f args (w.drewN n) fun e w'' => e = .returned v ∧ ∃ m, w'' = w.drewN m :=
  h.mono fun _ _ ⟨he, k, hm⟩ => ⟨he, n + k, by rw [hm, World.drewN_drewN]⟩

end Go.Proofs.YtnfpkjnllkkngaaGreatDoor.Fx
end

section
namespace Go.Proofs.YtnfpkjnllkkngaaGreatDoor.Fx
open Go.RowKit Go.Proofs Go.Proofs.PipeA Go.Proofs.LatM
set_option maxRecDepth 100000

theorem i64_and1 (n : Int) : bits .and .i64 n 1 = n % 2 := by
  have h1 : (BitVec.ofInt 64 1).toNat = 2 ^ 1 - 1 := by decide
  have key : (BitVec.ofInt 64 n &&& BitVec.ofInt 64 1).toNat = (n % ((2 ^ 64 : Nat) : Int)).toNat % 2 ^ 1 := by
    rw [BitVec.toNat_and, BitVec.toNat_ofInt, h1, Nat.and_two_pow_sub_one_eq_mod]
  show IntKind.i64.wrap ((BitVec.ofInt 64 n &&& BitVec.ofInt 64 1).toNat : Nat) = n % 2
  rw [key, IntKind.wrap_i64]
  omega

theorem cRound (p : Int) (w : World) (h0 : -9223372036854775808 ≤ p) (h1 : p ≤ 9223372036854775807) :
    Calls Tryz.prog 120 #[.int .i64 p] w fun e w' => e = .returned (.int .i64 (rnd p)) ∧ w = w' := by
  have e1 : bits BinOp.and IntKind.i64 (p / 8192) 1 = p / 8192 % 2 := i64_and1 _
  have e2 : p / 16384 + p / 8192 % 2 = rnd p := by unfold rnd; omega
  go_enter Tryz.func120, Tryz.ntmps120
  go_wp2
  go_ret
  refine ⟨?_, rfl⟩
  rw [← e2]
  simp

theorem tdiv_cases (x : Int) : (x.tmod 16384 < 0 ∧ x.tdiv 16384 = x / 16384 + 1) ∨ (0 ≤ x.tmod 16384 ∧ x.tdiv 16384 = x / 16384) := by
  by_cases h : 0 ≤ x
  · rw [Int.tdiv_eq_ediv_of_nonneg h, Int.tmod_eq_emod_of_nonneg h]
    omega
  · obtain ⟨y, rfl⟩ : ∃ y, x = -y := ⟨-x, by omega⟩
    rw [Int.neg_tdiv, Int.neg_tmod, Int.tdiv_eq_ediv_of_nonneg (by omega), Int.tmod_eq_emod_of_nonneg (by omega)]
    omega

theorem rRound (p : Int) (w : World) (h0 : -2305843009213693952 ≤ p) (h1 : p ≤ 2305843009213693952) :
    Calls Tryz.prog 98 #[.int .i64 p] w fun e w' => e = .returned (.int .i64 (rnd p)) ∧ w = w' := by
  have hr : -281474976710656 ≤ rnd p ∧ rnd p ≤ 281474976710656 := by unfold rnd; omega
  have hc := tdiv_cases (p + 8192)
  rw [show (p + 8192) / 16384 = rnd p from rfl] at hc
  generalize rnd p = r at hr hc
  rcases hc with ⟨t1, e1⟩ | ⟨t1, e1⟩
  · go_enter Tryz.func98, Tryz.ntmps98
    go_wp2
    go_ret
    exact ⟨by go_num, rfl⟩
  · go_enter Tryz.func98, Tryz.ntmps98
    go_wp2
    go_ret
    exact ⟨by go_num, rfl⟩

theorem cReflectionOf (p : Nat) (i : Int) (w : World) (hp : p ≤ 100) (hi : -64 ≤ i ∧ i ≤ 63) :
    Calls Tryz.prog 119 #[.int .i64 (p : Int), .int .i64 i] w fun e w' => e = .returned (.int .i64 (refl p i)) ∧ w = w' := by
  obtain ⟨u, rfl⟩ : ∃ u, i = u - 64 := ⟨i + 64, by omega⟩
  have hs := sq_bound (u := u) (by omega) (by omega)
  have e1 : u - 64 - -64 = u := by omega
  have e2 : u - 64 + 64 = u := by omega
  unfold refl
  rw [e2]
  by_cases h0 : p = 0
  · subst h0
    go_enter Tryz.func119, Tryz.ntmps119
    go_wp2
    go_ret
    exact ⟨by simp, rfl⟩
  · by_cases h1 : p = 1
    · subst h1
      go_enter Tryz.func119, Tryz.ntmps119
      go_wp2
      go_ret
      exact ⟨by simp, rfl⟩
    · rw [if_neg h0, if_neg h1]
      go_enter Tryz.func119, Tryz.ntmps119
      go_wp2
      go_ret
      exact ⟨by simp, rfl⟩

theorem rReflection (p : Nat) (i : Int) (w : World) (hp : p ≤ 100) (hi : -64 ≤ i ∧ i ≤ 63) :
    Calls Tryz.prog 99 #[.int .i64 (p : Int), .int .i64 i] w fun e w' => e = .returned (.int .i64 (refl p i)) ∧ w = w' := by
  obtain ⟨u, rfl⟩ : ∃ u, i = u - 64 := ⟨i + 64, by omega⟩
  have hs := sq_bound (u := u) (by omega) (by omega)
  have e2 : u - 64 + 64 = u := by omega
  unfold refl
  rw [e2]
  by_cases h0 : p = 0
  · subst h0
    go_enter Tryz.func99, Tryz.ntmps99
    go_wp2
    go_ret
    exact ⟨by simp, rfl⟩
  · by_cases h1 : p = 1
    · subst h1
      go_enter Tryz.func99, Tryz.ntmps99
      go_wp2
      go_ret
      exact ⟨by simp, rfl⟩
    · rw [if_neg h0, if_neg h1]
      go_enter Tryz.func99, Tryz.ntmps99
      go_wp2
      go_ret
      exact ⟨by simp, rfl⟩

theorem ix_cases (n : Int) : (decide (n < -64) = true ∧ ix n = false) ∨ (decide (n < -64) = false ∧ decide (63 < n) = true ∧ ix n = false) ∨ (decide (n < -64) = false ∧ decide (63 < n) = false ∧ ix n = true) := by
  unfold ix
  by_cases h1 : n < -64
  · exact .inl ⟨decide_eq_true h1, decide_eq_false (by omega)⟩
  · by_cases h2 : 63 < n
    · exact .inr (.inl ⟨decide_eq_false h1, decide_eq_true h2, decide_eq_false (by omega)⟩)
    · exact .inr (.inr ⟨decide_eq_false h1, decide_eq_false h2, decide_eq_true (by omega)⟩)

theorem cIsNoIndex (n : Int) (w : World) :
    Calls Tryz.prog 44 #[.int .i64 n] w fun e w' => e = .returned (.bool (!ix n)) ∧ w = w' := by
  rcases ix_cases n with ⟨t1, t2⟩ | ⟨t1, t2, t3⟩ | ⟨t1, t2, t3⟩
  · have HT := Lib.hid t2
    clear t2
    go_enter Tryz.func44, Tryz.ntmps44
    go_wp2
    go_ret
    exact ⟨by rw [HT.out]; rfl, rfl⟩
  · have HT := Lib.hid t3
    clear t3
    go_enter Tryz.func44, Tryz.ntmps44
    go_wp2
    go_ret
    exact ⟨by rw [HT.out]; rfl, rfl⟩
  · have HT := Lib.hid t3
    clear t3
    go_enter Tryz.func44, Tryz.ntmps44
    go_wp2
    go_ret
    exact ⟨by rw [HT.out]; rfl, rfl⟩

theorem any_take {f : Int → Bool} {l : List Int} {c : Nat} (hc : c < l.length) : (l.take (c + 1)).any f = ((l.take c).any f || f l[c]) := by
  rw [List.take_succ_eq_append_getElem hc, List.any_append]; simp

def Found (l : List Int) (f : Int → Bool) (k : Int) : Prop := decide (0 ≤ k) = l.any f

set_option maxHeartbeats 800000 in
theorem cIndexFunc (ao : Option Addr) (cap : Nat) (l : List Int) (w : World) (hl : l.length ≤ 9223372036854775807) (hi : IntsAt w ao l) :
    Calls Tryz.prog 66 #[.slice ao l.length cap, .func (.func 44) #[] #[]] w fun e w' => ∃ k : Int, e = .returned (.int .i64 k) ∧ Found l (fun n => !ix n) k ∧ w = w' := by
  have HI := Lib.hid hi
  have HL := fun n W => Lib.hid (cIsNoIndex n W)
  clear hi
  go_enter Tryz.func66, Tryz.ntmps66
  go_wp2
  go_loopg [5, 8] l.length (fun gk q i wr => ∃ c : Nat, c ≤ l.length ∧ gk + c = l.length ∧ i = .int .i64 c ∧ Hid ((l.take c).any (fun n => !ix n) = false) ∧ w = wr)
  case atStart => exact ⟨0, Nat.zero_le _, by omega, rfl, by simp [Hid], rfl⟩
  case round =>
    obtain ⟨c, hc, hgk, rfl, HT, rfl⟩ := hrel
    have HGK := Lib.hid hgk
    clear hgk
    by_cases hlt : c < l.length
    · obtain ⟨b, off, rfl, hg, hcell⟩ := HI.out c hlt
      have HNX := Lib.hid (any_take (f := fun n => !ix n) hlt)
      have HLC := fun W => Lib.hid (HL l[c] W).out
      have HMem : Hid (ix l[c] = false → l.any (fun n => !ix n) = true) := fun h => List.any_eq_true.2 ⟨l[c], List.getElem_mem hlt, by simp [h]⟩
      generalize l[c] = x at hcell HNX HLC HMem
      cases hx : ix x
      · have HM2 := Lib.hid (HMem.out hx)
        rw [hx] at HLC
        clear hx HMem HNX hg
        go_wp2_with fail
        refine (HLC _).out.mono ?_
        rintro e w1 ⟨rfl, rfl⟩
        go_wp2
        go_ret
        exact ⟨_, rfl, by unfold Found; rw [HM2.out]; exact decide_eq_true (by omega), rfl⟩
      · have HN2 : Hid ((l.take (c + 1)).any (fun n => !ix n) = false) := by show _ = _; rw [HNX.out, HT.out]; simp [hx]
        rw [hx] at HLC
        clear hx HMem HNX hg
        go_wp2_with fail
        refine (HLC _).out.mono ?_
        rintro e w1 ⟨rfl, rfl⟩
        go_wp2
        go_roundg (gk - 1)
        case rel => exact ⟨c + 1, by omega, by have := HGK.out; omega, by go_num, HN2, rfl⟩
        case measure => have := HGK.out; omega
    · obtain rfl : c = l.length := by omega
      have HA : Hid (l.any (fun n => !ix n) = false) := by have := HT.out; rw [List.take_length] at this; exact this
      go_wp2
      go_ret
      exact ⟨_, rfl, by unfold Found; rw [HA.out]; rfl, rfl⟩

set_option maxHeartbeats 400000 in
theorem cContains (ao : Option Addr) (cap : Nat) (l : List Int) (w : World) (hl : l.length ≤ 9223372036854775807) (hi : IntsAt w ao l) :
    Calls Tryz.prog 41 #[.slice ao l.length cap, .func (.func 44) #[] #[]] w fun e w' => e = .returned (.bool (l.any (fun n => !ix n))) ∧ w = w' := by
  have HC := Lib.hid (cIndexFunc ao cap l w hl hi)
  obtain ⟨d, hd⟩ : ∃ d, d = l.any (fun n => !ix n) := ⟨_, rfl⟩
  rw [← hd]
  have HD := Lib.hid hd
  clear hi hd
  go_enter Tryz.func41, Tryz.ntmps41
  go_wp2_with fail
  refine HC.out.mono ?_
  rintro e w1 ⟨k, rfl, hf, rfl⟩
  unfold Found at hf
  rw [← HD.out] at hf
  go_wp2
  go_ret
  exact ⟨rfl, rfl⟩

theorem good_big {l : List Int} (h : ¬ l.length ≤ 16) : goodL l = false := by unfold goodL; rw [decide_eq_false h, Bool.and_false]
theorem good_small {l : List Int} (h : l.length ≤ 16) : goodL l = !(l.any (fun n => !ix n)) := by
  unfold goodL; rw [decide_eq_true h, Bool.and_true]
  exact List.all_eq_not_any_not

set_option maxHeartbeats 400000 in
theorem cGood (ao : Option Addr) (cap : Nat) (l : List Int) (w : World) (hl : l.length ≤ 9223372036854775807) (hi : IntsAt w ao l) :
    Calls Tryz.prog 16 #[.slice ao l.length cap] w fun e w' => e = .returned (.bool (goodL l)) ∧ w = w' := by
  have HC := Lib.hid (cContains ao cap l w hl hi)
  clear hi
  by_cases h : l.length ≤ 16
  · have HG := Lib.hid (good_small h)
    have t : decide ((l.length : Int) ≤ 16) = true := decide_eq_true (by omega)
    generalize l.any (fun n => !ix n) = d at HC HG
    generalize goodL l = g at HG
    clear h
    go_enter Tryz.func16, Tryz.ntmps16
    go_wp2_with fail
    refine HC.out.mono ?_
    rintro e w1 ⟨rfl, rfl⟩
    go_wp2
    go_ret
    exact ⟨by rw [HG.out]; rfl, rfl⟩
  · have HG := Lib.hid (good_big h)
    have t : decide ((l.length : Int) ≤ 16) = false := decide_eq_false (by omega)
    generalize goodL l = g at HG
    clear h HC
    go_enter Tryz.func16, Tryz.ntmps16
    go_wp2
    go_ret
    exact ⟨by rw [HG.out]; rfl, rfl⟩

theorem good_no {l : List Int} {c : Nat} (hc : c < l.length) (h : ix l[c] = false) : goodL l = false := by
  unfold goodL
  have : l.all ix = false := by
    cases ha : l.all ix with
    | false => rfl
    | true => rw [List.all_eq_true.1 ha _ (List.getElem_mem hc)] at h; cases h
  rw [this, Bool.false_and]

set_option maxHeartbeats 800000 in
theorem rGood (ao : Option Addr) (cap : Nat) (l : List Int) (w : World) (hl : l.length ≤ 9223372036854775807) (hi : IntsAt w ao l) :
    Calls Tryz.prog 24 #[.slice ao l.length cap] w fun e w' => e = .returned (.bool (goodL l)) ∧ w = w' := by
  have HI := Lib.hid hi
  clear hi
  go_enter Tryz.func24, Tryz.ntmps24
  go_wp2
  go_loopg [3, 6] l.length (fun gk q i wr => ∃ c : Nat, c ≤ l.length ∧ gk + c = l.length ∧ i = .int .i64 c ∧ Hid ((l.take c).any (fun n => !ix n) = false) ∧ w = wr)
  case atStart => exact ⟨0, Nat.zero_le _, by omega, rfl, by simp [Hid], rfl⟩
  case round =>
    obtain ⟨c, hc, hgk, rfl, HT, rfl⟩ := hrel
    have HGK := Lib.hid hgk
    clear hgk
    by_cases hlt : c < l.length
    · obtain ⟨b, off, rfl, hg, hcell⟩ := HI.out c hlt
      have HNX := Lib.hid (any_take (f := fun n => !ix n) hlt)
      have HMem : Hid (ix l[c] = false → goodL l = false) := fun h => good_no hlt h
      generalize l[c] = x at hcell HNX HMem
      rcases ix_cases x with ⟨t1, t2⟩ | ⟨t1, t2, t3⟩ | ⟨t1, t2, t3⟩
      · have HM2 := Lib.hid (HMem.out t2)
        clear t2 HMem HNX hg
        go_wp2
        go_ret
        exact ⟨by rw [HM2.out]; rfl, rfl⟩
      · have HM2 := Lib.hid (HMem.out t3)
        clear t3 HMem HNX hg
        go_wp2
        go_ret
        exact ⟨by rw [HM2.out]; rfl, rfl⟩
      · have HN2 : Hid ((l.take (c + 1)).any (fun n => !ix n) = false) := by show _ = _; rw [HNX.out, HT.out]; simp [t3]
        clear t3 HMem HNX hg
        go_wp2
        go_roundg (gk - 1)
        case rel => exact ⟨c + 1, by omega, by have := HGK.out; omega, by go_num, HN2, rfl⟩
        case measure => have := HGK.out; omega
    · obtain rfl : c = l.length := by omega
      have HA : Hid (goodL l = decide (l.length ≤ 16)) := by
        have := HT.out
        rw [List.take_length] at this
        show _ = _
        by_cases h : l.length ≤ 16
        · rw [good_small h, this, decide_eq_true h]; rfl
        · rw [good_big h, decide_eq_false h]
      have t : decide ((l.length : Int) ≤ 16) = decide (l.length ≤ 16) := decide_eq_decide.2 (by omega)
      generalize decide (l.length ≤ 16) = d at HA t
      go_wp2
      go_ret
      exact ⟨by rw [HA.out]; rfl, rfl⟩
end Go.Proofs.YtnfpkjnllkkngaaGreatDoor.Fx
end
