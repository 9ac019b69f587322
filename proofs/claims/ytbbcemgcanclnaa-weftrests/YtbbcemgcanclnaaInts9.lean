import Derived.Test.YtbbcemgcanclnaaRefReader2
import Derived.Test.YtbbcemgcanclnaaCommon
import Derived.WalkKit
import Derived.WalkSpells
import Derived.WalkLawsBesides
import Derived.Lib.Hide
import Derived.BigQuiet
import Derived.Deep.QuietTactic
import Derived.Deep.AppendSrc
import Derived.Laws.OwnMore
import Derived.Laws.AppendOwn
import Derived.Laws.MakeOwn
import Derived.Deep.RegionWith
import Derived.Deep.LoopGhost
namespace Go.Proofs.Ytbbcemgcanclnaa
open Go.RowKit Go.Proofs Go.Proofs.PipeM Go.Proofs.PipeA
set_option maxRecDepth 100000

theorem below_drewN {w W : World} (h : Below w.heap.size w W) (m : Nat) : Below w.heap.size w (W.drewN m) := h.trans ((keeps_drewN W m []).below h.size (by simp))
theorem below_drew {w W : World} (h : Below w.heap.size w W) : Below w.heap.size w W.drew := h.trans ((keeps_drew_b W []).below h.size (by simp))
theorem box_below (w : World) (o : Obj) : Below w.heap.size w (w.alloc o) := (Below.refl _ _).alloc (Nat.le_refl _) _
theorem keeps_setCell (w : World) (b off : Nat) (v : Value) : Keeps [b] w (w.setCell ⟨b, off, none⟩ v) :=
  ⟨rfl, rfl, rfl, by simp [World.setCell], fun k _ hn => Below.heap_setCell _ _ _ _ (fun e => hn (by simp [e]))⟩
theorem cell_of_heap {W : World} {b : Nat} {cs : Array Value} {t : TypeId} (h : W.heap[b]? = some (.cells cs t)) (j : Nat) : W.cell? ⟨b, j, none⟩ = cs[j]? := by simp [World.cell?, h]
theorem frozen_of_heap {W : World} {b : Nat} {cs : Array Value} {t : TypeId} (h : W.heap[b]? = some (.cells cs t)) (j : Nat) : W.frozen? ⟨b, j, none⟩ = false := by simp [World.frozen?, h]
/-- Numbers that lie in memory. -/
def IntsAt (w : World) (ao : Option Addr) (l : List Int) : Prop :=
  ∀ j (h : j < l.length), ∃ b off, ao = some ⟨b, off, none⟩ ∧ b < w.heap.size ∧ w.cell? ⟨b, off + j, none⟩ = some (.int .i64 l[j])
theorem IntsAt.keeps {w w' : World} {bs : List Nat} {ao : Option Addr} {l : List Int} (h : IntsAt w ao l) (hk : Keeps bs w w') (hn : ∀ g off, ao = some ⟨g, off, none⟩ → g ∉ bs) : IntsAt w' ao l := by
  intro j hj
  obtain ⟨g, off, h1, h2, h3⟩ := h j hj
  exact ⟨g, off, h1, Nat.lt_of_lt_of_le h2 hk.size, by rw [hk.cell (p := ⟨g, off + j, none⟩) h2 (hn g off h1), h3]⟩
theorem IntsAt.below {w w' : World} {ao : Option Addr} {l : List Int} (h : IntsAt w ao l) (hb : Below w.heap.size w w') : IntsAt w' ao l := h.keeps (keeps_of_below hb []) (by simp)
theorem IntsAt.drewN {w : World} {ao : Option Addr} {l : List Int} (h : IntsAt w ao l) (n : Nat) : IntsAt (w.drewN n) ao l := h
theorem IntsAt.nil {w : World} {l : List Int} (h : IntsAt w none l) : l = [] := by
  cases l with
  | nil => rfl
  | cons x r => obtain ⟨_, _, e, _⟩ := h 0 (by simp); cases e
theorem own_ltI {w : World} {base n cap g : Nat} {xs : List Value} {e : TypeId} (h : w.ownsRow base e 1 (.slice (some ⟨g, 0, none⟩) n cap) n xs) : base ≤ g ∧ g < w.heap.size ∧ n ≤ cap ∧ cap ≤ maxLen := by
  rcases h.2 with ⟨h', _⟩ | ⟨g', cap', cur, h', hb, hg, h1, h2, _⟩
  · simp at h'
  · simp only [Value.slice.injEq, Option.some.injEq, Addr.mk.injEq, and_true, true_and] at h'
    obtain ⟨rfl, rfl⟩ := h'
    refine ⟨hb, ?_, h1, h2⟩
    rcases Nat.lt_or_ge g w.heap.size with h3 | h3
    · exact h3
    · rw [Array.getElem?_eq_none h3] at hg; cases hg
theorem info_int : (Try.prog.info? 3).map (fun i => (i.zero, i.size, i.bytes)) = some (some (.int .i64 0), 1, 8) := by kernel_rfl
def intsOf (l : List Int) : List Value := l.map fun n => Value.int .i64 n
theorem ints_own {w : World} {base : Nat} {ao : Option Addr} {cap : Nat} {l : List Int} (h : w.ownsRow base 3 1 (.slice ao l.length cap) l.length (intsOf l)) : IntsAt w ao l := by
  rcases h.2 with ⟨h1, h2⟩ | ⟨g, cap', cur, h1, _, hh, _⟩
  · have : l = [] := List.eq_nil_of_length_eq_zero h2
    subst this
    intro j hj; simp at hj
  · simp only [Value.slice.injEq] at h1
    obtain ⟨rfl, _, rfl⟩ := h1
    intro j hj
    refine ⟨g, 0, rfl, (Array.getElem?_eq_some_iff.1 hh).1, ?_⟩
    rw [Nat.zero_add, h.cellAt j (by simpa [intsOf] using hj)]
    simp [intsOf]
theorem icells_at {w : World} {a : Addr} {l : List Int} (h : IntsAt w (some a) l) : ∀ j u, (intsOf l)[j]? = some u → w.cell? (a.add j) = some u := by
  intro j u hj
  have hlt : j < l.length := by
    rcases Nat.lt_or_ge j l.length with h1 | h1
    · exact h1
    · rw [List.getElem?_eq_none (by simpa [intsOf] using h1)] at hj; cases hj
  obtain ⟨b, off, he, _, hc⟩ := h j hlt
  simp only [Option.some.injEq] at he
  subst he
  simp [intsOf, hlt] at hj
  subst hj
  rw [Addr.add_lit]
  exact hc
theorem icells_one (l : List Int) : ∀ u ∈ intsOf l, u.oneCell' = true := by
  intro u hu
  simp only [intsOf, List.mem_map] at hu
  obtain ⟨z, _, rfl⟩ := hu
  rfl
/-- append([]int{}, l...): a copy in memory of its own. -/
theorem run_copyI {w : World} {g : Nat} {ao : Option Addr} {cap ty : Nat} {l : List Int} (hg : w.heap[g]? = some (.cells #[] 3)) (hl : l.length ≤ 100000) (h : IntsAt w ao l) :
    ∃ g' cap' w', (Builtin.append_ #[25, 25] ty #[.slice (some ⟨g, 0, none⟩) 0 0, .slice ao l.length cap]).run Try.prog w = .ok (.slice (some ⟨g', 0, none⟩) l.length cap') w' ∧
      IntsAt w' (some ⟨g', 0, none⟩) l ∧ g ≤ g' ∧ g' < w'.heap.size ∧ l.length ≤ cap' ∧ Below g w w' := by
  have hlt : g < w.heap.size := (Array.getElem?_eq_some_iff.1 hg).1
  have hown : w.ownsRow g 3 1 (.slice (some ⟨g, 0, none⟩) 0 0) 0 [] := ⟨rfl, .inr ⟨g, 0, #[], rfl, Nat.le_refl _, hg, Nat.le_refl _, by unfold maxLen; omega, rfl, rfl⟩⟩
  obtain ⟨i0, hi, hz0, hz1, hz2⟩ := info_parts info_int
  cases ao with
  | none =>
    obtain rfl := h.nil
    have hs : Src Try.prog i0.size 25 (.slice none 0 cap) 0 [] w := by rw [hz1]; exact Src.ofNil w Try.underlying25 cap
    have := run_append_room_src w 25 25 ty 3 i0 Try.underlying25 hi g 0 0 0 (.slice none 0 cap) 0 [] hs (Nat.le_refl _) (by simp) (by simp)
    exact ⟨g, 0, w, by simpa [World.setCells] using this, fun j hj => by simp at hj, Nat.le_refl _, hlt, Nat.le_refl _, Below.refl _ _⟩
  | some a =>
    obtain ⟨v', w', hr, h2, h3, h4⟩ := run_append_own (P := Try.prog) w g 25 ty 3 i0 (.int .i64 0) 1 8 Try.underlying25 hi hz0 hz1 hz2 rfl (by decide) (.slice (some ⟨g, 0, none⟩) 0 0) 0 [] hown a l.length cap (intsOf l) (by simp [intsOf]) (icells_at h) (icells_one l) (by unfold maxLen; omega) (by omega) (by omega)
    rw [Nat.zero_add, List.nil_append] at h2
    rcases h2.2 with ⟨rfl, h0⟩ | ⟨g', cap', cur, rfl, r⟩
    · exact absurd (h4.1 rfl).1 (by simp)
    · have ho := own_ltI h2
      exact ⟨g', cap', w', hr, ints_own h2, ho.1, ho.2.1, ho.2.2.1, (Below.refl g w).grown h3 (by omega) (by intro x hx; simp [Value.ownBlock] at hx; omega)⟩
/-- append, where it is known what it makes. -/
theorem wpList_append_run {P : Program} {w : World} {ops : Array Oper} {rest : List Oper} {o : Oper} {a : Act} {Q : Exit → Act → World → Prop} (hgd : o.guard = none) (s x : Operand) (t : TypeId)
    (ho : o.op = .call { callee := .builtin .append, args := #[s, x], argTypes := #[t, t] }) (v y v' : Value) (w' : World) (hs : a.eval s = v) (hx : a.eval x = y)
    (hr : (Builtin.append_ #[t, t] o.type #[v, y]).run P w = .ok v' w') (h : wpList P ops Q rest (a.put o.dst v') w') : wpList P ops Q (o :: rest) a w := by
  refine wpList_plain hgd fun _ hK => ?_
  unfold Oper.wp execOp
  simp only [ho, resolve, invoke, builtin, Sem.run_bind, Sem.run_pure, Result.andThen_ok, List.map_toArray, List.map_cons, List.map_nil, hs, hx, hr]
  exact hK _ _ h
theorem makeInts (m : Nat) (hm : m ≤ 100000) : ∃ cs : Array Value, (∀ j, j < m → cs[j]? = some (.int .i64 0)) ∧ ∀ W, (Instr.makeSlice 25 (.int .i64 (m : Int)) (.int .i64 (m : Int))).run Try.prog W = .ok (.slice (some ⟨W.heap.size, 0, none⟩) m m) (W.alloc (.cells cs 3)) := by
  obtain ⟨i0, hi, hz0, hz1, hz2⟩ := info_parts info_int
  refine ⟨madeCells (Value.cells (.int .i64 0)) (m * i0.size), ?_, fun W => ?_⟩
  · intro j hj
    rw [hz1]
    simp [madeCells, Value.cells, hj]
    rw [Nat.mod_one]; rfl
  · have := run_make (P := Try.prog) W 25 3 i0 (.int .i64 0) Try.underlying25 hi hz0 .i64 .i64 m m (by omega) (Int.le_refl _) (by rw [hz2]; omega) (by omega)
    simpa using this
theorem quiet_drew {P : Program} {f : FuncId} {args : Array Value} {w : World} {n : Nat} {v : Value}
    (h : Calls P f args (w.drewN n) fun e w' => e = .returned v ∧ ∃ k, w' = (w.drewN n).drewN k) : Calls P f args (w.drewN n) fun e w'' => e = .returned v ∧ ∃ m, w'' = w.drewN m :=
  h.mono fun _ _ ⟨he, k, hm⟩ => ⟨he, n + k, by rw [hm, World.drewN_drewN]⟩
set_option maxHeartbeats 800000 in
theorem refSame (ao bo : Option Addr) (cap cap2 : Nat) (l m : List Int) (w : World) (hl : l.length ≤ 1000000000) (hi : IntsAt w ao l) (hj : IntsAt w bo m) :
    Calls Try.prog 11 #[.slice ao l.length cap, .slice bo m.length cap2] w fun e w' => e = .returned (.bool (decide (l = m))) ∧ ∃ k, w' = w.drewN k := by
  by_cases hlm : l.length = m.length
  · have HI := Lib.hid hi
    have HJ := Lib.hid hj
    have HLM := Lib.hid hlm
    have t1 : ((l.length : Int) != (m.length : Int)) = false := by rw [bne_eq_false_iff_eq]; omega
    obtain ⟨lm, hlm2⟩ : ∃ lm, lm = m.length := ⟨_, rfl⟩
    rw [← hlm2] at t1 ⊢
    have HLM2 := Lib.hid hlm2
    clear hi hj hlm hlm2
    go_enter Try.func11, Try.ntmps11
    go_wp2
    go_loopg [5, 13] l.length (fun gk q i wr => ∃ c d : Nat, c ≤ l.length ∧ gk + c = l.length ∧ i = .int .i64 c ∧ Hid (l.take c = m.take c) ∧ Hid (wr = w.drewN d))
    case atStart => exact ⟨0, 0, Nat.zero_le _, by omega, rfl, by show _ = _; simp, rfl⟩
    case round =>
      obtain ⟨c, d, hc, hgk, rfl, HT, HW⟩ := hrel
      have HGK := Lib.hid hgk
      clear hgk
      by_cases hlt : c < l.length
      · have hltm : c < m.length := by have := HLM.out; omega
        have hltm2 : c < lm := by have := HLM2.out; omega
        obtain ⟨g, off, rfl, hg, hcell⟩ := HI.out c hlt
        obtain ⟨g2, off2, rfl, hg2, hcell2⟩ := HJ.out c hltm
        have HNX : Hid (l[c] = m[c] → l.take (c + 1) = m.take (c + 1)) := by
          intro h
          rw [List.take_succ_eq_append_getElem hlt, List.take_succ_eq_append_getElem hltm, HT.out, h]
        have HNO : Hid (l[c] ≠ m[c] → decide (l = m) = false) := by
          intro h
          exact decide_eq_false (fun he => h (by subst he; rfl))
        obtain ⟨x, hx⟩ : ∃ x, x = l[c] := ⟨_, rfl⟩
        obtain ⟨y, hy⟩ : ∃ y, y = m[c] := ⟨_, rfl⟩
        rw [← hx] at hcell HNX HNO
        rw [← hy] at hcell2 HNX HNO
        have k1 : wr.cell? ⟨g, off + c, none⟩ = some (.int .i64 x) := by rw [HW.out]; exact hcell
        have k2 : wr.cell? ⟨g2, off2 + c, none⟩ = some (.int .i64 y) := by rw [HW.out]; exact hcell2
        clear hx hy hltm hg hg2 hcell hcell2
        by_cases he : x = y
        · have t2 : (x != y) = false := by simp [he]
          have HN2 := Lib.hid (HNX.out he)
          clear he
          go_wp2
          go_quiet (fail)
          go_wp2
          go_roundg (gk - 1)
          case rel => exact ⟨c + 1, _, by omega, by have := HGK.out; omega, by go_num, HN2, by show _ = _; rw [HW.out]; exact World.drewN_drewN _ _ _⟩
          case measure => have := HGK.out; omega
        · have t2 : (x != y) = true := by rw [bne_iff_ne]; exact he
          have HN2 := Lib.hid (HNO.out he)
          clear he
          go_wp2
          go_quiet (fail)
          go_wp2
          go_ret
          exact ⟨by rw [HN2.out]; rfl, _, by rw [HW.out]; exact World.drewN_drewN _ _ _⟩
      · obtain rfl : c = l.length := by omega
        have HA : Hid (decide (l = m) = true) := by
          apply decide_eq_true
          have := HT.out
          rw [List.take_length, HLM.out, List.take_length] at this
          exact this
        go_wp2
        go_ret
        exact ⟨by rw [HA.out]; rfl, _, HW.out⟩
  · have t1 : ((l.length : Int) != (m.length : Int)) = true := by rw [bne_iff_ne]; omega
    have HA : Hid (decide (l = m) = false) := decide_eq_false (fun he => hlm (by rw [he]))
    clear hlm
    go_enter Try.func11, Try.ntmps11
    go_wp2
    go_ret
    exact ⟨by rw [HA.out]; rfl, 0, rfl⟩
end Go.Proofs.Ytbbcemgcanclnaa
