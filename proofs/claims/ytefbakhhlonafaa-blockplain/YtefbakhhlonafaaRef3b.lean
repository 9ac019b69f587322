import Derived.Test.YtefbakhhlonafaaReader3
import Derived.Test.YtefbakhhlonafaaBlkM
import Derived.Test.YtefbakhhlonafaaLatM

section
namespace Go.Proofs.Ytefbakhhlonafaa
open Go.RowKit Go.Proofs Go.Proofs.PipeM Go.Proofs.PipeA

/-- The text of bytes. -/
def bstr (zs : List Nat) : ByteArray := strOfNums (zs.map fun z : Nat => (z : Int))

theorem conv_row {w : World} {base : Nat} {v : Value} {zs : List Nat} (h : w.ownsRow base 5 1 v zs.length (cellsOf zs)) :
    (convert 43 9 v).run Try.prog w = .ok (.string (bstr zs)) w := by
  obtain ⟨ao, cap, rfl, _, _, h3⟩ := own_shape h
  by_cases h0 : 0 < zs.length
  · obtain ⟨g, rfl, _, hc⟩ := h3 h0
    refine run_convert_bytes_arg w 43 5 und_bytes und_u8 g 0 zs.length cap (zs.map fun z : Nat => (z : Int)) (by simp) ?_ 9 und_string
    intro i hi
    rw [Nat.zero_add, hc i _ (cellsOf_get zs i hi)]
    simp [List.getD, hi]
  · obtain rfl : zs = [] := List.eq_nil_of_length_eq_zero (by omega)
    rcases h.2 with ⟨h', _⟩ | ⟨g, cap', cur, h', _⟩
    · simp only [Value.slice.injEq, List.length_nil, true_and] at h'
      obtain ⟨rfl, rfl⟩ := h'
      exact run_convert_bytes_nil w 43 5 und_bytes und_u8 0 0 9 und_string
    · simp only [Value.slice.injEq] at h'
      obtain ⟨rfl, _, _⟩ := h'
      exact run_convert_bytes_arg w 43 5 und_bytes und_u8 g 0 0 cap [] rfl (by intro i hi; omega) 9 und_string

theorem wr_fresh (w : World) : WrIs (w.alloc (.cells #[.slice none 0 0, .int .i64 0] 45)) w.heap.size (.slice none 0 0) [] [] := by
  refine ⟨⟨by simp, by simp, by simp, by simp, by simp, World.ownsRow_nil _ _ _ _⟩, packs_nil⟩

/-- What a fresh writer has written lies in new memory. -/
theorem wrote_below {w w' : World} {l : List Bool} (h : Wrote (w.alloc (.cells #[.slice none 0 0, .int .i64 0] 45)) w.heap.size (.slice none 0 0) l w') : Below w.heap.size w w' := by
  obtain ⟨_, _, _, hk, _⟩ := h
  exact ((Below.refl _ _).alloc (Nat.le_refl _) _).trans (hk.below (by simp) (by intro x hx; simp [Value.ownBlock] at hx; omega))

end Go.Proofs.Ytefbakhhlonafaa
end

section
namespace Go.Proofs.Ytefbakhhlonafaa
open Go.RowKit Go.Proofs Go.Proofs.PipeM Go.Proofs.PipeA

theorem WrIs.keeps {w w' : World} {bs : List Nat} {b : Nat} {v : Value} {l : List Bool} {zs : List Nat} (h : WrIs w b v l zs) (hk : Keeps bs w w') (hb : b ∉ bs) (hv : ∀ g, v.ownBlock = some g → g ∉ bs) : WrIs w' b v l zs := by
  refine ⟨⟨Nat.lt_of_lt_of_le h.lt hk.size, (hk.cell (p := ⟨b, 0, none⟩) h.lt hb).trans h.c0, (hk.cell (p := ⟨b, 1, none⟩) h.lt hb).trans h.c1, (hk.frozen (p := ⟨b, 0, none⟩) h.lt hb).trans h.f0, (hk.frozen (p := ⟨b, 1, none⟩) h.lt hb).trans h.f1, ?_⟩, h.packs⟩
  refine ⟨h.own.1, ?_⟩
  rcases h.own.2 with h2 | ⟨g, cap, cur, hv', hg, hh, r⟩
  · exact Or.inl h2
  · have hlt : g < w.heap.size := by
      rcases Nat.lt_or_ge g w.heap.size with h5 | h5
      · exact h5
      · rw [Array.getElem?_eq_none h5] at hh; cases hh
    exact Or.inr ⟨g, cap, cur, hv', hg, by rw [hk.block g hlt (hv g (by rw [hv']; rfl))]; exact hh, r⟩

/-- What was written behind new blocks. -/
theorem Wrote.later {w w1 w2 : World} {b : Nat} {v : Value} {l : List Bool} (hk : Keeps [] w w1) (h2 : Wrote w1 b v l w2) : Wrote w b v l w2 :=
  Wrote.next ⟨hk.os, hk.tape, hk.output, hk.size, fun k hlt _ => hk.block k hlt (by simp)⟩ (Or.inl rfl) h2

theorem keeps_drew (w : World) : Keeps [] w w.drew := ⟨rfl, rfl, rfl, Nat.le_refl _, fun _ _ _ => rfl⟩

theorem keeps_drew_b (w : World) (bs : List Nat) : Keeps bs w w.drew := ⟨rfl, rfl, rfl, Nat.le_refl _, fun _ _ _ => rfl⟩

theorem own_block_lt {w : World} {base n size : Nat} {e : TypeId} {xs : List Value} {v : Value} (h : w.ownsRow base e size v n xs) : ∀ g, v.ownBlock = some g → base ≤ g ∧ g < w.heap.size := by
  intro g hg
  rcases h.2 with ⟨rfl, rfl⟩ | ⟨g', cap, cur, rfl, hb, hh, _⟩
  · cases hg
  · simp [Value.ownBlock] at hg
    subst hg
    refine ⟨hb, ?_⟩
    rcases Nat.lt_or_ge g' w.heap.size with h5 | h5
    · exact h5
    · rw [Array.getElem?_eq_none h5] at hh; cases hh

theorem quiet_left {P : Program} {f : FuncId} {args : Array Value} {w : World} {n : Nat} {v : Value}
    (h : Calls P f args (w.drewN n) fun e w' => e = .returned v ∧ w.drewN n = w') : Calls P f args (w.drewN n) fun e w'' => e = .returned v ∧ ∃ m, w'' = w.drewN m :=
  h.mono fun _ _ ⟨he, hm⟩ => ⟨he, n, hm.symm⟩
end Go.Proofs.Ytefbakhhlonafaa
end

section
namespace Go.Proofs.Ytefbakhhlonafaa
open Go.RowKit Go.Proofs Go.Proofs.PipeM Go.Proofs.PipeA

theorem below_drewN {w W : World} (h : Below w.heap.size w W) (m : Nat) : Below w.heap.size w (W.drewN m) := h.trans ((keeps_drewN W m []).below h.size (by simp))

theorem box_below (w : World) (o : Obj) : Below w.heap.size w (w.alloc o) := (Below.refl _ _).alloc (Nat.le_refl _) _

end Go.Proofs.Ytefbakhhlonafaa
end

section
namespace Go.Proofs.Ytefbakhhlonafaa
open Go.RowKit Go.Proofs Go.Proofs.PipeM Go.Proofs.PipeA

end Go.Proofs.Ytefbakhhlonafaa
end

section
namespace Go.Proofs.Ytefbakhhlonafaa
open Go.RowKit Go.Proofs Go.Proofs.PipeM Go.Proofs.PipeA

end Go.Proofs.Ytefbakhhlonafaa
end
