import Derived.Test.YtbbcemgcanclnaaAwake
import Derived.Test.YtbbcemgcanclnaaReader2
namespace Go.Proofs.Ytbbcemgcanclnaa
open Go.RowKit Go.Proofs Go.Proofs.PipeM Go.Proofs.PipeA

theorem WrIs.keeps {w w' : World} {bs : List Nat} {b : Nat} {v : Value} {l : List Bool} {zs : List Nat} (h : WrIs w b v l zs) (hk : Keeps bs w w') (hb : b ∉ bs) (hv : ∀ g, v.ownBlock = some g → g ∉ bs) : WrIs w' b v l zs := by
  refine ⟨⟨Nat.lt_of_lt_of_le h.lt hk.size, (hk.cell (p := ⟨b, 0, none⟩) h.lt hb).trans h.c0, (hk.cell (p := ⟨b, 1, none⟩) h.lt hb).trans h.c1, (hk.frozen (p := ⟨b, 0, none⟩) h.lt hb).trans h.f0, (hk.frozen (p := ⟨b, 1, none⟩) h.lt hb).trans h.f1, ?_⟩, h.packs⟩
  refine ⟨h.own.1, ?_⟩
  rcases h.own.2 with h2 | ⟨g, cap, cur, hv', hg, hh, r⟩
  · exact Or.inl h2
  · have hlt : g < w.heap.size := by
      rcases Nat.lt_or_ge g w.heap.size with h5 | h5
      · exact h5
      · rw [Array.getElem?_eq_none h5] at hh; cases hh
    exact Or.inr ⟨g, cap, cur, hv', hg, by rw [hk.block g hlt (hv g (by rw [hv']; rfl))]; exact hh, r⟩

/-- What was written behind new blocks. -/
theorem Wrote.later {w w1 w2 : World} {b : Nat} {v : Value} {l : List Bool} (hk : Keeps [] w w1) (h2 : Wrote w1 b v l w2) : Wrote w b v l w2 :=
  Wrote.next ⟨hk.os, hk.tape, hk.output, hk.size, fun k hlt _ => hk.block k hlt (by simp)⟩ (Or.inl rfl) h2

theorem keeps_drew (w : World) : Keeps [] w w.drew := ⟨rfl, rfl, rfl, Nat.le_refl _, fun _ _ _ => rfl⟩

theorem ownsRow_below {w w' : World} {base : Nat} {e : TypeId} {v : Value} {n : Nat} {xs : List Value} (h : w.ownsRow base e 1 v n xs) (hb : Below w.heap.size w w') : w'.ownsRow base e 1 v n xs := by
  refine ⟨h.1, ?_⟩
  rcases h.2 with h2 | ⟨g, cap, cur, hv', hg, hh, r⟩
  · exact Or.inl h2
  · have hlt : g < w.heap.size := by
      rcases Nat.lt_or_ge g w.heap.size with h5 | h5
      · exact h5
      · rw [Array.getElem?_eq_none h5] at hh; cases hh
    exact Or.inr ⟨g, cap, cur, hv', hg, by rw [hb.block g hlt]; exact hh, r⟩

theorem keeps_drew_b (w : World) (bs : List Nat) : Keeps bs w w.drew := ⟨rfl, rfl, rfl, Nat.le_refl _, fun _ _ _ => rfl⟩

theorem own_slice {w : World} {base n size : Nat} {e : TypeId} {xs : List Value} {v : Value} (h : w.ownsRow base e size v n xs) : ∃ ao cap, v = .slice ao n cap := by
  rcases h.2 with ⟨rfl, rfl⟩ | ⟨g, cap, cur, rfl, _⟩
  · exact ⟨none, 0, rfl⟩
  · exact ⟨_, cap, rfl⟩

theorem own_block_lt {w : World} {base n size : Nat} {e : TypeId} {xs : List Value} {v : Value} (h : w.ownsRow base e size v n xs) : ∀ g, v.ownBlock = some g → base ≤ g ∧ g < w.heap.size := by
  intro g hg
  rcases h.2 with ⟨rfl, rfl⟩ | ⟨g', cap, cur, rfl, hb, hh, _⟩
  · cases hg
  · simp [Value.ownBlock] at hg
    subst hg
    refine ⟨hb, ?_⟩
    rcases Nat.lt_or_ge g' w.heap.size with h5 | h5
    · exact h5
    · rw [Array.getElem?_eq_none h5] at hh; cases hh

theorem ownsRow_keeps {w w' : World} {base n size : Nat} {e : TypeId} {xs : List Value} {v : Value} {bs : List Nat} (h : w.ownsRow base e size v n xs) (hk : Keeps bs w w') (hn : ∀ g, v.ownBlock = some g → g ∉ bs) : w'.ownsRow base e size v n xs := by
  refine ⟨h.1, ?_⟩
  have hlt := own_block_lt h
  rcases h.2 with h2 | ⟨g, cap, cur, hv', hg, hh, r⟩
  · exact Or.inl h2
  · exact Or.inr ⟨g, cap, cur, hv', hg, by rw [hk.block g (hlt g (by rw [hv']; rfl)).2 (hn g (by rw [hv']; rfl))]; exact hh, r⟩

theorem bytes_own {w : World} {base g cap : Nat} {zs : List Nat} (h : w.ownsRow base 5 1 (.slice (some ⟨g, 0, none⟩) zs.length cap) zs.length (cellsOf zs)) : BytesAt w (some ⟨g, 0, none⟩) zs := by
  intro j hj
  have hlt := own_lt h
  refine ⟨g, 0, rfl, hlt.2.1, ?_⟩
  rw [Nat.zero_add, h.cellAt j (by omega), cellsOf_get zs j hj]

theorem cut_packs {zs : List Nat} {l : List Bool} (h : Packs zs l) : (str (bitsOf zs)).extract 0 l.length = str l := by
  rw [str_extract, h.2, pad]
  simp

theorem quiet_left {P : Program} {f : FuncId} {args : Array Value} {w : World} {n : Nat} {v : Value}
    (h : Calls P f args (w.drewN n) fun e w' => e = .returned v ∧ w.drewN n = w') : Calls P f args (w.drewN n) fun e w'' => e = .returned v ∧ ∃ m, w'' = w.drewN m :=
  h.mono fun _ _ ⟨he, hm⟩ => ⟨he, n, hm.symm⟩
end Go.Proofs.Ytbbcemgcanclnaa
