import Derived.Test.YtmgckfkdbepkdaaInts9
import Derived.Test.YtmgckfkdbepkdaaReader5
import Derived.Test.YtmgckfkdbepkdaaAwake
import Derived.Deep.AppendSrc
namespace Go.Proofs.Ytmgckfkdbepkdaa
open Go.RowKit Go.Proofs Go.Proofs.PipeM Go.Proofs.PipeA
set_option maxRecDepth 100000

theorem ago_zeros (err : Int) (r : List Bool) : ∀ k, ago err k (List.replicate k false ++ r) = ⟨r, err⟩
  | 0 => by cases r <;> rfl
  | k + 1 => by rw [List.replicate_succ, List.cons_append]; exact ago_zeros err r k
theorem align_zeros (k : Nat) (r : List Bool) (hk : k < 8) (hr : r.length % 8 = 0) : RS.align ⟨List.replicate k false ++ r, 0⟩ = ⟨r, 0⟩ := by
  unfold RS.align
  rw [List.length_append, List.length_replicate, show (k + r.length) % 8 = k by omega]
  exact ago_zeros 0 r k

theorem cells_at {w : World} {a : Addr} {zs : List Nat} (h : BytesAt w (some a) zs) : ∀ j u, (cellsOf zs)[j]? = some u → w.cell? (a.add j) = some u := by
  intro j u hj
  have hlt : j < zs.length := by
    rcases Nat.lt_or_ge j zs.length with h1 | h1
    · exact h1
    · rw [List.getElem?_eq_none (by rw [cellsOf_length]; exact h1)] at hj; cases hj
  obtain ⟨b, off, he, _, hc⟩ := h j hlt
  simp only [Option.some.injEq] at he
  subst he
  rw [cellsOf_get zs j hlt] at hj
  simp only [Option.some.injEq] at hj
  subst hj
  rw [Addr.add_lit]
  exact hc
theorem cells_one (zs : List Nat) : ∀ u ∈ cellsOf zs, u.oneCell' = true := by
  intro u hu
  simp only [cellsOf, List.mem_map] at hu
  obtain ⟨z, _, rfl⟩ := hu
  rfl

/-- append(bytes, more...), the bytes being in memory of their own. -/
theorem run_more {w : World} {base g n cap ty : Nat} {zs ms : List Nat} {mo : Option Addr} {mcap : Nat} (hown : w.ownsRow base 5 1 (.slice (some ⟨g, 0, none⟩) n cap) n (cellsOf zs)) (hbase : base ≤ w.heap.size) (hn : n ≤ 1000000) (hm : ms.length ≤ 1000000) (h : BytesAt w mo ms) (hnil : mo = none → ms = []) :
    ∃ g' cap' w', (Builtin.append_ #[36, 36] ty #[.slice (some ⟨g, 0, none⟩) n cap, .slice mo ms.length mcap]).run Try.prog w = .ok (.slice (some ⟨g', 0, none⟩) (n + ms.length) cap') w' ∧
      w'.ownsRow base 5 1 (.slice (some ⟨g', 0, none⟩) (n + ms.length) cap') (n + ms.length) (cellsOf (zs ++ ms)) ∧ Below base w w' := by
  have hg := own_lt hown
  obtain ⟨i0, hi, hz0, hz1, hz2⟩ := info_parts info_u8
  cases mo with
  | none =>
    obtain rfl := hnil rfl
    have hs : Src Try.prog i0.size 36 (.slice none 0 mcap) 0 [] w := by rw [hz1]; exact Src.ofNil w und_bytes mcap
    have := run_append_room_src w 36 36 ty 5 i0 und_bytes hi g 0 n cap (.slice none 0 mcap) 0 [] hs (by omega) (by simp) (by simp)
    exact ⟨g, cap, w, by simpa [World.setCells] using this, by simpa using hown, Below.refl _ _⟩
  | some a =>
    obtain ⟨v', w', hr, h2, h3, h4⟩ := run_append_own (P := Try.prog) w base 36 ty 5 i0 (.int .u8 0) 1 1 und_bytes hi hz0 hz1 hz2 rfl (by decide) (.slice (some ⟨g, 0, none⟩) n cap) n (cellsOf zs) hown a ms.length mcap (cellsOf ms) (by rw [cellsOf_length, Nat.mul_one]) (cells_at h) (cells_one ms) (by unfold maxLen; omega) (by omega) hbase
    rw [show cellsOf zs ++ cellsOf ms = cellsOf (zs ++ ms) by simp [cellsOf]] at h2
    rcases h2.2 with ⟨rfl, h0⟩ | ⟨g', cap', cur, rfl, r⟩
    · exact absurd (h4.1 rfl).1 (by simp)
    · exact ⟨g', cap', w', hr, h2, (Below.refl base w).grown h3 hbase (by intro x hx; simp [Value.ownBlock] at hx; omega)⟩

def moreIs (l : List Bool) (ms : List Nat) : List Bool := List.replicate ((8 - l.length % 8) % 8) false ++ bitsOf ms
theorem more_bits {zs ms : List Nat} {l : List Bool} (h : Packs zs (pad l)) : bitsOf (zs ++ ms) = l ++ moreIs l ms := by
  rw [bitsOf_append, h.2]
  have hp := pad_length l
  unfold moreIs
  have : pad (pad l) = pad l := by
    show pad l ++ List.replicate ((8 - (pad l).length % 8) % 8) false = _
    rw [show ((8 - (pad l).length % 8) % 8) = 0 by omega]; simp
  rw [this]
  unfold pad
  rw [List.append_assoc]
theorem more_align (l : List Bool) (ms : List Nat) : RS.align ⟨moreIs l ms, 0⟩ = ⟨bitsOf ms, 0⟩ := align_zeros _ _ (by omega) (by rw [bitsOf_length]; omega)
end Go.Proofs.Ytmgckfkdbepkdaa
