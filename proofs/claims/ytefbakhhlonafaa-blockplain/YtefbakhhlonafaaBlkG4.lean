import Derived.Test.YtefbakhhlonafaaRef3b
import Derived.Test.YtefbakhhlonafaaBlkG1
import Derived.Test.YtefbakhhlonafaaBlkC9
import Derived.Test.YtefbakhhlonafaaRef3g

section
namespace Go.Proofs.Ytefbakhhlonafaa
open Go.RowKit Go.Proofs Go.Proofs.PipeM Go.Proofs.PipeA

/-- Could an act be? -/
def actOk (k v n : Int) : Bool :=
  if k = 1 then decide (0 ≤ n ∧ n ≤ 48 ∧ 0 ≤ v ∧ v < 2 ^ n.toNat)
  else if k = 2 then decide (1 ≤ n ∧ n ≤ 48 ∧ -(2 ^ (n.toNat - 1)) ≤ v ∧ v < 2 ^ (n.toNat - 1))
  else if k = 3 then decide (0 ≤ n ∧ n ≤ 1000)
  else true

/-- The bits behind an act. -/
def actBits (l : List Bool) (k v n : Int) : List Bool :=
  if actOk k v n = false then l
  else if k = 1 then l ++ low v.toNat n.toNat
  else if k = 2 then l ++ low (v % 2 ^ n.toNat).toNat n.toNat
  else if k = 3 then l ++ (List.replicate n.toNat false ++ [true])
  else if k = 4 then pad l
  else l

end Go.Proofs.Ytefbakhhlonafaa
end

section
namespace Go.Proofs.Ytefbakhhlonafaa
open Go.RowKit Go.Proofs Go.Proofs.PipeM Go.Proofs.PipeA

/-- What the document's act answers. -/
def PutOf (l : List Bool) (k x n : Int) (w : World) (e : Ending) (w' : World) : Prop :=
  e = .returned (.tuple #[.string (str (actBits l k x n)), .bool (actOk k x n)]) ∧ Below w.heap.size w w'

theorem PutOf.no {l : List Bool} {k x n : Int} {w w' : World} (h : actOk k x n = false) (hb : Below w.heap.size w w') : PutOf l k x n w (.returned (.tuple #[.string (str l), .bool false])) w' := by
  have : actBits l k x n = l := by unfold actBits; rw [h]; simp
  exact ⟨by rw [this, h], hb⟩

end Go.Proofs.Ytefbakhhlonafaa
end

section
namespace Go.Proofs.Ytefbakhhlonafaa
open Go.RowKit Go.Proofs Go.Proofs.PipeM Go.Proofs.PipeA Go.Proofs.BlkM
open Go.Proofs.LatM (goodL)
open Go.Proofs.LagM (goodT)
set_option maxRecDepth 100000

end Go.Proofs.Ytefbakhhlonafaa
end

section
namespace Go.Proofs.Ytefbakhhlonafaa
open Go.RowKit Go.Proofs Go.Proofs.PipeM Go.Proofs.PipeA Go.Proofs.BlkM Go.Proofs.BlkB
open Go.Proofs.LatM (goodL)
open Go.Proofs.LagM (goodT)
set_option maxRecDepth 100000

/-- What was written stays written, whatever memory is made. -/
theorem Wrote.still {w W W1 : World} {b : Nat} {v : Value} {l : List Bool} (h : Wrote w b v l W) (hb : Below W.heap.size W W1) : Wrote w b v l W1 := by
  obtain ⟨v1, zs1, h1, hk, ho⟩ := h
  exact ⟨v1, zs1, h1.keeps (keeps_of_below hb []) (by simp) (by simp), hk.trans (keeps_of_below hb _), ho⟩
theorem Wrote.cell {w W : World} {b : Nat} {v : Value} {l : List Bool} (h : Wrote w b v l W) {g off : Nat} (hg : g < w.heap.size) (ho : Off b v g) : W.cell? ⟨g, off, none⟩ = w.cell? ⟨g, off, none⟩ := by
  obtain ⟨v1, zs1, h1, hk, _⟩ := h
  exact hk.cell (p := ⟨g, off, none⟩) hg ho
theorem Wrote.ints {w W : World} {b : Nat} {v : Value} {l : List Bool} (h : Wrote w b v l W) {ao : Option Addr} {m : List Int} (hi : IntsAt w ao m) (ho : ∀ g off, 0 < m.length → ao = some ⟨g, off, none⟩ → Off b v g) : IntsAt W ao m := by
  obtain ⟨v1, zs1, h1, hk, _⟩ := h
  intro j hj
  exact hi.keeps hk (fun g off e => ho g off (by omega) e) j hj
theorem Wrote.off {w W : World} {b : Nat} {v : Value} {l : List Bool} (h : Wrote w b v l W) : ∃ v1 zs1, WrIs W b v1 l zs1 ∧ (∀ g, g < w.heap.size → Off b v g → Off b v1 g) ∧ (∀ (l2 : List Bool) W2, Wrote W b v1 l2 W2 → Wrote w b v l2 W2) := by
  obtain ⟨v1, zs1, h1, hk, ho⟩ := h
  exact ⟨v1, zs1, h1, fun g hg hoff => hoff.next hg ho, fun l2 W2 h2 => Wrote.next hk ho h2⟩

end Go.Proofs.Ytefbakhhlonafaa
end

section
namespace Go.Proofs.Ytefbakhhlonafaa
open Go.RowKit Go.Proofs Go.Proofs.PipeM Go.Proofs.PipeA Go.Proofs.BlkM
open Go.Proofs.LatM (goodL)
set_option maxRecDepth 100000

theorem slide_size {data rice : List Int} {part : Int} (hp : slideOk data part rice = true) : (slideBits data part rice).length ≤ 1000000 := by
  obtain ⟨p, rfl, h3, hk1, hk8, hk0, hl1, hl2, hs1, hs2, hsp, hks, hin⟩ := slide_parts hp
  have := elemBits_len (data.length / rice.length) rice data data.length
  unfold slideBits
  rw [if_pos hp, listBits, ← elem_body _ (by omega) rice data hsp, List.length_append, low_length]
  omega
end Go.Proofs.Ytefbakhhlonafaa
end

section
namespace Go.Proofs.Ytefbakhhlonafaa
open Go.RowKit Go.Proofs Go.Proofs.PipeM Go.Proofs.PipeA Go.Proofs.BlkM Go.Proofs.BlkB
open Go.Proofs.LatM (goodL)
open Go.Proofs.LagM (goodT)
set_option maxRecDepth 100000

end Go.Proofs.Ytefbakhhlonafaa
end

section
namespace Go.Proofs.Ytefbakhhlonafaa
open Go.RowKit Go.Proofs Go.Proofs.PipeM Go.Proofs.PipeA Go.Proofs.BlkM
set_option maxRecDepth 100000

theorem rBits10 (b : Blk) (ia ra da : Option Addr) (ic rc dc : Nat) (n : Int) (m : Nat) (w : World) (h : codeB b n m = 0) (hI : BlkIn w b ia ra da ic rc dc) :
    Calls Try.prog 15 #[blkV b ia ra da ic rc dc, .int .i64 m] w fun e w' => e = .returned (.int .i64 ((bitsB b m).length : Nat)) ∧ Below w.heap.size w w' := by
  obtain ⟨k, m', rfl, hm, hk1, hk, hm1, hm2, hf, _, _⟩ := right_of h
  obtain rfl : m = m' := by omega
  have hs := shape_of hf
  by_cases h2 : b.kind = 2
  · cases hs with
    | zero => exact absurd h2 (by decide)
    | const v => exact absurd h2 (by simp)
    | raw data h => exact absurd h2 (by simp)
    | normal s a g part index rice data h hs ha hg hz hi ht hp => exact rBits_normal s a g part index rice data ia ra da ic rc dc m w ha (by have := LatM.good_len hi; omega) hp hI
  · exact rBits_few b ia ra da ic rc dc k m w hm2 hk hs h2

set_option maxHeartbeats 3200000 in
theorem rSame10 (b : Blk) (ia ra da ja sa ea : Option Addr) (ic rc dc jc sc ec : Nat) (w : World) (hI : BlkIn w b ia ra da ic rc dc) (hJ : BlkIn w b ja sa ea jc sc ec) :
    Calls Try.prog 12 #[blkV b ia ra da ic rc dc, blkV b ja sa ea jc sc ec] w fun e w' => e = .returned (.bool true) ∧ Below w.heap.size w w' := by
  have HB := fun o1 o2 => Lib.hid (below2 w o1 o2)
  obtain ⟨kind, value, shift, index, lag, gain, part, rice, data⟩ := b
  have HS1 : Hid (∀ W, Below w.heap.size w W → Calls Try.prog 9 #[.slice ia index.length ic, .slice ja index.length jc] W fun e w' => e = .returned (.bool true) ∧ ∃ k, w' = W.drewN k) := fun W hW => by
    have := refSame ia ja ic jc index index W (by have := hI.il; simp only at this; omega) (hI.i.below hW) (hJ.i.below hW)
    rwa [decide_eq_true rfl] at this
  have HS2 : Hid (∀ W, Below w.heap.size w W → Calls Try.prog 9 #[.slice ra rice.length rc, .slice sa rice.length sc] W fun e w' => e = .returned (.bool true) ∧ ∃ k, w' = W.drewN k) := fun W hW => by
    have := refSame ra sa rc sc rice rice W (by have := hI.rl; simp only at this; omega) (hI.r.below hW) (hJ.r.below hW)
    rwa [decide_eq_true rfl] at this
  have HS3 : Hid (∀ W, Below w.heap.size w W → Calls Try.prog 9 #[.slice da data.length dc, .slice ea data.length ec] W fun e w' => e = .returned (.bool true) ∧ ∃ k, w' = W.drewN k) := fun W hW => by
    have := refSame da ea dc ec data data W (by have := hI.dl; simp only at this; omega) (hI.d.below hW) (hJ.d.below hW)
    rwa [decide_eq_true rfl] at this
  clear hI hJ
  unfold blkV
  dsimp only
  generalize index.length = il at *
  generalize rice.length = rl at *
  generalize data.length = dl at *
  go_enter Try.func12, Try.ntmps12
  go_wp2_with fail
  refine (HS1.out _ (HB _ _).out).mono ?_
  rintro e w1 ⟨rfl, m1, rfl⟩
  go_wp2_with fail
  refine (HS2.out _ (below_drewN (HB _ _).out _)).mono ?_
  rintro e w2 ⟨rfl, m2, rfl⟩
  go_wp2_with fail
  refine (HS3.out _ (below_drewN (HB _ _).out _)).mono ?_
  rintro e w3 ⟨rfl, m3, rfl⟩
  go_wp2
  go_ret
  exact ⟨rfl, below_drewN (HB _ _).out _⟩
end Go.Proofs.Ytefbakhhlonafaa
end
