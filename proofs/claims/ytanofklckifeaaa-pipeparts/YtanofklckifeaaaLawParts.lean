import Derived.Test.YtanofklckifeaaaLawBack1
namespace Go.Proofs.Ytanofklckifeaaa
open Go.RowKit Go.Proofs Go.Proofs.PipeM Go.Proofs.PipeA

theorem actBits_app (a b : List Bool) (k x n : Int) (hk : k ≠ 4) : actBits (a ++ b) k x n = a ++ actBits b k x n := by
  unfold actBits
  split
  · rfl
  · split
    · simp
    · split
      · simp
      · split
        · simp
        · rfl

/-- Two writers that share no block. -/
def Sep (b1 : Nat) (v1 : Value) (b2 : Nat) (v2 : Value) : Prop := b1 ≠ b2 ∧ v1.ownBlock ≠ some b2 ∧ v2.ownBlock ≠ some b1 ∧ ∀ g, v1.ownBlock = some g → v2.ownBlock ≠ some g

theorem Sep.symm {b1 b2 : Nat} {v1 v2 : Value} (h : Sep b1 v1 b2 v2) : Sep b2 v2 b1 v1 :=
  ⟨Ne.symm h.1, h.2.2.1, h.2.1, fun g h2 h1 => h.2.2.2 g h1 h2⟩

/-- Another writer stays, while one writes. -/
theorem Sep.keep {w w' : World} {b1 b2 : Nat} {v1 v1' v2 : Value} {l2 : List Bool} {zs2 : List Nat} (hs : Sep b1 v1 b2 v2) (h2 : WrIs w b2 v2 l2 zs2) (hk : Keeps (b1 :: v1.ownBlock.toList) w w')
    (ho : v1'.ownBlock = v1.ownBlock ∨ ∃ g, v1'.ownBlock = some g ∧ w.heap.size ≤ g) : WrIs w' b2 v2 l2 zs2 ∧ Sep b1 v1' b2 v2 := by
  have hlt := own_block_lt h2.own
  refine ⟨h2.keeps hk ?_ ?_, hs.1, ?_, hs.2.2.1, ?_⟩
  · intro hc
    rw [List.mem_cons] at hc
    rcases hc with hc | hc
    · exact hs.1 hc.symm
    · simp at hc; exact hs.2.1 hc
  · intro g hg hc
    rw [List.mem_cons] at hc
    rcases hc with hc | hc
    · subst hc; exact hs.2.2.1 hg
    · simp at hc; exact hs.2.2.2 g hc hg
  · intro hc
    rcases ho with ho | ⟨g, ho, hg⟩
    · exact hs.2.1 (ho.symm.trans hc)
    · rw [ho] at hc; simp at hc; have := h2.lt; omega
  · intro g hg hc
    rcases ho with ho | ⟨g', ho, hg'⟩
    · exact hs.2.2.2 g (ho.symm.trans hg) hc
    · rw [ho] at hg; simp at hg; have := (hlt g hc).2; omega

/-- Three writers, and an act beside them. -/
structure Three (w : World) (X Y Z : Nat) (wr : World) (lx ly lz : List Bool) (vx vy vz : Value) (zx zy zz : List Nat) : Prop where
  x : WrIs wr X vx lx zx
  y : WrIs wr Y vy ly zy
  z : WrIs wr Z vz lz zz
  xy : Sep X vx Y vy
  xz : Sep X vx Z vz
  yz : Sep Y vy Z vz
  bel : Below w.heap.size w wr
  bx : w.heap.size ≤ X
  ybel : w.heap.size ≤ Y
  bz : w.heap.size ≤ Z

def ThreeIs (w : World) (X Y Z : Nat) (wr : World) (lx ly lz : List Bool) : Prop := ∃ vx vy vz zx zy zz, Three w X Y Z wr lx ly lz vx vy vz zx zy zz

theorem ThreeIs.keeps {w wr wr' : World} {X Y Z : Nat} {lx ly lz : List Bool} (h : ThreeIs w X Y Z wr lx ly lz) (hk : Keeps [] wr wr') : ThreeIs w X Y Z wr' lx ly lz := by
  obtain ⟨vx, vy, vz, zx, zy, zz, h⟩ := h
  exact ⟨vx, vy, vz, zx, zy, zz, h.x.keeps hk (by simp) (by simp), h.y.keeps hk (by simp) (by simp), h.z.keeps hk (by simp) (by simp), h.xy, h.xz, h.yz, h.bel.trans (hk.below h.bel.size (by simp)), h.bx, h.ybel, h.bz⟩

/-- The act's block, which none of them writes. -/
def ActBeside (A : Nat) (k x n : Int) (X Y Z : Nat) (wr : World) (vx vy vz : Value) : Prop :=
  A < wr.heap.size ∧ wr.cell? ⟨A, 0, none⟩ = some (.int .i64 k) ∧ wr.cell? ⟨A, 1, none⟩ = some (.int .i64 x) ∧ wr.cell? ⟨A, 2, none⟩ = some (.int .i64 n) ∧
    A ≠ X ∧ A ≠ Y ∧ A ≠ Z ∧ vx.ownBlock ≠ some A ∧ vy.ownBlock ≠ some A ∧ vz.ownBlock ≠ some A

def ThreeAct (w : World) (X Y Z : Nat) (A : Nat) (k x n : Int) (wr : World) (lx ly lz : List Bool) : Prop :=
  ∃ vx vy vz zx zy zz, Three w X Y Z wr lx ly lz vx vy vz zx zy zz ∧ ActBeside A k x n X Y Z wr vx vy vz

theorem ThreeAct.of {w wr : World} {X Y Z : Nat} {lx ly lz : List Bool} (k x n : Int) (h : ThreeIs w X Y Z wr lx ly lz) :
    ThreeAct w X Y Z wr.heap.size k x n (wr.alloc (.cells #[.int .i64 k, .int .i64 x, .int .i64 n] 28)) lx ly lz := by
  obtain ⟨vx, vy, vz, zx, zy, zz, h⟩ := h
  have hk : Keeps [] wr (wr.alloc (.cells #[.int .i64 k, .int .i64 x, .int .i64 n] 28)) := keeps_of_below ((Below.refl _ _).alloc (Nat.le_refl _) _) _
  refine ⟨vx, vy, vz, zx, zy, zz, ⟨h.x.keeps hk (by simp) (by simp), h.y.keeps hk (by simp) (by simp), h.z.keeps hk (by simp) (by simp), h.xy, h.xz, h.yz, h.bel.trans (hk.below h.bel.size (by simp)), h.bx, h.ybel, h.bz⟩, by simp, by simp, by simp, by simp, ?_, ?_, ?_, ?_, ?_, ?_⟩
  · have := h.x.lt; omega
  · have := h.y.lt; omega
  · have := h.z.lt; omega
  · intro hc; have := (own_block_lt h.x.own _ hc).2; omega
  · intro hc; have := (own_block_lt h.y.own _ hc).2; omega
  · intro hc; have := (own_block_lt h.z.own _ hc).2; omega

theorem ThreeAct.is {w wr : World} {X Y Z A : Nat} {k x n : Int} {lx ly lz : List Bool} (h : ThreeAct w X Y Z A k x n wr lx ly lz) : ThreeIs w X Y Z wr lx ly lz := by
  obtain ⟨vx, vy, vz, zx, zy, zz, h, _⟩ := h
  exact ⟨vx, vy, vz, zx, zy, zz, h⟩

theorem ThreeAct.cells {w wr : World} {X Y Z A : Nat} {k x n : Int} {lx ly lz : List Bool} (h : ThreeAct w X Y Z A k x n wr lx ly lz) :
    wr.cell? ⟨A, 0, none⟩ = some (.int .i64 k) ∧ wr.cell? ⟨A, 1, none⟩ = some (.int .i64 x) ∧ wr.cell? ⟨A, 2, none⟩ = some (.int .i64 n) := by
  obtain ⟨vx, vy, vz, zx, zy, zz, _, h⟩ := h
  exact ⟨h.2.1, h.2.2.1, h.2.2.2.1⟩

theorem beside_keep {A : Nat} {k x n : Int} {X Y Z : Nat} {w w' : World} {vx vy vz : Value} {b : Nat} {v : Value} (h : ActBeside A k x n X Y Z w vx vy vz) (hb : A ≠ b) (hv : v.ownBlock ≠ some A)
    (hk : Keeps (b :: v.ownBlock.toList) w w') : A < w'.heap.size ∧ w'.cell? ⟨A, 0, none⟩ = some (.int .i64 k) ∧ w'.cell? ⟨A, 1, none⟩ = some (.int .i64 x) ∧ w'.cell? ⟨A, 2, none⟩ = some (.int .i64 n) := by
  have hn : A ∉ b :: v.ownBlock.toList := by
    intro hc
    rw [List.mem_cons] at hc
    rcases hc with hc | hc
    · exact hb hc
    · simp at hc; exact hv hc
  have hs := hk.size
  exact ⟨by have := h.1; omega, (hk.cell (p := ⟨A, 0, none⟩) h.1 hn).trans h.2.1, (hk.cell (p := ⟨A, 1, none⟩) h.1 hn).trans h.2.2.1, (hk.cell (p := ⟨A, 2, none⟩) h.1 hn).trans h.2.2.2.1⟩

theorem own_ne {A : Nat} {w : World} {v v' : Value} (hA : A < w.heap.size) (hv : v.ownBlock ≠ some A) (ho : v'.ownBlock = v.ownBlock ∨ ∃ g, v'.ownBlock = some g ∧ w.heap.size ≤ g) : v'.ownBlock ≠ some A := by
  rcases ho with ho | ⟨g, ho, hg⟩
  · rw [ho]; exact hv
  · rw [ho]; intro hc; simp at hc; omega

theorem below_wrote {w wr wr' : World} {b : Nat} {v : Value} {l : List Bool} {zs : List Nat} (hb : Below w.heap.size w wr) (hB : w.heap.size ≤ b) (h : WrIs wr b v l zs) (hk : Keeps (b :: v.ownBlock.toList) wr wr') : Below w.heap.size w wr' := by
  refine hb.trans (hk.below hb.size ?_)
  intro y hy
  rw [List.mem_cons] at hy
  rcases hy with rfl | hy
  · exact hB
  · simp at hy; have := (own_block_lt h.own y hy).1; omega

section
variable {w wr : World} {X Y Z A : Nat} {k x n : Int} {lx ly lz : List Bool}

theorem doX (h : ThreeAct w X Y Z A k x n wr lx ly lz) (hx : -9223372036854775808 ≤ x ∧ x ≤ 9223372036854775807) (hl : lx.length ≤ 100000) :
    Calls Try.prog 9 #[.pointer (some ⟨X, 0, none⟩), .agg #[.int .i64 k, .int .i64 x, .int .i64 n]] wr fun e w' => e = .returned (.bool (actOk k x n)) ∧ ThreeAct w X Y Z A k x n w' (actBits lx k x n) ly lz := by
  obtain ⟨vx, vy, vz, zx, zy, zz, h, hb⟩ := h
  refine (wDo X vx lx zx k x n wr hx hl h.x).mono ?_
  rintro e w' ⟨rfl, v', zs', hw', hk, ho⟩
  have h1 := h.xy.keep h.y hk ho
  have h2 := h.xz.keep h.z hk ho
  have h3 := beside_keep hb hb.2.2.2.2.1 hb.2.2.2.2.2.2.2.1 hk
  exact ⟨rfl, v', vy, vz, zs', zy, zz, ⟨hw', h1.1, h2.1, h1.2, h2.2, h.yz, below_wrote h.bel h.bx h.x hk, h.bx, h.ybel, h.bz⟩, h3.1, h3.2.1, h3.2.2.1, h3.2.2.2, hb.2.2.2.2.1, hb.2.2.2.2.2.1, hb.2.2.2.2.2.2.1, own_ne hb.1 hb.2.2.2.2.2.2.2.1 ho, hb.2.2.2.2.2.2.2.2.1, hb.2.2.2.2.2.2.2.2.2⟩

theorem doY (h : ThreeAct w X Y Z A k x n wr lx ly lz) (hx : -9223372036854775808 ≤ x ∧ x ≤ 9223372036854775807) (hl : ly.length ≤ 100000) :
    Calls Try.prog 9 #[.pointer (some ⟨Y, 0, none⟩), .agg #[.int .i64 k, .int .i64 x, .int .i64 n]] wr fun e w' => e = .returned (.bool (actOk k x n)) ∧ ThreeAct w X Y Z A k x n w' lx (actBits ly k x n) lz := by
  obtain ⟨vx, vy, vz, zx, zy, zz, h, hb⟩ := h
  refine (wDo Y vy ly zy k x n wr hx hl h.y).mono ?_
  rintro e w' ⟨rfl, v', zs', hw', hk, ho⟩
  have h1 := h.xy.symm.keep h.x hk ho
  have h2 := h.yz.keep h.z hk ho
  have h3 := beside_keep hb hb.2.2.2.2.2.1 hb.2.2.2.2.2.2.2.2.1 hk
  exact ⟨rfl, vx, v', vz, zx, zs', zz, ⟨h1.1, hw', h2.1, h1.2.symm, h.xz, h2.2, below_wrote h.bel h.ybel h.y hk, h.bx, h.ybel, h.bz⟩, h3.1, h3.2.1, h3.2.2.1, h3.2.2.2, hb.2.2.2.2.1, hb.2.2.2.2.2.1, hb.2.2.2.2.2.2.1, hb.2.2.2.2.2.2.2.1, own_ne hb.1 hb.2.2.2.2.2.2.2.2.1 ho, hb.2.2.2.2.2.2.2.2.2⟩

theorem doZ (h : ThreeAct w X Y Z A k x n wr lx ly lz) (hx : -9223372036854775808 ≤ x ∧ x ≤ 9223372036854775807) (hl : lz.length ≤ 100000) :
    Calls Try.prog 9 #[.pointer (some ⟨Z, 0, none⟩), .agg #[.int .i64 k, .int .i64 x, .int .i64 n]] wr fun e w' => e = .returned (.bool (actOk k x n)) ∧ ThreeAct w X Y Z A k x n w' lx ly (actBits lz k x n) := by
  obtain ⟨vx, vy, vz, zx, zy, zz, h, hb⟩ := h
  refine (wDo Z vz lz zz k x n wr hx hl h.z).mono ?_
  rintro e w' ⟨rfl, v', zs', hw', hk, ho⟩
  have h1 := h.xz.symm.keep h.x hk ho
  have h2 := h.yz.symm.keep h.y hk ho
  have h3 := beside_keep hb hb.2.2.2.2.2.2.1 hb.2.2.2.2.2.2.2.2.2 hk
  exact ⟨rfl, vx, vy, v', zx, zy, zs', ⟨h1.1, h2.1, hw', h.xy, h1.2.symm, h2.2.symm, below_wrote h.bel h.bz h.z hk, h.bx, h.ybel, h.bz⟩, h3.1, h3.2.1, h3.2.2.1, h3.2.2.2, hb.2.2.2.2.1, hb.2.2.2.2.2.1, hb.2.2.2.2.2.2.1, hb.2.2.2.2.2.2.2.1, hb.2.2.2.2.2.2.2.2.1, own_ne hb.1 hb.2.2.2.2.2.2.2.2.2 ho⟩
end
end Go.Proofs.Ytanofklckifeaaa
