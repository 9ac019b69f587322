import Derived.Test.YtefbakhhlonafaaSlideC7
import Derived.Test.YtefbakhhlonafaaBlkC2
import Derived.Test.YtefbakhhlonafaaFxFilF2
import Derived.Test.YtefbakhhlonafaaGxLagF3
import Derived.Test.YtefbakhhlonafaaSlideC4

section
namespace Go.Proofs.Ytefbakhhlonafaa
open Go.RowKit Go.Shelf Go.Proofs Go.Proofs.PipeM Go.Proofs.PipeA
set_option maxRecDepth 100000

/-- How many bits a list has in so many parts, each with its best parameter; the best of the first powers; the greatest power. -/
def lenAt (l : List Int) (p : Nat) : Nat := 2 + bodyLen (l.length / 2 ^ p) (bestKs (l.length / 2 ^ p) l (2 ^ p)) l (2 ^ p)
def ksAt (l : List Int) (p : Nat) : List Int := bestKs (l.length / 2 ^ p) l (2 ^ p)
def pickP (l : List Int) : Nat → Nat
  | 0 => 0
  | k + 1 => if lenAt l (k + 1) < lenAt l (pickP l k) then k + 1 else pickP l k
/-- Between two rounds. -/
def SBRel (l : List Int) (w : World) (B2 B4 c : Nat) (wr : World) : Prop :=
  ∃ H m, Hid (m = 2 ^ pickP l c) ∧ wr.cell? ⟨B4, 0, none⟩ = some (.int .i64 (pickP l c : Nat)) ∧ wr.cell? ⟨B4, 1, none⟩ = some (.slice (some ⟨H, 0, none⟩) m m) ∧ wr.frozen? ⟨B4, 0, none⟩ = false ∧ wr.frozen? ⟨B4, 1, none⟩ = false ∧
    wr.cell? ⟨B2, 0, none⟩ = some (.int .i64 0) ∧ wr.cell? ⟨B2, 1, none⟩ = some (.slice none 0 0) ∧ wr.frozen? ⟨B2, 0, none⟩ = false ∧ wr.frozen? ⟨B2, 1, none⟩ = false ∧
    IntsAt wr (some ⟨H, 0, none⟩) (ksAt l (pickP l c)) ∧ w.heap.size < H ∧ H ≠ B4 ∧ B2 = w.heap.size ∧ w.heap.size < B4 ∧ B4 < wr.heap.size ∧ Below w.heap.size w wr

theorem SBRel.no {l : List Int} {w : World} {B2 B4 c c' : Nat} {wr w6 : World} (h : SBRel l w B2 B4 c wr) (hb : Below wr.heap.size wr w6) (hp : pickP l c' = pickP l c) : SBRel l w B2 B4 c' w6 := by
  obtain ⟨H, m, HM, h1, h2, h3, h4, h5, h6, h7, h8, h9, h10, h11, rfl, h13, h14, h15⟩ := h
  have hz := h15.size
  have hw : w.heap.size < wr.heap.size := by omega
  refine ⟨H, m, by rw [hp]; exact HM, ?_, (hb.cell (p := ⟨B4, 1, none⟩) h14).trans h2, (hb.frozen (p := ⟨B4, 0, none⟩) h14).trans h3, (hb.frozen (p := ⟨B4, 1, none⟩) h14).trans h4, (hb.cell (p := ⟨w.heap.size, 0, none⟩) hw).trans h5, (hb.cell (p := ⟨w.heap.size, 1, none⟩) hw).trans h6, (hb.frozen (p := ⟨w.heap.size, 0, none⟩) hw).trans h7, (hb.frozen (p := ⟨w.heap.size, 1, none⟩) hw).trans h8,
    by rw [hp]; exact h9.below hb, h10, h11, rfl, h13, Nat.lt_of_lt_of_le h14 hb.size, h15.trans (hb.mono hz)⟩
  rw [hp]; exact (hb.cell (p := ⟨B4, 0, none⟩) h14).trans h1

end Go.Proofs.Ytefbakhhlonafaa
end

section
namespace Go.Proofs.Ytefbakhhlonafaa
open Go.RowKit Go.Proofs Go.Proofs.PipeM Go.Proofs.PipeA

theorem totalN_ge (l : List Int) (k : Nat) : l.length ≤ totalN l k := by
  induction l with
  | nil => simp
  | cons n l ih =>
    have := costN_pos n k
    simp [totalN] at ih ⊢
    omega

theorem bodyLen_ge (size : Nat) (ks l : List Int) : ∀ n, n * size ≤ l.length → n * (5 + size) ≤ bodyLen size ks l n
  | 0, _ => by simp
  | n + 1, h => by
    have h0 : n * size ≤ l.length := by rw [Nat.add_mul, Nat.one_mul] at h; omega
    have ih := bodyLen_ge size ks l n h0
    show _ ≤ bodyLen size ks l n + partLen size ks l n
    have h1 := totalN_ge (partNo size l n) (ks.getD n 0).toNat
    rw [partNo_length h] at h1
    unfold partLen
    rw [Nat.add_mul, Nat.one_mul]
    omega

/-- A list that may be has at least so many bits. -/
theorem slide_ge {l ks : List Int} {P : Int} (h : slideOk l P ks = true) : 2 + 5 * ks.length + l.length ≤ slideLen l P ks := by
  obtain ⟨p, hP, h3, hk1, hk8, hk0, hl1, hl2, hs1, hs2, hsp, hks, hin⟩ := slide_parts h
  rw [slide_len h]
  have := bodyLen_ge (l.length / ks.length) ks l ks.length (by rw [Nat.mul_comm]; exact Nat.le_of_eq hsp.symm)
  rw [Nat.mul_add, Nat.mul_comm ks.length (l.length / ks.length), ← hsp] at this
  omega

end Go.Proofs.Ytefbakhhlonafaa
end

section
namespace Go.Proofs.Ytefbakhhlonafaa
open Go.RowKit Go.Proofs Go.Proofs.PipeM Go.Proofs.PipeA
set_option maxRecDepth 100000

end Go.Proofs.Ytefbakhhlonafaa
end

section
namespace Go.Proofs.Ytefbakhhlonafaa
open Go.RowKit Go.Proofs Go.Proofs.PipeM Go.Proofs.PipeA
set_option maxRecDepth 100000

def intsOf (l : List Int) : List Value := l.map fun n => Value.int .i64 n
end Go.Proofs.Ytefbakhhlonafaa
end

section
namespace Go.Proofs.Ytefbakhhlonafaa
open Go.RowKit Go.Proofs Go.Proofs.PipeM Go.Proofs.PipeA

/-- Numbers that come next under one parameter; a part; parts of one length. -/
def RS.many (k : Int) : Nat → RS → RS × List Int
  | 0, s => (s, [])
  | n + 1, s => ((RS.many k n (s.rice k).1).1, (s.rice k).2 :: (RS.many k n (s.rice k).1).2)
def RS.partS (size : Nat) (s : RS) : RS × List Int := RS.many (s.takeV 5) size (s.takeS 5)
end Go.Proofs.Ytefbakhhlonafaa
end

section
namespace Go.Proofs.Ytefbakhhlonafaa
open Go.RowKit Go.Proofs Go.Proofs.PipeM Go.Proofs.PipeA

theorem MR.take_spent {m : MR} (h : m.fail ≠ 0) (n : Int) : m.take n = (m, 0) := by
  unfold MR.take
  rw [MR.give_spent h, MR.give_spent h]
  split
  · rfl
  · split
    · rfl
    · first | rfl | rw [if_pos h]
theorem MR.rice_spent {m : MR} (h : m.fail ≠ 0) (k : Int) : m.rice k = (m, 0) := by
  unfold MR.rice
  rw [MR.give_spent h]
  have hr : m.run 24 = (m, 0) := by unfold MR.run; rw [if_pos h]
  rw [hr]
  split
  · rfl
  · rw [if_pos (show (0 : Nat) < 24 by decide), MR.take_spent h]
    unfold MR.riceA
    rw [if_pos h]

/-- The document's. -/
def MR.many (k : Int) : Nat → MR → MR × List Int
  | 0, m => (m, [])
  | n + 1, m => if m.fail ≠ 0 then (m, []) else ((MR.many k n (m.rice k).1).1, (m.rice k).2 :: (MR.many k n (m.rice k).1).2)
def MR.partM (size : Nat) (m : MR) : MR × List Int := MR.many ((m.take 5).2 : Nat) size (m.take 5).1
theorem Sim.spentMany {s : RS} {m : MR} (h : Sim s m) (hf : m.fail ≠ 0) (k : Int) : ∀ n, Sim (RS.many k n s).1 m := by
  intro n
  induction n generalizing s with
  | zero => exact h
  | succ n ih =>
    rw [RS.many]
    have h1 := (h.rice k).1
    rw [MR.rice_spent hf] at h1
    exact ih h1
theorem Sim.many {s : RS} {m : MR} (h : Sim s m) (k : Int) : ∀ n, Sim (RS.many k n s).1 (MR.many k n m).1 ∧ ((MR.many k n m).1.fail = 0 → (RS.many k n s).2 = (MR.many k n m).2) := by
  intro n
  induction n generalizing s m with
  | zero => exact ⟨h, fun _ => rfl⟩
  | succ n ih =>
    rw [MR.many]
    by_cases hf : m.fail = 0
    · rw [if_neg (by simpa using hf), RS.many]
      obtain ⟨h1, h2⟩ := h.rice k
      obtain ⟨h3, h4⟩ := ih h1
      exact ⟨h3, fun e => by rw [h4 e, h2]⟩
    · rw [if_pos hf]
      exact ⟨h.spentMany hf k (n + 1), fun e => absurd e hf⟩
theorem Sim.part {s : RS} {m : MR} (h : Sim s m) (size : Nat) : Sim (s.partS size).1 (m.partM size).1 ∧ ((m.partM size).1.fail = 0 → (s.partS size).2 = (m.partM size).2) := by
  obtain ⟨h1, h2⟩ := h.take 5
  unfold RS.partS MR.partM
  rw [← h2]
  exact h1.many _ size
end Go.Proofs.Ytefbakhhlonafaa
end

section
namespace Go.Proofs.Ytefbakhhlonafaa
open Go.RowKit Go.Shelf Go.Proofs Go.Proofs.PipeM Go.Proofs.PipeA
set_option maxRecDepth 100000

/-- Where the taking of parts stands: the reader, whether no part has failed, the parameters, the numbers. -/
structure TS where
  s : RS
  ok : Bool
  keys : Nat → Int
  list : Nat → Int

/-- The numbers behind j numbers of part x; the parameters behind that of part x. -/
def putL (size x j : Nat) (c : List Int) (f : Nat → Int) (i : Nat) : Int := if x * size ≤ i ∧ i < x * size + j then c.getD (i - x * size) 0 else f i
def putK (x : Nat) (k : Int) (f : Nat → Int) (i : Nat) : Int := if i = x then k else f i

/-- One part more. -/
def TS.step (size : Nat) (t : TS) (x : Nat) : TS :=
  ⟨(t.s.partS size).1, t.ok && decide ((t.s.partS size).1.err = 0), putK x ((t.s.takeV 5 : Nat) : Int) t.keys, putL size x size (t.s.partS size).2 t.list⟩
def TS.run (size : Nat) (t : TS) (l : List Nat) : TS := l.foldl (TS.step size) t

end Go.Proofs.Ytefbakhhlonafaa
end

section
namespace Go.Proofs.Ytefbakhhlonafaa
open Go.RowKit Go.Shelf Go.Proofs Go.Proofs.PipeM Go.Proofs.PipeA
set_option maxRecDepth 100000

theorem Keeps.mono {bs bs' : List Nat} {w w' : World} (h : Keeps bs w w') (hs : ∀ x ∈ bs, x ∈ bs') : Keeps bs' w w' :=
  ⟨h.os, h.tape, h.output, h.size, fun k hk hn => h.block k hk (fun hm => hn (hs k hm))⟩

end Go.Proofs.Ytefbakhhlonafaa
end

section
namespace Go.Proofs.Ytefbakhhlonafaa
open Go.RowKit Go.Proofs Go.Proofs.PipeM Go.Proofs.PipeA
set_option maxRecDepth 100000

/-- Three cells of a block. -/
structure Box3 (w : World) (b : Nat) (v0 v1 v2 : Value) : Prop where
  lt : b < w.heap.size
  c0 : w.cell? ⟨b, 0, none⟩ = some v0
  c1 : w.cell? ⟨b, 1, none⟩ = some v1
  c2 : w.cell? ⟨b, 2, none⟩ = some v2
  f0 : w.frozen? ⟨b, 0, none⟩ = false
  f1 : w.frozen? ⟨b, 1, none⟩ = false
  f2 : w.frozen? ⟨b, 2, none⟩ = false

theorem Box3.keeps {w w' : World} {b : Nat} {bs : List Nat} {v0 v1 v2 : Value} (h : Box3 w b v0 v1 v2) (hk : Keeps bs w w') (hb : b ∉ bs) : Box3 w' b v0 v1 v2 :=
  ⟨Nat.lt_of_lt_of_le h.lt hk.size, (hk.cell (p := ⟨b, 0, none⟩) h.lt hb).trans h.c0, (hk.cell (p := ⟨b, 1, none⟩) h.lt hb).trans h.c1, (hk.cell (p := ⟨b, 2, none⟩) h.lt hb).trans h.c2,
    (hk.frozen (p := ⟨b, 0, none⟩) h.lt hb).trans h.f0, (hk.frozen (p := ⟨b, 1, none⟩) h.lt hb).trans h.f1, (hk.frozen (p := ⟨b, 2, none⟩) h.lt hb).trans h.f2⟩

theorem Box3.new (w : World) (v0 v1 v2 : Value) (t : TypeId) : Box3 (w.alloc (.cells #[v0, v1, v2] t)) w.heap.size v0 v1 v2 :=
  ⟨by simp, by simp, by simp, by simp, by simp, by simp, by simp⟩

/-- The results' cells, as they are laid first. -/
structure Outs (W : World) (B4 B6 : Nat) : Prop where
  b4 : Box3 W B4 (.string ⟨#[]⟩) (.int .i64 0) (.int .i64 0)
  c0 : W.cell? ⟨B6, 0, none⟩ = some (.int .i64 0)
  c1 : W.cell? ⟨B6, 1, none⟩ = some (.slice none 0 0)
  f0 : W.frozen? ⟨B6, 0, none⟩ = false
  f1 : W.frozen? ⟨B6, 1, none⟩ = false
  lt : B6 < W.heap.size
  ne : B4 ≠ B6
theorem Outs.keeps {W W' : World} {B4 B6 : Nat} {bs : List Nat} (h : Outs W B4 B6) (hk : Keeps bs W W') (h4 : B4 ∉ bs) (h6 : B6 ∉ bs) : Outs W' B4 B6 :=
  ⟨h.b4.keeps hk h4, (hk.cell (p := ⟨B6, 0, none⟩) h.lt h6).trans h.c0, (hk.cell (p := ⟨B6, 1, none⟩) h.lt h6).trans h.c1, (hk.frozen (p := ⟨B6, 0, none⟩) h.lt h6).trans h.f0, (hk.frozen (p := ⟨B6, 1, none⟩) h.lt h6).trans h.f1, Nat.lt_of_lt_of_le h.lt hk.size, h.ne⟩
/-- A slice that wasn't there. -/
def FreshOf (w : World) (ao : Option Addr) : Prop := ∀ g off, ao = some ⟨g, off, none⟩ → w.heap.size ≤ g
end Go.Proofs.Ytefbakhhlonafaa
end

section
namespace Go.Proofs.Ytefbakhhlonafaa
open Go.RowKit Go.Proofs Go.Proofs.PipeM Go.Proofs.PipeA Go.Proofs.BlkM
open Go.Proofs.LatM (goodL)
open Go.Proofs.FilM (smp codeS)
open Go.Proofs.LagM (goodT codeT codeO onL)
set_option maxRecDepth 100000

theorem blk_take {l : List Int} {c : Nat} (h : c < l.length) : intsOf (l.take (c + 1)) = intsOf (l.take c) ++ [.int .i64 l[c]] := by
  rw [List.take_succ_eq_append_getElem h]; unfold intsOf; rw [List.map_append]; rfl
theorem samp_ok {n m : Nat} (h1 : 1 ≤ n) (h2 : n ≤ 1024) (h3 : 8 ≤ m) (h4 : m ≤ 26) : (sizeN (n : Int) && depthB (m : Int)) = true := by
  unfold sizeN depthB
  rw [decide_eq_true (by omega), decide_eq_true (by omega)]; rfl
/-- Samples that came out, in memory that is new, or what is wrong. -/
def SampIs (code : Int) (m : List Int) (w : World) (e : Ending) (w' : World) : Prop :=
  (code ≠ 0 ∧ e = .returned (.tuple #[.slice none 0 0, .int .i64 code]) ∧ Below w.heap.size w w') ∨
  (code = 0 ∧ ∃ ao cap, e = .returned (.tuple #[.slice ao m.length cap, .int .i64 0]) ∧ IntsAt w' ao m ∧ m.length ≤ cap ∧ Below w.heap.size w w' ∧ FreshOf w ao)
theorem SampIs.bad {c : Int} {m : List Int} {w w' : World} {k : Int} (h : c = k) (hk : k ≠ 0) (hb : Below w.heap.size w w') : SampIs c m w (.returned (.tuple #[.slice none 0 0, .int .i64 k])) w' := by
  subst h
  exact .inl ⟨hk, rfl, hb⟩

set_option maxHeartbeats 1600000 in
theorem rSamp_size (b : Blk) (ia ra da : Option Addr) (ic rc dc : Nat) (n d : Int) (w : World) (h : (sizeN n && depthB d) = false) :
    Calls Try.prog 8 #[blkV b ia ra da ic rc dc, .int .i64 n, .int .i64 d] w (SampIs (codeB b n d) (outB b n.toNat) w) := by
  have HF : Hid (∀ W, Below w.heap.size w W → SampIs (codeB b n d) (outB b n.toNat) w (.returned (.tuple #[.slice none 0 0, .int .i64 1])) W) := fun W hW => SampIs.bad (codeB_size h) (by omega) hW
  have HB := fun o => Lib.hid (box_below w o)
  have HD := fun W => Lib.hid (rDepth d W)
  generalize codeB b n d = cb at HF ⊢
  generalize outB b n.toNat = ob at HF ⊢
  obtain ⟨kind, value, shift, index, lag, gain, part, rice, data⟩ := b
  unfold blkV
  dsimp only
  generalize index.length = il
  generalize rice.length = rl
  generalize data.length = dl
  by_cases h1 : n < 1
  · have t1 : decide (n < 1) = true := decide_eq_true h1
    clear h h1
    go_enter Try.func8, Try.ntmps8
    go_wp2
    refine bodyPost_ret (v := .tuple #[.slice none 0 0, .int .i64 1]) (by simp [results, Try.results8, go_sem]) rfl ?_
    exact HF.out _ (HB _).out
  · have t1 : decide (n < 1) = false := decide_eq_false h1
    by_cases h2 : 1024 < n
    · have t2 : decide (1024 < n) = true := decide_eq_true h2
      clear h h1 h2
      go_enter Try.func8, Try.ntmps8
      go_wp2
      refine bodyPost_ret (v := .tuple #[.slice none 0 0, .int .i64 1]) (by simp [results, Try.results8, go_sem]) rfl ?_
      exact HF.out _ (HB _).out
    · have t2 : decide (1024 < n) = false := decide_eq_false h2
      have hd : depthB d = false := by
        have : sizeN n = true := decide_eq_true (by omega)
        rw [this] at h
        simpa using h
      rw [hd] at HD
      clear h h1 h2 hd
      go_enter Try.func8, Try.ntmps8
      go_wp2_with fail
      refine (HD _).out.mono ?_
      rintro e w1 ⟨rfl, rfl⟩
      go_wp2
      refine bodyPost_ret (v := .tuple #[.slice none 0 0, .int .i64 1]) (by simp [results, Try.results8, go_sem]) rfl ?_
      exact HF.out _ (HB _).out

set_option maxHeartbeats 1600000 in
theorem rSamp_form (b : Blk) (ia ra da : Option Addr) (ic rc dc : Nat) (n m : Nat) (w : World) (hn1 : 1 ≤ n) (hn : n ≤ 1024) (hm1 : 8 ≤ m) (hm2 : m ≤ 26) (hI : BlkIn w b ia ra da ic rc dc) (h : formB b n m ≠ 0) :
    Calls Try.prog 8 #[blkV b ia ra da ic rc dc, .int .i64 n, .int .i64 m] w (SampIs (codeB b n m) (outB b n) w) := by
  have hcd : codeB b n m = formB b n m := codeB_form (samp_ok hn1 hn hm1 hm2) h
  have HB := fun o => Lib.hid (box_below w o)
  have HFO : Hid (∀ o, Calls Try.prog 22 #[blkV b ia ra da ic rc dc, .int .i64 n, .int .i64 m] (w.alloc o) fun e w' => e = .returned (.int .i64 (formB b n m)) ∧ Below (w.alloc o).heap.size (w.alloc o) w') := fun o => rForm b ia ra da ic rc dc n m (w.alloc o) hn1 hn (hI.below (HB o).out)
  rw [hcd]
  have HD := fun W => Lib.hid (rDepth m W)
  have hdep : depthB m = true := decide_eq_true (by omega)
  rw [hdep] at HD
  generalize formB b n m = cb at *
  generalize outB b n = ob at *
  have tc : (cb != 0) = true := bne_iff_ne.2 h
  have HC := Lib.hid h
  obtain ⟨kind, value, shift, index, lag, gain, part, rice, data⟩ := b
  unfold blkV at HFO ⊢
  dsimp only at HFO ⊢
  generalize index.length = il at HFO ⊢
  generalize rice.length = rl at HFO ⊢
  generalize data.length = dl at HFO ⊢
  clear h hcd hdep hI
  go_enter Try.func8, Try.ntmps8
  go_wp2_with fail
  refine (HD _).out.mono ?_
  rintro e w1 ⟨rfl, rfl⟩
  go_wp2_with fail
  refine (HFO.out _).mono ?_
  rintro e w1 ⟨rfl, hb1⟩
  have HB1 := Lib.hid ((HB _).out.trans (hb1.mono (HB _).out.size))
  clear hb1
  go_wp2
  refine bodyPost_ret (v := .tuple #[.slice none 0 0, .int .i64 cb]) (by simp [results, Try.results8, go_sem]) rfl ?_
  exact SampIs.bad rfl HC.out HB1.out
end Go.Proofs.Ytefbakhhlonafaa
end
