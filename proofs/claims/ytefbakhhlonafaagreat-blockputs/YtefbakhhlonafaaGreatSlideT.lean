import Derived.Test.YtefbakhhlonafaaGreatRef2b
import Derived.Test.YtefbakhhlonafaaGreatBlkC2

section
namespace Go.Proofs.YtefbakhhlonafaaGreat.Gx
open Go.RowKit Go.Proofs Go.Proofs.PipeA Go.Proofs.LagM
set_option maxRecDepth 100000

theorem intsOf_take {l : List Int} {j : Nat} (h : j < l.length) : intsOf (l.take (j + 1)) = intsOf (l.take j) ++ [.int .i64 l[j]] := by
  unfold intsOf
  rw [List.take_succ_eq_append_getElem h, List.map_append]; rfl
theorem own_cap {w : World} {base size n cap : Nat} {e : TypeId} {xs : List Value} {ao : Option Addr} (h : w.ownsRow base e size (.slice ao n cap) n xs) : n ≤ cap := by
  rcases h.2 with ⟨h1, h2⟩ | ⟨g, cap', cur, h1, _, _, h2, _⟩
  · omega
  · cases h1; exact h2

end Go.Proofs.YtefbakhhlonafaaGreat.Gx
end

section
namespace Go.Proofs.YtefbakhhlonafaaGreat.Gx
open Go.RowKit Go.Proofs Go.Proofs.PipeA Go.Proofs.LagM
set_option maxRecDepth 100000

set_option maxHeartbeats 3200000 in
theorem rOn (n : Nat) (g : Int) (ao : Option Addr) (cap : Nat) (l : List Int) (w : World) (hcd : codeT (n : Int) g l = 0) (hl : l.length ≤ 100000) (hi : IntsAt w ao l) :
    Calls Tryz.prog 27 #[.int .i64 n, .int .i64 g, .slice ao l.length cap] w (OutIs (codeO n g l) (onL n g l) w) := by
  obtain ⟨i0, hii, hz0, hz1, hz2⟩ := info_parts info_int
  obtain ⟨hgood, hall⟩ := codeT_zero hcd
  obtain ⟨n', hnn, hn, hg0, hg1, hz, _⟩ := goodT_of hgood
  obtain rfl : n = n' := by omega
  have HI := Lib.hid hi
  have HB := Lib.hid (all_B hall)
  have HAL := Lib.hid hall
  have HOL := onL_length n g l
  have HZ := Lib.hid hz
  have HC0 := Lib.hid hcd
  clear hi hall hz hcd hgood hnn
  go_enter Tryz.func27, Tryz.ntmps27
  go_wp2
  go_loopg [8, 9, 10, 13] l.length (fun gk va q1 q2 i wr => ∃ c : Nat, c ≤ l.length ∧ gk + c = l.length ∧ i = .int .i64 c ∧ wr.ownsRow w.heap.size 3 1 va c (intsOf ((onL n g l).take c)) ∧ Hid (∀ j, j < c → inB (onV n g l j) = true) ∧ Hid (Below w.heap.size w wr))
  case atStart => exact ⟨0, Nat.zero_le _, by omega, rfl, World.ownsRow_nil _ _ _ _, fun j hj => absurd hj (Nat.not_lt_zero _), Below.refl _ _⟩
  case round =>
    obtain ⟨c, hc, hgk, rfl, hown, HIN, HW⟩ := hrel
    have HGK := Lib.hid hgk
    have HO := Lib.hid HOL
    clear hgk HOL
    obtain ⟨aao, acap, rfl, hag⟩ := own_slice hown
    by_cases hlt : c < l.length
    · have hszw := HW.out.size
      obtain ⟨b, off, had, hbl, hcell⟩ := (HI.out.below HW.out) c hlt
      have HNEW : Hid (intsOf ((onL n g l).take (c + 1)) = intsOf ((onL n g l).take c) ++ [.int .i64 (onV n g l c)]) := by
        show _ = _
        rw [intsOf_take (by rw [HO.out]; exact hlt), onL_at hlt]
      have hyb := HB.out _ (List.getElem_mem hlt)
      have HNX : Hid (inB (onV n g l c) = true → ∀ j, j < c + 1 → inB (onV n g l j) = true) := fun h j hj => by
        by_cases e : j < c
        · exact HIN.out j e
        · obtain rfl : j = c := by omega
          exact h
      have HBAD : Hid (inB (onV n g l c) = false → codeO (n : Int) g l = 9) := fun h => by
        refine codeO_bad HC0.out ?_
        cases ha : (onL n g l).all inB with
        | false => rfl
        | true =>
          have := List.all_eq_true.1 ha _ (List.getElem_mem (show c < (onL n g l).length by rw [HO.out]; exact hlt))
          rw [onL_at hlt, h] at this
          cases this
      have HCA : n ≤ c ∧ 0 < n ∨ (n = 0 ∨ 0 < n ∧ c < n) ∧ onV n g l c = l[c] := by
        by_cases h0 : n = 0
        · exact .inr ⟨.inl h0, by subst h0; rw [onV_zero, getD_lt hlt]⟩
        · by_cases h1 : n ≤ c
          · exact .inl ⟨h1, by omega⟩
          · exact .inr ⟨.inr ⟨by omega, by omega⟩, by rw [onV_late (by omega), getD_lt hlt]⟩
      rcases HCA with ⟨hnc, hn0⟩ | ⟨hwhy, hsame⟩
      · obtain ⟨q, hq⟩ : ∃ q, q = c - n := ⟨_, rfl⟩
        have hqi : IntKind.i64.wrap ((c : Int) - (n : Int)) = (q : Int) := by rw [IntWalk.i64_in _ (by omega)]; omega
        have hql : q < c := by omega
        have hIR : IntsAt wr aao ((onL n g l).take c) := by
          have e : ((onL n g l).take c).length = c := by rw [List.length_take, HO.out]; omega
          exact ints_own (cap := acap) (by rw [e]; exact hown)
        obtain ⟨b2, off2, hao2, _, hcell2⟩ := hIR q (by rw [List.length_take, HO.out]; omega)
        rw [List.getElem_take, onL_at (by omega)] at hcell2
        have hxb := inB_of (HIN.out q hql)
        have hpb : -16492674416640 ≤ onV n g l q * g ∧ onV n g l q * g ≤ 16492674416640 := LagM.prod_bound ⟨hg0, hg1⟩ hxb
        have hzv : onV n g l c = l[c] + onV n g l q * g / 16 := by rw [onV_from HZ.out hnc, getD_lt hlt, ← hq]; rfl
        generalize l[c] = y at *
        obtain ⟨x, hx⟩ : ∃ x, x = onV n g l q := ⟨_, rfl⟩
        rw [← hx] at hcell2 hpb hzv
        obtain ⟨pr, hpr⟩ : ∃ pr, pr = x * g := ⟨_, rfl⟩
        have hw1 : IntKind.i64.wrap (x * g) = pr := by rw [hpr]; exact IntWalk.i64_in _ (by omega)
        rw [← hpr] at hpb hzv
        have HDN := fun W => Lib.hid (rDown pr W (by omega))
        obtain ⟨t, ht⟩ : ∃ t, t = pr / 16 := ⟨_, rfl⟩
        obtain ⟨z, hzz⟩ : ∃ z, z = onV n g l c := ⟨_, rfl⟩
        rw [← ht] at hzv HDN
        rw [← hzz] at hzv HNEW HNX HBAD
        have hw2 : IntKind.i64.wrap (y + t) = z := by rw [IntWalk.i64_in _ (by omega)]; omega
        subst had hao2
        clear hzz hzv ht hpb hpr hxb hq hyb hx hIR hag
        rcases inB_cases2 z with ⟨t4, t5⟩ | ⟨t4, t6, t5⟩ | ⟨t4, t6, t5⟩
        · have HF : Hid (OutIs (codeO n g l) (onL n g l) w (.returned (.tuple #[.slice none 0 0, .int .i64 9])) wr) := OutIs.no (HBAD.out t5) (by omega) HW.out
          clear t5 HNX HBAD
          go_wp2_with fail
          refine (HDN _).out.mono ?_
          rintro e w5 ⟨rfl, rfl⟩
          go_wp2
          refine bodyPost_ret (v := .tuple #[.slice none 0 0, .int .i64 9]) (by simp [results, Tryz.results27, go_sem]) rfl ?_
          exact HF.out
        · have HF : Hid (OutIs (codeO n g l) (onL n g l) w (.returned (.tuple #[.slice none 0 0, .int .i64 9])) wr) := OutIs.no (HBAD.out t5) (by omega) HW.out
          clear t5 HNX HBAD
          go_wp2_with fail
          refine (HDN _).out.mono ?_
          rintro e w5 ⟨rfl, rfl⟩
          go_wp2
          refine bodyPost_ret (v := .tuple #[.slice none 0 0, .int .i64 9]) (by simp [results, Tryz.results27, go_sem]) rfl ?_
          exact HF.out
        · have HN2 := Lib.hid (HNX.out t5)
          clear t5 HNX HBAD
          go_wp2_with fail
          refine (HDN _).out.mono ?_
          rintro e w5 ⟨rfl, rfl⟩
          go_wp2_with (at_builtin; refine wpList_append_own2 _ rfl _ _ 22 rfl w.heap.size 3 i0 (.int .i64 0) 1 8 Tryz.underlying22 hii hz0 hz1 hz2 rfl (by decide) _ _ _ rfl (hown.alloc _) ⟨wr.heap.size, 0, none⟩ 1 1 [.int .i64 z] rfl rfl ?c1 ?c2 ?c3 ?c4 ?c5 ?_)
          case c1 =>
            intro j u hj
            match j, hj with
            | 0, hj => simp at hj; subst hj; simp [Addr.add]
          case c2 => intro u hu; simp at hu; subst hu; rfl
          case c3 => unfold maxLen; omega
          case c4 => omega
          case c5 => simp; omega
          intro v' w4 hown' hgrow hat
          rw [← HNEW.out] at hown'
          have HW4 : Hid (Below w.heap.size w w4) := (HW.out.trans ((box_below wr (.cells #[.int .i64 z] 3)).mono hszw)).grown hgrow (by simp; omega) (by intro g hg; exact (own_block_lt hown g hg).1)
          clear hgrow hat hown
          go_wp2
          go_roundg (gk - 1)
          case rel => exact ⟨c + 1, by omega, by have := HGK.out; omega, by go_num, hown', HN2.out, HW4⟩
          case measure => have := HGK.out; omega
      · rw [hsame] at HNEW HNX HBAD
        subst had
        have t5 : inB l[c] = true := decide_eq_true hyb
        clear hsame
        generalize l[c] = y at *
        have t6 : decide (1099511627776 < y) = false := decide_eq_false (by omega)
        have t7 : decide (y < -1099511627776) = false := decide_eq_false (by omega)
        clear hyb
        rcases hwhy with hn0 | ⟨hn0, hcn⟩
        · have t1 : decide (0 < n) = false := decide_eq_false (by omega)
          clear hn0
          have HN2 := Lib.hid (HNX.out t5)
          clear t5 HNX HBAD
          go_wp2_with (at_builtin; refine wpList_append_own2 _ rfl _ _ 22 rfl w.heap.size 3 i0 (.int .i64 0) 1 8 Tryz.underlying22 hii hz0 hz1 hz2 rfl (by decide) _ _ _ rfl (hown.alloc _) ⟨wr.heap.size, 0, none⟩ 1 1 [.int .i64 y] rfl rfl ?d1 ?d2 ?d3 ?d4 ?d5 ?_)
          case d1 =>
            intro j u hj
            match j, hj with
            | 0, hj => simp at hj; subst hj; simp [Addr.add]
          case d2 => intro u hu; simp at hu; subst hu; rfl
          case d3 => unfold maxLen; omega
          case d4 => omega
          case d5 => simp; omega
          intro v' w4 hown' hgrow hat
          rw [← HNEW.out] at hown'
          have HW4 : Hid (Below w.heap.size w w4) := (HW.out.trans ((box_below wr (.cells #[.int .i64 y] 3)).mono hszw)).grown hgrow (by simp; omega) (by intro g hg; exact (own_block_lt hown g hg).1)
          clear hgrow hat hown
          go_wp2
          go_roundg (gk - 1)
          case rel => exact ⟨c + 1, by omega, by have := HGK.out; omega, by go_num, hown', HN2.out, HW4⟩
          case measure => have := HGK.out; omega
        · have HN2 := Lib.hid (HNX.out t5)
          clear t5 HNX HBAD
          go_wp2_with (at_builtin; refine wpList_append_own2 _ rfl _ _ 22 rfl w.heap.size 3 i0 (.int .i64 0) 1 8 Tryz.underlying22 hii hz0 hz1 hz2 rfl (by decide) _ _ _ rfl (hown.alloc _) ⟨wr.heap.size, 0, none⟩ 1 1 [.int .i64 y] rfl rfl ?e1 ?e2 ?e3 ?e4 ?e5 ?_)
          case e1 =>
            intro j u hj
            match j, hj with
            | 0, hj => simp at hj; subst hj; simp [Addr.add]
          case e2 => intro u hu; simp at hu; subst hu; rfl
          case e3 => unfold maxLen; omega
          case e4 => omega
          case e5 => simp; omega
          intro v' w4 hown' hgrow hat
          rw [← HNEW.out] at hown'
          have HW4 : Hid (Below w.heap.size w w4) := (HW.out.trans ((box_below wr (.cells #[.int .i64 y] 3)).mono hszw)).grown hgrow (by simp; omega) (by intro g hg; exact (own_block_lt hown g hg).1)
          clear hgrow hat hown
          go_wp2
          go_roundg (gk - 1)
          case rel => exact ⟨c + 1, by omega, by have := HGK.out; omega, by go_num, hown', HN2.out, HW4⟩
          case measure => have := HGK.out; omega
    · obtain rfl : c = l.length := by omega
      have HF : Hid (OutIs (codeO n g l) (onL n g l) w (.returned (.tuple #[.slice aao l.length acap, .int .i64 0])) wr) := by
        refine .inr ⟨codeO_ok HC0.out (onL_all fun j hj => HIN.out j hj), aao, acap, by rw [HO.out], ?_, by rw [HO.out]; exact own_cap hown, HW.out⟩
        have h := hown
        rw [List.take_of_length_le (by rw [HO.out]; exact Nat.le_refl _)] at h
        exact ints_own (cap := acap) (by rw [HO.out]; exact h)
      go_wp2
      refine bodyPost_ret (v := .tuple #[.slice aao l.length acap, .int .i64 0]) (by simp [results, Tryz.results27, go_sem]) rfl ?_
      exact HF.out
end Go.Proofs.YtefbakhhlonafaaGreat.Gx
end

section
namespace Go.Proofs.YtefbakhhlonafaaGreat
open Go.RowKit Go.Shelf Go.Proofs Go.Proofs.PipeM Go.Proofs.PipeA
set_option maxRecDepth 100000

/-- How many bits a list has in so many parts, each with its best parameter; the best of the first powers; the greatest power. -/
def lenAt (l : List Int) (p : Nat) : Nat := 2 + bodyLen (l.length / 2 ^ p) (bestKs (l.length / 2 ^ p) l (2 ^ p)) l (2 ^ p)
def ksAt (l : List Int) (p : Nat) : List Int := bestKs (l.length / 2 ^ p) l (2 ^ p)
def pickP (l : List Int) : Nat → Nat
  | 0 => 0
  | k + 1 => if lenAt l (k + 1) < lenAt l (pickP l k) then k + 1 else pickP l k
/-- Between two rounds. -/
def SBRel (l : List Int) (w : World) (B2 B4 c : Nat) (wr : World) : Prop :=
  ∃ H m, Hid (m = 2 ^ pickP l c) ∧ wr.cell? ⟨B4, 0, none⟩ = some (.int .i64 (pickP l c : Nat)) ∧ wr.cell? ⟨B4, 1, none⟩ = some (.slice (some ⟨H, 0, none⟩) m m) ∧ wr.frozen? ⟨B4, 0, none⟩ = false ∧ wr.frozen? ⟨B4, 1, none⟩ = false ∧
    wr.cell? ⟨B2, 0, none⟩ = some (.int .i64 0) ∧ wr.cell? ⟨B2, 1, none⟩ = some (.slice none 0 0) ∧ wr.frozen? ⟨B2, 0, none⟩ = false ∧ wr.frozen? ⟨B2, 1, none⟩ = false ∧
    IntsAt wr (some ⟨H, 0, none⟩) (ksAt l (pickP l c)) ∧ w.heap.size < H ∧ H ≠ B4 ∧ B2 = w.heap.size ∧ w.heap.size < B4 ∧ B4 < wr.heap.size ∧ Below w.heap.size w wr

theorem SBRel.no {l : List Int} {w : World} {B2 B4 c c' : Nat} {wr w6 : World} (h : SBRel l w B2 B4 c wr) (hb : Below wr.heap.size wr w6) (hp : pickP l c' = pickP l c) : SBRel l w B2 B4 c' w6 := by
  obtain ⟨H, m, HM, h1, h2, h3, h4, h5, h6, h7, h8, h9, h10, h11, rfl, h13, h14, h15⟩ := h
  have hz := h15.size
  have hw : w.heap.size < wr.heap.size := by omega
  refine ⟨H, m, by rw [hp]; exact HM, ?_, (hb.cell (p := ⟨B4, 1, none⟩) h14).trans h2, (hb.frozen (p := ⟨B4, 0, none⟩) h14).trans h3, (hb.frozen (p := ⟨B4, 1, none⟩) h14).trans h4, (hb.cell (p := ⟨w.heap.size, 0, none⟩) hw).trans h5, (hb.cell (p := ⟨w.heap.size, 1, none⟩) hw).trans h6, (hb.frozen (p := ⟨w.heap.size, 0, none⟩) hw).trans h7, (hb.frozen (p := ⟨w.heap.size, 1, none⟩) hw).trans h8,
    by rw [hp]; exact h9.below hb, h10, h11, rfl, h13, Nat.lt_of_lt_of_le h14 hb.size, h15.trans (hb.mono hz)⟩
  rw [hp]; exact (hb.cell (p := ⟨B4, 0, none⟩) h14).trans h1

end Go.Proofs.YtefbakhhlonafaaGreat
end

section
namespace Go.Proofs.YtefbakhhlonafaaGreat
open Go.RowKit Go.Proofs Go.Proofs.PipeM Go.Proofs.PipeA

theorem totalN_ge (l : List Int) (k : Nat) : l.length ≤ totalN l k := by
  induction l with
  | nil => simp
  | cons n l ih =>
    have := costN_pos n k
    simp [totalN] at ih ⊢
    omega

theorem bodyLen_ge (size : Nat) (ks l : List Int) : ∀ n, n * size ≤ l.length → n * (5 + size) ≤ bodyLen size ks l n
  | 0, _ => by simp
  | n + 1, h => by
    have h0 : n * size ≤ l.length := by rw [Nat.add_mul, Nat.one_mul] at h; omega
    have ih := bodyLen_ge size ks l n h0
    show _ ≤ bodyLen size ks l n + partLen size ks l n
    have h1 := totalN_ge (partNo size l n) (ks.getD n 0).toNat
    rw [partNo_length h] at h1
    unfold partLen
    rw [Nat.add_mul, Nat.one_mul]
    omega

/-- A list that may be has at least so many bits. -/
theorem slide_ge {l ks : List Int} {P : Int} (h : slideOk l P ks = true) : 2 + 5 * ks.length + l.length ≤ slideLen l P ks := by
  obtain ⟨p, hP, h3, hk1, hk8, hk0, hl1, hl2, hs1, hs2, hsp, hks, hin⟩ := slide_parts h
  rw [slide_len h]
  have := bodyLen_ge (l.length / ks.length) ks l ks.length (by rw [Nat.mul_comm]; exact Nat.le_of_eq hsp.symm)
  rw [Nat.mul_add, Nat.mul_comm ks.length (l.length / ks.length), ← hsp] at this
  omega

end Go.Proofs.YtefbakhhlonafaaGreat
end

section
namespace Go.Proofs.YtefbakhhlonafaaGreat
open Go.RowKit Go.Proofs Go.Proofs.PipeM Go.Proofs.PipeA
set_option maxRecDepth 100000

end Go.Proofs.YtefbakhhlonafaaGreat
end

section
namespace Go.Proofs.YtefbakhhlonafaaGreat
open Go.RowKit Go.Proofs Go.Proofs.PipeM Go.Proofs.PipeA
set_option maxRecDepth 100000

def intsOf (l : List Int) : List Value := l.map fun n => Value.int .i64 n
theorem intsOf_snoc (l : List Int) (n : Int) : intsOf (l ++ [n]) = intsOf l ++ [.int .i64 n] := by simp [intsOf]
theorem ints_own {w : World} {base g cap : Nat} {l : List Int} (h : w.ownsRow base 3 1 (.slice (some ⟨g, 0, none⟩) l.length cap) l.length (intsOf l)) : IntsAt w (some ⟨g, 0, none⟩) l := by
  intro j hj
  refine ⟨g, 0, rfl, ((own_block_lt h) g rfl).2, ?_⟩
  rw [Nat.zero_add, h.cellAt j (by simpa [intsOf] using hj)]
  simp [intsOf]
theorem ints_own_any {w : World} {base : Nat} {ao : Option Addr} {cap : Nat} {l : List Int} (h : w.ownsRow base 3 1 (.slice ao l.length cap) l.length (intsOf l)) : IntsAt w ao l := by
  rcases h.2 with ⟨h1, h2⟩ | ⟨g, cap', cur, h1, _⟩
  · have : l = [] := List.eq_nil_of_length_eq_zero h2
    subst this
    intro j hj; simp at hj
  · simp only [Value.slice.injEq] at h1
    obtain ⟨rfl, _, rfl⟩ := h1
    exact ints_own h
theorem own_cap {w : World} {base : Nat} {ao : Option Addr} {cap n : Nat} {l : List Value} (h : w.ownsRow base 3 1 (.slice ao n cap) n l) : n ≤ cap := by
  rcases h.2 with ⟨h1, h2⟩ | ⟨g, cap', cur, h1, _, _, h3, _⟩
  · omega
  · simp only [Value.slice.injEq] at h1
    obtain ⟨_, _, rfl⟩ := h1
    exact h3

end Go.Proofs.YtefbakhhlonafaaGreat
end

section
namespace Go.Proofs.YtefbakhhlonafaaGreat
open Go.RowKit Go.Proofs Go.Proofs.PipeM Go.Proofs.PipeA

/-- Numbers that come next under one parameter; a part; parts of one length. -/
def RS.many (k : Int) : Nat → RS → RS × List Int
  | 0, s => (s, [])
  | n + 1, s => ((RS.many k n (s.rice k).1).1, (s.rice k).2 :: (RS.many k n (s.rice k).1).2)
theorem many_snoc (k : Int) : ∀ n s, RS.many k (n + 1) s = (((RS.many k n s).1.rice k).1, (RS.many k n s).2 ++ [((RS.many k n s).1.rice k).2])
  | 0, s => rfl
  | n + 1, s => by
    rw [RS.many, many_snoc k n (s.rice k).1]
    rfl
theorem many_length (k : Int) : ∀ n s, (RS.many k n s).2.length = n
  | 0, _ => rfl
  | n + 1, s => by rw [RS.many]; simp [many_length k n]

def RS.partS (size : Nat) (s : RS) : RS × List Int := RS.many (s.takeV 5) size (s.takeS 5)
def RS.body (size : Nat) : Nat → RS → RS × List Int × List Int
  | 0, s => (s, [], [])
  | m + 1, s => if (s.partS size).1.err ≠ 0 then ((s.partS size).1, [], []) else ((RS.body size m (s.partS size).1).1, (s.partS size).2 ++ (RS.body size m (s.partS size).1).2.1, ((s.takeV 5 : Nat) : Int) :: (RS.body size m (s.partS size).1).2.2)

/-- What a list's taking leaves, and answers: the reader, the numbers, how many parts, and each one's parameter. -/
def RS.slideB (s : RS) (n p : Nat) : RS × List Int × Nat × List Int :=
  if (RS.body (n / 2 ^ p) (2 ^ p) s).1.err ≠ 0 then ((RS.body (n / 2 ^ p) (2 ^ p) s).1, [], 0, []) else ((RS.body (n / 2 ^ p) (2 ^ p) s).1, (RS.body (n / 2 ^ p) (2 ^ p) s).2.1, p, (RS.body (n / 2 ^ p) (2 ^ p) s).2.2)
def RS.slide (s : RS) (n : Int) : RS × List Int × Nat × List Int :=
  if n < 1 ∨ 1024 < n then (s.give 1, [], 0, [])
  else if n.toNat % 2 ^ s.takeV 2 ≠ 0 then ((s.takeS 2).give 2, [], 0, [])
  else (s.takeS 2).slideB n.toNat (s.takeV 2)

/-- What is put is taken. -/
theorem many_codes (k : Nat) (hk : k ≤ 24) (rest : List Bool) : ∀ c : List Int, (∀ n ∈ c, InR n) → RS.many k c.length ⟨c.flatMap (codeBits · k) ++ rest, 0⟩ = (⟨rest, 0⟩, c)
  | [], _ => rfl
  | n :: c, h => by
    have hn := h n (List.mem_cons_self ..)
    have e := rice_code (foldN n) k (foldN_lt hn) hk (c.flatMap (codeBits · k) ++ rest)
    rw [unfold_fold] at e
    rw [List.length_cons, RS.many, List.flatMap_cons, List.append_assoc]
    show (((RS.many k c.length (RS.rice ⟨codeZ (foldN n) k ++ (c.flatMap (codeBits · k) ++ rest), 0⟩ k).1).1), _) = _
    rw [show codeBits n k = codeZ (foldN n) k from rfl, e, many_codes k hk rest c (fun x hx => h x (List.mem_cons_of_mem _ hx))]

theorem low_num_k (k n : Nat) (h : k < 2 ^ n) : num (low k n) = k := by rw [num_low, Nat.mod_eq_of_lt h]

theorem part_codes (k : Nat) (hk : k ≤ 24) (rest : List Bool) (c : List Int) (h : ∀ n ∈ c, InR n) :
    RS.takeV ⟨(low k 5 ++ c.flatMap (codeBits · k)) ++ rest, 0⟩ 5 = k ∧ RS.partS c.length ⟨(low k 5 ++ c.flatMap (codeBits · k)) ++ rest, 0⟩ = (⟨rest, 0⟩, c) := by
  have h5 : k < 2 ^ 5 := Nat.lt_of_le_of_lt hk (by decide)
  obtain ⟨e1, e2⟩ := takeS_app (low k 5) (c.flatMap (codeBits · k) ++ rest) 5 (by rw [low_length]; rfl) (by rw [low_length]; decide) 0
  rw [low_num_k k 5 h5] at e2
  rw [List.append_assoc]
  refine ⟨e2, ?_⟩
  unfold RS.partS
  rw [e1, e2, many_codes k hk rest c h]

theorem body_codes (size : Nat) (rest : List Bool) : ∀ ks l : List Int, (∀ k ∈ ks, 0 ≤ k ∧ k ≤ 24) → (∀ n ∈ l, InR n) → l.length = size * ks.length →
    RS.body size ks.length ⟨bodyBits size ks l ++ rest, 0⟩ = (⟨rest, 0⟩, l, ks)
  | [], l, _, _, hl => by
    have : l = [] := List.eq_nil_of_length_eq_zero (by simpa using hl)
    subst this
    rfl
  | k :: ks, l, hk, hr, hl => by
    have hk0 := hk k (List.mem_cons_self ..)
    obtain ⟨kn, rfl⟩ := Int.eq_ofNat_of_zero_le hk0.1
    rw [List.length_cons, Nat.mul_add, Nat.mul_one] at hl
    have htl : (l.take size).length = size := by rw [List.length_take]; omega
    have hdl : (l.drop size).length = size * ks.length := by rw [List.length_drop]; omega
    have hrt : ∀ n ∈ l.take size, InR n := fun n hn => hr n (List.mem_of_mem_take hn)
    have hb : bodyBits size ((kn : Int) :: ks) l ++ rest = (low kn 5 ++ (l.take size).flatMap (codeBits · kn)) ++ (bodyBits size ks (l.drop size) ++ rest) := by
      rw [bodyBits, partBits, flat_code (kn : Int) hk0 (l.take size) hrt, Int.toNat_natCast, List.append_assoc]
    obtain ⟨e1, e2⟩ := part_codes kn (by omega) (bodyBits size ks (l.drop size) ++ rest) (l.take size) hrt
    rw [htl] at e2
    have ih := body_codes size rest ks (l.drop size) (fun x hx => hk x (List.mem_cons_of_mem _ hx)) (fun x hx => hr x (List.mem_of_mem_drop hx)) hdl
    rw [List.length_cons, hb, RS.body, e2, if_neg (by simp), e1, ih]
    simp

/-- A list's bits are taken as that list, in its parts. -/
theorem slide_taken {l ks : List Int} {P : Int} (h : slideOk l P ks = true) (rest : List Bool) : RS.slide ⟨slideBits l P ks ++ rest, 0⟩ l.length = (⟨rest, 0⟩, l, P.toNat, ks) := by
  obtain ⟨p, hP, h3, hk1, hk8, hk0, hl1, hl2, hs1, hs2, hsp, hks, hin⟩ := slide_parts h
  subst hP
  have hsb : slideBits l (p : Int) ks = low p 2 ++ bodyBits (l.length / ks.length) ks l := by unfold slideBits listBits; rw [if_pos h]; simp
  obtain ⟨e1, e2⟩ := takeS_app (low p 2) (bodyBits (l.length / ks.length) ks l ++ rest) 2 (by rw [low_length]; rfl) (by rw [low_length]; decide) 0
  rw [low_num_k p 2 (by have : p < 4 := by omega
                        simpa using this)] at e2
  have eb := body_codes (l.length / ks.length) rest ks l hks hin hsp
  rw [hk1] at eb
  unfold RS.slide
  rw [if_neg (by omega), hsb, List.append_assoc, e1, e2, Int.toNat_natCast, hk1, if_neg (by
    have : l.length % 2 ^ p = 0 := by rw [← hk1]; conv => lhs; rw [hsp]
                                      exact Nat.mul_mod_left _ _
    omega)]
  unfold RS.slideB
  rw [eb, if_neg (by simp), Int.toNat_natCast]
end Go.Proofs.YtefbakhhlonafaaGreat
end
