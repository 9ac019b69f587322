import Derived.Test.YtnfpkjnllkkngaaGreatDoorBlkF6
import Derived.Test.YtnfpkjnllkkngaaGreatDoorRef3g
import Derived.Deep.AppendSrc
import Derived.Test.YtnfpkjnllkkngaaGreatDoorBlkL1
import Derived.Test.YtnfpkjnllkkngaaGreatDoorBlkZT
import Derived.Test.YtnfpkjnllkkngaaGreatDoorFxFilF1
import Derived.Test.YtnfpkjnllkkngaaGreatDoorGxLagC4
import Derived.Test.YtnfpkjnllkkngaaGreatDoorGxLagF3
import Derived.Test.YtnfpkjnllkkngaaGreatDoorSlideC8
import Derived.Test.YtnfpkjnllkkngaaGreatDoorRef3h

section
namespace Go.Proofs.YtnfpkjnllkkngaaGreatDoor
open Go.RowKit Go.Shelf Go.Proofs Go.Proofs.PipeM Go.Proofs.PipeA
set_option maxRecDepth 100000

attribute [local go_sem] Oper.semAt_some

theorem KeysAt.keeps {W W' : World} {H m : Nat} {f : Nat → Int} {bs : List Nat} (h : KeysAt W H m f) (hk : Keeps bs W W') (hn : H ∉ bs) (hlt : H < W.heap.size) : KeysAt W' H m f :=
  fun j hj => ⟨(hk.cell (p := ⟨H, j, none⟩) hlt hn).trans (h j hj).1, (hk.frozen (p := ⟨H, j, none⟩) hlt hn).trans (h j hj).2⟩
theorem KeysAt.set {W : World} {H m x : Nat} {f : Nat → Int} (h : KeysAt W H m f) (hx : x < m) (v : Int) : KeysAt (W.setCell ⟨H, x, none⟩ (.int .i64 v)) H m (fun j => if j = x then v else f j) := by
  intro j hj
  rw [World.frozen?_setCell]
  by_cases e : j = x
  · subst e
    rw [World.cell?_setCell_same' _ _ _ (by rw [(h j hj).1]; rfl)]
    exact ⟨by simp, (h j hj).2⟩
  · rw [World.cell?_setCell_other _ _ _ _ (by intro e2; cases e2; exact e rfl)]
    simp only [if_neg e]
    exact h j hj
theorem KeysAt.congr {W : World} {H m : Nat} {f g : Nat → Int} (h : KeysAt W H m f) (he : ∀ j, j < m → g j = f j) : KeysAt W H m g :=
  fun j hj => by rw [he j hj]; exact h j hj
end Go.Proofs.YtnfpkjnllkkngaaGreatDoor
end

section
namespace Go.Proofs.YtnfpkjnllkkngaaGreatDoor
open Go.RowKit Go.Proofs Go.Proofs.PipeM Go.Proofs.PipeA
set_option maxRecDepth 100000

/-- append, where it is known what it makes. -/
theorem wpList_append_run {P : Program} {w : World} {ops : Array Oper} {rest : List Oper} {o : Oper} {a : Act} {Q : Exit → Act → World → Prop} (hgd : o.guard = none) (s x : Operand) (t : TypeId)
    (ho : o.op = .call { callee := .builtin .append, args := #[s, x], argTypes := #[t, t] }) (v y v' : Value) (w' : World) (hs : a.eval s = v) (hx : a.eval x = y)
    (hr : (Builtin.append_ #[t, t] o.type #[v, y]).run P w = .ok v' w') (h : wpList P ops Q rest (a.put o.dst v') w') : wpList P ops Q (o :: rest) a w := by
  refine wpList_plain hgd fun _ hK => ?_
  unfold Oper.wp execOp
  simp only [ho, resolve, invoke, builtin, Sem.run_bind, Sem.run_pure, Result.andThen_ok, List.map_toArray, List.map_cons, List.map_nil, hs, hx, hr]
  exact hK _ _ h

end Go.Proofs.YtnfpkjnllkkngaaGreatDoor
end

section
namespace Go.Proofs.YtnfpkjnllkkngaaGreatDoor
end Go.Proofs.YtnfpkjnllkkngaaGreatDoor
end

section
namespace Go.Proofs.YtnfpkjnllkkngaaGreatDoor
open Go.RowKit Go.Proofs Go.Proofs.PipeM Go.Proofs.PipeA Go.Proofs.BlkM Go.Proofs.BlkB Go.Proofs.LatM Go.Proofs.FilM Go.Proofs.LagM
set_option maxRecDepth 100000

/-- Samples without their low bits; what is left of them; the residuals; the code of a Normal, and the Normal. -/
def lowS (s : Nat) (l : List Int) : List Int := l.map (· / 2 ^ s)
def divs (s : Nat) (l : List Int) : Bool := l.all (fun x => x % 2 ^ s == 0)
def rsdN (index : List Int) (s : Nat) (l : List Int) : List Int := res index (lowS s l)
def dataN (a g : Int) (index : List Int) (s : Nat) (l : List Int) : List Int := offL a.toNat g (rsdN index s l)
def codeN (l : List Int) (d : Int) (index : List Int) (a g sh : Int) : Int :=
  if chkB l d ≠ 0 then chkB l d
  else if !(shiftB d sh && goodL index && goodT a g && divs sh.toNat l) then 2
  else if codeT a g (rsdN index sh.toNat l) ≠ 0 then 9
  else if listOk (dataN a g index sh.toNat l) then 0 else 9
def normN (l : List Int) (index : List Int) (a g sh : Int) : Blk :=
  ⟨2, 0, sh, index, a, g, (bestP (dataN a g index sh.toNat l) : Nat), ksAt (dataN a g index sh.toNat l) (bestP (dataN a g index sh.toNat l)), dataN a g index sh.toNat l⟩

theorem lowS_length (s : Nat) (l : List Int) : (lowS s l).length = l.length := by simp [lowS]
theorem lowS_at {s : Nat} {l : List Int} {j : Nat} (h : j < l.length) : (lowS s l)[j]'(by rw [lowS_length]; exact h) = l.getD j 0 / 2 ^ s := by simp [lowS, List.getD, h]
theorem rsdN_length (index : List Int) (s : Nat) (l : List Int) : (rsdN index s l).length = l.length := by unfold rsdN; rw [res_length, lowS_length]
theorem dataN_length (a g : Int) (index : List Int) (s : Nat) (l : List Int) : (dataN a g index s l).length = l.length := by unfold dataN; rw [offL_length, rsdN_length]
theorem div_small {P x : Int} {s : Nat} (h : -P ≤ x ∧ x < P) : -P ≤ x / 2 ^ s ∧ x / 2 ^ s < P := by
  have hp : (1 : Int) ≤ 2 ^ s := by have : 0 < (2 : Int) ^ s := Int.pow_pos (by decide); omega
  have hp0 : (0 : Int) < 2 ^ s := by omega
  have h0 : 0 ≤ P := by omega
  constructor
  · rw [Int.le_ediv_iff_mul_le hp0]
    have : P * 1 ≤ P * 2 ^ s := Int.mul_le_mul_of_nonneg_left hp h0
    have e : -P * 2 ^ s = -(P * 2 ^ s) := Int.neg_mul _ _
    omega
  · rw [Int.ediv_lt_iff_lt_mul hp0]
    have : P * 1 ≤ P * 2 ^ s := Int.mul_le_mul_of_nonneg_left hp h0
    omega
theorem low_in {l : List Int} {P : Int} (s : Nat) (h : l.all (hasP P) = true) : ∀ x ∈ lowS s l, -P ≤ x ∧ x < P := by
  intro x hx
  unfold lowS at hx
  obtain ⟨y, hy, rfl⟩ := List.mem_map.1 hx
  exact div_small (of_decide_eq_true (List.all_eq_true.1 h y hy))
theorem low_isS {l : List Int} {m : Nat} (s : Nat) (h1 : 8 ≤ m) (h2 : m ≤ 26) (h : l.all (hasP (halfOf (m : Int))) = true) : (lowS s l).all isS = true := by
  have hb := hp_bound h1 h2
  rw [List.all_eq_true]
  intro x hx
  have := low_in s h x hx
  exact decide_eq_true (by omega)
theorem low_codeR {l index : List Int} {m : Nat} (s : Nat) (hg : goodL index = true) (h1 : 8 ≤ m) (h2 : m ≤ 26) (h : l.all (hasP (halfOf (m : Int))) = true) : codeR index (lowS s l) = 0 := by
  unfold codeR; rw [hg, low_isS s h1 h2 h]; rfl
theorem low_back {l : List Int} {s : Nat} (h : divs s l = true) : (lowS s l).map (· * 2 ^ s) = l := by
  unfold lowS
  rw [List.map_map]
  have : ∀ x ∈ l, ((· * 2 ^ s) ∘ (· / 2 ^ s)) x = x := fun x hx => by
    have h0 : (x % 2 ^ s == 0) = true := List.all_eq_true.1 h x hx
    have h1 : x % 2 ^ s = 0 := by simpa using h0
    show x / 2 ^ s * 2 ^ s = x
    exact Int.ediv_mul_cancel (Int.dvd_of_emod_eq_zero h1)
  conv => rhs; rw [← List.map_id l]
  exact List.map_congr_left (fun x hx => by rw [this x hx]; rfl)
theorem ok_inB {l : List Int} (h : listOk l = true) : l.all inB = true := by
  unfold listOk at h
  rw [Bool.and_eq_true] at h
  rw [List.all_eq_true]
  intro x hx
  have := of_decide_eq_true (List.all_eq_true.1 h.1 x hx)
  exact decide_eq_true (by omega)
/-- What makes a Normal. -/
theorem codeN_zero {l index : List Int} {d a g sh : Int} (h : codeN l d index a g sh = 0) : ∃ m s n : Nat, d = m ∧ 8 ≤ m ∧ m ≤ 26 ∧ sh = s ∧ s < m ∧ a = n ∧ n ≤ 255 ∧ 0 ≤ g ∧ g ≤ 15 ∧ (n = 0 → g = 0) ∧ 1 ≤ l.length ∧ l.length ≤ 1024 ∧ l.all (hasP (halfOf (m : Int))) = true ∧ goodL index = true ∧ goodT a g = true ∧ divs s l = true ∧ codeT a g (rsdN index s l) = 0 ∧ listOk (dataN a g index s l) = true := by
  unfold codeN at h
  by_cases hc : chkB l d = 0
  · rw [if_neg (by omega)] at h
    cases h1 : (shiftB d sh && goodL index && goodT a g && divs sh.toNat l) with
    | false => rw [h1, if_pos (by rfl)] at h; exact absurd h (by decide)
    | true =>
      rw [h1, if_neg (by simp)] at h
      by_cases hT : codeT a g (rsdN index sh.toNat l) = 0
      · rw [if_neg (by omega)] at h
        cases hL : listOk (dataN a g index sh.toNat l) with
        | false => rw [hL] at h; exact absurd h (by decide)
        | true =>
          simp only [Bool.and_eq_true] at h1
          obtain ⟨⟨⟨hs, hi⟩, hg⟩, hd⟩ := h1
          obtain ⟨n, hn, hn1, hg0, hg1, hz, _⟩ := goodT_of hg
          have hs' := of_decide_eq_true hs
          cases hsz : (sizeN (l.length : Int) && depthB d) with
          | false => unfold chkB at hc; rw [hsz, if_pos (by rfl)] at hc; exact absurd hc (by decide)
          | true =>
            have hsz' := hsz
            rw [Bool.and_eq_true] at hsz'
            obtain ⟨k, hk, hk1, hk2⟩ := sizeN_of hsz'.1
            obtain ⟨m, rfl, hm1, hm2⟩ := depthB_of hsz'.2
            have ha : l.all (hasP (halfOf (m : Int))) = true := by
              cases ha : l.all (hasP (halfOf (m : Int))) with
              | true => rfl
              | false => unfold chkB at hc; rw [hsz, ha] at hc; exact absurd hc (by decide)
            exact ⟨m, sh.toNat, n, rfl, hm1, hm2, by omega, by omega, hn, hn1, hg0, hg1, hz, by omega, by omega, ha, hi, hg, hd, hT, hL⟩
      · rw [if_pos hT] at h; exact absurd h (by decide)
  · rw [if_pos hc] at h; exact absurd h hc
/-- A Normal that was made is right, and gives its samples. -/
theorem normN_right {l index : List Int} {d a g sh : Int} (h : codeN l d index a g sh = 0) : codeB (normN l index a g sh) l.length d = 0 ∧ outB (normN l index a g sh) l.length = l := by
  obtain ⟨m, s, n, rfl, hm1, hm2, rfl, hs, rfl, hn, hg0, hg1, hz, hl1, hl2, ha, hi, hg, hd, hT, hL⟩ := codeN_zero h
  have hdl := dataN_length (n : Int) g index s l
  have hon : onL n g (dataN (n : Int) g index s l) = rsdN index s l := by unfold dataN; rw [Int.toNat_natCast]; exact on_off hz
  have hsl : smp index (rsdN index s l) l.length = lowS s l := by
    have := smp_back index (lowS s l)
    rw [lowS_length] at this
    exact this
  have hout : outB (normN l index n g s) l.length = l := by
    unfold outB lowB normN
    dsimp only
    rw [if_pos rfl, Int.toNat_natCast, Int.toNat_natCast, hon, rsdN_length, hsl]
    exact low_back hd
  have hsz : (sizeN (l.length : Int) && depthB (m : Int)) = true := by
    rw [Bool.and_eq_true]
    exact ⟨decide_eq_true (by omega), decide_eq_true (by omega)⟩
  have hsl2 := powAt_ok hL (bestP_le _)
  unfold slideOk at hsl2
  rw [Bool.and_eq_true, hdl] at hsl2
  have hform : formB (normN l index n g s) l.length m = 0 := by
    unfold formB
    rw [if_neg (by unfold wrongKind normN; simp), if_neg (by unfold wrongMore normN; simp), if_neg (by unfold wrongData normN; simp [hdl]), if_neg]
    unfold wrongNormal normN
    dsimp only
    rw [Int.toNat_natCast, hi, hg, hsl2.1, hL, decide_eq_false (show ¬ ((s : Int) < 0) by omega), decide_eq_false (show ¬ ((m : Int) ≤ (s : Int)) by omega)]
    simp
  have hwo : wrongOut (normN l index n g s) m = false := by
    have e1 : codeO (n : Int) g (dataN (n : Int) g index s l) = 0 := by
      have := codeO_off (a := n) hT (by
        have hb := ok_inB hL
        unfold dataN at hb
        rw [Int.toNat_natCast] at hb
        exact codeT_of hg hb)
      unfold dataN
      rw [Int.toNat_natCast]
      exact this
    have e2 : codeS index (rsdN index s l) (halfOf (m : Int) - 1) = 0 := by
      have hb := hp_bound hm1 hm2
      have hall : (lowS s l).all (inM (halfOf (m : Int) - 1)) = true := by
        rw [List.all_eq_true]
        intro x hx
        have := low_in s ha x hx
        exact decide_eq_true (by omega)
      unfold codeS
      rw [hi, show decide (0 ≤ halfOf (m : Int) - 1) = true from decide_eq_true (by omega), show decide (halfOf (m : Int) - 1 ≤ 67108864) = true from decide_eq_true (by omega)]
      rw [show (rsdN index s l).all isR = true from res_R hi (low_isS s hm1 hm2 ha), rsdN_length, hsl, hall]
      rfl
    unfold wrongOut normN
    dsimp only
    rw [Int.toNat_natCast, Int.toNat_natCast, hon, e1, e2]
    simp
  refine ⟨?_, hout⟩
  rw [codeB_all hsz hform hwo, show ((l.length : Int)).toNat = l.length from rfl, hout, if_pos ha]
end Go.Proofs.YtnfpkjnllkkngaaGreatDoor
end
