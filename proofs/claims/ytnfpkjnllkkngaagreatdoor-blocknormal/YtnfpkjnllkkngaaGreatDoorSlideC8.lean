import Derived.Test.YtnfpkjnllkkngaaGreatDoorSlideC7

namespace Go.Proofs.YtnfpkjnllkkngaaGreatDoor
open Go.RowKit Go.Shelf Go.Proofs Go.Proofs.PipeM Go.Proofs.PipeA
set_option maxRecDepth 100000

/-- How many bits a list has in so many parts, each with its best parameter; the best of the first powers; the greatest power. -/
def lenAt (l : List Int) (p : Nat) : Nat := 2 + bodyLen (l.length / 2 ^ p) (bestKs (l.length / 2 ^ p) l (2 ^ p)) l (2 ^ p)
def ksAt (l : List Int) (p : Nat) : List Int := bestKs (l.length / 2 ^ p) l (2 ^ p)
def pickP (l : List Int) : Nat → Nat
  | 0 => 0
  | k + 1 => if lenAt l (k + 1) < lenAt l (pickP l k) then k + 1 else pickP l k
def topP (n : Nat) : Nat := if n % 8 = 0 then 3 else if n % 4 = 0 then 2 else if n % 2 = 0 then 1 else 0
theorem pickP_le (l : List Int) : ∀ k, pickP l k ≤ k
  | 0 => Nat.le_refl _
  | k + 1 => by unfold pickP; have := pickP_le l k; split <;> omega
theorem topP_le (n : Nat) : topP n ≤ 3 := by unfold topP; split <;> (try split) <;> (try split) <;> omega
theorem topP_pow (n c : Nat) (h : c ≤ topP n) : n % 2 ^ c = 0 ∧ c ≤ 3 := by
  have h3 := topP_le n
  refine ⟨?_, by omega⟩
  have hc : c = 0 ∨ c = 1 ∨ c = 2 ∨ c = 3 := by omega
  unfold topP at h
  rcases hc with rfl | rfl | rfl | rfl
  · simp [Nat.mod_one]
  · simp only [Nat.reducePow]; split at h <;> (try split at h) <;> (try split at h) <;> omega
  · simp only [Nat.reducePow]; split at h <;> (try split at h) <;> (try split at h) <;> omega
  · simp only [Nat.reducePow]; split at h <;> (try split at h) <;> (try split at h) <;> omega
theorem topP_next (n : Nat) : powOk n ((topP n + 1 : Nat) : Int) = false := by
  unfold powOk
  refine decide_eq_false ?_
  rintro ⟨_, h1, h2⟩
  rw [Int.toNat_natCast] at h2
  unfold topP at h1 h2
  split at h1
  · omega
  · rename_i a
    rw [if_neg a] at h2
    split at h1
    · rename_i b
      rw [if_pos b] at h2
      simp only [Nat.reduceAdd, Nat.reducePow] at h2
      omega
    · rename_i b
      rw [if_neg b] at h2
      split at h1
      · rename_i c
        rw [if_pos c] at h2
        simp only [Nat.reduceAdd, Nat.reducePow] at h2
        omega
      · rename_i c
        rw [if_neg c] at h2
        simp only [Nat.reduceAdd, Nat.reducePow] at h2
        omega
theorem topP_ok (n c : Nat) (h : c ≤ topP n) : powOk n (c : Int) = true := by
  obtain ⟨h1, h2⟩ := topP_pow n c h
  unfold powOk
  exact decide_eq_true ⟨by omega, by omega, by rw [Int.toNat_natCast]; exact h1⟩

def bestP (l : List Int) : Nat := pickP l (topP l.length)

/-- What Best answers of a list that may be. -/
def SBestIs (l : List Int) (w : World) (e : Ending) (w' : World) : Prop :=
  ∃ H, e = .returned (.tuple #[.agg #[.int .i64 (bestP l : Nat), .slice (some ⟨H, 0, none⟩) (2 ^ bestP l) (2 ^ bestP l)], .int .i64 (lenAt l (bestP l) : Nat)]) ∧ IntsAt w' (some ⟨H, 0, none⟩) (ksAt l (bestP l)) ∧ w.heap.size ≤ H ∧ Below w.heap.size w w'

def PowIs (l : List Int) (p : Nat) (w : World) (e : Ending) (w' : World) : Prop :=
  ∃ H m, Hid (m = 2 ^ p) ∧ e = .returned (.tuple #[.agg #[.int .i64 (p : Nat), .slice (some ⟨H, 0, none⟩) m m], .int .i64 (lenAt l p : Nat)]) ∧ IntsAt w' (some ⟨H, 0, none⟩) (ksAt l p) ∧ w.heap.size ≤ H ∧ Below w.heap.size w w'

theorem cBestP (lo : Option Addr) (lcap : Nat) (l : List Int) (p : Nat) (w : World) (hp : p ≤ topP l.length) (hl1 : 1 ≤ l.length) (hl : l.length ≤ 1024) (hcap : l.length ≤ lcap) (hi : IntsAt w lo l) (hr : ∀ n ∈ l, InR n) :
    Calls Tryz.prog 48 #[.slice lo l.length lcap, .int .i64 p] w (PowIs l p w) := by
  obtain ⟨h1, h2⟩ := topP_pow l.length p hp
  have hd := div_parts h1
  have hs : 1 ≤ l.length / 2 ^ p := by
    rcases Nat.eq_zero_or_pos (l.length / 2 ^ p) with h | h
    · rw [h] at hd; omega
    · exact h
  refine (cBestOf lo lcap l p (l.length / 2 ^ p) (2 ^ p) w h2 rfl hd hs hl hcap hi hr).mono ?_
  rintro e w' ⟨H, he, h3, h4, h5⟩
  exact ⟨H, 2 ^ p, rfl, he, h3, h4, h5⟩

/-- Between two rounds. -/
def SBRel (l : List Int) (w : World) (B2 B4 c : Nat) (wr : World) : Prop :=
  ∃ H m, Hid (m = 2 ^ pickP l c) ∧ wr.cell? ⟨B4, 0, none⟩ = some (.int .i64 (pickP l c : Nat)) ∧ wr.cell? ⟨B4, 1, none⟩ = some (.slice (some ⟨H, 0, none⟩) m m) ∧ wr.frozen? ⟨B4, 0, none⟩ = false ∧ wr.frozen? ⟨B4, 1, none⟩ = false ∧
    wr.cell? ⟨B2, 0, none⟩ = some (.int .i64 0) ∧ wr.cell? ⟨B2, 1, none⟩ = some (.slice none 0 0) ∧ wr.frozen? ⟨B2, 0, none⟩ = false ∧ wr.frozen? ⟨B2, 1, none⟩ = false ∧
    IntsAt wr (some ⟨H, 0, none⟩) (ksAt l (pickP l c)) ∧ w.heap.size < H ∧ H ≠ B4 ∧ B2 = w.heap.size ∧ w.heap.size < B4 ∧ B4 < wr.heap.size ∧ Below w.heap.size w wr

theorem SBRel.no {l : List Int} {w : World} {B2 B4 c c' : Nat} {wr w6 : World} (h : SBRel l w B2 B4 c wr) (hb : Below wr.heap.size wr w6) (hp : pickP l c' = pickP l c) : SBRel l w B2 B4 c' w6 := by
  obtain ⟨H, m, HM, h1, h2, h3, h4, h5, h6, h7, h8, h9, h10, h11, rfl, h13, h14, h15⟩ := h
  have hz := h15.size
  have hw : w.heap.size < wr.heap.size := by omega
  refine ⟨H, m, by rw [hp]; exact HM, ?_, (hb.cell (p := ⟨B4, 1, none⟩) h14).trans h2, (hb.frozen (p := ⟨B4, 0, none⟩) h14).trans h3, (hb.frozen (p := ⟨B4, 1, none⟩) h14).trans h4, (hb.cell (p := ⟨w.heap.size, 0, none⟩) hw).trans h5, (hb.cell (p := ⟨w.heap.size, 1, none⟩) hw).trans h6, (hb.frozen (p := ⟨w.heap.size, 0, none⟩) hw).trans h7, (hb.frozen (p := ⟨w.heap.size, 1, none⟩) hw).trans h8,
    by rw [hp]; exact h9.below hb, h10, h11, rfl, h13, Nat.lt_of_lt_of_le h14 hb.size, h15.trans (hb.mono hz)⟩
  rw [hp]; exact (hb.cell (p := ⟨B4, 0, none⟩) h14).trans h1

theorem SBRel.yes {l : List Int} {w : World} {B2 B4 c c' : Nat} {wr w5 w6 : World} {H5 m5 : Nat} (h : SBRel l w B2 B4 c wr) (hb : Below wr.heap.size wr w5) (hb6 : Below w5.heap.size w5 w6) (hI : IntsAt w5 (some ⟨H5, 0, none⟩) (ksAt l c')) (hH : wr.heap.size ≤ H5) (hm : Hid (m5 = 2 ^ c')) (hp : pickP l c' = c') :
    SBRel l w B2 B4 c' ((w6.setCell ⟨B4, 0, none⟩ (.int .i64 (c' : Nat))).setCell ⟨B4, 1, none⟩ (.slice (some ⟨H5, 0, none⟩) m5 m5)) := by
  obtain ⟨H, m, HM, h1, h2, h3, h4, h5, h6, h7, h8, h9, h10, h11, rfl, h13, h14, h15⟩ := h
  have hz := h15.size
  have hw : w.heap.size < wr.heap.size := by omega
  have hbb : Below wr.heap.size wr w6 := hb.trans (hb6.mono hb.size)
  have j0 := (hbb.cell (p := ⟨B4, 0, none⟩) h14).trans h1
  have j1 := (hbb.cell (p := ⟨B4, 1, none⟩) h14).trans h2
  have kk : Keeps [B4] w6 ((w6.setCell ⟨B4, 0, none⟩ (.int .i64 (c' : Nat))).setCell ⟨B4, 1, none⟩ (.slice (some ⟨H5, 0, none⟩) m5 m5)) := (keeps_setCell w6 B4 0 _).trans (keeps_setCell _ B4 1 _)
  have hw6 : w.heap.size < w6.heap.size := Nat.lt_of_lt_of_le hw hbb.size
  have hn : w.heap.size ∉ [B4] := by simp; omega
  refine ⟨H5, m5, by rw [hp]; exact hm, ?_, ?_, ?_, ?_, ?_, ?_, ?_, ?_, ?_, by omega, by omega, rfl, h13, ?_, ?_⟩
  · rw [hp]; exact (World.cell?_setCell_other _ _ _ _ (by simp)).trans (World.cell?_setCell_same' _ _ _ (by rw [j0]; rfl))
  · exact World.cell?_setCell_same' _ _ _ (by rw [World.cell?_setCell_other _ _ _ _ (by simp), j1]; rfl)
  · rw [World.frozen?_setCell, World.frozen?_setCell]; exact (hbb.frozen (p := ⟨B4, 0, none⟩) h14).trans h3
  · rw [World.frozen?_setCell, World.frozen?_setCell]; exact (hbb.frozen (p := ⟨B4, 1, none⟩) h14).trans h4
  · exact (kk.cell (p := ⟨w.heap.size, 0, none⟩) hw6 hn).trans ((hbb.cell (p := ⟨w.heap.size, 0, none⟩) hw).trans h5)
  · exact (kk.cell (p := ⟨w.heap.size, 1, none⟩) hw6 hn).trans ((hbb.cell (p := ⟨w.heap.size, 1, none⟩) hw).trans h6)
  · exact (kk.frozen (p := ⟨w.heap.size, 0, none⟩) hw6 hn).trans ((hbb.frozen (p := ⟨w.heap.size, 0, none⟩) hw).trans h7)
  · exact (kk.frozen (p := ⟨w.heap.size, 1, none⟩) hw6 hn).trans ((hbb.frozen (p := ⟨w.heap.size, 1, none⟩) hw).trans h8)
  · rw [hp]; exact (hI.below hb6).keeps kk (by intro g' off' hh; cases hh; simp; omega)
  · have := kk.size; have := hbb.size; omega
  · exact (h15.trans (hbb.mono hz)).trans (kk.below (Nat.le_of_lt hw6) (by simp; omega))

set_option maxHeartbeats 1600000 in
theorem cSBest_yes (lo : Option Addr) (lcap : Nat) (l : List Int) (w : World) (hcap : l.length ≤ lcap) (hi : IntsAt w lo l) (h : listOk l = true) :
    Calls Tryz.prog 19 #[.slice lo l.length lcap] w (SBestIs l w) := by
  have hl1 : 1 ≤ l.length ∧ l.length ≤ 1024 := by unfold listOk at h; simp only [Bool.and_eq_true, decide_eq_true_eq] at h; exact h.2
  have hr : ∀ n ∈ l, InR n := by
    unfold listOk at h; simp only [Bool.and_eq_true] at h
    intro n hn
    have h8 : nOk n = true := List.all_eq_true.1 h.1 n hn
    unfold nOk at h8
    have h9 := of_decide_eq_true h8
    exact h9
  have HL := fun W (hb : Below w.heap.size w W) => Lib.hid (cIsList lo lcap l W (by omega) (hi.below hb))
  rw [h] at HL
  have HB := fun W p hp (hb : Below w.heap.size w W) => Lib.hid (cBestP lo lcap l p W hp hl1.1 hl1.2 hcap (hi.below hb) hr)
  have HP := fun c W => Lib.hid (cIsPow l.length (c : Int) W (by omega))
  have HT := Lib.hid (topP_ok l.length)
  have HN := Lib.hid (topP_next l.length)
  obtain ⟨top, htop⟩ : ∃ top, top = topP l.length := ⟨_, rfl⟩
  have htop3 : top ≤ 3 := by rw [htop]; exact topP_le _
  have HSB : Hid (bestP l = pickP l top) := by show _ = _; unfold bestP; rw [htop]
  rw [← htop] at HB HT HN
  obtain ⟨len, hlen⟩ : ∃ len, len = l.length := ⟨_, rfl⟩
  rw [← hlen] at hl1 hcap HL HB HP HT HN ⊢
  clear hlen htop h hi hr
  go_enter Tryz.func19, Tryz.ntmps19
  go_wp2_with fail
  refine (HL _ (box_below w _)).out.mono ?_
  rintro e w1 ⟨rfl, hb1⟩
  have HB1 := Lib.hid ((box_below w _).trans (hb1.mono (box_below w _).size))
  have r0 : w1.cell? ⟨w.heap.size, 0, none⟩ = some (.int .i64 0) := (hb1.cell (p := ⟨w.heap.size, 0, none⟩) (by simp)).trans (by simp)
  have r1 : w1.cell? ⟨w.heap.size, 1, none⟩ = some (.slice none 0 0) := (hb1.cell (p := ⟨w.heap.size, 1, none⟩) (by simp)).trans (by simp)
  have r2 : w1.frozen? ⟨w.heap.size, 0, none⟩ = false := (hb1.frozen (p := ⟨w.heap.size, 0, none⟩) (by simp)).trans (by simp)
  have r3 : w1.frozen? ⟨w.heap.size, 1, none⟩ = false := (hb1.frozen (p := ⟨w.heap.size, 1, none⟩) (by simp)).trans (by simp)
  have hz1 : w.heap.size < w1.heap.size := by have := hb1.size; simp at this; omega
  have H0 := HB w1 0 (by omega) HB1.out
  clear hb1 HL
  go_wp2_with fail
  refine H0.out.mono ?_
  rintro e w2 ⟨H, m, HM, rfl, hI, hH, hb2⟩
  have hz2 := hb2.size
  have HREL : Hid (SBRel l w w.heap.size w2.heap.size 0 (w2.alloc (.cells #[.int .i64 ((0 : Nat) : Int), .slice (some ⟨H, 0, none⟩) m m] 54))) := by
    have hn := World.alloc_heap_new w2 (.cells #[.int .i64 ((0 : Nat) : Int), .slice (some ⟨H, 0, none⟩) m m] 54)
    have hbb := box_below w2 (.cells #[.int .i64 ((0 : Nat) : Int), .slice (some ⟨H, 0, none⟩) m m] 54)
    have hb3 : Below w1.heap.size w1 (w2.alloc (.cells #[.int .i64 ((0 : Nat) : Int), .slice (some ⟨H, 0, none⟩) m m] 54)) := hb2.trans (hbb.mono hz2)
    have hH2 : H < w2.heap.size := by
      have h1 : 0 < (ksAt l 0).length := by unfold ksAt; rw [bestKs_length]; exact Nat.two_pow_pos 0
      obtain ⟨g', off', h2, h3, _⟩ := hI 0 h1
      cases h2; exact h3
    exact ⟨H, m, HM, cell_of_heap hn 0, cell_of_heap hn 1, frozen_of_heap hn 0, frozen_of_heap hn 1, (hb3.cell (p := ⟨w.heap.size, 0, none⟩) hz1).trans r0, (hb3.cell (p := ⟨w.heap.size, 1, none⟩) hz1).trans r1, (hb3.frozen (p := ⟨w.heap.size, 0, none⟩) hz1).trans r2, (hb3.frozen (p := ⟨w.heap.size, 1, none⟩) hz1).trans r3,
      hI.below hbb, by omega, by omega, rfl, by omega, by simp, HB1.out.trans (hb3.mono HB1.out.size)⟩
  obtain ⟨f0, hf0⟩ : ∃ f0, f0 = lenAt l 0 := ⟨_, rfl⟩
  rw [← hf0]
  have HF0 := Lib.hid hf0
  clear hI hb2 H0 hf0 r0 r1 r2 r3 HB1 HM
  go_wp2_with fail
  generalize w2.alloc (.cells #[.int .i64 ((0 : Nat) : Int), .slice (some ⟨H, 0, none⟩) m m] 54) = w3 at HREL ⊢
  generalize w2.heap.size = B4 at HREL ⊢
  generalize hBB : w.heap.size = B2 at HREL ⊢
  have HBB := Lib.hid hBB
  clear hBB hz1 hz2 hH
  go_loopg [5, 6] top (fun gk f pw wr => ∃ c k fc : Nat, c + 1 = k ∧ c ≤ top ∧ gk + c = top ∧ f = .int .i64 fc ∧ pw = .int .i64 k ∧ Hid (fc = lenAt l (pickP l c)) ∧ Hid (SBRel l w B2 B4 c wr))
  case atStart => exact ⟨0, 1, f0, rfl, Nat.zero_le _, by omega, rfl, rfl, HF0, HREL⟩
  case round =>
    obtain ⟨c, k, fc, hck, hct, hgk, rfl, rfl, HFC, HR⟩ := hrel
    have HGK := Lib.hid hgk
    have HCK := Lib.hid hck
    have hk1 : 1 ≤ k := by omega
    have hk4 : k ≤ 4 := by omega
    clear hgk HREL
    by_cases hlt : c < top
    · have HPk := HP (k : Int) wr
      rw [HT.out k (by omega)] at HPk
      have hbw : Below w.heap.size w wr := by obtain ⟨H, m, HM, h1, h2, h3, h4, h5, h6, h7, h8, h9, h10, h11, h12, h13, h14, h15⟩ := HR.out; exact h15
      have HBk := HB wr k (by omega) hbw
      clear hck hbw
      go_wp2_with fail
      refine HPk.out.mono ?_
      rintro e w4 ⟨rfl, rfl⟩
      go_wp2_with fail
      refine HBk.out.mono ?_
      rintro e w5 ⟨H5, m5, HM5, rfl, hI5, hH5, hb5⟩
      have HB5 := Lib.hid hb5
      have HI5 := Lib.hid hI5
      have HH5 := Lib.hid hH5
      have HBX := fun o => Lib.hid (box_below w5 o)
      have j0 : ∀ o, (w5.alloc o).cell? ⟨B4, 0, none⟩ = some (.int .i64 (pickP l c : Nat)) := fun o => by
        obtain ⟨H, m, HM, h1, h2, h3, h4, h5, h6, h7, h8, h9, h10, h11, h12, h13, h14, h15⟩ := HR.out
        exact cellA o ((hb5.cell (p := ⟨B4, 0, none⟩) h14).trans h1)
      obtain ⟨Hc, mc, j1⟩ : ∃ Hc mc, ∀ o, (w5.alloc o).cell? ⟨B4, 1, none⟩ = some (.slice (some ⟨Hc, 0, none⟩) mc mc) := by
        obtain ⟨H, m, HM, h1, h2, h3, h4, h5, h6, h7, h8, h9, h10, h11, h12, h13, h14, h15⟩ := HR.out
        exact ⟨H, m, fun o => cellA o ((hb5.cell (p := ⟨B4, 1, none⟩) h14).trans h2)⟩
      have j2 : ∀ o, (w5.alloc o).frozen? ⟨B4, 0, none⟩ = false ∧ (w5.alloc o).frozen? ⟨B4, 1, none⟩ = false := fun o => by
        obtain ⟨H, m, HM, h1, h2, h3, h4, h5, h6, h7, h8, h9, h10, h11, h12, h13, h14, h15⟩ := HR.out
        have hz := hb5.size
        exact ⟨((HBX o).out.frozen (p := ⟨B4, 0, none⟩) (by show B4 < _; omega)).trans ((hb5.frozen (p := ⟨B4, 0, none⟩) h14).trans h3), ((HBX o).out.frozen (p := ⟨B4, 1, none⟩) (by show B4 < _; omega)).trans ((hb5.frozen (p := ⟨B4, 1, none⟩) h14).trans h4)⟩
      have hPK : pickP l k = if lenAt l k < lenAt l (pickP l c) then k else pickP l c := by rw [← HCK.out]; rfl
      rw [← HFC.out] at hPK
      obtain ⟨fk, hfk⟩ : ∃ fk, fk = lenAt l k := ⟨_, rfl⟩
      rw [← hfk] at hPK ⊢
      have HFK := Lib.hid hfk
      have j0' := j0 (.cells #[.int .i64 (k : Int), .slice (some ⟨H5, 0, none⟩) m5 m5] 54)
      have j1' := j1 (.cells #[.int .i64 (k : Int), .slice (some ⟨H5, 0, none⟩) m5 m5] 54)
      have j2' := (j2 (.cells #[.int .i64 (k : Int), .slice (some ⟨H5, 0, none⟩) m5 m5] 54)).1
      have j3' := (j2 (.cells #[.int .i64 (k : Int), .slice (some ⟨H5, 0, none⟩) m5 m5] 54)).2
      clear hb5 hI5 hH5 hfk j0 j1 j2
      by_cases hcmp : fk < fc
      · rw [if_pos hcmp] at hPK
        have tc : decide (fk < fc) = true := decide_eq_true hcmp
        have HPK := Lib.hid hPK
        clear hPK hcmp
        go_wp2_with fail
        go_roundg (gk - 1)
        case rel => exact ⟨k, k + 1, fk, rfl, by have := HCK.out; omega, by have := HGK.out; have := HCK.out; omega, rfl, by go_num, by rw [Hid, HPK.out]; exact HFK.out, HR.out.yes HB5.out (HBX _).out HI5.out HH5.out HM5 HPK.out⟩
        case measure => have := HGK.out; omega
      · rw [if_neg hcmp] at hPK
        have tc : decide (fk < fc) = false := decide_eq_false hcmp
        have HPK := Lib.hid hPK
        clear hPK hcmp
        go_wp2_with fail
        go_roundg (gk - 1)
        case rel => exact ⟨k, k + 1, fc, rfl, by have := HCK.out; omega, by have := HGK.out; have := HCK.out; omega, rfl, by go_num, by rw [Hid, HPK.out]; exact HFC.out, HR.out.no (HB5.out.trans ((HBX _).out.mono HB5.out.size)) HPK.out⟩
        case measure => have := HGK.out; omega
    · obtain rfl : c = top := by omega
      have HPk := HP (k : Int) wr
      rw [show (k : Int) = ((c + 1 : Nat) : Int) by omega, HN.out, show ((c + 1 : Nat) : Int) = (k : Int) by omega] at HPk
      obtain ⟨H, m, HM, h1, h2, h3, h4, h5, h6, h7, h8, h9, h10, h11, h12, h13, h14, h15⟩ := HR.out
      have H12 := Lib.hid h12
      clear hck h12
      go_wp2_with fail
      refine HPk.out.mono ?_
      rintro e w4 ⟨rfl, rfl⟩
      have h12 := H12.out
      have kk : Keeps [B2] wr ((wr.setCell ⟨B2, 0, none⟩ (.int .i64 (pickP l c : Nat))).setCell ⟨B2, 1, none⟩ (.slice (some ⟨H, 0, none⟩) m m)) := (keeps_setCell wr B2 0 _).trans (keeps_setCell _ B2 1 _)
      have y0 : ((wr.setCell ⟨B2, 0, none⟩ (.int .i64 (pickP l c : Nat))).setCell ⟨B2, 1, none⟩ (.slice (some ⟨H, 0, none⟩) m m)).cell? ⟨B2, 0, none⟩ = some (.int .i64 (pickP l c : Nat)) := (World.cell?_setCell_other _ _ _ _ (by simp)).trans (World.cell?_setCell_same' _ _ _ (by rw [h5]; rfl))
      have y1 : ((wr.setCell ⟨B2, 0, none⟩ (.int .i64 (pickP l c : Nat))).setCell ⟨B2, 1, none⟩ (.slice (some ⟨H, 0, none⟩) m m)).cell? ⟨B2, 1, none⟩ = some (.slice (some ⟨H, 0, none⟩) m m) := World.cell?_setCell_same' _ _ _ (by rw [World.cell?_setCell_other _ _ _ _ (by simp), h6]; rfl)
      have HF : Hid (SBestIs l w (.returned (.tuple #[.agg #[.int .i64 (pickP l c : Nat), .slice (some ⟨H, 0, none⟩) m m], .int .i64 (fc : Nat)])) ((wr.setCell ⟨B2, 0, none⟩ (.int .i64 (pickP l c : Nat))).setCell ⟨B2, 1, none⟩ (.slice (some ⟨H, 0, none⟩) m m))) := by
        refine ⟨H, by rw [HSB.out, HFC.out, HM.out], ?_, by omega, ?_⟩
        · rw [HSB.out]; exact h9.keeps kk (by intro g' off' hh; cases hh; simp; omega)
        · exact h15.trans (kk.below h15.size (by simp; omega))
      generalize pickP l c = pc at h1 y0 y1 HF
      clear h9 h15 HM kk HFC HR HSB h12 h10 h11 h13
      go_wp2_with fail

      refine bodyPost_ret (v := .tuple #[.agg #[.int .i64 (pc : Nat), .slice (some ⟨H, 0, none⟩) m m], .int .i64 (fc : Nat)]) ?res rfl ?_
      · simp [results, Tryz.results19, go_sem, y0, y1]
      · exact HF.out
end Go.Proofs.YtnfpkjnllkkngaaGreatDoor
