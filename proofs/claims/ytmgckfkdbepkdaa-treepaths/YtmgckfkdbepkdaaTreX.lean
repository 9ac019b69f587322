import Derived.Test.YtmgckfkdbepkdaaTreR2
namespace Go.Proofs.Ytmgckfkdbepkdaa
open Go.RowKit Go.Proofs Go.Proofs.PipeA Go.Proofs.TreM
set_option maxRecDepth 100000

/-- A letter. -/
def letterB (b : Bool) : List UInt8 := [if b then 49 else 48]
theorem cLetterOf (b : Bool) (w : World) :
    Calls Try.prog 55 #[.bool b] w fun e w' => e = .returned (.string (bs (letterB b))) ∧ w = w' := by
  cases b with
  | true =>
    go_enter Try.func55, Try.ntmps55
    go_wp2
    go_ret
    exact ⟨rfl, rfl⟩
  | false =>
    go_enter Try.func55, Try.ntmps55
    go_wp2
    go_ret
    exact ⟨rfl, rfl⟩

theorem IntsAt.keepsN {w w' : World} {b : Nat} {ao : Option Addr} {l : List Int} (h : IntsAt w ao l) (hk : Keeps [b] w w') (hn : ∀ a, 0 < l.length → ao = some a → a.block ≠ b) : IntsAt w' ao l := by
  cases l with
  | nil => exact IntsAt.nil' _ _
  | cons x r => exact h.keeps hk (fun g off hg => by simpa using hn _ (by simp) hg)
/-- What fits leaves, in memory. -/
structure FtAt (b m : Nat) (s : FtS) (ao : Option Addr) (cap : Nat) (w : World) : Prop where
  lt : b < w.heap.size
  c0 : w.cell? ⟨b, 0, none⟩ = some (.slice ao s.rest.length cap)
  c1 : w.cell? ⟨b, 1, none⟩ = some (.string (bs s.text))
  f0 : w.frozen? ⟨b, 0, none⟩ = false
  f1 : w.frozen? ⟨b, 1, none⟩ = false
  ints : IntsAt w ao s.rest
  cap : s.rest.length ≤ cap
  ne : ∀ a, 0 < s.rest.length → ao = some a → a.block ≠ b
  hr : s.rest.length ≤ 100000
  hm : s.text.length + m ≤ 1000
theorem FtAt.keeps {b m : Nat} {s : FtS} {ao : Option Addr} {cap : Nat} {w w' : World} (h : FtAt b m s ao cap w) (hk : Keeps [] w w') : FtAt b m s ao cap w' :=
  ⟨Nat.lt_of_lt_of_le h.lt hk.size, (hk.cell (p := ⟨b, 0, none⟩) h.lt (by simp)).trans h.c0, (hk.cell (p := ⟨b, 1, none⟩) h.lt (by simp)).trans h.c1,
   (hk.frozen (p := ⟨b, 0, none⟩) h.lt (by simp)).trans h.f0, (hk.frozen (p := ⟨b, 1, none⟩) h.lt (by simp)).trans h.f1, h.ints.keeps hk (by simp), h.cap, h.ne, h.hr, h.hm⟩
theorem FtAt.drew {b m : Nat} {s : FtS} {ao : Option Addr} {cap : Nat} {w : World} (h : FtAt b m s ao cap w) : FtAt b m s ao cap w.drew := h.keeps (keeps_drew_b w [])
/-- Its text grows. -/
theorem FtAt.tell {b m : Nat} {s : FtS} {ao : Option Addr} {cap : Nat} {w : World} (h : FtAt b (m + 1) s ao cap w) (t : List UInt8) (ht : t.length = 1) :
    FtAt b m ⟨s.rest, s.text ++ t⟩ ao cap (w.setCell ⟨b, 1, none⟩ (.string (bs (s.text ++ t)))) := by
  have hk := keeps_setCell w b 1 (.string (bs (s.text ++ t)))
  refine ⟨Nat.lt_of_lt_of_le h.lt hk.size, by simp [World.cell?_setCell_other, h.c0], World.cell?_setCell_same _ _ _ h.c1, by simp [h.f0], by simp [h.f1], h.ints.keepsN hk h.ne, h.cap, h.ne, h.hr, ?_⟩
  have := h.hm
  simp only [List.length_append]; omega

set_option maxHeartbeats 800000 in
theorem xFits (b m : Nat) (s : FtS) (ao : Option Addr) (cap n : Nat) (w : World) (h : FtAt b m s ao cap w) :
    Calls Try.prog 54 #[.pointer (some ⟨b, 0, none⟩), .int .i64 n] w fun e w' => e = .returned (.bool (fits s.rest n)) ∧ w = w' := by
  obtain ⟨rest, text⟩ := s
  have c0 := h.c0
  cases rest with
  | nil =>
    rw [show (FtS.mk [] text).rest.length = 0 from rfl] at c0
    clear h
    go_enter Try.func54, Try.ntmps54
    go_wp2
    go_ret
    exact ⟨rfl, rfl⟩
  | cons x r =>
    rw [show (FtS.mk (x :: r) text).rest.length = r.length + 1 from rfl] at c0
    obtain ⟨g, off, rfl, _, hcell⟩ := h.ints 0 (by simp)
    rw [show (FtS.mk (x :: r) text).rest[0] = x from rfl, Nat.add_zero] at hcell
    have hl : r.length ≤ 100000 := by have := h.hr; simp at this; omega
    obtain ⟨q, hq⟩ : ∃ q, q = r.length + 1 := ⟨_, rfl⟩
    have hq0 : 0 < q := by omega
    have hq1 : q ≤ 100001 := by omega
    rw [← hq] at c0
    have HT : Hid (fits (FtS.mk (x :: r) text).rest n = (x == (n : Int))) := rfl
    clear h hq hl
    cases ht : (x == (n : Int)) with
    | true =>
      rw [ht] at HT
      go_enter Try.func54, Try.ntmps54
      go_wp2
      go_ret
      exact ⟨by rw [HT.out]; rfl, rfl⟩
    | false =>
      rw [ht] at HT
      go_enter Try.func54, Try.ntmps54
      go_wp2
      go_ret
      exact ⟨by rw [HT.out]; rfl, rfl⟩

set_option maxHeartbeats 1600000 in
theorem xTwo (b m : Nat) (s : FtS) (ao : Option Addr) (cap n : Nat) (w : World) (h : FtAt b (m + 1) s ao cap w) :
    Calls Try.prog 39 #[.pointer (some ⟨b, 0, none⟩), .int .i64 n] w fun e w' => e = .returned (.bool (ftM.two s n).1) ∧ FtAt b m (ftM.two s n).2 ao cap w' ∧ Keeps [b] w w' := by
  have HF1 := Lib.hid (xFits b (m + 1) s ao cap n w h)
  have HL := fun W => Lib.hid (cLetterOf (!fits s.rest n) W)
  have HT := fun W h => Lib.hid (FtAt.tell (w := W) (b := b) (m := m) (s := s) (ao := ao) (cap := cap) h (letterB (!fits s.rest n)) rfl)
  have HAP : Hid (bs s.text ++ bs (letterB (!fits s.rest n)) = bs (s.text ++ letterB (!fits s.rest n))) := bs_append _ _
  have c1 := h.c1
  have f1 := h.f1
  have hb := h.lt
  have hts : (bs s.text).size ≤ 1000 := by have := h.hm; rw [bs_size]; omega
  have hls : (bs (letterB (!fits s.rest n))).size = 1 := rfl
  have H := Lib.hid h
  have HE : Hid (ftM.two s n = (!fits s.rest n, ⟨s.rest, s.text ++ letterB (!fits s.rest n)⟩)) := by
    show ftM.two s n = _
    simp only [ftM, letterB]
    cases fits s.rest n <;> rfl
  obtain ⟨ft, hft⟩ : ∃ ft, ft = fits s.rest n := ⟨_, rfl⟩
  rw [← hft] at HF1 HL HT HAP HE hls
  obtain ⟨S, hS⟩ : ∃ S, S = bs s.text := ⟨_, rfl⟩
  have HSS := Lib.hid hS
  rw [← hS] at c1 hts HAP
  obtain ⟨L, hL⟩ : ∃ L, L = bs (letterB (!ft)) := ⟨_, rfl⟩
  rw [← hL] at HL HAP hls
  clear h hft hS hL
  go_enter Try.func39, Try.ntmps39
  go_wp2_with fail
  refine HF1.out.mono ?_
  rintro e w1 ⟨rfl, rfl⟩
  go_wp2_with fail
  go_region_with (go_at_call 55; refine (HL _).out.mono ?_; rintro e w2 ⟨rfl, rfl⟩)
  all_goals
    rw [HAP.out]
    go_wp2
    go_ret
    rw [HE.out]
    exact ⟨rfl, (HT _ H.out).out.drew, (keeps_setCell _ b 1 _).trans (keeps_drew_b _ _)⟩

theorem cutA_block {a : Option Addr} {cap lo : Nat} {x : Addr} (h : cutA a cap lo = some x) : ∃ y, a = some y ∧ y.block = x.block := by
  unfold cutA at h
  split at h
  · exact ⟨x, h, rfl⟩
  · cases a with
    | none => cases h
    | some y =>
      simp only [Option.map_some, Option.some.injEq] at h
      refine ⟨y, rfl, ?_⟩
      rw [← h]
      unfold Addr.add
      split <;> rfl
/-- One leaf less. -/
theorem FtAt.cut {b m x : Nat} {r : List Int} {text : List UInt8} {ao : Option Addr} {cap : Nat} {w : World} (h : FtAt b (m + 1) ⟨(x : Int) :: r, text⟩ ao cap w) :
    FtAt b m ⟨r, text⟩ (cutA ao cap 1) (cap - 1) (w.setCell ⟨b, 0, none⟩ (.slice (cutA ao cap 1) r.length (cap - 1))) := by
  have hk := keeps_setCell w b 0 (.slice (cutA ao cap 1) r.length (cap - 1))
  have hne : ∀ x, 0 < r.length → cutA ao cap 1 = some x → x.block ≠ b := fun x _ hx => by
    obtain ⟨y, hy, hyb⟩ := cutA_block hx
    rw [← hyb]
    exact h.ne y (by simp) hy
  have hc := h.cap
  have hr := h.hr
  have hm := h.hm
  simp only [List.length_cons] at hc hr hm
  refine ⟨Nat.lt_of_lt_of_le h.lt hk.size, World.cell?_setCell_same _ _ _ h.c0, by simp [World.cell?_setCell_other, h.c1], by simp [h.f0], by simp [h.f1], ?_, by simp only; omega, hne, by simp only; omega, by simp only; omega⟩
  have hi := h.ints.cut h.cap 1
  rw [show (FtS.mk ((x : Int) :: r) text).rest.drop 1 = r from rfl] at hi
  exact hi.keepsN hk hne

set_option maxHeartbeats 1600000 in
theorem xLeaf (b m : Nat) (s : FtS) (ao : Option Addr) (cap n : Nat) (p : ByteArray) (w : World) (h : FtAt b (m + 1) s ao cap w) :
    Calls Try.prog 40 #[.pointer (some ⟨b, 0, none⟩), .string p, .int .i64 n] w fun e w' => e = .returned (.bool (ftM.leaf s [] n).1) ∧ ∃ ao' cap', FtAt b m (ftM.leaf s [] n).2 ao' cap' w' ∧ Keeps [b] w w' := by
  have HF1 := Lib.hid (xFits b (m + 1) s ao cap n w h)
  cases hft : fits s.rest n with
  | false =>
    have HE : Hid (ftM.leaf s [] n = (false, s)) := by
      show ftM.leaf s [] n = _
      simp only [ftM, hft]
      rfl
    have H := Lib.hid h
    rw [hft] at HF1
    clear h hft
    go_enter Try.func40, Try.ntmps40
    go_wp2_with fail
    refine HF1.out.mono ?_
    rintro e w1 ⟨rfl, rfl⟩
    go_wp2
    go_ret
    rw [HE.out]
    have h := H.out
    exact ⟨rfl, ao, cap, ⟨h.lt, h.c0, h.c1, h.f0, h.f1, h.ints, h.cap, h.ne, h.hr, by have := h.hm; simp only; omega⟩, Keeps.refl _ _⟩
  | true =>
    obtain ⟨rest, text⟩ := s
    cases rest with
    | nil => cases hft
    | cons x r =>
      obtain rfl : x = (n : Int) := by simpa [fits] using hft
      have HE : Hid (ftM.leaf (⟨(n : Int) :: r, text⟩ : FtS) [] n = (true, ⟨r, text⟩)) := by
        show ftM.leaf (⟨(n : Int) :: r, text⟩ : FtS) [] n = _
        simp [ftM, fits]
      have HC := Lib.hid h.cut
      have c0 := h.c0
      have f0 := h.f0
      have hb := h.lt
      have hcut := cut_one ao (r.length + 1) cap (by omega)
      have hc1 : r.length + 1 - 1 = r.length := by omega
      rw [hc1] at hcut
      rw [show (FtS.mk ((n : Int) :: r) text).rest.length = r.length + 1 from rfl] at c0
      rw [hft] at HF1
      generalize cutA ao cap 1 = ac at hcut HC
      obtain ⟨c1, hcc⟩ : ∃ c1, c1 = cap - 1 := ⟨_, rfl⟩
      rw [← hcc] at hcut HC
      obtain ⟨q, hq⟩ : ∃ q, q = r.length + 1 := ⟨_, rfl⟩
      rw [← hq] at hcut c0
      clear h hft hc1 hcc hq
      go_enter Try.func40, Try.ntmps40
      go_wp2_with fail
      refine HF1.out.mono ?_
      rintro e w1 ⟨rfl, rfl⟩
      go_wp2
      go_ret
      rw [HE.out]
      exact ⟨rfl, ac, c1, HC.out, keeps_setCell _ b 0 _⟩

/-- The machine that fits leaves. -/
def AtF (b m : Nat) (s : FtS) (w : World) : Prop := ∃ ao cap, FtAt b m s ao cap w
theorem lives_one {b : Nat} {w w' : World} (hk : Keeps [b] w w') : Lives (fun _ x => x = b) w w' := lives_keeps hk (fun x hx => by simpa using hx) (fun x hx => .inl hx)
theorem fitWalks (b : Nat) : Walks ftM (AtF b) (fun _ x => x = b) 39 40 #[.pointer (some ⟨b, 0, none⟩)] #[] #[.pointer (some ⟨b, 0, none⟩)] #[] where
  eg1 := fun _ _ => by kernel_rfl
  eg2 := fun _ _ => by kernel_rfl
  mn := fun m m' s w hm ⟨ao, cap, h⟩ => ⟨ao, cap, ⟨h.lt, h.c0, h.c1, h.f0, h.f1, h.ints, h.cap, h.ne, h.hr, by have := h.hm; omega⟩⟩
  lt := fun m s w x ⟨ao, cap, h⟩ hx => by subst hx; exact h.lt
  st := fun m s w w' ⟨ao, cap, h⟩ hb => ⟨⟨ao, cap, h.keeps (keeps_of_below hb [])⟩, fun x hx => hx⟩
  two := fun m s n w _ ⟨ao, cap, h⟩ => by
    refine (xTwo b m s ao cap n w h).mono ?_
    rintro e w' ⟨rfl, h', hk⟩
    exact ⟨rfl, ⟨ao, cap, h'⟩, lives_one hk⟩
  leaf := fun m s p n w _ _ _ ⟨ao, cap, h⟩ => by
    refine (xLeaf b m s ao cap n (bs p) w h).mono ?_
    rintro e w' ⟨rfl, ao', cap', h', hk⟩
    exact ⟨rfl, ⟨ao', cap', h'⟩, lives_one hk⟩
end Go.Proofs.Ytmgckfkdbepkdaa
