import Derived.Deep.AppendLies
import Derived.Deep.RegionLaw
import Derived.Test.YtnfpkjnllkkngaaGreatDoorBlkF6

namespace Go.Proofs.YtnfpkjnllkkngaaGreatDoor
open Go.RowKit Go.Proofs Go.Proofs.PipeM Go.Proofs.PipeA
set_option maxRecDepth 100000

/-- The document's best of the first powers. -/
def pk (l : List Int) (c : Nat) : Nat := pickP l (min (c - 1) (topP l.length))
theorem pk_skip {l : List Int} {c : Nat} (h : topP l.length < c) : pk l (c + 1) = pk l c := by
  unfold pk; congr 1; omega
theorem pk_four (l : List Int) : pk l 4 = bestP l := by
  unfold pk bestP; have := topP_le l.length; congr 1; omega
theorem pk_one (l : List Int) : pk l 1 = 0 := by unfold pk; simp [pickP]
theorem pk_next {l : List Int} {c : Nat} (h1 : 1 ≤ c) (h : c ≤ topP l.length) : pk l (c + 1) = if lenAt l c < lenAt l (pk l c) then c else pk l c := by
  unfold pk
  rw [Nat.min_eq_left (by omega), Nat.min_eq_left (by omega)]
  obtain ⟨d, rfl⟩ : ∃ d, c = d + 1 := ⟨c - 1, by omega⟩
  simp only [Nat.add_sub_cancel]
  rfl
theorem bestKs_snoc (size : Nat) (l : List Int) (i : Nat) : bestKs size l (i + 1) = bestKs size l i ++ [((bestN (partNo size l i) : Nat) : Int)] := by
  simp [bestKs, List.range_succ]

theorem list_in {l : List Int} (h : listOk l = true) : ∀ n ∈ l, InR n := by
  unfold listOk at h; simp only [Bool.and_eq_true] at h
  intro n hn
  have h8 : nOk n = true := List.all_eq_true.1 h.1 n hn
  unfold nOk at h8
  have h9 := of_decide_eq_true h8
  exact h9
/-- The parts of one power, as they grow. -/
structure XRel (l : List Int) (size c : Nat) (W0 : World) (B6 : Nat) (v : Value) (i : Nat) (wr : World) : Prop where
  x0 : wr.cell? ⟨B6, 0, none⟩ = some (.int .i64 (c : Nat))
  x1 : wr.cell? ⟨B6, 1, none⟩ = some v
  f0 : wr.frozen? ⟨B6, 0, none⟩ = false
  f1 : wr.frozen? ⟨B6, 1, none⟩ = false
  own : wr.ownsRow (B6 + 1) 3 1 v i (intsOf (bestKs size l i))
  bel : Below B6 W0 wr
  lt : B6 < wr.heap.size

/-- What stands between two powers. -/
structure ORel (l : List Int) (w : World) (B2 B3 c : Nat) (ao : Option Addr) (m cap : Nat) (wr : World) : Prop where
  o0 : wr.cell? ⟨B3, 0, none⟩ = some (.int .i64 (pk l c : Nat))
  o1 : wr.cell? ⟨B3, 1, none⟩ = some (.slice ao m cap)
  f0 : wr.frozen? ⟨B3, 0, none⟩ = false
  f1 : wr.frozen? ⟨B3, 1, none⟩ = false
  r0 : wr.cell? ⟨B2, 0, none⟩ = some (.int .i64 0)
  r1 : wr.cell? ⟨B2, 1, none⟩ = some (.slice none 0 0)
  g0 : wr.frozen? ⟨B2, 0, none⟩ = false
  g1 : wr.frozen? ⟨B2, 1, none⟩ = false
  ks : 1 ≤ c → Hid (m = 2 ^ pk l c) ∧ IntsAt wr ao (ksAt l (pk l c)) ∧ ∀ g off, ao = some ⟨g, off, none⟩ → B3 < g
  bel : Below w.heap.size w wr
  lt : B3 < wr.heap.size
  b2 : w.heap.size ≤ B2
  b23 : B2 < B3

theorem ORel.below {l : List Int} {w : World} {B2 B3 c : Nat} {ao : Option Addr} {m cap : Nat} {wr w2 : World} (h : ORel l w B2 B3 c ao m cap wr) (hb : Below wr.heap.size wr w2) : ORel l w B2 B3 c ao m cap w2 := by
  have h2 : B2 < wr.heap.size := Nat.lt_trans h.b23 h.lt
  exact ⟨(hb.cell (p := ⟨B3, 0, none⟩) h.lt).trans h.o0, (hb.cell (p := ⟨B3, 1, none⟩) h.lt).trans h.o1, (hb.frozen (p := ⟨B3, 0, none⟩) h.lt).trans h.f0, (hb.frozen (p := ⟨B3, 1, none⟩) h.lt).trans h.f1,
    (hb.cell (p := ⟨B2, 0, none⟩) h2).trans h.r0, (hb.cell (p := ⟨B2, 1, none⟩) h2).trans h.r1, (hb.frozen (p := ⟨B2, 0, none⟩) h2).trans h.g0, (hb.frozen (p := ⟨B2, 1, none⟩) h2).trans h.g1,
    fun hc => ⟨(h.ks hc).1, (h.ks hc).2.1.below hb, (h.ks hc).2.2⟩, h.bel.trans (hb.mono h.bel.size), Nat.lt_of_lt_of_le h.lt hb.size, h.b2, h.b23⟩

theorem ORel.keep {l : List Int} {w : World} {B2 B3 c : Nat} {ao : Option Addr} {m cap : Nat} {wr : World} (h : ORel l w B2 B3 c ao m cap wr) (hp : pk l (c + 1) = pk l c) (h1 : 1 ≤ c) : ORel l w B2 B3 (c + 1) ao m cap wr :=
  ⟨by rw [hp]; exact h.o0, h.o1, h.f0, h.f1, h.r0, h.r1, h.g0, h.g1, fun _ => by rw [hp]; exact h.ks h1, h.bel, h.lt, h.b2, h.b23⟩
theorem ORel.put {l : List Int} {w : World} {B2 B3 c : Nat} {ao : Option Addr} {m cap : Nat} {wr : World} (h : ORel l w B2 B3 c ao m cap wr) (hp : pk l (c + 1) = c) {xo : Option Addr} {xm xcap : Nat} (hm : Hid (xm = 2 ^ c)) (hI : IntsAt wr xo (ksAt l c)) (hg : ∀ g off, xo = some ⟨g, off, none⟩ → B3 < g) :
    ORel l w B2 B3 (c + 1) xo xm xcap ((wr.setCell ⟨B3, 0, none⟩ (.int .i64 (c : Nat))).setCell ⟨B3, 1, none⟩ (.slice xo xm xcap)) := by
  have kk : Keeps [B3] wr ((wr.setCell ⟨B3, 0, none⟩ (.int .i64 (c : Nat))).setCell ⟨B3, 1, none⟩ (.slice xo xm xcap)) := (keeps_setCell wr B3 0 _).trans (keeps_setCell _ B3 1 _)
  have hn : B2 ∉ [B3] := by have := h.b23; simp; omega
  have h2 : B2 < wr.heap.size := Nat.lt_trans h.b23 h.lt
  refine ⟨?_, ?_, ?_, ?_, (kk.cell (p := ⟨B2, 0, none⟩) h2 hn).trans h.r0, (kk.cell (p := ⟨B2, 1, none⟩) h2 hn).trans h.r1, (kk.frozen (p := ⟨B2, 0, none⟩) h2 hn).trans h.g0, (kk.frozen (p := ⟨B2, 1, none⟩) h2 hn).trans h.g1, fun _ => ?_, ?_, Nat.lt_of_lt_of_le h.lt kk.size, h.b2, h.b23⟩
  · rw [hp]; exact (World.cell?_setCell_other _ _ _ _ (by simp)).trans (World.cell?_setCell_same' _ _ _ (by rw [h.o0]; rfl))
  · exact World.cell?_setCell_same' _ _ _ (by rw [World.cell?_setCell_other _ _ _ _ (by simp), h.o1]; rfl)
  · rw [World.frozen?_setCell, World.frozen?_setCell]; exact h.f0
  · rw [World.frozen?_setCell, World.frozen?_setCell]; exact h.f1
  · rw [hp]
    exact ⟨hm, hI.keeps kk (by intro g' off' e; have := hg g' off' e; simp; omega), hg⟩
  · exact h.bel.trans (kk.below h.bel.size (by have := h.b2; have := h.b23; simp; omega))

/-- Behind an append to the parts' row. -/
theorem XRel.push {l : List Int} {size c : Nat} {W0 : World} {B6 : Nat} {v : Value} {i : Nat} {wr w1 : World} {k : Nat} {g cap : Nat} (h : XRel l size c W0 B6 v i wr) (hk : Keeps v.ownBlock.toList wr w1) (hk2 : IsBest (partNo size l i) k)
    (ho : w1.ownsRow (B6 + 1) 3 1 (.slice (some ⟨g, 0, none⟩) (i + 1) cap) (i + 1) (intsOf (bestKs size l i) ++ [.int .i64 (k : Nat)])) :
    XRel l size c W0 B6 (.slice (some ⟨g, 0, none⟩) (i + 1) cap) (i + 1) (w1.setCell ⟨B6, 1, none⟩ (.slice (some ⟨g, 0, none⟩) (i + 1) cap)) := by
  have hge := own_block_lt h.own
  have hn : B6 ∉ v.ownBlock.toList := fun hm => by have := (hge B6 (by simpa using hm)).1; omega
  have y0 := (hk.cell (p := ⟨B6, 0, none⟩) h.lt hn).trans h.x0
  have y1 := (hk.cell (p := ⟨B6, 1, none⟩) h.lt hn).trans h.x1
  have kk := keeps_setCell w1 B6 1 (.slice (some ⟨g, 0, none⟩) (i + 1) cap)
  have hg1 := own_block_lt ho
  have hlt1 : B6 < w1.heap.size := Nat.lt_of_lt_of_le h.lt hk.size
  refine ⟨?_, World.cell?_setCell_same' _ _ _ (by rw [y1]; rfl), ?_, ?_, ?_, ?_, Nat.lt_of_lt_of_le hlt1 kk.size⟩
  · rw [World.cell?_setCell_other _ _ _ _ (by simp)]; exact y0
  · rw [World.frozen?_setCell]; exact (hk.frozen (p := ⟨B6, 0, none⟩) h.lt hn).trans h.f0
  · rw [World.frozen?_setCell]; exact (hk.frozen (p := ⟨B6, 1, none⟩) h.lt hn).trans h.f1
  · rw [bestKs_snoc, intsOf_snoc, ← isBest_eq hk2]
    refine ownsRow_keeps ho kk (fun g' hg' hm => ?_)
    have := (hg1 g' hg').1
    simp at hm
    omega
  · exact (h.bel.trans (hk.below (Nat.le_of_lt h.lt) (fun x hx => by have := (hge x (by simpa using hx)).1; omega))).trans (kk.below (Nat.le_of_lt hlt1) (by simp))

theorem alloc2 (w : World) (o1 o2 : Obj) : ((w.alloc o1).alloc o2).heap[w.heap.size]? = some o1 ∧ ((w.alloc o1).alloc o2).heap[w.heap.size + 1]? = some o2 ∧ ((w.alloc o1).alloc o2).heap.size = w.heap.size + 2 ∧ Below w.heap.size w ((w.alloc o1).alloc o2) := by
  have h1 := World.alloc_heap_new w o1
  have h2 := World.alloc_heap_new (w.alloc o1) o2
  have z1 : (w.alloc o1).heap.size = w.heap.size + 1 := by simp
  rw [z1] at h2
  exact ⟨(Below.heap_alloc _ _ _ (by simp)).trans h1, h2, by simp, ((Below.refl _ w).alloc (Nat.le_refl _) _).alloc (by simp) _⟩

set_option maxHeartbeats 3200000 in
theorem refSBestF (lo : Option Addr) (lcap : Nat) (l : List Int) (w : World) (hcap : l.length ≤ lcap) (hi : IntsAt w lo l) (hok : listOk l = true) :
    Calls Tryz.prog 31 #[.slice lo l.length lcap] w fun e w' => ∃ ao cap, e = .returned (.agg #[.int .i64 (bestP l : Nat), .slice ao (2 ^ bestP l) cap]) ∧ IntsAt w' ao (ksAt l (bestP l)) ∧ (∀ g off, ao = some ⟨g, off, none⟩ → w.heap.size ≤ g) ∧ Below w.heap.size w w' := by
  have hl := list_len hok
  obtain ⟨g, off, rfl, hg0, _⟩ := hi 0 hl.1
  obtain ⟨i0, hii, hz0, hz1, hz2⟩ := info_parts info_int
  have HI := Lib.hid hi
  have HP := fun c W (hc : c ≤ 3) => Lib.hid (refPower c W (by omega))
  have HOK := Lib.hid hok
  obtain ⟨len, hlen⟩ : ∃ len, len = l.length := ⟨_, rfl⟩
  have HLEN := Lib.hid hlen
  rw [← hlen] at hl hcap ⊢
  clear hlen hi hok
  have h2 := alloc2 w (.cells #[.int .i64 0, .slice none 0 0] 66) (.cells #[.int .i64 0, .slice none 0 0] 66)
  go_enter Tryz.func31, Tryz.ntmps31
  go_wp2_with fail
  have HREL : Hid (ORel l w w.heap.size (w.heap.size + 1) 0 none 0 0 ((w.alloc (.cells #[.int .i64 0, .slice none 0 0] 66)).alloc (.cells #[.int .i64 0, .slice none 0 0] 66))) := by
    obtain ⟨q1, q2, q3, q4⟩ := h2
    exact ⟨cell_of_heap q2 0, cell_of_heap q2 1, frozen_of_heap q2 0, frozen_of_heap q2 1, cell_of_heap q1 0, cell_of_heap q1 1, frozen_of_heap q1 0, frozen_of_heap q1 1, fun h => absurd h (by omega), q4, by omega, Nat.le_refl _, Nat.lt_succ_self _⟩
  clear h2
  generalize (w.alloc (.cells #[.int .i64 0, .slice none 0 0] 66)).alloc (.cells #[.int .i64 0, .slice none 0 0] 66) = wa at HREL ⊢
  generalize hB3 : w.heap.size + 1 = B3 at HREL ⊢
  generalize hB2 : w.heap.size = B2 at HREL ⊢
  clear hB3 hB2
  go_loopg [4] 4 (fun gk pv wr => ∃ (c : Nat) (ao : Option Addr) (m cap : Nat), c ≤ 4 ∧ gk + c = 4 ∧ pv = .int .i64 c ∧ Hid (ORel l w B2 B3 c ao m cap wr))
  case atStart => exact ⟨0, none, 0, 0, by omega, by omega, rfl, HREL⟩
  case round =>
    obtain ⟨c, ao, mo, ocap, hc4, hgk, rfl, HR⟩ := hrel
    have HGK := Lib.hid hgk
    clear hgk HREL
    by_cases hc3 : c ≤ 3
    · have HPc := HP c wr hc3
      obtain ⟨m, hm⟩ : ∃ m, m = 2 ^ c := ⟨_, rfl⟩
      have hm8 : m ≤ 8 := by rw [hm]; exact Nat.le_trans (Nat.pow_le_pow_right (by decide) hc3) (by decide)
      have hm1 : 1 ≤ m := by rw [hm]; exact Nat.two_pow_pos c
      rw [← hm] at HPc
      have HM := Lib.hid hm
      by_cases hdiv : len % m = 0
      · have t1 : ((len : Int) % (m : Int) != 0) = false := by rw [bne_eq_false_iff_eq]; omega
        obtain ⟨size, hsize⟩ : ∃ size, size = len / m := ⟨_, rfl⟩
        have hdv : (len : Int) / (m : Int) = (size : Int) := by rw [hsize]; omega
        have hsp : len = size * m := by rw [hsize]; exact div_parts hdiv
        have HSZ : Hid (size = l.length / 2 ^ c) := by show _ = _; rw [hsize, hm, HLEN.out]
        have HSP := Lib.hid hsp
        have hs1 : 1 ≤ size := by
          rcases Nat.eq_zero_or_pos size with h | h
          · rw [h] at hsp; omega
          · exact h
        have hs2 : size ≤ 1024 := by
          have : size * 1 ≤ size * m := Nat.mul_le_mul_left size hm1
          omega
        clear hm hsize hdiv hsp
        go_wp2_with (go_at_call 26; refine HPc.out.mono ?_; rintro e w1 ⟨rfl, rfl⟩)
        have HX0 : Hid (XRel l size c wr wr.heap.size (.slice none 0 0) 0 (wr.alloc (.cells #[.int .i64 (c : Nat), .slice none 0 0] 66))) := by
          have hn := World.alloc_heap_new wr (.cells #[.int .i64 (c : Nat), .slice none 0 0] 66)
          exact ⟨cell_of_heap hn 0, cell_of_heap hn 1, frozen_of_heap hn 0, frozen_of_heap hn 1, World.ownsRow_nil _ _ _ _, box_below wr _, by simp⟩
        generalize wr.alloc (.cells #[.int .i64 (c : Nat), .slice none 0 0] 66) = wx at HX0 ⊢
        obtain ⟨B6, hB6⟩ : ∃ B6, B6 = wr.heap.size := ⟨_, rfl⟩
        rw [← hB6] at HX0 ⊢
        have HB6 := Lib.hid hB6
        clear hB6 t1 hdv
        obtain ⟨wo, hwo⟩ : ∃ wo, wo = wr := ⟨_, rfl⟩
        rw [← hwo] at HX0 HB6 HR
        clear hwo
        go_loopg [8] m (fun gi iv w9 => ∃ (i : Nat) (v : Value), i ≤ m ∧ gi + i = m ∧ iv = .int .i64 i ∧ Hid (XRel l size c wo B6 v i w9))
        case atStart => exact ⟨0, _, Nat.zero_le _, by omega, rfl, HX0⟩
        case round =>
          obtain ⟨i, v, him, hgi, rfl, HX⟩ := hrel
          have HGI := Lib.hid hgi
          clear hgi HX0
          by_cases hlt : i < m
          · have hx1 : (i + 1) * size ≤ len := by rw [HSP.out, Nat.mul_comm size]; exact Nat.mul_le_mul_right size hlt
            have hx2 : (i + 1) * size ≤ l.length := by rw [← HLEN.out]; exact hx1
            have hbw : Below w.heap.size w wo := HR.out.bel
            have hb9 : Below w.heap.size w wr := by
              have := HX.out.bel; rw [HB6.out] at this; exact hbw.trans (this.mono hbw.size)
            have hr : ∀ n ∈ l, InR n := (list_in HOK.out)
            have HLE := Lib.hid (refLeast (some ⟨g, off + i * size, none⟩) (lcap - i * size) (partNo size l i) wr.drew (by rw [partNo_length hx2]; omega) (((HI.out.below hb9).part size i hx2).keeps (keeps_drew wr) (by simp)) (partNo_in hr))
            rw [partNo_length hx2] at HLE
            obtain ⟨a, ha⟩ : ∃ a, a = i * size := ⟨_, rfl⟩
            obtain ⟨b, hb⟩ : ∃ b, b = (i + 1) * size := ⟨_, rfl⟩
            have hi1 : IntKind.i64.wrap ((i : Int) + 1) = (i : Int) + 1 := IntWalk.i64_in _ ⟨by omega, by omega⟩
            have hab2 : a + size = b := by rw [ha, hb, Nat.add_mul, Nat.one_mul]
            rw [← hb] at hx1
            rw [← ha] at HLE
            have hA : IntKind.i64.wrap ((i : Int) * (size : Int)) = (a : Int) := by rw [show (i : Int) * (size : Int) = (a : Int) by rw [ha]; simp]; exact IntWalk.i64_in _ ⟨by omega, by omega⟩
            have hBq : IntKind.i64.wrap (((i : Int) + 1) * (size : Int)) = (b : Int) := by rw [show ((i : Int) + 1) * (size : Int) = (b : Int) by rw [hb]; simp]; exact IntWalk.i64_in _ ⟨by omega, by omega⟩
            have hab : a ≤ b := by omega
            have hba : b - a = size := by omega
            have hac : a < lcap := by omega
            have hbc : b ≤ lcap := by omega
            have x1 := HX.out.x1
            have f1 := HX.out.f1
            have hown := HX.out.own
            have hblt := HX.out.lt
            clear ha hb hx2 hbw hb9 hr hab2 hx1
            have HLED := HLE
            have HLA : Hid (¬ lcap = a) := fun e => by omega
            have hob : some B6 ≠ v.ownBlock := fun e => by have := (own_block_lt hown B6 e.symm).1; omega
            have HOB := Lib.hid hob
            have HXX := Lib.hid HX.out
            clear hob HLE HX
            go_wp2_with fail
            go_region_law (first
              | (refine step_append_lies _ rfl _ _ 22 rfl (B6 + 1) 3 i0 (.int .i64 0) 1 8 Tryz.underlying22 hii hz0 hz1 hz2 rfl (by decide) v i (intsOf (bestKs size l i)) rfl (hown.alloc (.cells #[.int .i64 (k : Nat)] 3)) ⟨wr.heap.size, 0, none⟩ 1 1 [.int .i64 (k : Nat)] rfl rfl (World.news_of_block (cs := #[.int .i64 (k : Nat)]) (t := 3) (fr := (0, 0)) (heap_alloc_new _ _)) (by intro u hu; simp at hu; subst hu; rfl) (by decide) (by unfold maxLen; omega) (by omega) (by simp; omega) _ rfl ?_; intro g2 cap2 w1 hown1 hgrow hat hlt2; have q1 : w1.cell? ⟨B6, 1, none⟩ = some v := (hgrow.cell_far ⟨B6, 1, none⟩ (by simp; omega) HOB.out).trans (cellA _ x1); have qf : w1.frozen? ⟨B6, 1, none⟩ = false := (hgrow.frozen_far ⟨B6, 1, none⟩ (by simp; omega) HOB.out).trans (((box_below wr _).frozen (p := ⟨B6, 1, none⟩) hblt).trans f1); have HK : Hid (Keeps v.ownBlock.toList wr w1) := ((keeps_drew_b wr _).trans (keeps_of_below (box_below wr.drew (.cells #[.int .i64 (k : Nat)] 3)) _)).trans (keeps_grownBy hgrow); have HO := Lib.hid hown1; clear hown1 hgrow hat hlt2)
              | (go_simp; rw [if_neg HLA.out]; refine HLED.out.mono ?_; rintro e w8 ⟨k, rfl, hk, rfl⟩))
            all_goals
              have HX2 := Lib.hid (HXX.out.push HK.out hk HO.out)
              clear hk q1 qf
              go_wp2
              go_roundg (gk - 1)
              case rel => exact ⟨i + 1, _, by omega, by have := HGI.out; omega, by go_num, HX2⟩
              case measure => have := HGI.out; omega
          · obtain rfl : i = m := by omega
            obtain ⟨xo, xcap, rfl⟩ := own_slice HX.out.own
            have hx := HX.out
            have hbo : Below wo.heap.size wo wr := by have := hx.bel; rw [HB6.out] at this; exact this
            have HRr := Lib.hid (HR.out.below hbo)
            have hbl : B3 < B6 := by rw [HB6.out]; exact HR.out.lt
            have hks : bestKs size l i = ksAt l c := by unfold ksAt; rw [← HSZ.out, ← HM.out]
            have hxI : IntsAt wr xo (ksAt l c) := by
              have := hx.own
              have e : i = (bestKs size l i).length := (bestKs_length _ _ _).symm
              rw [← hks]
              refine ints_own_any (base := B6 + 1) (cap := xcap) ?_
              rw [← e]; exact this
            have hxg : ∀ g off, xo = some ⟨g, off, none⟩ → B3 < g := by
              intro g' off' e
              subst e
              have := (own_block_lt hx.own g' rfl).1
              omega
            have x0 := hx.x0
            have x1 := hx.x1
            have o0 := HRr.out.o0
            have o1 := HRr.out.o1
            have of0 := HRr.out.f0
            have of1 := HRr.out.f1
            have hzr : B6 < wr.heap.size := hx.lt
            have hzo : B3 < wr.heap.size := HRr.out.lt
            have HXI := Lib.hid hxI
            have HXG := Lib.hid hxg
            have HCT : Hid (c ≤ topP l.length) := pow_top hc3 (by rw [← HM.out, ← HLEN.out, HSP.out]; exact Nat.mul_mod_left _ _)
            have HEND : Hid (∀ W, Below wr.heap.size wr W → pk l (c + 1) = c → ORel l w B2 B3 (c + 1) xo i xcap ((W.setCell ⟨B3, 0, none⟩ (.int .i64 (c : Nat))).setCell ⟨B3, 1, none⟩ (.slice xo i xcap))) := by
              intro W hW hp
              exact (HRr.out.below hW).put hp HM (hxI.below hW) hxg
            have HKEEP : Hid (∀ W, Below wr.heap.size wr W → pk l (c + 1) = pk l c → 1 ≤ c → ORel l w B2 B3 (c + 1) ao mo ocap W) := by
              intro W hW hp h1
              exact (HRr.out.below hW).keep hp h1
            by_cases hc0 : c = 0
            · have t0 : ((c : Int) == 0) = true := by rw [hc0]; rfl
              have HPK : Hid (pk l (c + 1) = c) := by rw [hc0]; exact pk_one l
              clear hx hbo hks hxI hxg hc0
              go_wp2_with fail
              go_quiet (fail)
              have HE2 := Lib.hid (HEND.out (wr.drewN nq) ((keeps_drewN wr nq []).below (Nat.le_refl _) (by simp)) HPK.out)
              have x0 : (wr.drewN nq).cell? ⟨B6, 0, none⟩ = some (.int .i64 (c : Nat)) := x0
              have x1 : (wr.drewN nq).cell? ⟨B6, 1, none⟩ = some (.slice xo i xcap) := x1
              have o0 : (wr.drewN nq).cell? ⟨B3, 0, none⟩ = some (.int .i64 (pk l c : Nat)) := o0
              have o1 : (wr.drewN nq).cell? ⟨B3, 1, none⟩ = some (.slice ao mo ocap) := o1
              have of0 : (wr.drewN nq).frozen? ⟨B3, 0, none⟩ = false := of0
              have of1 : (wr.drewN nq).frozen? ⟨B3, 1, none⟩ = false := of1
              generalize wr.drewN nq = wq at *
              go_wp2
              go_roundg (4 - c - 1)
              case rel => exact ⟨c + 1, xo, i, xcap, by omega, by have := HGK.out; omega, by go_num, HE2⟩
              case measure => have := HGK.out; omega
            · have t0 : ((c : Int) == 0) = false := by rw [beq_eq_false_iff_ne]; omega
              have h1c : 1 ≤ c := by omega
              obtain ⟨HMo, hoI, hoG⟩ := HRr.out.ks h1c
              have HB1 := fun W (hW : Below wr.heap.size wr W) => Lib.hid (refSBits (some ⟨g, off, none⟩) xo lcap xcap l (c : Nat) (ksAt l c) W (by rw [← HLEN.out]; exact hcap) (HI.out.below (HRr.out.bel.trans (hW.mono HRr.out.bel.size))) (HXI.out.below hW) (powAt_ok HOK.out HCT.out))
              have hpkt : pk l c ≤ topP l.length := by unfold pk; exact Nat.le_trans (pickP_le l _) (Nat.min_le_right _ _)
              have HB2' := fun W (hW : Below wr.heap.size wr W) => Lib.hid (refSBits (some ⟨g, off, none⟩) ao lcap ocap l (pk l c : Nat) (ksAt l (pk l c)) W (by rw [← HLEN.out]; exact hcap) (HI.out.below (HRr.out.bel.trans (hW.mono HRr.out.bel.size))) (hoI.below hW) (powAt_ok HOK.out hpkt))
              rw [ksAt_length, ← HM.out, ← HLEN.out, powAt_len HOK.out HCT.out] at HB1
              rw [ksAt_length, ← HMo.out, ← HLEN.out, powAt_len HOK.out hpkt] at HB2'
              have hPN := pk_next h1c HCT.out
              have hPN2 : pk l (c + 1) = if lenAt l c < lenAt l (pk l c) then c else pk l c := hPN
              obtain ⟨fx, hfx⟩ : ∃ fx, fx = lenAt l c := ⟨_, rfl⟩
              obtain ⟨fo, hfo⟩ : ∃ fo, fo = lenAt l (pk l c) := ⟨_, rfl⟩
              rw [← hfx] at HB1 hPN2
              rw [← hfo] at HB2' hPN2
              obtain ⟨po, hpo⟩ : ∃ po, po = pk l c := ⟨_, rfl⟩
              rw [← hpo] at HB2' o0
              have HPO := Lib.hid hpo
              clear hx hbo hks hxI hxg hoI hoG hPN hfx hfo hpo hpkt
              have hwd : Below wr.heap.size wr wr.drew := (keeps_drew wr).below (Nat.le_refl _) (by simp)
              have HB1d := HB1 wr.drew hwd
              have HWD := Lib.hid hwd
              clear hwd HB1
              by_cases hcmp : fx < fo
              · rw [if_pos hcmp] at hPN2
                have HPK := Lib.hid hPN2
                have tc : decide (fx < fo) = true := decide_eq_true hcmp
                clear hPN2 hcmp
                go_wp2_with fail
                go_region_with (first
                  | (go_at_call_of 54 xo; refine HB1d.out.mono ?_; rintro e w7 ⟨rfl, hb7⟩; have hbw7 : Hid (Below wr.heap.size wr w7) := HWD.out.trans hb7; have d0 : w7.cell? ⟨B3, 0, none⟩ = some (.int .i64 (po : Nat)) := (hb7.cell (p := ⟨B3, 0, none⟩) hzo).trans o0; have d1 : w7.cell? ⟨B3, 1, none⟩ = some (.slice ao mo ocap) := (hb7.cell (p := ⟨B3, 1, none⟩) hzo).trans o1)
                  | (go_at_call_of 54 ao; refine (HB2' w7 hbw7.out).out.mono ?_; rintro e w8 ⟨rfl, hb8⟩))
                all_goals
                  have hb8r : Below wr.heap.size wr w8 := hbw7.out.trans (hb8.mono hbw7.out.size)
                  have HE2 := Lib.hid (HEND.out w8 hb8r HPK.out)
                  have y0 := (hb8r.cell (p := ⟨B6, 0, none⟩) hzr).trans x0
                  have y1 := (hb8r.cell (p := ⟨B6, 1, none⟩) hzr).trans x1
                  have p0 := (hb8r.cell (p := ⟨B3, 0, none⟩) hzo).trans o0
                  have p1 := (hb8r.cell (p := ⟨B3, 1, none⟩) hzo).trans o1
                  have pf0 := (hb8r.frozen (p := ⟨B3, 0, none⟩) hzo).trans of0
                  have pf1 := (hb8r.frozen (p := ⟨B3, 1, none⟩) hzo).trans of1
                  clear hb8r hb7 hb8 d0 d1 x0 x1 o0 o1 of0 of1
                  go_wp2
                  go_roundg (4 - c - 1)
                  case rel => exact ⟨c + 1, xo, i, xcap, by omega, by have := HGK.out; omega, by go_num, HE2⟩
                  case measure => have := HGK.out; omega
              · rw [if_neg hcmp] at hPN2
                have HPK := Lib.hid hPN2
                have tc : decide (fx < fo) = false := decide_eq_false hcmp
                clear hPN2 hcmp
                go_wp2_with fail
                go_region_with (first
                  | (go_at_call_of 54 xo; refine HB1d.out.mono ?_; rintro e w7 ⟨rfl, hb7⟩; have hbw7 : Hid (Below wr.heap.size wr w7) := HWD.out.trans hb7; have d0 : w7.cell? ⟨B3, 0, none⟩ = some (.int .i64 (po : Nat)) := (hb7.cell (p := ⟨B3, 0, none⟩) hzo).trans o0; have d1 : w7.cell? ⟨B3, 1, none⟩ = some (.slice ao mo ocap) := (hb7.cell (p := ⟨B3, 1, none⟩) hzo).trans o1)
                  | (go_at_call_of 54 ao; refine (HB2' w7 hbw7.out).out.mono ?_; rintro e w8 ⟨rfl, hb8⟩))
                all_goals
                  have hb8r : Below wr.heap.size wr w8 := hbw7.out.trans (hb8.mono hbw7.out.size)
                  have HE2 := Lib.hid (HKEEP.out w8 hb8r HPK.out h1c)
                  clear hb8r hb7 hb8 d0 d1 x0 x1 o0 o1 of0 of1
                  go_wp2
                  go_roundg (4 - c - 1)
                  case rel => exact ⟨c + 1, ao, mo, ocap, by omega, by have := HGK.out; omega, by go_num, HE2⟩
                  case measure => have := HGK.out; omega
      · have t1 : ((len : Int) % (m : Int) != 0) = true := by rw [bne_iff_ne]; omega
        have hct : topP l.length < c := by
          rcases Nat.lt_or_ge (topP l.length) c with h | h
          · exact h
          · exact absurd (topP_pow l.length c h).1 (by rw [← hm, ← HLEN.out]; exact hdiv)
        have HE2 := Lib.hid (HR.out.keep (pk_skip hct) (by omega))
        clear hm hct hdiv
        go_wp2_with (go_at_call 26; refine HPc.out.mono ?_; rintro e w1 ⟨rfl, rfl⟩)
        go_roundg (gk - 1)
        case rel => exact ⟨c + 1, ao, mo, ocap, by omega, by have := HGK.out; omega, by go_num, HE2⟩
        case measure => have := HGK.out; omega
    · obtain rfl : c = 4 := by omega
      obtain ⟨o0, o1, f0, f1, r0, r1, g0, g1, hks, hbel, hlt, hb2, hb23⟩ := HR.out
      obtain ⟨HMo, hoI, hoG⟩ := hks (by omega)
      have hpk := pk_four l
      rw [hpk] at o0 HMo hoI
      have kk : Keeps [B2] wr ((wr.setCell ⟨B2, 0, none⟩ (.int .i64 (bestP l : Nat))).setCell ⟨B2, 1, none⟩ (.slice ao mo ocap)) := (keeps_setCell wr B2 0 _).trans (keeps_setCell _ B2 1 _)
      have y0 : ((wr.setCell ⟨B2, 0, none⟩ (.int .i64 (bestP l : Nat))).setCell ⟨B2, 1, none⟩ (.slice ao mo ocap)).cell? ⟨B2, 0, none⟩ = some (.int .i64 (bestP l : Nat)) := (World.cell?_setCell_other _ _ _ _ (by simp)).trans (World.cell?_setCell_same' _ _ _ (by rw [r0]; rfl))
      have y1 : ((wr.setCell ⟨B2, 0, none⟩ (.int .i64 (bestP l : Nat))).setCell ⟨B2, 1, none⟩ (.slice ao mo ocap)).cell? ⟨B2, 1, none⟩ = some (.slice ao mo ocap) := World.cell?_setCell_same' _ _ _ (by rw [World.cell?_setCell_other _ _ _ _ (by simp), r1]; rfl)
      have HF : Hid (∃ ao' cap', Ending.returned (.agg #[.int .i64 (bestP l : Nat), .slice ao mo ocap]) = .returned (.agg #[.int .i64 (bestP l : Nat), .slice ao' (2 ^ bestP l) cap']) ∧ IntsAt ((wr.setCell ⟨B2, 0, none⟩ (.int .i64 (bestP l : Nat))).setCell ⟨B2, 1, none⟩ (.slice ao mo ocap)) ao' (ksAt l (bestP l)) ∧ (∀ g off, ao' = some ⟨g, off, none⟩ → w.heap.size ≤ g) ∧ Below w.heap.size w ((wr.setCell ⟨B2, 0, none⟩ (.int .i64 (bestP l : Nat))).setCell ⟨B2, 1, none⟩ (.slice ao mo ocap))) := by
        refine ⟨ao, ocap, by rw [HMo.out], hoI.keeps kk (by intro g' off' e; have := hoG g' off' e; simp; omega), (fun g' off' e => by have := hoG g' off' e; omega), hbel.trans (kk.below hbel.size (by simp; exact hb2))⟩
      clear hks hoI hoG hpk kk HMo
      go_wp2
      refine bodyPost_ret (v := .agg #[.int .i64 (bestP l : Nat), .slice ao mo ocap]) ?res rfl ?_
      · simp [results, Tryz.results31, go_sem, y0, y1]
      · exact HF.out

end Go.Proofs.YtnfpkjnllkkngaaGreatDoor
