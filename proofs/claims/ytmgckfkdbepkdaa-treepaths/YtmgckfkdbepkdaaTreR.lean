import Derived.Test.YtmgckfkdbepkdaaTreW2
namespace Go.Proofs.Ytmgckfkdbepkdaa
open Go.RowKit Go.Proofs Go.Proofs.PipeA Go.Proofs.TreM
set_option maxRecDepth 100000

theorem lives_keeps {Own : World → Nat → Prop} {bs : List Nat} {w w' : World} (hk : Keeps bs w w') (h1 : ∀ x ∈ bs, Own w x) (h2 : ∀ x, Own w' x → Own w x ∨ w.heap.size ≤ x) : Lives Own w w' :=
  ⟨hk.os, hk.tape, hk.output, hk.size, fun x hx hn => ⟨hk.block x hx (fun h => hn (h1 x h)), fun h => by rcases h2 x h with h | h; exact hn h; omega⟩⟩

/-- append(own row, one number). -/
theorem run_append_one {w : World} {base ty : Nat} {v : Value} {l : List Int} {x : Int} {g : Nat} (hbase : base ≤ w.heap.size) (ho : w.ownsRow base 3 1 v l.length (intsOf l)) (hc : w.cell? ⟨g, 0, none⟩ = some (.int .i64 x)) (hs : l.length ≤ 100000) :
    ∃ v' w', (Builtin.append_ #[23, 23] ty #[v, .slice (some ⟨g, 0, none⟩) 1 1]).run Try.prog w = .ok v' w' ∧ w'.ownsRow base 3 1 v' (l ++ [x]).length (intsOf (l ++ [x])) ∧
      Keeps v.ownBlock.toList w w' ∧ (v'.ownBlock = v.ownBlock ∨ ∃ g, v'.ownBlock = some g ∧ w.heap.size ≤ g) := by
  obtain ⟨i0, hi, hz0, hz1, hz2⟩ := info_parts info_int
  have hnews : ∀ j u, ([Value.int .i64 x])[j]? = some u → w.cell? ((⟨g, 0, none⟩ : Addr).add j) = some u := by
    intro j u hj
    match j, hj with
    | 0, hj => simp at hj; subst hj; simpa [Addr.add] using hc
  have h1 : ∀ u ∈ [Value.int .i64 x], u.oneCell' = true := by intro u hu; simp at hu; subst hu; rfl
  obtain ⟨v', w', hr, h2, h3, _⟩ := run_append_own (P := Try.prog) w base 23 ty 3 i0 (.int .i64 0) 1 8 Try.underlying23 hi hz0 hz1 hz2 rfl (by decide) v l.length (intsOf l) ho ⟨g, 0, none⟩ 1 1 [.int .i64 x] rfl hnews h1 (by unfold maxLen; omega) (by omega) hbase
  have h4 := append_where (P := Try.prog) w base 23 ty 3 i0 (.int .i64 0) 1 8 Try.underlying23 hi hz0 hz1 hz2 rfl (by decide) v l.length (intsOf l) ho ⟨g, 0, none⟩ 1 1 [.int .i64 x] rfl hnews h1 (by unfold maxLen; omega) (by omega) v' w' hr
  refine ⟨v', w', hr, ?_, keeps_grownBy h3, h4⟩
  rw [List.length_append, show intsOf (l ++ [x]) = intsOf l ++ [.int .i64 x] by simp [intsOf]]
  exact h2

/-- What reads a text, in memory. -/
structure RdAt (b m : Nat) (s : RdS) (v : Value) (w : World) : Prop where
  lt : b < w.heap.size
  c0 : w.cell? ⟨b, 0, none⟩ = some (.string (bs s.rest))
  c1 : w.cell? ⟨b, 1, none⟩ = some (.bool s.bad)
  c2 : w.cell? ⟨b, 2, none⟩ = some v
  f0 : w.frozen? ⟨b, 0, none⟩ = false
  f1 : w.frozen? ⟨b, 1, none⟩ = false
  f2 : w.frozen? ⟨b, 2, none⟩ = false
  own : w.ownsRow (b + 1) 3 1 v s.out.length (intsOf s.out)
  hr : s.rest.length ≤ 100000
  hm : s.out.length + m ≤ 1000
/-- Its own blocks. -/
def rowBlock (b off : Nat) (w : World) (x : Nat) : Prop := x = b ∨ ∃ v, w.cell? ⟨b, off, none⟩ = some v ∧ v.ownBlock = some x

theorem RdAt.keeps {b m : Nat} {s : RdS} {v : Value} {w w' : World} {bs : List Nat} (h : RdAt b m s v w) (hk : Keeps bs w w') (hb : b ∉ bs) (hv : ∀ g, v.ownBlock = some g → g ∉ bs) : RdAt b m s v w' :=
  ⟨Nat.lt_of_lt_of_le h.lt hk.size, (hk.cell (p := ⟨b, 0, none⟩) h.lt hb).trans h.c0, (hk.cell (p := ⟨b, 1, none⟩) h.lt hb).trans h.c1, (hk.cell (p := ⟨b, 2, none⟩) h.lt hb).trans h.c2,
   (hk.frozen (p := ⟨b, 0, none⟩) h.lt hb).trans h.f0, (hk.frozen (p := ⟨b, 1, none⟩) h.lt hb).trans h.f1, (hk.frozen (p := ⟨b, 2, none⟩) h.lt hb).trans h.f2, ownsRow_keeps h.own hk hv, h.hr, h.hm⟩
theorem RdAt.row_lt {b m : Nat} {s : RdS} {v : Value} {w : World} (h : RdAt b m s v w) {g : Nat} (hg : v.ownBlock = some g) : b + 1 ≤ g ∧ g < w.heap.size := own_block_lt h.own g hg
/-- Its rest and its mark turned. -/
theorem RdAt.set {b m : Nat} {s : RdS} {v : Value} {w : World} (h : RdAt b (m + 1) s v w) (r : List UInt8) (bad : Bool) (hr : r.length ≤ 100000) :
    RdAt b m ⟨r, bad, s.out⟩ v ((w.setCell ⟨b, 0, none⟩ (.string (bs r))).setCell ⟨b, 1, none⟩ (.bool bad)) ∧
    Keeps [b] w ((w.setCell ⟨b, 0, none⟩ (.string (bs r))).setCell ⟨b, 1, none⟩ (.bool bad)) := by
  have hk : Keeps [b] w ((w.setCell ⟨b, 0, none⟩ (.string (bs r))).setCell ⟨b, 1, none⟩ (.bool bad)) := (keeps_setCell w b 0 _).trans (keeps_setCell _ b 1 _)
  have a1 : (w.setCell ⟨b, 0, none⟩ (.string (bs r))).cell? ⟨b, 0, none⟩ = some (.string (bs r)) := World.cell?_setCell_same _ _ _ h.c0
  have a2 : (w.setCell ⟨b, 0, none⟩ (.string (bs r))).cell? ⟨b, 1, none⟩ = some (.bool s.bad) := by simp [World.cell?_setCell_other, h.c1]
  refine ⟨⟨Nat.lt_of_lt_of_le h.lt hk.size, ?_, ?_, ?_, by simp [h.f0], by simp [h.f1], by simp [h.f2], ownsRow_keeps h.own hk (fun g hg => ?_), hr, by have := h.hm; simp only; omega⟩, hk⟩
  · simpa [World.cell?_setCell_other] using a1
  · exact World.cell?_setCell_same _ _ _ a2
  · simp [World.cell?_setCell_other, h.c2]
  · have := (h.row_lt hg).1
    simp; omega

set_option maxHeartbeats 1600000 in
theorem rTwo (b m : Nat) (s : RdS) (v : Value) (n : Int) (w : World) (h : RdAt b (m + 1) s v w) :
    Calls Try.prog 36 #[.pointer (some ⟨b, 0, none⟩), .int .i64 n] w fun e w' => e = .returned (.bool (rdM.two s n.toNat).1) ∧ RdAt b m (rdM.two s n.toNat).2 v w' ∧ Keeps [b] w w' := by
  obtain ⟨rest, bad, out⟩ := s
  cases rest with
  | nil =>
    have HF := Lib.hid (h.set [] true (by simp))
    have c0 := h.c0
    have c1 := h.c1
    have c2 := h.c2
    have f0 := h.f0
    have f1 := h.f1
    have hb := h.lt
    rw [show bs (RdS.mk [] bad out).rest = ⟨#[]⟩ from rfl] at c0
    clear h
    go_enter Try.func36, Try.ntmps36
    go_wp2
    go_region
    all_goals
      go_wp2
      go_ret
      exact ⟨rfl, HF.out.1.keeps (keeps_drew_b _ []) (by simp) (by simp), HF.out.2.trans (keeps_drew_b _ _)⟩
  | cons c r =>
    have hr := h.hr
    have HF := Lib.hid (h.set r (c != 48 && c != 49) (by simp at hr; omega))
    have c0 := h.c0
    have c1 := h.c1
    have c2 := h.c2
    have f0 := h.f0
    have f1 := h.f1
    have hb := h.lt
    have hsz : (bs (c :: r)).size = r.length + 1 := by rw [bs_size]; rfl
    have HX1 : Hid ((bs (c :: r)).extract 0 1 = bs [c]) := by show _ = _; rw [bs_extract]; rfl
    have HX2 : Hid ((bs (c :: r)).extract 1 (bs (c :: r)).size = bs r) := by show _ = _; rw [hsz, bs_extract]; congr 1; simp
    rw [show (RdS.mk (c :: r) bad out).rest = c :: r from rfl] at c0 hr
    obtain ⟨S, hS⟩ : ∃ S, S = bs (c :: r) := ⟨_, rfl⟩
    have hs1 : 1 ≤ S.size := by rw [hS, hsz]; omega
    have hs2 : S.size ≤ 100000 := by rw [hS, hsz]; simpa using hr
    rw [← hS] at c0 HX1 HX2
    clear h hS hsz hr
    by_cases h48 : c = 48
    · subst h48
      replace HX1 : Hid (S.extract 0 1 = ⟨#[48]⟩) := HX1
      have hL : (ByteArray.mk #[48]).size = 1 := rfl
      go_enter Try.func36, Try.ntmps36
      go_wp2
      go_region
      all_goals
        rw [HX1.out]
        go_wp2
        rw [HX2.out]
        go_ret
        exact ⟨rfl, HF.out.1.keeps (keeps_drew_b _ []) (by simp) (by simp), HF.out.2.trans (keeps_drew_b _ _)⟩
    · by_cases h49 : c = 49
      · subst h49
        clear h48
        replace HX1 : Hid (S.extract 0 1 = ⟨#[49]⟩) := HX1
        have hL : (ByteArray.mk #[49]).size = 1 := rfl
        go_enter Try.func36, Try.ntmps36
        go_wp2
        go_region
        all_goals
          rw [HX1.out]
          go_wp2
          rw [HX2.out]
          go_ret
          exact ⟨rfl, HF.out.1.keeps (keeps_drew_b _ []) (by simp) (by simp), HF.out.2.trans (keeps_drew_b _ _)⟩
      · have hL : (bs [c]).size = 1 := rfl
        have t1 : ((bs [c]).toList == [48]) = false := by rw [bs_toList]; simp [h48]
        have t3 : ((bs [c]).toList == [49]) = false := by rw [bs_toList]; simp [h49]
        have HB1 : Hid ((c == 49) = false) := by show _ = _; simp [h49]
        have HB2 : Hid ((c != 48 && c != 49) = true) := by show _ = _; simp [h48, h49]
        rw [HB2.out] at HF
        clear h48 h49
        generalize bs [c] = L at *
        go_enter Try.func36, Try.ntmps36
        go_wp2
        go_region
        all_goals
          rw [HX1.out]
          go_wp2
          rw [HX2.out]
          go_ret
          refine ⟨?_, ?_, HF.out.2.trans (keeps_drew_b _ _)⟩
          · show _ = Ending.returned (.bool (c == 49))
            rw [HB1.out]; rfl
          · show RdAt b m ⟨r, c != 48 && c != 49, out⟩ v _
            rw [HB2.out]
            exact HF.out.1.keeps (keeps_drew_b _ []) (by simp) (by simp)

set_option maxHeartbeats 1600000 in
theorem rLeaf (b m : Nat) (s : RdS) (v : Value) (p : ByteArray) (n : Nat) (w : World) (h : RdAt b (m + 1) s v w) :
    Calls Try.prog 37 #[.pointer (some ⟨b, 0, none⟩), .string p, .int .i64 n] w fun e w' => e = .returned (.bool (!s.bad)) ∧ ∃ v', RdAt b m ⟨s.rest, s.bad, s.out ++ [(n : Int)]⟩ v' w' ∧
      Keeps (b :: v.ownBlock.toList) w w' ∧ (v'.ownBlock = v.ownBlock ∨ ∃ g, v'.ownBlock = some g ∧ w.heap.size ≤ g) := by
  have hb1 := box_below w (.cells #[.int .i64 (n : Int)] 3)
  have hn1 := World.alloc_heap_new w (.cells #[.int .i64 (n : Int)] 3)
  have h1 := h.keeps (keeps_of_below hb1 []) (by simp) (by simp)
  have hsz1 : (w.alloc (.cells #[.int .i64 (n : Int)] 3)).heap.size = w.heap.size + 1 := by simp
  have hm := h.hm
  obtain ⟨v', w2, hrun, hown2, hk2, hw2⟩ := run_append_one (ty := 23) (base := b + 1) (by have := h1.lt; omega) h1.own (cell_of_heap hn1 0) (by omega)
  have hvb : ∀ g, v.ownBlock = some g → b + 1 ≤ g ∧ g < w.heap.size := fun g hg => h.row_lt hg
  have hbn : b ∉ v.ownBlock.toList := by
    intro hc
    rw [Option.mem_toList] at hc
    have := hvb b hc
    omega
  have hblt := Nat.lt_of_lt_of_le h1.lt hk2.size
  have c0 := (hk2.cell (p := ⟨b, 0, none⟩) h1.lt hbn).trans h1.c0
  have c1 := (hk2.cell (p := ⟨b, 1, none⟩) h1.lt hbn).trans h1.c1
  have c2 := (hk2.cell (p := ⟨b, 2, none⟩) h1.lt hbn).trans h1.c2
  have f0 := (hk2.frozen (p := ⟨b, 0, none⟩) h1.lt hbn).trans h1.f0
  have f1 := (hk2.frozen (p := ⟨b, 1, none⟩) h1.lt hbn).trans h1.f1
  have f2 := (hk2.frozen (p := ⟨b, 2, none⟩) h1.lt hbn).trans h1.f2
  have hk3 := keeps_setCell w2 b 2 v'
  have HF : Hid (RdAt b m ⟨s.rest, s.bad, s.out ++ [(n : Int)]⟩ v' (w2.setCell ⟨b, 2, none⟩ v')) := by
    refine ⟨Nat.lt_of_lt_of_le hblt hk3.size, ?_, ?_, World.cell?_setCell_same _ _ _ c2, by simp [f0], by simp [f1], by simp [f2], ownsRow_keeps hown2 hk3 (fun g hg => ?_), h.hr, ?_⟩
    · simp [World.cell?_setCell_other, c0]
    · simp [World.cell?_setCell_other, c1]
    · have := (own_block_lt hown2 g hg).1
      simp; omega
    · simp only [List.length_append, List.length_cons, List.length_nil]; omega
  have HK : Hid (Keeps (b :: v.ownBlock.toList) w (w2.setCell ⟨b, 2, none⟩ v')) :=
    ((keeps_of_below hb1 _).trans (hk2.trans_new (cs := v.ownBlock.toList) (Keeps.refl _ _) (fun x hx => .inl hx) |>.trans_new (Keeps.refl [] _) (fun x hx => by simp at hx) |> fun h => ⟨h.os, h.tape, h.output, h.size, fun k hk hn => h.block k hk (fun hc => hn (List.mem_cons_of_mem _ hc))⟩)).trans
      ⟨hk3.os, hk3.tape, hk3.output, hk3.size, fun k hk hn => hk3.block k hk (fun hc => hn (by simp at hc; subst hc; exact List.mem_cons_self ..))⟩
  have HW : Hid (v'.ownBlock = v.ownBlock ∨ ∃ g, v'.ownBlock = some g ∧ w.heap.size ≤ g) := by
    rcases hw2 with h | ⟨g, h, hg⟩
    · exact .inl h
    · exact .inr ⟨g, h, by omega⟩
  obtain ⟨ao, cap, rfl⟩ := own_sl h.own
  obtain ⟨ao2, cap2, rfl⟩ := own_sl hown2
  have d0 := h.c2
  have d1 := h.f2
  have d2 := h.lt
  have hbadc := c1
  obtain ⟨bad, hbad⟩ : ∃ bad, bad = s.bad := ⟨_, rfl⟩
  have HBD := Lib.hid hbad
  rw [← hbad] at hbadc
  clear h h1 hown2 hk2 hw2 hb1 hn1 hvb hbn c0 c1 f0 f1 hk3 hsz1 hm hbad
  go_enter Try.func37, Try.ntmps37
  go_wp2_with (at_builtin; refine wpList_append_run rfl _ _ 23 rfl _ _ _ _ rfl rfl hrun ?_)
  go_ret
  rw [show s.out.length + 1 = (s.out ++ [(n : Int)]).length by simp]
  exact ⟨by rw [← HBD.out]; rfl, _, HF.out, HK.out, HW.out⟩

/-- The machine that reads a text. -/
def AtR (b m : Nat) (s : RdS) (w : World) : Prop := ∃ v, RdAt b m s v w
theorem own_row {b off : Nat} {w : World} {v : Value} {x : Nat} (hc : w.cell? ⟨b, off, none⟩ = some v) : rowBlock b off w x ↔ x = b ∨ v.ownBlock = some x := by
  unfold rowBlock
  constructor
  · rintro (h | ⟨v', h, h2⟩)
    · exact .inl h
    · rw [hc] at h; cases h; exact .inr h2
  · rintro (h | h)
    · exact .inl h
    · exact .inr ⟨v, hc, h⟩
/-- What a call leaves that turns a box, and its row. -/
theorem lives_row {b off : Nat} {w w' : World} {v v' : Value} (hc : w.cell? ⟨b, off, none⟩ = some v) (hc' : w'.cell? ⟨b, off, none⟩ = some v') (hk : Keeps (b :: v.ownBlock.toList) w w') (hv : v'.ownBlock = v.ownBlock ∨ ∃ g, v'.ownBlock = some g ∧ w.heap.size ≤ g) : Lives (rowBlock b off) w w' := by
  refine lives_keeps hk (fun x hx => ?_) (fun x hx => ?_)
  · rw [own_row hc]
    rw [List.mem_cons, Option.mem_toList] at hx
    exact hx
  · rw [own_row hc'] at hx
    rw [own_row hc]
    rcases hx with hx | hx
    · exact .inl (.inl hx)
    · rcases hv with h | ⟨g, h, hg⟩
      · exact .inl (.inr (h ▸ hx))
      · rw [h] at hx
        cases hx
        exact .inr hg
theorem lives_box {b off : Nat} {w w' : World} {v : Value} (hc : w.cell? ⟨b, off, none⟩ = some v) (hc' : w'.cell? ⟨b, off, none⟩ = some v) (hk : Keeps [b] w w') : Lives (rowBlock b off) w w' :=
  lives_row hc hc' ⟨hk.os, hk.tape, hk.output, hk.size, fun k hk' hn => hk.block k hk' (fun h => hn (by simp at h; subst h; exact List.mem_cons_self ..))⟩ (.inl rfl)
theorem readWalks (b : Nat) : Walks rdM (AtR b) (rowBlock b 2) 36 37 #[.pointer (some ⟨b, 0, none⟩)] #[] #[.pointer (some ⟨b, 0, none⟩)] #[] where
  eg1 := fun _ _ => by kernel_rfl
  eg2 := fun _ _ => by kernel_rfl
  mn := fun m m' s w hm ⟨v, h⟩ => ⟨v, ⟨h.lt, h.c0, h.c1, h.c2, h.f0, h.f1, h.f2, h.own, h.hr, by have := h.hm; omega⟩⟩
  lt := fun m s w x ⟨v, h⟩ hx => by
    rw [own_row h.c2] at hx
    rcases hx with rfl | hx
    · exact h.lt
    · exact (h.row_lt hx).2
  st := fun m s w w' ⟨v, h⟩ hb => by
    have h' := h.keeps (keeps_of_below hb []) (by simp) (by simp)
    exact ⟨⟨v, h'⟩, fun x hx => by rw [own_row h'.c2] at hx; rw [own_row h.c2]; exact hx⟩
  two := fun m s n w _ ⟨v, h⟩ => by
    refine (rTwo b m s v n w h).mono ?_
    rintro e w' ⟨rfl, h', hk⟩
    rw [Int.toNat_natCast] at h' ⊢
    exact ⟨rfl, ⟨v, h'⟩, lives_box h.c2 h'.c2 hk⟩
  leaf := fun m s p n w _ _ _ ⟨v, h⟩ => by
    refine (rLeaf b m s v (bs p) n w h).mono ?_
    rintro e w' ⟨rfl, v', h', hk, hv⟩
    exact ⟨rfl, ⟨v', h'⟩, lives_row h.c2 h'.c2 hk hv⟩
end Go.Proofs.Ytmgckfkdbepkdaa
