import Derived.Test.YtmgckfkdbepkdaaTreT2
namespace Go.Proofs.Ytmgckfkdbepkdaa
open Go.RowKit Go.Proofs Go.Proofs.PipeM Go.Proofs.PipeA Go.Proofs.TreM
set_option maxRecDepth 100000

set_option maxHeartbeats 3200000 in
theorem tLeaf (rb : Nat) (rao : Option Addr) (b m : Nat) (s : TkS) (v : Value) (p : ByteArray) (n : Nat) (w : World) (h : TkAt rb rao b (m + 1) s v w) :
    Calls Try.prog 49 #[.pointer (some ⟨b, 0, none⟩), .string p, .int .i64 n] w fun e w' => e = .returned (.bool (decide (s.rs.err = 0))) ∧ ∃ v', TkAt rb rao b m ⟨s.rs, s.text, s.out ++ [(n : Int)]⟩ v' w' ∧
      Keeps (b :: v.ownBlock.toList) w w' ∧ (v'.ownBlock = v.ownBlock ∨ ∃ g, v'.ownBlock = some g ∧ w.heap.size ≤ g) := by
  have hb1 := box_below w (.cells #[.int .i64 (n : Int)] 3)
  have hn1 := World.alloc_heap_new w (.cells #[.int .i64 (n : Int)] 3)
  have h1 := h.keeps (keeps_of_below hb1 [])
  have hsz1 : (w.alloc (.cells #[.int .i64 (n : Int)] 3)).heap.size = w.heap.size + 1 := by simp
  have hm := h.hm
  have ht := h.ht
  have hrb := h.rlt
  obtain ⟨v', w2, hrun, hown2, hk2, hw2⟩ := run_append_one (ty := 23) (base := b + 1) (by have := h1.lt; omega) h1.own (cell_of_heap hn1 0) (by omega)
  have hvb : ∀ g, v.ownBlock = some g → b + 1 ≤ g ∧ g < w.heap.size := fun g hg => h.row_lt hg
  have hbn : b ∉ v.ownBlock.toList := by
    intro hc
    rw [Option.mem_toList] at hc
    have := hvb b hc
    omega
  have hrn : rb ∉ v.ownBlock.toList := by
    intro hc
    rw [Option.mem_toList] at hc
    have := hvb rb hc
    omega
  have han : ∀ g off, rao = some ⟨g, off, none⟩ → g ∉ v.ownBlock.toList := by
    intro g off hg hc
    rw [Option.mem_toList] at hc
    have := hvb g hc
    have := h.ra g off hg
    omega
  have hblt := Nat.lt_of_lt_of_le h1.lt hk2.size
  have c0 := (hk2.cell (p := ⟨b, 0, none⟩) h1.lt hbn).trans h1.c0
  have c1 := (hk2.cell (p := ⟨b, 1, none⟩) h1.lt hbn).trans h1.c1
  have c2 := (hk2.cell (p := ⟨b, 2, none⟩) h1.lt hbn).trans h1.c2
  have f1 := (hk2.frozen (p := ⟨b, 1, none⟩) h1.lt hbn).trans h1.f1
  have f2 := (hk2.frozen (p := ⟨b, 2, none⟩) h1.lt hbn).trans h1.f2
  have hk3 := keeps_setCell w2 b 2 v'
  have hrd3 := (h1.rd.keeps hk2 hrn han).keeps hk3 (by simp; omega) (fun g off hg => by have := h.ra g off hg; simp; omega)
  have HF : Hid (TkAt rb rao b m ⟨s.rs, s.text, s.out ++ [(n : Int)]⟩ v' (w2.setCell ⟨b, 2, none⟩ v')) := by
    refine ⟨Nat.lt_of_lt_of_le hblt hk3.size, hrb, ?_, ?_, World.cell?_setCell_same _ _ _ c2, by simp [f1], by simp [f2], hrd3, h.ra, ownsRow_keeps hown2 hk3 (fun g hg => ?_), by simp only; omega, ?_⟩
    · simp [World.cell?_setCell_other, c0]
    · simp [World.cell?_setCell_other, c1]
    · have := (own_block_lt hown2 g hg).1
      simp; omega
    · simp only [List.length_append, List.length_cons, List.length_nil]; omega
  have HK : Hid (Keeps (b :: v.ownBlock.toList) w (w2.setCell ⟨b, 2, none⟩ v')) :=
    ((keeps_of_below hb1 _).trans ⟨hk2.os, hk2.tape, hk2.output, hk2.size, fun k hk hn => hk2.block k hk (fun hc => hn (List.mem_cons_of_mem _ hc))⟩).trans
      ⟨hk3.os, hk3.tape, hk3.output, hk3.size, fun k hk hn => hk3.block k hk (fun hc => hn (by simp at hc; subst hc; exact List.mem_cons_self ..))⟩
  have HW : Hid (v'.ownBlock = v.ownBlock ∨ ∃ g, v'.ownBlock = some g ∧ w.heap.size ≤ g) := by
    rcases hw2 with h | ⟨g, h, hg⟩
    · exact .inl h
    · exact .inr ⟨g, h, by omega⟩
  have HFL := Lib.hid (aFail rb rao s.rs _ hrd3)
  obtain ⟨ao, cap, rfl⟩ := own_sl h.own
  obtain ⟨ao2, cap2, rfl⟩ := own_sl hown2
  have d0 := h.c2
  have d1 := h.f2
  have d2 := h.lt
  have HBD : Hid ((s.rs.err == 0) = decide (s.rs.err = 0)) := by
    show _ = _
    by_cases h0 : s.rs.err = 0
    · rw [h0]; rfl
    · rw [decide_eq_false h0, beq_eq_false_iff_ne]; exact h0
  obtain ⟨er, her⟩ : ∃ er, er = s.rs.err := ⟨_, rfl⟩
  rw [← her] at HFL HBD ⊢
  obtain ⟨o, ho⟩ : ∃ o, o = decide (er = 0) := ⟨_, rfl⟩
  rw [← ho] at HBD ⊢
  have tb : (er == 0) = o := HBD.out
  have hln : s.out.length + 1 = (s.out ++ [(n : Int)]).length := by simp
  have HLN := Lib.hid hln
  rw [← HLN.out] at HFL
  clear h h1 hown2 hk2 hw2 hb1 hn1 hvb hbn hrn han c1 f1 hk3 hsz1 hm ht hrd3 her ho hln
  go_enter Try.func49, Try.ntmps49
  go_wp2_with (first | (at_builtin; refine wpList_append_run rfl _ _ 23 rfl _ _ _ _ rfl rfl hrun ?_) | fail)
  refine HFL.out.mono ?_
  rintro e w5 ⟨rfl, rfl⟩
  go_wp2
  go_ret
  rw [HLN.out]
  exact ⟨rfl, _, HF.out, HK.out, HW.out⟩

/-- The machine that takes a tree. -/
def AtT (rb : Nat) (rao : Option Addr) (b m : Nat) (s : TkS) (w : World) : Prop := ∃ v, TkAt rb rao b m s v w
def takeOwn (rb b : Nat) (w : World) (x : Nat) : Prop := x = rb ∨ rowBlock b 2 w x
theorem lives_or {rb : Nat} {Own : World → Nat → Prop} {w w' : World} (h : Lives Own w w') : Lives (fun w x => x = rb ∨ Own w x) w w' :=
  ⟨h.os, h.tape, h.output, h.size, fun x hx hn => by
    have h1 := h.block x hx (fun ho => hn (.inr ho))
    exact ⟨h1.1, fun ho => by rcases ho with ho | ho; exact hn (.inl ho); exact h1.2 ho⟩⟩
theorem takeWalks (rb : Nat) (rao : Option Addr) (b : Nat) : Walks tkM (AtT rb rao b) (takeOwn rb b) 48 49 #[.pointer (some ⟨b, 0, none⟩)] #[] #[.pointer (some ⟨b, 0, none⟩)] #[] where
  eg1 := fun _ _ => by kernel_rfl
  eg2 := fun _ _ => by kernel_rfl
  mn := fun m m' s w hm ⟨v, h⟩ => ⟨v, h.less hm⟩
  lt := fun m s w x ⟨v, h⟩ hx => by
    rcases hx with rfl | hx
    · exact Nat.lt_trans h.rlt h.lt
    · rw [own_row h.c2] at hx
      rcases hx with rfl | hx
      · exact h.lt
      · exact (h.row_lt hx).2
  st := fun m s w w' ⟨v, h⟩ hb => by
    have h' := h.keeps (keeps_of_below hb [])
    refine ⟨⟨v, h'⟩, fun x hx => ?_⟩
    rcases hx with hx | hx
    · exact .inl hx
    · rw [own_row h'.c2] at hx
      exact .inr ((own_row h.c2).2 hx)
  two := fun m s n w _ ⟨v, h⟩ => by
    refine (tTwo rb rao b m s v n w h).mono ?_
    rintro e w' ⟨rfl, h', hk⟩
    rw [Int.toNat_natCast] at h' ⊢
    refine ⟨rfl, ⟨v, h'⟩, lives_keeps hk (fun x hx => ?_) (fun x hx => .inl ?_)⟩
    · rcases List.mem_cons.1 hx with hx | hx
      · exact .inl hx
      · exact .inr (.inl (by simpa using hx))
    · rcases hx with hx | hx
      · exact .inl hx
      · rw [own_row h'.c2] at hx
        exact .inr ((own_row h.c2).2 hx)
  leaf := fun m s p n w _ _ _ ⟨v, h⟩ => by
    refine (tLeaf rb rao b m s v (bs p) n w h).mono ?_
    rintro e w' ⟨rfl, v', h', hk, hv⟩
    exact ⟨rfl, ⟨v', h'⟩, lives_or (lives_row h.c2 h'.c2 hk hv)⟩
end Go.Proofs.Ytmgckfkdbepkdaa
