import Derived.Test.YtmgckfkdbepkdaaTreF3
namespace Go.Proofs.Ytmgckfkdbepkdaa
open Go.RowKit Go.Proofs Go.Proofs.PipeA Go.Proofs.TreM
set_option maxRecDepth 100000

theorem info_str : (Try.prog.info? 9).map (fun i => (i.zero, i.size, i.bytes)) = some (some (.string ⟨#[]⟩), 1, 16) := by kernel_rfl
/-- Texts as cells, and in memory. -/
def strsOf (l : List (List UInt8)) : List Value := l.map fun p => .string (bs p)
def StrsAt (w : World) (ao : Option Addr) (l : List (List UInt8)) : Prop :=
  ∀ j (h : j < l.length), ∃ b off, ao = some ⟨b, off, none⟩ ∧ b < w.heap.size ∧ w.cell? ⟨b, off + j, none⟩ = some (.string (bs l[j]))
theorem StrsAt.below {w w' : World} {ao : Option Addr} {l : List (List UInt8)} (h : StrsAt w ao l) (hb : Below w.heap.size w w') : StrsAt w' ao l := by
  intro j hj
  obtain ⟨g, off, h1, h2, h3⟩ := h j hj
  exact ⟨g, off, h1, Nat.lt_of_lt_of_le h2 hb.size, by rw [hb.cell (p := ⟨g, off + j, none⟩) h2, h3]⟩
theorem StrsAt.nil {w : World} {l : List (List UInt8)} (h : StrsAt w none l) : l = [] := by
  cases l with
  | nil => rfl
  | cons x r => obtain ⟨_, _, e, _⟩ := h 0 (by simp); cases e
theorem strs_own {w : World} {base : Nat} {ao : Option Addr} {cap : Nat} {l : List (List UInt8)} (h : w.ownsRow base 9 1 (.slice ao l.length cap) l.length (strsOf l)) : StrsAt w ao l := by
  rcases h.2 with ⟨h1, h2⟩ | ⟨g, cap', cur, h1, _, hh, _⟩
  · have : l = [] := List.eq_nil_of_length_eq_zero h2
    subst this
    intro j hj; simp at hj
  · simp only [Value.slice.injEq] at h1
    obtain ⟨rfl, _, rfl⟩ := h1
    intro j hj
    refine ⟨g, 0, rfl, (Array.getElem?_eq_some_iff.1 hh).1, ?_⟩
    rw [Nat.zero_add, h.cellAt j (by simpa [strsOf] using hj)]
    simp [strsOf, hj]
theorem scells_at {w : World} {a : Addr} {l : List (List UInt8)} (h : StrsAt w (some a) l) : ∀ j u, (strsOf l)[j]? = some u → w.cell? (a.add j) = some u := by
  intro j u hj
  have hlt : j < l.length := by
    rcases Nat.lt_or_ge j l.length with h1 | h1
    · exact h1
    · rw [List.getElem?_eq_none (by simpa [strsOf] using h1)] at hj; cases hj
  obtain ⟨b, off, he, _, hc⟩ := h j hlt
  simp only [Option.some.injEq] at he
  subst he
  simp [strsOf, hlt] at hj
  subst hj
  rw [Addr.add_lit]
  exact hc
theorem scells_one (l : List (List UInt8)) : ∀ u ∈ strsOf l, u.oneCell' = true := by
  intro u hu
  simp only [strsOf, List.mem_map] at hu
  obtain ⟨z, _, rfl⟩ := hu
  rfl
/-- append(own texts..., texts...): the own row grows. -/
theorem run_append_strs {w : World} {base ty n1 n2 : Nat} {v : Value} {a b : List (List UInt8)} {ao : Option Addr} {cap : Nat} (h1 : a.length = n1) (h2 : b.length = n2) (hbase : base ≤ w.heap.size) (ho : w.ownsRow base 9 1 v n1 (strsOf a)) (hn : 0 < n1) (hb : StrsAt w ao b) (hs : n1 + n2 ≤ 100000) :
    ∃ v' w', (Builtin.append_ #[58, 58] ty #[v, .slice ao n2 cap]).run Try.prog w = .ok v' w' ∧ w'.ownsRow base 9 1 v' (n1 + n2) (strsOf (a ++ b)) ∧ Below base w w' := by
  subst h1 h2
  obtain ⟨i0, hi, hz0, hz1, hz2⟩ := info_parts info_str
  have happ : strsOf (a ++ b) = strsOf a ++ strsOf b := by simp [strsOf]
  cases ao with
  | none =>
    obtain rfl := hb.nil
    rcases ho.2 with ⟨_, h0⟩ | ⟨g, c, cur, rfl, r⟩
    · omega
    · have hs : Src Try.prog i0.size 58 (.slice none 0 cap) 0 [] w := by rw [hz1]; exact Src.ofNil w Try.underlying58 cap
      have hr := run_append_room_src w 58 58 ty 9 i0 Try.underlying58 hi g 0 a.length c (.slice none 0 cap) 0 [] hs (own_capR ho) (by simp) (by simp)
      exact ⟨_, w, by simpa [World.setCells] using hr, by simpa using ho, Below.refl _ _⟩
  | some ad =>
    obtain ⟨v', w', hr, h2, h3, _⟩ := run_append_own (P := Try.prog) w base 58 ty 9 i0 (.string ⟨#[]⟩) 1 16 Try.underlying58 hi hz0 hz1 hz2 rfl (by decide) v a.length (strsOf a) ho ad b.length cap (strsOf b) (by simp [strsOf]) (scells_at hb) (scells_one b) (by unfold maxLen; omega) (by omega) hbase
    exact ⟨v', w', hr, by rw [happ]; exact h2, (Below.refl base w).grown h3 hbase (fun x hx => (own_block_lt ho x hx).1)⟩

/-- What Paths leaves. -/
def PathsIs (k : Nat) (ws : List (List UInt8)) (r : List UInt8) (w : World) (e : Ending) (w' : World) : Prop :=
  ∃ v, e = .returned (.tuple #[v, .string (bs r)]) ∧ w'.ownsRow w.heap.size 9 1 v ws.length (strsOf ws) ∧ 0 < ws.length ∧ ws.length ≤ 2 ^ k ∧ Below w.heap.size w w'
theorem own_oneS (w : World) (p : List UInt8) : (w.alloc (.cells #[.string (bs p)] 9)).ownsRow w.heap.size 9 1 (.slice (some ⟨w.heap.size, 0, none⟩) 1 1) 1 (strsOf [p]) :=
  ⟨rfl, .inr ⟨w.heap.size, 1, #[.string (bs p)], rfl, Nat.le_refl _, World.alloc_heap_new w _, Nat.le_refl _, by unfold maxLen; omega, rfl, rfl⟩⟩
theorem PathsIs.one (w : World) (k : Nat) (p r : List UInt8) : PathsIs k [p] r w (.returned (.tuple #[.slice (some ⟨w.heap.size, 0, none⟩) 1 1, .string (bs r)])) (w.alloc (.cells #[.string (bs p)] 9)) :=
  ⟨_, rfl, own_oneS w p, Nat.one_pos, Nat.one_le_two_pow, box_below w _⟩
theorem PathsIs.oneD (w : World) (k : Nat) (p r : List UInt8) : PathsIs k [p] r w (.returned (.tuple #[.slice (some ⟨w.heap.size, 0, none⟩) 1 1, .string (bs r)])) (w.drew.alloc (.cells #[.string (bs p)] 9)) :=
  ⟨_, rfl, own_oneS w.drew p, Nat.one_pos, Nat.one_le_two_pow, (below_drew (Below.refl _ _)).alloc (Nat.le_refl _) _⟩

theorem pth_no {k size : Nat} (h : may k size = false) (s p : List UInt8) : pth k size s p = ([p], s) := by
  cases k with
  | zero => rfl
  | succ k => unfold pth; rw [if_neg (by rw [h]; simp)]
theorem pth_one {k size : Nat} (hm : may (k + 1) size = true) (r p : List UInt8) : pth (k + 1) size (48 :: r) p = ([p], r) := by
  rw [pth, if_pos hm]; simp
theorem pth_two {k size : Nat} (hm : may (k + 1) size = true) (r p : List UInt8) : pth (k + 1) size (49 :: r) p =
    ((pth k (size / 2) r (p ++ [48])).1 ++ (pth k (size / 2) (pth k (size / 2) r (p ++ [48])).2 (p ++ [49])).1, (pth k (size / 2) (pth k (size / 2) r (p ++ [48])).2 (p ++ [49])).2) := by
  rw [pth, if_pos hm]; simp

set_option maxHeartbeats 3200000 in
theorem rPaths : ∀ (k size : Nat) (s p r : List UInt8) (lv : List Int) (w : World), k ≤ 4 → size ≤ 1024 → s.length ≤ 100000 → p.length + k ≤ 100 → rd k size s = some (lv, r) →
    Calls Try.prog 32 #[.string (bs s), .int .i64 size, .int .i64 k, .string (bs p)] w (PathsIs k (pth k size s p).1 (pth k size s p).2 w)
  | 0, size, s, p, r, lv, w, hk, hs, hl, hp, hr => by
    have HM := Lib.hid (rMay 0 size w (by omega) (by omega))
    rw [may_zero] at HM
    have HF := Lib.hid (PathsIs.one w 0 p s)
    rw [pth_no (may_zero size)]
    clear hr
    go_enter Try.func32, Try.ntmps32
    go_wp2_with fail
    refine HM.out.mono ?_
    rintro e w1 ⟨rfl, rfl⟩
    go_wp2
    refine bodyPost_ret (v := .tuple #[.slice (some ⟨w.heap.size, 0, none⟩) 1 1, .string (bs s)]) (by simp [results, Try.results32, go_sem]) rfl ?_
    exact HF.out
  | k + 1, size, s, p, r, lv, w, hk, hs, hl, hp, hr => by
    have HM := Lib.hid (rMay (k + 1) size w (by omega) (by omega))
    cases hm : may (k + 1) size with
    | false =>
      rw [hm] at HM
      have HF := Lib.hid (PathsIs.one w (k + 1) p s)
      rw [pth_no hm]
      clear hr hm
      go_enter Try.func32, Try.ntmps32
      go_wp2_with fail
      refine HM.out.mono ?_
      rintro e w1 ⟨rfl, rfl⟩
      go_wp2
      refine bodyPost_ret (v := .tuple #[.slice (some ⟨w.heap.size, 0, none⟩) 1 1, .string (bs s)]) (by simp [results, Try.results32, go_sem]) rfl ?_
      exact HF.out
    | true =>
      rw [hm] at HM
      cases s with
      | nil => rw [rd, if_pos hm] at hr; cases hr
      | cons c t =>
        obtain ⟨S, hS⟩ : ∃ S, S = bs (c :: t) := ⟨_, rfl⟩
        have hsz : S.size = t.length + 1 := by rw [hS, bs_size]; rfl
        have h0 : 0 < S.size := by omega
        have hc : (S[0].toNat : Int) = c.toNat := by subst hS; rw [bs_get]; rfl
        have HX : Hid (S.extract 1 S.size = bs t) := by
          show _ = _
          rw [hsz, hS, bs_extract]; congr 1; simp
        have htl : t.length ≤ 100000 := by simp at hl; omega
        rw [← hS]
        have HS := Lib.hid hS
        have hS1 : S.size ≤ t.length + 1 := by omega
        have hsz2 : size / 2 ≤ 1024 := by omega
        clear hS hsz hl
        by_cases h48 : c = 48
        · have t2 : ((S[0].toNat : Int) == 48) = true := by rw [hc, h48]; rfl
          rw [h48, pth_one hm]
          show Calls Try.prog 32 #[.string S, .int .i64 size, .int .i64 ((k + 1 : Nat) : Int), .string (bs p)] w (PathsIs (k + 1) [p] t w)
          have HF := Lib.hid (PathsIs.oneD w (k + 1) p t)
          clear hc h48 hm hr
          go_enter Try.func32, Try.ntmps32
          go_wp2_with fail
          refine HM.out.mono ?_
          rintro e w1 ⟨rfl, rfl⟩
          go_wp2_with fail
          go_region_with (fail)
          all_goals
            rw [HX.out]
            go_wp2
            refine bodyPost_ret (v := .tuple #[.slice (some ⟨w.heap.size, 0, none⟩) 1 1, .string (bs t)]) (by simp [results, Try.results32, go_sem]) rfl ?_
            exact HF.out
        · have t2 : ((S[0].toNat : Int) == 48) = false := by rw [hc, beq_eq_false_iff_ne]; intro h; exact h48 (UInt8.toNat_inj.1 (by rw [show (48 : UInt8).toNat = 48 from rfl]; omega))
          by_cases h49 : c = 49
          · rw [h49, rd_two hm] at hr
            cases e1 : rd k (size / 2) t with
            | none => rw [rd2_none e1] at hr; cases hr
            | some x1 =>
              obtain ⟨a1, r1⟩ := x1
              rw [rd2_some e1] at hr
              cases e2 : rd k (size / 2) r1 with
              | none => rw [e2] at hr; cases hr
              | some x2 =>
                obtain ⟨a2, r2⟩ := x2
                have hb1 := rd_behind e1
                obtain ⟨ws1, p1, -, -⟩ := pth_like k _ _ _ _ (p ++ [48]) e1
                obtain ⟨ws2, p2, -, -⟩ := pth_like k _ _ _ _ (p ++ [49]) e2
                have HR1 := Lib.hid (rPaths k (size / 2) t (p ++ [48]) r1 a1 w (by omega) hsz2 htl (by simp; omega) e1)
                have HR2 := fun W => Lib.hid (rPaths k (size / 2) r1 (p ++ [49]) r2 a2 W (by omega) hsz2 (by simp only at hb1; omega) (by simp; omega) e2)
                rw [p1] at HR1
                rw [p2] at HR2
                have HR1 : Hid (Calls Try.prog 32 #[.string (bs t), .int .i64 ((size / 2 : Nat) : Int), .int .i64 k, .string (bs (p ++ [48]))] w (PathsIs k ws1 r1 w)) := HR1
                have HR2 : ∀ W, Hid (Calls Try.prog 32 #[.string (bs r1), .int .i64 ((size / 2 : Nat) : Int), .int .i64 k, .string (bs (p ++ [49]))] W (PathsIs k ws2 r2 W)) := HR2
                rw [show (pth (k + 1) size (c :: t) p) = (ws1 ++ ws2, r2) by rw [h49, pth_two hm, p1]; simp only [p2]]
                show Calls Try.prog 32 #[.string S, .int .i64 size, .int .i64 ((k + 1 : Nat) : Int), .string (bs p)] w (PathsIs (k + 1) (ws1 ++ ws2) r2 w)
                have HQ : Hid ((size : Int) / 2 = ((size / 2 : Nat) : Int)) := by show _ = _; omega
                have HP1 : Hid (bs p ++ ⟨#[48]⟩ = bs (p ++ [48])) := bs_append p [48]
                have HP2 : Hid (bs p ++ ⟨#[49]⟩ = bs (p ++ [49])) := bs_append p [49]
                have hps : (bs p).size ≤ 100 := by rw [bs_size]; omega
                have h48s : (ByteArray.mk #[48]).size = 1 := rfl
                have h49s : (ByteArray.mk #[49]).size = 1 := rfl
                clear hc h49 h48 hm hr hb1 e1 e2 p1 p2
                go_enter Try.func32, Try.ntmps32
                go_wp2_with fail
                refine HM.out.mono ?_
                rintro e w1 ⟨rfl, rfl⟩
                go_wp2_with fail
                rw [HX.out, HQ.out, HP1.out]
                refine HR1.out.mono ?_
                rintro e w1 ⟨v1, rfl, ho1, hn1, hm1, hb1⟩
                clear t2 hS1
                go_wp2_with fail
                rw [HQ.out, HP2.out]
                refine (HR2 _).out.mono ?_
                rintro e w2 ⟨v2, rfl, ho2, hn2, hm2, hb2⟩
                have hb02 := hb1.trans (hb2.mono hb1.size)
                obtain ⟨ao2, cap2, rfl⟩ := own_sl ho2
                have hk16 : 2 ^ k ≤ 8 := Nat.pow_le_pow_right (n := 2) (by omega) (show k ≤ 3 by omega)
                obtain ⟨v3, w3, hrun, ho3, hb3⟩ := run_append_strs (ty := 58) (cap := cap2) rfl rfl hb02.size (ownsRow_below ho1 hb2) hn1 (strs_own ho2) (by omega)
                have HF : Hid (PathsIs (k + 1) (ws1 ++ ws2) r2 w (.returned (.tuple #[v3, .string (bs r2)])) w3) := by
                  refine ⟨v3, rfl, ?_, ?_, ?_, hb02.trans hb3⟩
                  · simp only [List.length_append]; exact ho3
                  · simp only [List.length_append]; omega
                  · simp only [List.length_append]; rw [Nat.pow_succ]; omega
                clear ho1 hn1 hm1 hb1 ho2 hn2 hm2 hb2 hb02 ho3 hb3 hk16 HR1 HR2
                go_wp2_with (at_builtin; refine wpList_append_run rfl _ _ 58 rfl _ _ _ _ rfl rfl hrun ?_)
                refine bodyPost_ret (v := .tuple #[v3, .string (bs r2)]) (by simp [results, Try.results32, go_sem]) rfl ?_
                exact HF.out
          · rw [rd_bad hm h48 h49] at hr; cases hr
end Go.Proofs.Ytmgckfkdbepkdaa
