import Derived.Test.YtmgckfkdbepkdaaInts9
import Derived.Test.YtmgckfkdbepkdaaTreM
import Derived.RangeFuncRecord
namespace Go.Proofs.Ytmgckfkdbepkdaa
open Go.RowKit Go.Proofs Go.Proofs.PipeA Go.Proofs.TreM
set_option maxRecDepth 100000

theorem own_sl {w : World} {base n size : Nat} {e : TypeId} {xs : List Value} {v : Value} (h : w.ownsRow base e size v n xs) : ∃ ao cap, v = .slice ao n cap := by
  rcases h.2 with ⟨rfl, rfl⟩ | ⟨g, cap, cur, rfl, _⟩
  · exact ⟨none, 0, rfl⟩
  · exact ⟨_, cap, rfl⟩
/-- A text of bytes. -/
def bs (l : List UInt8) : ByteArray := ⟨l.toArray⟩
theorem bs_size (l : List UInt8) : (bs l).size = l.length := by simp [bs, ByteArray.size]
theorem bs_toList (l : List UInt8) : (bs l).toList = l := by rw [bs, ByteArray.toList_mk]
theorem bs_data (s : ByteArray) : bs s.data.toList = s := by
  obtain ⟨⟨l⟩⟩ := s
  rfl
theorem bs_extract (l : List UInt8) (a b : Nat) : (bs l).extract a b = bs ((l.drop a).take (b - a)) := ByteArray.extract_mk l a b
theorem bs_append (a b : List UInt8) : bs a ++ bs b = bs (a ++ b) := by
  apply ByteArray.ext
  simp [bs]
theorem bs_get (l : List UInt8) (k : Nat) (h : k < (bs l).size) : (bs l)[k] = l[k]'(by rwa [bs_size] at h) := by
  simp [bs, ByteArray.getElem_eq_getElem_data]
theorem bs_inj {a b : List UInt8} (h : bs a = bs b) : a = b := by rw [← bs_toList a, h, bs_toList]

theorem may_cases (k size : Nat) : (k = 0 ∧ may k size = false) ∨ (0 < k ∧ size = 0 ∧ may k size = false) ∨ (0 < k ∧ 0 < size ∧ (((size : Int) % 32 == 0) = false) ∧ may k size = false) ∨ (0 < k ∧ 0 < size ∧ (((size : Int) % 32 == 0) = true) ∧ may k size = true) := by
  unfold may
  by_cases h1 : 0 < k
  · by_cases h2 : 0 < size
    · by_cases h3 : size % 32 = 0
      · exact .inr (.inr (.inr ⟨h1, h2, by rw [beq_iff_eq]; omega, by simp [h1, h2, h3]⟩))
      · exact .inr (.inr (.inl ⟨h1, h2, by rw [beq_eq_false_iff_ne]; omega, by simp [h3]⟩))
    · exact .inr (.inl ⟨h1, by omega, by simp [h2]⟩)
  · exact .inl ⟨by omega, by simp [h1]⟩

set_option maxHeartbeats 400000 in
theorem rMay (k size : Nat) (w : World) (hk : k ≤ 100000) (hs : size ≤ 100000) :
    Calls Try.prog 31 #[.int .i64 size, .int .i64 k] w fun e w' => e = .returned (.bool (may k size)) ∧ w = w' := by
  rcases may_cases k size with ⟨h1, h2⟩ | ⟨h1, h2, h3⟩ | ⟨h1, h2, h3, h4⟩ | ⟨h1, h2, h3, h4⟩
  · subst h1
    rw [h2]
    clear h2
    go_enter Try.func31, Try.ntmps31
    go_wp2
    go_ret
    exact ⟨rfl, rfl⟩
  · subst h2
    rw [h3]
    clear h3
    go_enter Try.func31, Try.ntmps31
    go_wp2
    go_ret
    exact ⟨rfl, rfl⟩
  · rw [h4]
    clear h4
    go_enter Try.func31, Try.ntmps31
    go_wp2
    go_ret
    exact ⟨rfl, rfl⟩
  · rw [h4]
    clear h4
    go_enter Try.func31, Try.ntmps31
    go_wp2
    go_ret
    exact ⟨rfl, rfl⟩

/-- What is behind a tree; nothing, where there is none. -/
def behindOf {A : Type} (o : Option (A × List UInt8)) : List UInt8 := match o with | none => [] | some x => x.2
/-- What Read leaves: a row of its own, what is behind, whether there is a tree. -/
def ReadIs (k : Nat) (o : Option (List Int × List UInt8)) (w : World) (e : Ending) (w' : World) : Prop :=
  ∃ v l, e = .returned (.tuple #[v, .string (bs (behindOf o)), .bool o.isSome]) ∧ w'.ownsRow w.heap.size 3 1 v l.length (intsOf l) ∧ l.length ≤ 2 ^ k ∧ (∀ x, o = some x → l = x.1) ∧ Below w.heap.size w w'

/-- append(own..., numbers...): the own row grows. -/
theorem run_append_rows {w : World} {base ty n1 n2 : Nat} {v : Value} {a b : List Int} {ao : Option Addr} {cap : Nat} (h1 : a.length = n1) (h2 : b.length = n2) (hbase : base ≤ w.heap.size) (ho : w.ownsRow base 3 1 v n1 (intsOf a)) (hn : 0 < n1) (hb : IntsAt w ao b) (hs : n1 + n2 ≤ 100000) :
    ∃ v' w', (Builtin.append_ #[23, 23] ty #[v, .slice ao n2 cap]).run Try.prog w = .ok v' w' ∧ w'.ownsRow base 3 1 v' (n1 + n2) (intsOf (a ++ b)) ∧ Below base w w' := by
  subst h1 h2
  obtain ⟨i0, hi, hz0, hz1, hz2⟩ := info_parts info_int
  have happ : intsOf (a ++ b) = intsOf a ++ intsOf b := by simp [intsOf]
  cases ao with
  | none =>
    obtain rfl := hb.nil
    rcases ho.2 with ⟨_, h0⟩ | ⟨g, c, cur, rfl, r⟩
    · omega
    · have hs : Src Try.prog i0.size 23 (.slice none 0 cap) 0 [] w := by rw [hz1]; exact Src.ofNil w Try.underlying23 cap
      have hr := run_append_room_src w 23 23 ty 3 i0 Try.underlying23 hi g 0 a.length c (.slice none 0 cap) 0 [] hs (own_lt ho).2.2.1 (by simp) (by simp)
      exact ⟨_, w, by simpa [World.setCells] using hr, by simpa using ho, Below.refl _ _⟩
  | some ad =>
    obtain ⟨v', w', hr, h2, h3, _⟩ := run_append_own (P := Try.prog) w base 23 ty 3 i0 (.int .i64 0) 1 8 Try.underlying23 hi hz0 hz1 hz2 rfl (by decide) v a.length (intsOf a) ho ad b.length cap (intsOf b) (by simp [intsOf]) (icells_at hb) (icells_one b) (by unfold maxLen; omega) (by omega) hbase
    exact ⟨v', w', hr, by rw [happ]; exact h2, (Below.refl base w).grown h3 hbase (fun x hx => (own_block_lt ho x hx).1)⟩

/-- A list of one number, new. -/
theorem own_one (w : World) (x : Int) : (w.alloc (.cells #[.int .i64 x] 3)).ownsRow w.heap.size 3 1 (.slice (some ⟨w.heap.size, 0, none⟩) 1 1) 1 (intsOf [x]) :=
  ⟨rfl, .inr ⟨w.heap.size, 1, #[.int .i64 x], rfl, Nat.le_refl _, World.alloc_heap_new w _, Nat.le_refl _, by unfold maxLen; omega, rfl, rfl⟩⟩
theorem ReadIs.one (w : World) (k size : Nat) (r : List UInt8) : ReadIs k (some ([(size : Int)], r)) w (.returned (.tuple #[.slice (some ⟨w.heap.size, 0, none⟩) 1 1, .string (bs r), .bool true])) (w.alloc (.cells #[.int .i64 (size : Int)] 3)) :=
  ⟨_, [(size : Int)], rfl, own_one w _, Nat.one_le_two_pow, fun x h => (by cases h; rfl), box_below w _⟩
theorem ReadIs.oneD (w : World) (k size : Nat) (r : List UInt8) : ReadIs k (some ([(size : Int)], r)) w (.returned (.tuple #[.slice (some ⟨w.heap.size, 0, none⟩) 1 1, .string (bs r), .bool true])) (w.drew.alloc (.cells #[.int .i64 (size : Int)] 3)) :=
  ⟨_, [(size : Int)], rfl, own_one w.drew _, Nat.one_le_two_pow, fun x h => (by cases h; rfl), (below_drew (Below.refl _ _)).alloc (Nat.le_refl _) _⟩
theorem ReadIs.no (w : World) (k : Nat) : ReadIs k none w (.returned (.tuple #[.slice none 0 0, .string ⟨#[]⟩, .bool false])) w :=
  ⟨.slice none 0 0, [], rfl, World.ownsRow_nil _ _ _ _, Nat.zero_le _, fun x h => (by cases h), Below.refl _ _⟩

theorem ReadIs.noB {w w' : World} {k : Nat} (hb : Below w.heap.size w w') : ReadIs k none w (.returned (.tuple #[.slice none 0 0, .string ⟨#[]⟩, .bool false])) w' :=
  ⟨.slice none 0 0, [], rfl, World.ownsRow_nil _ _ _ _, Nat.zero_le _, fun x h => (by cases h), hb⟩
theorem rd_behind {k size : Nat} {s : List UInt8} {x : List Int × List UInt8} (h : rd k size s = some x) : x.2.length ≤ s.length := by
  obtain ⟨l, r⟩ := x
  obtain ⟨t, ht, _⟩ := rd_ft k size s l r h
  simp only [ht, List.length_append]; omega
theorem rd_pos {k size : Nat} {s : List UInt8} {x : List Int × List UInt8} (h : rd k size s = some x) : 0 < x.1.length := by
  obtain ⟨l, r⟩ := x
  obtain ⟨_, _, y, t, rfl, _⟩ := rd_like k size s l r h
  simp

set_option maxHeartbeats 800000 in
theorem rRead_leaf (k size : Nat) (s : List UInt8) (w : World) (hk : k ≤ 4) (hs : size ≤ 1024) (hm : may k size = false) :
    Calls Try.prog 27 #[.string (bs s), .int .i64 size, .int .i64 k] w (ReadIs k (some ([(size : Int)], s)) w) := by
  have HM := Lib.hid (rMay k size w (by omega) (by omega))
  rw [hm] at HM
  have HF := Lib.hid (ReadIs.one w k size s)
  clear hm
  go_enter Try.func27, Try.ntmps27
  go_wp2_with fail
  refine HM.out.mono ?_
  rintro e w1 ⟨rfl, rfl⟩
  go_wp2
  refine bodyPost_ret (v := .tuple #[.slice (some ⟨w.heap.size, 0, none⟩) 1 1, .string (bs s), .bool true]) (by simp [results, Try.results27, go_sem]) rfl ?_
  exact HF.out

set_option maxHeartbeats 1600000 in
theorem rRead_none (k size : Nat) (w : World) (hk : k ≤ 4) (hs : size ≤ 1024) (hm : may k size = true) :
    Calls Try.prog 27 #[.string (bs []), .int .i64 size, .int .i64 k] w (ReadIs k none w) := by
  have HM := Lib.hid (rMay k size w (by omega) (by omega))
  rw [hm] at HM
  have HF := Lib.hid (ReadIs.no w k)
  clear hm
  show Calls Try.prog 27 #[.string ⟨#[]⟩, .int .i64 size, .int .i64 k] w (ReadIs k none w)
  go_enter Try.func27, Try.ntmps27
  go_wp2_with fail
  refine HM.out.mono ?_
  rintro e w1 ⟨rfl, rfl⟩
  go_wp2
  refine bodyPost_ret (v := .tuple #[.slice none 0 0, .string ⟨#[]⟩, .bool false]) (by simp [results, Try.results27, go_sem]) rfl ?_
  exact HF.out

set_option maxHeartbeats 3200000 in
theorem rRead : ∀ (k size : Nat) (s : List UInt8) (w : World), k ≤ 4 → size ≤ 1024 → s.length ≤ 100000 →
    Calls Try.prog 27 #[.string (bs s), .int .i64 size, .int .i64 k] w (ReadIs k (rd k size s) w)
  | 0, size, s, w, hk, hs, _ => rRead_leaf 0 size s w hk hs (may_zero size)
  | k + 1, size, s, w, hk, hs, hl => by
    cases hm : may (k + 1) size with
    | false =>
      have := rRead_leaf (k + 1) size s w hk hs hm
      unfold rd
      rw [if_neg (by rw [hm]; simp)]
      exact this
    | true =>
      cases s with
      | nil =>
        have := rRead_none (k + 1) size w hk hs hm
        rw [rd, if_pos hm]
        exact this
      | cons c r =>
        have HM := Lib.hid (rMay (k + 1) size w (by omega) (by omega))
        rw [hm] at HM
        obtain ⟨S, hS⟩ : ∃ S, S = bs (c :: r) := ⟨_, rfl⟩
        have hsz : S.size = r.length + 1 := by rw [hS, bs_size]; rfl
        have h0 : 0 < S.size := by omega
        have hc : (S[0].toNat : Int) = c.toNat := by subst hS; rw [bs_get]; rfl
        have hE : (S.toList == ([] : List UInt8)) = false := by rw [hS, bs_toList]; rfl
        have HX : Hid (S.extract 1 S.size = bs r) := by
          show _ = _
          rw [hsz, hS, bs_extract]; congr 1; simp
        have hrl : r.length ≤ 100000 := by simp at hl; omega
        rw [← hS]
        have HS := Lib.hid hS
        have HMM := Lib.hid hm
        have hS1 : S.size ≤ r.length + 1 := by omega
        have hsz2 : size / 2 ≤ 1024 := by omega
        clear hm hS hsz hl
        by_cases h48 : c = 48
        · have t1 : ((S[0].toNat : Int) != 48) = false := by rw [hc, h48]; rfl
          have t2 : ((S[0].toNat : Int) == 48) = true := by rw [hc, h48]; rfl
          rw [h48, rd_one HMM.out]
          have HF := Lib.hid (ReadIs.oneD w (k + 1) size r)
          clear hc h48
          go_enter Try.func27, Try.ntmps27
          go_wp2_with fail
          refine HM.out.mono ?_
          rintro e w1 ⟨rfl, rfl⟩
          go_wp2_with fail
          go_region_with (fail)
          all_goals
            rw [HX.out]
            go_wp2
            refine bodyPost_ret (v := .tuple #[.slice (some ⟨w.heap.size, 0, none⟩) 1 1, .string (bs r), .bool true]) (by simp [results, Try.results27, go_sem]) rfl ?_
            exact HF.out
        · have t1 : ((S[0].toNat : Int) != 48) = true := by rw [hc, bne_iff_ne]; intro h; exact h48 (UInt8.toNat_inj.1 (by rw [show (48 : UInt8).toNat = 48 from rfl]; omega))
          have t2 : ((S[0].toNat : Int) == 48) = false := by rw [hc, beq_eq_false_iff_ne]; intro h; exact h48 (UInt8.toNat_inj.1 (by rw [show (48 : UInt8).toNat = 48 from rfl]; omega))
          by_cases h49 : c = 49
          · have t3 : ((S[0].toNat : Int) != 49) = false := by rw [hc, h49]; rfl
            rw [h49, rd_two HMM.out]
            obtain ⟨O, hO⟩ : ∃ O, O = rd2 k (size / 2) r := ⟨_, rfl⟩
            rw [← hO]
            have HOO := Lib.hid hO
            clear hc h49 h48 hO
            go_enter Try.func27, Try.ntmps27
            go_wp2_with fail
            refine HM.out.mono ?_
            rintro e w1 ⟨rfl, rfl⟩
            have HQ : Hid ((size : Int) / 2 = ((size / 2 : Nat) : Int)) := by show _ = _; omega
            have HR1 := Lib.hid (rRead k (size / 2) r w (by omega) hsz2 hrl)
            go_wp2_with fail
            rw [HX.out, HQ.out]
            clear t1 t2 t3 hE hS1
            refine HR1.out.mono ?_
            rintro e w1 ⟨v1, l1, rfl, ho1, hn1, hx1, hb1⟩
            have hb1s := hb1.size
            cases hr1 : rd k (size / 2) r with
            | none =>
              have HF := Lib.hid (ReadIs.noB (k := k + 1) hb1)
              obtain rfl : O = none := by rw [HOO.out, rd2_none hr1]
              clear hr1 ho1 hn1 hx1 hb1 hb1s HR1
              go_wp2
              refine bodyPost_ret (v := .tuple #[.slice none 0 0, .string ⟨#[]⟩, .bool false]) (by simp [results, Try.results27, go_sem]) rfl ?_
              exact HF.out
            | some x1 =>
              have hp1 := rd_pos hr1
              have hb1l := rd_behind hr1
              obtain rfl := hx1 x1 hr1
              obtain ⟨a, r1⟩ := x1
              have hb1l : r1.length ≤ r.length := hb1l
              have hp1 : 0 < a.length := hp1
              have hn1 : a.length ≤ 2 ^ k := hn1
              have ho1 : w1.ownsRow w.heap.size 3 1 v1 a.length (intsOf a) := ho1
              have HOX : Hid (O = (rd k (size / 2) r1).map fun y => (a ++ y.1, y.2)) := by show _ = _; rw [HOO.out, rd2_some hr1]
              have HR2 := Lib.hid (rRead k (size / 2) r1 w1 (by omega) hsz2 (by omega))
              have HO1 := Lib.hid ho1
              have HB1 := Lib.hid hb1
              have HN1 := Lib.hid hn1
              have HP1 := Lib.hid hp1
              clear hr1 ho1 hn1 hx1 hb1 hp1 hb1l HR1
              go_wp2_with fail
              rw [HQ.out]
              refine HR2.out.mono ?_
              rintro e w2 ⟨v2, l2, rfl, ho2, hn2, hx2, hb2⟩
              have hb02 := HB1.out.trans (hb2.mono hb1s)
              obtain ⟨ao2, cap2, rfl⟩ := own_sl ho2
              have hk16 : 2 ^ k ≤ 8 := Nat.pow_le_pow_right (n := 2) (by omega) (show k ≤ 3 by omega)
              obtain ⟨v3, w3, hrun, ho3, hb3⟩ := run_append_rows (ty := 23) (cap := cap2) rfl rfl hb02.size (ownsRow_below HO1.out hb2) HP1.out (ints_own ho2) (by have := HN1.out; omega)
              have HO3 := Lib.hid ho3
              have HB3 := Lib.hid (hb02.trans hb3)
              have HN3 : Hid (a.length + l2.length ≤ 2 ^ (k + 1)) := by show _ ≤ _; have := HN1.out; rw [Nat.pow_succ]; omega
              have HX2 := Lib.hid hx2
              clear hb02 ho2 hn2 hb2 ho3 hb3 hk16 hx2 HR2 HN1 HP1 hb1s
              go_wp2_with (at_builtin; refine wpList_append_run rfl _ _ 23 rfl _ _ _ _ rfl rfl hrun ?_)
              refine bodyPost_ret (v := .tuple #[v3, .string (bs (behindOf (rd k (size / 2) r1))), .bool (rd k (size / 2) r1).isSome]) (by simp [results, Try.results27, go_sem]) rfl ?_
              refine ⟨v3, a ++ l2, ?_, by rw [List.length_append]; exact HO3.out, by rw [List.length_append]; exact HN3.out, ?_, HB3.out⟩
              · rw [HOX.out]; cases rd k (size / 2) r1 <;> rfl
              · intro x hx
                rw [HOX.out] at hx
                cases hr2 : rd k (size / 2) r1 with
                | none => rw [hr2] at hx; cases hx
                | some x2 =>
                  rw [hr2] at hx
                  obtain rfl := HX2.out x2 hr2
                  cases hx
                  rfl
          · have t3 : ((S[0].toNat : Int) != 49) = true := by rw [hc, bne_iff_ne]; intro h; exact h49 (UInt8.toNat_inj.1 (by rw [show (49 : UInt8).toNat = 49 from rfl]; omega))
            rw [rd_bad HMM.out h48 h49]
            have HF := Lib.hid (ReadIs.no w (k + 1))
            clear hc h49 h48
            go_enter Try.func27, Try.ntmps27
            go_wp2_with fail
            refine HM.out.mono ?_
            rintro e w1 ⟨rfl, rfl⟩
            go_wp2
            refine bodyPost_ret (v := .tuple #[.slice none 0 0, .string ⟨#[]⟩, .bool false]) (by simp [results, Try.results27, go_sem]) rfl ?_
            exact HF.out
end Go.Proofs.Ytmgckfkdbepkdaa
