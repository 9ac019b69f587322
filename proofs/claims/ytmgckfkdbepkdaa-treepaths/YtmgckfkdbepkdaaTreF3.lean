import Derived.Test.YtmgckfkdbepkdaaTreF2
namespace Go.Proofs.Ytmgckfkdbepkdaa
open Go.RowKit Go.Proofs Go.Proofs.PipeA Go.Proofs.TreM
set_option maxRecDepth 100000

/-- Where a part of a slice begins. -/
def cutA (a : Option Addr) (cap lo : Nat) : Option Addr := if cap = lo then a else a.map (fun x => x.add lo)
theorem cut_right (a : Option Addr) (len cap lo : Nat) (h1 : lo ≤ len) (W : World) :
    (Instr.slice 23 (.slice a len cap) (some (.int .i64 (lo : Int))) none none).run Try.prog W = .ok (.slice (cutA a cap lo) (len - lo) (cap - lo)) W := by
  simp [Instr.slice, run_underlying Try.underlying23, Instr.sliceBounds, Instr.sliceBound, asIntOf, h1, cutA]
theorem cut_one (a : Option Addr) (len cap : Nat) (h1 : 1 ≤ len) (W : World) :
    (Instr.slice 23 (.slice a len cap) (some (.int .i64 1)) none none).run Try.prog W = .ok (.slice (cutA a cap 1) (len - 1) (cap - 1)) W := cut_right a len cap 1 h1 W
theorem IntsAt.cut {W : World} {a : Option Addr} {l : List Int} {cap : Nat} (h : IntsAt W a l) (hc : l.length ≤ cap) (lo : Nat) : IntsAt W (cutA a cap lo) (l.drop lo) := by
  intro j hj
  rw [List.length_drop] at hj
  obtain ⟨b, off, rfl, hb, hcell⟩ := h (lo + j) (by omega)
  refine ⟨b, off + lo, ?_, hb, ?_⟩
  · rw [cutA, if_neg (by omega)]; simp [Addr.add_lit]
  · rw [Nat.add_assoc, hcell, List.getElem_drop]

/-- What Fit leaves. -/
def FitIs (k : Nat) (o : Option (List UInt8 × List Int)) (w : World) (e : Ending) (w' : World) : Prop :=
  (∃ n, w' = w.drewN n) ∧
  match o with
  | none => ∃ t, e = .returned (.tuple #[.string (bs t), .slice none 0 0, .bool false]) ∧ t.length < 2 ^ (k + 1)
  | some x => ∃ ao cap, e = .returned (.tuple #[.string (bs x.1), .slice ao x.2.length cap, .bool true]) ∧ IntsAt w ao x.2 ∧ x.2.length ≤ cap
theorem FitIs.no (w : World) (k n : Nat) : FitIs k none w (.returned (.tuple #[.string ⟨#[]⟩, .slice none 0 0, .bool false])) (w.drewN n) := ⟨⟨n, rfl⟩, [], rfl, Nat.pos_of_ne_zero (by simp)⟩
theorem FitIs.no0 (w : World) (k : Nat) : FitIs k none w (.returned (.tuple #[.string ⟨#[]⟩, .slice none 0 0, .bool false])) w := FitIs.no w k 0

set_option maxHeartbeats 1600000 in
theorem rFit_nil (k size : Nat) (ao : Option Addr) (cap : Nat) (w : World) :
    Calls Try.prog 41 #[.slice ao 0 cap, .int .i64 size, .int .i64 k] w (FitIs k (ft k size []) w) := by
  rw [ft_nil]
  have HF := Lib.hid (FitIs.no0 w k)
  go_enter Try.func41, Try.ntmps41
  go_wp2
  refine bodyPost_ret (v := .tuple #[.string ⟨#[]⟩, .slice none 0 0, .bool false]) (by simp [results, Try.results41, go_sem]) rfl ?_
  exact HF.out

set_option maxHeartbeats 1600000 in
theorem rFit_eq (k size : Nat) (ao : Option Addr) (cap : Nat) (r : List Int) (w : World) (hk : k ≤ 4) (hs : size ≤ 1024) (hl : r.length ≤ 100000) (hcap : r.length + 1 ≤ cap) (hi : IntsAt w ao ((size : Int) :: r)) :
    Calls Try.prog 41 #[.slice ao (r.length + 1) cap, .int .i64 size, .int .i64 k] w (FitIs k (ft k size ((size : Int) :: r)) w) := by
  rw [ft_eq]
  have HM := Lib.hid (rMay k size w (by omega) (by omega))
  have hcut := cut_one ao (r.length + 1) cap (by omega)
  have hic := (hi.cut (by simpa using hcap) 1)
  rw [List.drop_one, List.tail_cons] at hic
  obtain ⟨b, off, rfl, _, hcell⟩ := hi 0 (by simp)
  rw [List.getElem_cons_zero, Nat.add_zero] at hcell
  generalize cutA (some ⟨b, off, none⟩) cap 1 = ac at hcut hic
  have HIC := Lib.hid hic
  have t0 : (((r.length + 1 : Nat) : Int) == 0) = false := by rw [beq_eq_false_iff_ne]; omega
  have hc1 : r.length + 1 - 1 = r.length := by omega
  obtain ⟨c1, hcc⟩ : ∃ c1, c1 = cap - 1 := ⟨_, rfl⟩
  rw [hc1, ← hcc] at hcut
  have hlc : r.length ≤ c1 := by omega
  have HLC := Lib.hid hlc
  obtain ⟨m, hm⟩ : ∃ m, m = r.length + 1 := ⟨_, rfl⟩
  rw [← hm] at hcut t0 ⊢
  have hm1 : 1 ≤ m := by omega
  clear hi hic hcc hc1 hlc hm hcap
  cases hmay : may k size with
  | false =>
    have HF : Hid (∀ n, FitIs k (some (if false = true then [48] else [], r)) w (.returned (.tuple #[.string ⟨#[]⟩, .slice ac r.length c1, .bool true])) (w.drewN n)) := fun n => ⟨⟨n, rfl⟩, ac, c1, rfl, HIC.out, HLC.out⟩
    rw [hmay] at HM
    clear hmay
    go_enter Try.func41, Try.ntmps41
    go_wp2_with fail
    refine HM.out.mono ?_
    rintro e w1 ⟨rfl, rfl⟩
    go_wp2_with fail
    go_region_with (fail)
    go_wp2
    refine bodyPost_ret (v := .tuple #[.string ⟨#[]⟩, .slice ac r.length c1, .bool true]) (by simp [results, Try.results41, go_sem]) rfl ?_
    exact HF.out 1
  | true =>
    have HF : Hid (∀ n, FitIs k (some (if true = true then [48] else [], r)) w (.returned (.tuple #[.string ⟨#[48]⟩, .slice ac r.length c1, .bool true])) (w.drewN n)) := fun n => ⟨⟨n, rfl⟩, ac, c1, rfl, HIC.out, HLC.out⟩
    rw [hmay] at HM
    clear hmay
    go_enter Try.func41, Try.ntmps41
    go_wp2_with fail
    refine HM.out.mono ?_
    rintro e w1 ⟨rfl, rfl⟩
    go_wp2_with fail
    go_region_with (fail)
    go_wp2
    refine bodyPost_ret (v := .tuple #[.string ⟨#[48]⟩, .slice ac r.length c1, .bool true]) (by simp [results, Try.results41, go_sem]) rfl ?_
    exact HF.out 1

set_option maxHeartbeats 1600000 in
theorem rFit_gt (k size : Nat) (x : Int) (ao : Option Addr) (cap : Nat) (r : List Int) (w : World) (hx : (size : Int) < x) (hl : r.length ≤ 100000) (hi : IntsAt w ao (x :: r)) :
    Calls Try.prog 41 #[.slice ao (r.length + 1) cap, .int .i64 size, .int .i64 k] w (FitIs k (ft k size (x :: r)) w) := by
  rw [ft_gt hx]
  have HF := Lib.hid (FitIs.no0 w k)
  obtain ⟨b, off, rfl, _, hcell⟩ := hi 0 (by simp)
  rw [List.getElem_cons_zero, Nat.add_zero] at hcell
  have t0 : (((r.length + 1 : Nat) : Int) == 0) = false := by rw [beq_eq_false_iff_ne]; omega
  have t1 : decide ((size : Int) < x) = true := decide_eq_true hx
  obtain ⟨m, hm⟩ : ∃ m, m = r.length + 1 := ⟨_, rfl⟩
  rw [← hm] at t0 ⊢
  have hm1 : 1 ≤ m := by omega
  clear hi hm
  go_enter Try.func41, Try.ntmps41
  go_wp2
  refine bodyPost_ret (v := .tuple #[.string ⟨#[]⟩, .slice none 0 0, .bool false]) (by simp [results, Try.results41, go_sem]) rfl ?_
  exact HF.out

set_option maxHeartbeats 1600000 in
theorem rFit_no (k size : Nat) (x : Int) (ao : Option Addr) (cap : Nat) (r : List Int) (w : World) (hk : k ≤ 4) (hs : size ≤ 1024) (hx : x < (size : Int)) (hm : may k size = false) (hl : r.length ≤ 100000) (hi : IntsAt w ao (x :: r)) :
    Calls Try.prog 41 #[.slice ao (r.length + 1) cap, .int .i64 size, .int .i64 k] w (FitIs k (ft k size (x :: r)) w) := by
  rw [ft_no hx hm]
  have HM := Lib.hid (rMay k size w (by omega) (by omega))
  rw [hm] at HM
  have HF := Lib.hid (FitIs.no0 w k)
  obtain ⟨b, off, rfl, _, hcell⟩ := hi 0 (by simp)
  rw [List.getElem_cons_zero, Nat.add_zero] at hcell
  have t0 : (((r.length + 1 : Nat) : Int) == 0) = false := by rw [beq_eq_false_iff_ne]; omega
  have t1 : decide ((size : Int) < x) = false := decide_eq_false (by omega)
  have t2 : (x == (size : Int)) = false := by rw [beq_eq_false_iff_ne]; omega
  obtain ⟨m, hmm⟩ : ∃ m, m = r.length + 1 := ⟨_, rfl⟩
  rw [← hmm] at t0 ⊢
  have hm1 : 1 ≤ m := by omega
  clear hi hmm hm
  go_enter Try.func41, Try.ntmps41
  go_wp2_with fail
  refine HM.out.mono ?_
  rintro e w1 ⟨rfl, rfl⟩
  go_wp2
  refine bodyPost_ret (v := .tuple #[.string ⟨#[]⟩, .slice none 0 0, .bool false]) (by simp [results, Try.results41, go_sem]) rfl ?_
  exact HF.out

theorem bs_one (a b : List UInt8) : (⟨#[49]⟩ : ByteArray) ++ bs a ++ bs b = bs (49 :: (a ++ b)) := by
  rw [show (⟨#[49]⟩ : ByteArray) = bs [49] from rfl, bs_append, bs_append]; rfl

set_option maxHeartbeats 3200000 in
theorem rFit : ∀ (k size : Nat) (ao : Option Addr) (cap : Nat) (l : List Int) (w : World), k ≤ 4 → size ≤ 1024 → l.length ≤ 100000 → l.length ≤ cap → IntsAt w ao l →
    Calls Try.prog 41 #[.slice ao l.length cap, .int .i64 size, .int .i64 k] w (FitIs k (ft k size l) w)
  | k, size, ao, cap, [], w, hk, hs, hl, hcap, hi => rFit_nil k size ao cap w
  | 0, size, ao, cap, x :: r, w, hk, hs, hl, hcap, hi => by
    rcases Int.lt_trichotomy x (size : Int) with h | h | h
    · exact rFit_no 0 size x ao cap r w hk hs h (may_zero size) (by simp at hl; omega) hi
    · subst h
      exact rFit_eq 0 size ao cap r w hk hs (by simp at hl; omega) (by simpa using hcap) hi
    · exact rFit_gt 0 size x ao cap r w h (by simp at hl; omega) hi
  | k + 1, size, ao, cap, x :: r, w, hk, hs, hl, hcap, hi => by
    rcases Int.lt_trichotomy x (size : Int) with h | h | h
    · cases hm : may (k + 1) size with
      | false => exact rFit_no (k + 1) size x ao cap r w hk hs h hm (by simp at hl; omega) hi
      | true =>
        rw [ft_two h hm]
        have HM := Lib.hid (rMay (k + 1) size w (by omega) (by omega))
        rw [hm] at HM
        have hsz2 : size / 2 ≤ 1024 := by omega
        have HQ : Hid ((size : Int) / 2 = ((size / 2 : Nat) : Int)) := by show _ = _; omega
        have HR1 := Lib.hid (rFit k (size / 2) ao cap (x :: r) w (by omega) hsz2 hl hcap hi)
        obtain ⟨b, off, rfl, _, hcell⟩ := hi 0 (by simp)
        rw [List.getElem_cons_zero, Nat.add_zero] at hcell
        obtain ⟨L, hL⟩ : ∃ L, L = x :: r := ⟨_, rfl⟩
        have hLl : L.length = r.length + 1 := by rw [hL]; rfl
        have t0 : (((x :: r).length : Int) == 0) = false := by rw [beq_eq_false_iff_ne, List.length_cons]; omega
        have t1 : decide ((size : Int) < x) = false := decide_eq_false (by omega)
        have t2 : (x == (size : Int)) = false := by rw [beq_eq_false_iff_ne]; omega
        rw [← hL] at HR1 t0 hl hcap ⊢
        have hm1 : 1 ≤ L.length := by omega
        have HL := Lib.hid hL
        obtain ⟨O, hO⟩ : ∃ O, O = ft2 k (size / 2) L := ⟨_, rfl⟩
        rw [← hO]
        have HOO := Lib.hid hO
        clear hi hLl hL hm h hO
        go_enter Try.func41, Try.ntmps41
        go_wp2_with fail
        refine HM.out.mono ?_
        rintro e w1 ⟨rfl, rfl⟩
        go_wp2_with fail
        rw [HQ.out]
        refine HR1.out.mono ?_
        rintro e w1 ⟨⟨n1, rfl⟩, h1⟩
        clear t0 t1 t2 hcell
        cases hr1 : ft k (size / 2) L with
        | none =>
          rw [hr1] at h1
          obtain ⟨t, rfl, _⟩ := h1
          have HF := Lib.hid (FitIs.no w (k + 1) n1)
          obtain rfl : O = none := by rw [HOO.out, ft2_none hr1]
          clear hr1 HR1
          go_wp2
          refine bodyPost_ret (v := .tuple #[.string ⟨#[]⟩, .slice none 0 0, .bool false]) (by simp [results, Try.results41, go_sem]) rfl ?_
          exact HF.out
        | some y =>
          have hsh := ft_short k _ _ _ hr1
          rw [hr1] at h1
          obtain ⟨ao1, cap1, rfl, hi1, hc1⟩ := h1
          have HOX : Hid (O = (ft k (size / 2) y.2).map fun z => (49 :: (y.1 ++ z.1), z.2)) := by show _ = _; rw [HOO.out, ft2_some hr1]
          obtain ⟨a, r1⟩ := y
          simp only at hsh hi1 hc1 HOX
          have HR2 := Lib.hid (rFit k (size / 2) ao1 cap1 r1 (w.drewN n1) (by omega) hsz2 (by omega) hc1 (hi1.drewN n1))
          have hk16 : 2 ^ (k + 1) ≤ 16 := Nat.pow_le_pow_right (n := 2) (by omega) (show k + 1 ≤ 4 by omega)
          have hsa : (bs a).size ≤ 16 := by rw [bs_size]; omega
          have HSA := Lib.hid hsh.1
          clear hr1 HR1 hi1 hsh hc1
          go_wp2_with fail
          rw [HQ.out]
          refine HR2.out.mono ?_
          rintro e w2 ⟨⟨n2, rfl⟩, h2⟩
          cases hr2 : ft k (size / 2) r1 with
          | none =>
            rw [hr2] at h2
            obtain ⟨t, rfl, ht⟩ := h2
            obtain rfl : O = none := by rw [HOX.out, hr2]; rfl
            have hst : (bs t).size ≤ 16 := by rw [bs_size]; omega
            have HT : Hid ((49 :: (a ++ t)).length < 2 ^ (k + 1 + 1)) := by show _ < _; have := HSA.out; rw [List.length_cons, List.length_append, Nat.pow_succ 2 (k + 1)]; omega
            have h49 : (ByteArray.mk #[49]).size = 1 := rfl
            clear hr2 ht HR2 hk16
            go_wp2
            refine bodyPost_ret (v := .tuple #[.string (⟨#[49]⟩ ++ bs a ++ bs t), .slice none 0 0, .bool false]) (by simp [results, Try.results41, go_sem]) rfl ?_
            exact ⟨⟨_, rfl⟩, 49 :: (a ++ t), by rw [bs_one], HT.out⟩
          | some z =>
            have hsz := ft_short k _ _ _ hr2
            rw [hr2] at h2
            obtain ⟨ao2, cap2, rfl, hi2, hc2⟩ := h2
            obtain ⟨t, r2⟩ := z
            simp only at hsz hi2 hc2
            obtain rfl : O = some (49 :: (a ++ t), r2) := by rw [HOX.out, hr2]; rfl
            have hst : (bs t).size ≤ 16 := by rw [bs_size]; omega
            have h49 : (ByteArray.mk #[49]).size = 1 := rfl
            have HI2 : Hid (IntsAt w ao2 r2) := hi2
            have HC2 := Lib.hid hc2
            clear hr2 hsz HR2 hk16 hi2 hc2
            go_wp2
            refine bodyPost_ret (v := .tuple #[.string (⟨#[49]⟩ ++ bs a ++ bs t), .slice ao2 r2.length cap2, .bool true]) (by simp [results, Try.results41, go_sem]) rfl ?_
            exact ⟨⟨_, rfl⟩, ao2, cap2, by rw [bs_one], HI2.out, HC2.out⟩
    · subst h
      exact rFit_eq (k + 1) size ao cap r w hk hs (by simp at hl; omega) (by simpa using hcap) hi
    · exact rFit_gt (k + 1) size x ao cap r w h (by simp at hl; omega) hi

/-- The text of leaves, or what is wrong. -/
def TextIs (size : Int) (l : List Int) (w : World) (e : Ending) (w' : World) : Prop :=
  (∃ n, w' = w.drewN n) ∧
  ((codeX size l ≠ 0 ∧ e = .returned (.tuple #[.string ⟨#[]⟩, .int .i64 (codeX size l)])) ∨
   (codeX size l = 0 ∧ ∃ t, textOf size.toNat l = some t ∧ e = .returned (.tuple #[.string (bs t), .int .i64 0]) ∧ t.length < 32))
theorem TextIs.no {size : Int} {l : List Int} {w : World} {c : Int} (n : Nat) (h : codeX size l = c) (hc : c ≠ 0) : TextIs size l w (.returned (.tuple #[.string ⟨#[]⟩, .int .i64 c])) (w.drewN n) := ⟨⟨n, rfl⟩, .inl ⟨by omega, by rw [h]⟩⟩
theorem textOf_none1 {n : Nat} {l : List Int} (h : ft 4 n l = none) : textOf n l = none := by unfold textOf; rw [h]
theorem textOf_none2 {n : Nat} {l r : List Int} {s : List UInt8} {c : Int} (h : ft 4 n l = some (s, c :: r)) : textOf n l = none := by unfold textOf; rw [h]

set_option maxHeartbeats 1600000 in
theorem rText (size : Int) (ao : Option Addr) (cap : Nat) (l : List Int) (w : World) (hz : -9223372036854775808 ≤ size ∧ size ≤ 9223372036854775807) (hl : l.length ≤ 100000) (hcap : l.length ≤ cap) (hi : IntsAt w ao l) :
    Calls Try.prog 15 #[.slice ao l.length cap, .int .i64 size] w (TextIs size l w) := by
  cases hs : sizeB size with
  | false =>
    have HF := Lib.hid (TextIs.no (w := w) 0 (codeX_size (l := l) hs) (by omega))
    rcases sizeB_no hs with h1 | ⟨h1, h2⟩
    · clear hs
      go_enter Try.func15, Try.ntmps15
      go_wp2
      refine bodyPost_ret (v := .tuple #[.string ⟨#[]⟩, .int .i64 1]) (by simp [results, Try.results15, go_sem]) rfl ?_
      exact HF.out
    · clear hs
      go_enter Try.func15, Try.ntmps15
      go_wp2
      refine bodyPost_ret (v := .tuple #[.string ⟨#[]⟩, .int .i64 1]) (by simp [results, Try.results15, go_sem]) rfl ?_
      exact HF.out
  | true =>
    obtain ⟨n, rfl, h1, h2⟩ := sizeB_of hs
    have HR := Lib.hid (rFit 4 n ao cap l w (by omega) h2 hl hcap hi)
    have HSB := Lib.hid hs
    clear hs hi
    cases hr : ft 4 n l with
    | none =>
      have HF : Hid (∀ k, TextIs n l w (.returned (.tuple #[.string ⟨#[]⟩, .int .i64 10])) (w.drewN k)) := fun k => TextIs.no k (codeX_none HSB.out (textOf_none1 hr)) (by omega)
      rw [hr] at HR
      clear hr
      go_enter Try.func15, Try.ntmps15
      go_wp2_with fail
      refine HR.out.mono ?_
      rintro e w1 ⟨⟨n1, rfl⟩, t, rfl, _⟩
      go_wp2
      refine bodyPost_ret (v := .tuple #[.string ⟨#[]⟩, .int .i64 10]) (by simp [results, Try.results15, go_sem]) rfl ?_
      exact HF.out _
    | some x =>
      obtain ⟨t, r⟩ := x
      cases r with
      | nil =>
        have hlv : textOf n l = some t := textOf_some.2 hr
        have hsh := (ft_short _ _ _ _ hr).1
        have HF : Hid (∀ k, TextIs n l w (.returned (.tuple #[.string (bs t), .int .i64 0])) (w.drewN k)) := fun k => ⟨⟨k, rfl⟩, .inr ⟨codeX_some HSB.out hlv, t, by rw [Int.toNat_natCast]; exact hlv, rfl, hsh⟩⟩
        rw [hr] at HR
        clear hr hlv hsh
        go_enter Try.func15, Try.ntmps15
        go_wp2_with fail
        refine HR.out.mono ?_
        rintro e w1 ⟨⟨n1, rfl⟩, ao1, cap1, rfl, _, _⟩
        rw [show ((t, ([] : List Int)) : List UInt8 × List Int).1 = t from rfl, show ((t, ([] : List Int)) : List UInt8 × List Int).2.length = 0 from rfl]
        go_wp2
        refine bodyPost_ret (v := .tuple #[.string (bs t), .int .i64 0]) (by simp [results, Try.results15, go_sem]) rfl ?_
        exact HF.out _
      | cons c r =>
        have HF : Hid (∀ k, TextIs n l w (.returned (.tuple #[.string ⟨#[]⟩, .int .i64 10])) (w.drewN k)) := fun k => TextIs.no k (codeX_none HSB.out (textOf_none2 hr)) (by omega)
        rw [hr] at HR
        obtain ⟨m, hm⟩ : ∃ m, m = (c :: r).length := ⟨_, rfl⟩
        have hm0 : 0 < m := by rw [hm, List.length_cons]; omega
        have HM := Lib.hid hm
        clear hr hm
        go_enter Try.func15, Try.ntmps15
        go_wp2_with fail
        refine HR.out.mono ?_
        rintro e w1 ⟨⟨n1, rfl⟩, ao1, cap1, rfl, _, _⟩
        rw [show ((t, c :: r) : List UInt8 × List Int).1 = t from rfl, show ((t, c :: r) : List UInt8 × List Int).2.length = m from HM.out.symm]
        go_wp2
        refine bodyPost_ret (v := .tuple #[.string ⟨#[]⟩, .int .i64 10]) (by simp [results, Try.results15, go_sem]) rfl ?_
        exact HF.out _

theorem wh_no {k size d : Nat} (h : may k size = false) : wh k size d = [] := by
  cases k with
  | zero => rfl
  | succ k => rw [wh, if_neg (by rw [h]; simp)]
theorem wh_short : ∀ (k size d : Nat), (wh k size d).length < 2 ^ (k + 1)
  | 0, _, _ => by simp [wh]
  | k + 1, size, d => by
    have h4 : 4 ≤ 2 ^ (k + 1 + 1) := by
      have := Nat.one_le_two_pow (n := k)
      rw [Nat.pow_succ, Nat.pow_succ]; omega
    have i := wh_short k (size / 2) (d - 1)
    rw [wh]
    split
    · split
      · simp only [List.length_cons, List.length_nil]; omega
      · rw [List.length_cons, List.length_append, Nat.pow_succ 2 (k + 1)]; omega
    · simp only [List.length_nil]; omega

set_option maxHeartbeats 1600000 in
theorem rWhole : ∀ (k size d : Nat) (w : World), k ≤ 4 → size ≤ 1024 → d ≤ 1000 →
    Calls Try.prog 29 #[.int .i64 size, .int .i64 k, .int .i64 d] w fun e w' => e = .returned (.string (bs (wh k size d))) ∧ w = w'
  | k, size, 0, w, hk, hs, hd => by
    have HM := Lib.hid (rMay k size w (by omega) (by omega))
    cases hm : may k size with
    | false =>
      have HE : Hid (bs (wh k size 0) = ⟨#[]⟩) := by show _ = _; rw [wh_no hm]; rfl
      rw [hm] at HM
      clear hm
      go_enter Try.func29, Try.ntmps29
      go_wp2_with fail
      refine HM.out.mono ?_
      rintro e w1 ⟨rfl, rfl⟩
      go_wp2
      go_ret
      exact ⟨by rw [HE.out]; rfl, rfl⟩
    | true =>
      have HE : Hid (bs (wh k size 0) = ⟨#[48]⟩) := by
        show _ = _
        obtain ⟨j, rfl⟩ : ∃ j, k = j + 1 := ⟨k - 1, by have := (may_of hm).1; omega⟩
        rw [wh, if_pos hm, if_pos rfl]; rfl
      rw [hm] at HM
      clear hm
      go_enter Try.func29, Try.ntmps29
      go_wp2_with fail
      refine HM.out.mono ?_
      rintro e w1 ⟨rfl, rfl⟩
      go_wp2
      go_ret
      exact ⟨by rw [HE.out]; rfl, rfl⟩
  | k, size, d + 1, w, hk, hs, hd => by
    have HM := Lib.hid (rMay k size w (by omega) (by omega))
    cases hm : may k size with
    | false =>
      have HE : Hid (bs (wh k size (d + 1)) = ⟨#[]⟩) := by show _ = _; rw [wh_no hm]; rfl
      rw [hm] at HM
      clear hm
      go_enter Try.func29, Try.ntmps29
      go_wp2_with fail
      refine HM.out.mono ?_
      rintro e w1 ⟨rfl, rfl⟩
      go_wp2
      go_ret
      exact ⟨by rw [HE.out]; rfl, rfl⟩
    | true =>
      obtain ⟨j, rfl⟩ : ∃ j, k = j + 1 := ⟨k - 1, by have := (may_of hm).1; omega⟩
      have HE : Hid (bs (wh (j + 1) size (d + 1)) = ⟨#[49]⟩ ++ bs (wh j (size / 2) d) ++ bs (wh j (size / 2) d)) := by
        show _ = _
        rw [wh, if_pos hm, if_neg (by omega), bs_one]; rfl
      have HQ : Hid ((size : Int) / 2 = ((size / 2 : Nat) : Int)) := by show _ = _; omega
      have HR := Lib.hid (rWhole j (size / 2) d w (by omega) (by omega) (by omega))
      have hsh := wh_short j (size / 2) d
      have hk16 : 2 ^ (j + 1) ≤ 16 := Nat.pow_le_pow_right (n := 2) (by omega) (show j + 1 ≤ 4 by omega)
      have hsz : (bs (wh j (size / 2) d)).size ≤ 16 := by rw [bs_size]; omega
      have h49 : (ByteArray.mk #[49]).size = 1 := rfl
      generalize bs (wh j (size / 2) d) = t at *
      rw [hm] at HM
      clear hm hsh hk16
      go_enter Try.func29, Try.ntmps29
      go_wp2_with fail
      refine HM.out.mono ?_
      rintro e w1 ⟨rfl, rfl⟩
      go_wp2_with fail
      rw [HQ.out]
      refine HR.out.mono ?_
      rintro e w1 ⟨rfl, rfl⟩
      go_wp2_with fail
      rw [HQ.out]
      refine HR.out.mono ?_
      rintro e w1 ⟨rfl, rfl⟩
      go_wp2
      go_ret
      exact ⟨by rw [HE.out]; rfl, rfl⟩
end Go.Proofs.Ytmgckfkdbepkdaa
