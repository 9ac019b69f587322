import Derived.Test.YtmgckfkdbepkdaaTreW
namespace Go.Proofs.Ytmgckfkdbepkdaa
open Go.RowKit Go.Proofs Go.Proofs.PipeA Go.Proofs.TreM
set_option maxRecDepth 100000

/-- All that is not a machine's own stays as it is, and does not become its own. -/
structure Lives (Own : World → Nat → Prop) (w w' : World) : Prop where
  os : w'.os = w.os
  tape : w'.tape = w.tape
  output : w'.output = w.output
  size : w.heap.size ≤ w'.heap.size
  block : ∀ x, x < w.heap.size → ¬ Own w x → w'.heap[x]? = w.heap[x]? ∧ ¬ Own w' x
theorem Lives.refl (Own : World → Nat → Prop) (w : World) : Lives Own w w := ⟨rfl, rfl, rfl, Nat.le_refl _, fun _ _ h => ⟨rfl, h⟩⟩
theorem Lives.trans {Own : World → Nat → Prop} {a b c : World} (h : Lives Own a b) (k : Lives Own b c) : Lives Own a c :=
  ⟨k.os.trans h.os, k.tape.trans h.tape, k.output.trans h.output, Nat.le_trans h.size k.size, fun x hx hn =>
    have h1 := h.block x hx hn
    have h2 := k.block x (Nat.lt_of_lt_of_le hx h.size) h1.2
    ⟨h2.1.trans h1.1, h2.2⟩⟩
theorem Lives.cell {Own : World → Nat → Prop} {w w' : World} (h : Lives Own w w') {p : Addr} (hp : p.block < w.heap.size) (hn : ¬ Own w p.block) : w'.cell? p = w.cell? p := World.cell?_of_block (w := w) (h.block p.block hp hn).1
theorem lives_below {Own : World → Nat → Prop} {w w' : World} (hb : Below w.heap.size w w') (ho : ∀ x, Own w' x → Own w x) : Lives Own w w' :=
  ⟨hb.os, hb.tape, hb.output, hb.size, fun x hx hn => ⟨hb.block x hx, fun h => hn (ho x h)⟩⟩

/-- What a machine in memory is asked for. -/
structure Walks {σ : Type} (M : Mach σ) (At : Nat → σ → World → Prop) (Own : World → Nat → Prop) (g1 g2 : FuncId) (f1 l1 f2 l2 : Array Value) : Prop where
  eg1 : ∀ args w, (callFunc g1 args).run Try.prog w = .ok (.enter g1 args) w
  eg2 : ∀ args w, (callFunc g2 args).run Try.prog w = .ok (.enter g2 args) w
  mn : ∀ m m' s w, m' ≤ m → At m s w → At m' s w
  lt : ∀ m s w x, At m s w → Own w x → x < w.heap.size
  st : ∀ m s w w', At m s w → Below w.heap.size w w' → At m s w' ∧ ∀ x, Own w' x → Own w x
  two : ∀ m s (n : Nat) w, n ≤ 1024 → At (m + 1) s w → Calls Try.prog g1 (f1.push (.int .i64 (n : Int)) ++ l1) w fun e w' => e = .returned (.bool (M.two s n).1) ∧ At m (M.two s n).2 w' ∧ Lives Own w w'
  leaf : ∀ m s p (n : Nat) w, n ≤ 1024 → p.length ≤ 4 → M.pre s p n → At (m + 1) s w → Calls Try.prog g2 (f2 ++ (#[.string (bs p), .int .i64 (n : Int)] ++ l2)) w fun e w' => e = .returned (.bool (M.leaf s p n).1) ∧ At m (M.leaf s p n).2 w' ∧ Lives Own w w'

/-- The walker's box, and what it leaves. -/
theorem walk_box {σ : Type} {M : Mach σ} {At : Nat → σ → World → Prop} {Own : World → Nat → Prop} {g1 g2 : FuncId} {f1 l1 f2 l2 : Array Value} (H : Walks M At Own g1 g2 f1 l1 f2 l2) {m : Nat} {s : σ} {w : World} (ha : At m s w) (o : Obj) :
    At m s (w.alloc o) ∧ Lives Own w (w.alloc o) ∧ ¬ Own (w.alloc o) w.heap.size := by
  have hB := box_below w o
  obtain ⟨h1, h2⟩ := H.st _ _ _ _ ha hB
  exact ⟨h1, lives_below hB h2, fun h => Nat.lt_irrefl _ (H.lt _ _ _ _ ha (h2 _ h))⟩

set_option maxHeartbeats 1600000 in
theorem cWalk_no {σ : Type} {M : Mach σ} {At : Nat → σ → World → Prop} {Own : World → Nat → Prop} {g1 g2 : FuncId} {f1 l1 f2 l2 : Array Value} (H : Walks M At Own g1 g2 f1 l1 f2 l2)
    (k size m : Nat) (p : List UInt8) (s : σ) (w : World) (hk : p.length + k = 4) (hz : size ≤ 1024) (ho : walkOk M k size p s) (ha : At (m + cst k) s w) (hm : may k size = false) :
      Calls Try.prog 38 #[.agg #[.func (.func g1) f1 l1, .func (.func g2) f2 l2], .string (bs p), .int .i64 (size : Int)] w
        fun e w' => e = .returned (.bool (walkF M k size p s).1) ∧ At m (walkF M k size p s).2 w' ∧ Lives Own w w' := by
  have HM := fun W => Lib.hid (cMay k size W (by omega) hz)
  rw [walkF_no hm]
  have hc := cst_pos k
  obtain ⟨hat1, hlv1, _⟩ := walk_box H (H.mn _ (m + 1) _ _ (by omega) ha) (.cells #[.func (.func g1) f1 l1, .func (.func g2) f2 l2] 70)
  have HL := Lib.hid (H.leaf m s p size _ hz (by omega) (walkOk_no hm ho) hat1)
  have eg2 := H.eg2
  have hp : (bs p).size = p.length := bs_size p
  obtain ⟨S, hS⟩ : ∃ S, S = bs p := ⟨_, rfl⟩
  rw [← hS] at hp HL ⊢
  have HK : Hid (4 - (p.length : Int) = (k : Int)) := by show _ = _; omega
  have HLV1 := Lib.hid hlv1
  rw [hm] at HM
  clear hat1 hlv1 ha hS ho hm hc
  go_enter Try.func38, Try.ntmps38
  go_wp2_with fail
  rw [HK.out]
  refine (HM _).out.mono ?_
  rintro e w1 ⟨rfl, rfl⟩
  go_wp2_with fail
  refine HL.out.mono ?_
  rintro e w2 ⟨rfl, hat2, hlv2⟩
  have HF : Hid (At m (M.leaf s p size).2 w2 ∧ Lives Own w w2) := ⟨hat2, HLV1.out.trans hlv2⟩
  clear hat2 hlv2
  go_wp2
  go_ret
  exact ⟨rfl, HF.out⟩

set_option maxHeartbeats 3200000 in
theorem cWalk {σ : Type} {M : Mach σ} {At : Nat → σ → World → Prop} {Own : World → Nat → Prop} {g1 g2 : FuncId} {f1 l1 f2 l2 : Array Value} (H : Walks M At Own g1 g2 f1 l1 f2 l2) :
    ∀ (k size m : Nat) (p : List UInt8) (s : σ) (w : World), p.length + k = 4 → size ≤ 1024 → walkOk M k size p s → At (m + cst k) s w →
      Calls Try.prog 38 #[.agg #[.func (.func g1) f1 l1, .func (.func g2) f2 l2], .string (bs p), .int .i64 (size : Int)] w
        fun e w' => e = .returned (.bool (walkF M k size p s).1) ∧ At m (walkF M k size p s).2 w' ∧ Lives Own w w'
  | 0, size, m, p, s, w, hk, hz, ho, ha => cWalk_no H 0 size m p s w hk hz ho ha (may_zero size)
  | k + 1, size, m, p, s, w, hk, hz, ho, ha => by
    cases hm : may (k + 1) size with
    | false => exact cWalk_no H (k + 1) size m p s w hk hz ho ha hm
    | true =>
      have HM := fun W => Lib.hid (cMay (k + 1) size W (by omega) hz)
      have hc := cst_pos k
      have hnew := World.alloc_heap_new w (.cells #[.func (.func g1) f1 l1, .func (.func g2) f2 l2] 70)
      have hb0 : w.heap.size < (w.alloc (.cells #[.func (.func g1) f1 l1, .func (.func g2) f2 l2] 70)).heap.size := by simp
      obtain ⟨hat1, hlv1, hno1⟩ := walk_box H (H.mn _ (m + cst k + cst k + 1) _ _ (by simp only [cst]; omega) ha) (.cells #[.func (.func g1) f1 l1, .func (.func g2) f2 l2] 70)
      obtain ⟨w1, hw1⟩ : ∃ w1, w1 = w.alloc (.cells #[.func (.func g1) f1 l1, .func (.func g2) f2 l2] 70) := ⟨_, rfl⟩
      have k0 := cell_of_heap hnew 0
      have k1 := cell_of_heap hnew 1
      rw [← hw1] at hat1 hlv1 hno1 hb0 k0 k1
      have HT := Lib.hid (H.two (m + cst k + cst k) s size w1 hz hat1)
      have eg1 := H.eg1
      have eg2 := H.eg2
      have hp : (bs p).size = p.length := bs_size p
      have HA0 : Hid (bs p ++ ByteArray.mk #[48] = bs (p ++ [48])) := bs_append p [48]
      have HA1 : Hid (bs p ++ ByteArray.mk #[49] = bs (p ++ [49])) := bs_append p [49]
      obtain ⟨S, hS⟩ : ∃ S, S = bs p := ⟨_, rfl⟩
      have HS := Lib.hid hS
      rw [← hS] at hp HA0 HA1 ⊢
      have HK : Hid (4 - (p.length : Int) = ((k + 1 : Nat) : Int)) := by show _ = _; omega
      have HQ : Hid ((size : Int) / 2 = ((size / 2 : Nat) : Int)) := by show _ = _; omega
      have HLV1 := Lib.hid hlv1
      have HNO := Lib.hid hno1
      have HO := Lib.hid ho
      have HMM := Lib.hid hm
      have HW1 := Lib.hid hw1
      rw [hm] at HM
      clear hat1 hlv1 hno1 ha hS ho hm hc hnew hw1
      go_enter Try.func38, Try.ntmps38
      go_wp2_with fail
      rw [HK.out, ← HW1.out]
      refine (HM _).out.mono ?_
      rintro e w1' ⟨rfl, rfl⟩
      go_wp2_with fail
      refine HT.out.mono ?_
      rintro e w2 ⟨rfl, hat2, hlv2⟩
      have e0 := (hlv2.cell (p := ⟨w.heap.size, 0, none⟩) hb0 HNO.out).trans k0
      have e1 := (hlv2.cell (p := ⟨w.heap.size, 1, none⟩) hb0 HNO.out).trans k1
      have HN2 := Lib.hid (hlv2.block w.heap.size hb0 HNO.out).2
      have hb2 := Nat.lt_of_lt_of_le hb0 hlv2.size
      have HAT2 := Lib.hid hat2
      have HLV2 := Lib.hid (HLV1.out.trans hlv2)
      clear hat2 hlv2 k0 k1 hb0 HT HNO HLV1
      cases ht : (M.two s size).1 with
      | false =>
        have HL := Lib.hid (H.leaf m (M.two s size).2 p size w2 hz (by omega) (HO.out.2.1 HMM.out ht) (H.mn _ (m + 1) _ _ (by have := cst_pos k; omega) HAT2.out))
        have HWF := Lib.hid (walkF_leaf HMM.out p s ht)
        rw [← HS.out] at HL
        clear ht
        go_wp2_with fail
        refine HL.out.mono ?_
        rintro e w3 ⟨rfl, hat3, hlv3⟩
        have HF : Hid (At m (M.leaf (M.two s size).2 p size).2 w3 ∧ Lives Own w w3) := ⟨hat3, HLV2.out.trans hlv3⟩
        clear hat3 hlv3
        go_wp2
        go_ret
        rw [HWF.out]
        exact ⟨rfl, HF.out⟩
      | true =>
        have HO2 := Lib.hid (HO.out.2.2 HMM.out ht)
        have HR1 := Lib.hid (cWalk H k (size / 2) (m + cst k) (p ++ [48]) (M.two s size).2 w2 (by simp; omega) (by omega) HO2.out.1 HAT2.out)
        have HTT := Lib.hid ht
        clear ht HAT2
        go_wp2_with fail
        rw [HQ.out, HA0.out]
        refine HR1.out.mono ?_
        rintro e w3 ⟨rfl, hat3, hlv3⟩
        have e02 := (hlv3.cell (p := ⟨w.heap.size, 0, none⟩) hb2 HN2.out).trans e0
        have e12 := (hlv3.cell (p := ⟨w.heap.size, 1, none⟩) hb2 HN2.out).trans e1
        have HAT3 := Lib.hid hat3
        have HLV3 := Lib.hid (HLV2.out.trans hlv3)
        clear hat3 hlv3 HR1 HLV2 e0 e1
        cases hw : (walkF M k (size / 2) (p ++ [48]) (M.two s size).2).1 with
        | false =>
          have HWF := Lib.hid (walkF_first HMM.out p s HTT.out hw)
          have HF : Hid (At m (walkF M k (size / 2) (p ++ [48]) (M.two s size).2).2 w3) := H.mn _ _ _ _ (by omega) HAT3.out
          clear hw
          go_wp2
          go_ret
          rw [HWF.out]
          exact ⟨rfl, HF.out, HLV3.out⟩
        | true =>
          have HWF := Lib.hid (walkF_both HMM.out p s HTT.out hw)
          have HR2 := Lib.hid (cWalk H k (size / 2) m (p ++ [49]) _ w3 (by simp; omega) (by omega) (HO2.out.2 hw) HAT3.out)
          clear hw
          go_wp2_with fail
          rw [HQ.out, HA1.out]
          refine HR2.out.mono ?_
          rintro e w4 ⟨rfl, hat4, hlv4⟩
          have HF := Lib.hid hat4
          have HLV4 := Lib.hid (HLV3.out.trans hlv4)
          clear hat4 hlv4
          go_wp2
          go_ret
          rw [HWF.out]
          exact ⟨rfl, HF.out, HLV4.out⟩
end Go.Proofs.Ytmgckfkdbepkdaa
