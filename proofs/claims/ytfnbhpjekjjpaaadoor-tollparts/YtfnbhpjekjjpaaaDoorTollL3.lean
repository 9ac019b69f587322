import Derived.Test.YtfnbhpjekjjpaaaDoorTollL1
import Derived.Deep.RegionHeld3
import Derived.Deep.QuietTactic
namespace Go.Proofs.YtfnbhpjekjjpaaaDoor
open Go.RowKit Go.Proofs Go.Proofs.TollM
set_option maxRecDepth 100000

/-- Where a slice of a slice lies. -/
def cutA (a : Option Addr) (cap lo : Nat) : Option Addr := if cap = lo then a else a.map (·.add lo)

theorem cut_both (a : Option Addr) (len cap lo hi : Nat) (h1 : lo ≤ hi) (h2 : hi ≤ cap) (W : World) :
    (Instr.slice 22 (.slice a len cap) (some (.int .i64 (lo : Int))) (some (.int .i64 (hi : Int))) none).run Tryd.prog W = .ok (.slice (cutA a cap lo) (hi - lo) (cap - lo)) W := by
  simp [Instr.slice, run_underlying und_bytes, Instr.sliceBounds, Instr.sliceBound, asIntOf, h1, h2, cutA]

theorem cut_left (a : Option Addr) (len cap hi : Nat) (h2 : hi ≤ cap) (W : World) :
    (Instr.slice 22 (.slice a len cap) none (some (.int .i64 (hi : Int))) none).run Tryd.prog W = .ok (.slice (cutA a cap 0) hi cap) W := by
  simp [Instr.slice, run_underlying und_bytes, Instr.sliceBounds, Instr.sliceBound, asIntOf, h2, cutA]

theorem cut_right (a : Option Addr) (len cap lo : Nat) (h1 : lo ≤ len) (W : World) :
    (Instr.slice 22 (.slice a len cap) (some (.int .i64 (lo : Int))) none none).run Tryd.prog W = .ok (.slice (cutA a cap lo) (len - lo) (cap - lo)) W := by
  simp [Instr.slice, run_underlying und_bytes, Instr.sliceBounds, Instr.sliceBound, asIntOf, h1, cutA]

theorem BytesAt.cut {W : World} {a : Option Addr} {zs : List Nat} {cap : Nat} (h : BytesAt W a zs) (hc : zs.length ≤ cap) (lo m : Nat) (hm : lo + m ≤ zs.length) : BytesAt W (cutA a cap lo) ((zs.drop lo).take m) := by
  intro j hj
  have hj' : j < m := by simp at hj; omega
  obtain ⟨b, off, rfl, hb, hcell⟩ := h (lo + j) (by omega)
  refine ⟨b, off + lo, ?_, hb, ?_⟩
  · rw [cutA, if_neg (by omega)]; simp [Addr.add_lit]
  · rw [show off + lo + j = off + (lo + j) by omega, hcell]
    congr 3
    simp [hj', List.getElem?_drop]

theorem cut_length {zs : List Nat} {lo m : Nat} (hm : lo + m ≤ zs.length) : ((zs.drop lo).take m).length = m := by simp; omega

theorem cut_mem {zs : List Nat} {lo m : Nat} (hz : ∀ z ∈ zs, z < 256) : ∀ z ∈ (zs.drop lo).take m, z < 256 := fun z h => hz z (List.mem_of_mem_drop (List.mem_of_mem_take h))

set_option maxHeartbeats 400000 in
theorem tAdd2 (b R n : Nat) (ao : Option Addr) (cap m : Nat) (zs : List Nat) (w : World) (hm : zs.length = m) (h : TallyAt w b (4294967295 - R) n) (hR : R < 4294967296) (hn : n ≤ 1000000) (hl : zs.length ≤ 100000) (hz : ∀ z ∈ zs, z < 256) (hc : BytesAt w ao zs) (ht : Tab w) :
    Calls Tryd.prog 12 #[.pointer (some ⟨b, 0, none⟩), .slice ao m cap] w fun e w' => ∃ v, e = .returned v ∧ TallyAt w' b (4294967295 - reg R zs) (n + m) ∧ reg R zs < 4294967296 ∧ Below b w w' := by
  subst hm
  refine (tAdd b (4294967295 - R) n ao cap zs w h (by omega) hn hl hz hc ht).mono ?_
  rintro e w' ⟨v, rfl, rfl⟩
  rw [show 4294967295 - (4294967295 - R) = R by omega]
  exact ⟨v, rfl, tally_set h _ _, reg_lt zs hR hz, tally_below (Below.refl _ _) _ _⟩

theorem quiet_at {P : Program} {f : FuncId} {args : Array Value} {w : World} {n : Nat} {v : Value}
    (h : Calls P f args (w.drewN n) fun e w' => e = .returned v ∧ w' = w.drewN n) : Calls P f args (w.drewN n) fun e w'' => e = .returned v ∧ ∃ m, w'' = w.drewN m :=
  h.mono fun _ _ ⟨he, hm⟩ => ⟨he, n, hm⟩

theorem parts_reg (zs : List Nat) (i d : Nat) : reg (reg (reg 4294967295 ((zs.drop 0).take i)) ((zs.drop i).take d)) ((zs.drop (i + d)).take (zs.length - (i + d))) = reg 4294967295 zs := by
  rw [← reg_append, ← reg_append]
  congr 1
  rw [List.drop_zero, List.take_of_length_le (l := zs.drop (i + d)) (by simp), ← List.drop_drop, List.take_append_drop, List.take_append_drop]

set_option maxHeartbeats 1000000 in
theorem tollParts (ao : Option Addr) (cap c1 c2 : Nat) (zs : List Nat) (w : World) (hz : ∀ z ∈ zs, z < 256) (hc : BytesAt w ao zs) (ht : Tab w) (h1 : c1 < 65536) (h2 : c2 < 65536) (hlen : zs.length ≤ cap) (hcap : cap ≤ maxLen) :
    Calls Tryd.prog 4 #[.slice ao zs.length cap, .int .u16 c1, .int .u16 c2] w fun e w' => e = .returned (.bool true) ∧ Below w.heap.size w w' := by
  have HZ := Lib.hid hz
  have HC := Lib.hid hc
  have HT := Lib.hid ht
  clear hz hc ht
  have hm : cap ≤ 9223372036854775807 := by unfold maxLen at hcap; omega
  clear hcap
  go_enter Tryd.func4, Tryd.ntmps4
  go_wp2_with fail
  refine (awake w HT.out).mono ?_
  rintro e w1 ⟨rfl, hb1⟩
  have HB1 := Lib.hid hb1
  clear hb1
  by_cases hbig : 1000 < zs.length
  · have t1 : decide ((1000 : Int) < (zs.length : Int)) = true := decide_eq_true (by omega)
    go_wp2_with fail
    refine (awake w1 (HT.out.below HB1.out)).mono ?_
    rintro e w2 ⟨rfl, hb2⟩
    have HB2 := Lib.hid hb2
    clear hb2
    go_wp2
    go_ret
    exact ⟨rfl, HB1.out.trans (HB2.out.mono HB1.out.size)⟩
  · have t1 : decide ((1000 : Int) < (zs.length : Int)) = false := decide_eq_false (by omega)
    have hl : zs.length ≤ 1000 := by omega
    obtain ⟨i, hi, hil⟩ : ∃ i : Nat, (c1 : Int) % ((zs.length : Int) + 1) = (i : Int) ∧ i ≤ zs.length := ⟨c1 % (zs.length + 1), by rw [Int.natCast_emod]; rfl, by have := Nat.mod_lt c1 (show 0 < zs.length + 1 by omega); omega⟩
    obtain ⟨d, hd, hdl⟩ : ∃ d : Nat, (c2 : Int) % ((zs.length : Int) - (i : Int) + 1) = (d : Int) ∧ i + d ≤ zs.length := ⟨c2 % (zs.length - i + 1), by rw [Int.natCast_emod, Int.natCast_add, Int.natCast_sub hil]; rfl, by have := Nat.mod_lt c2 (show 0 < zs.length - i + 1 by omega); omega⟩
    go_wp2_with fail
    rw [hi]
    have HT0 : Hid (TallyAt (w1.alloc (.cells #[.int .u32 0, .int .i64 0] 30)) w1.heap.size (4294967295 - 4294967295) 0) := Lib.hid ⟨by simp, by simp, by simp, by simp, by simp⟩
    have HBA : Hid (Below w1.heap.size w1 (w1.alloc (.cells #[.int .u32 0, .int .i64 0] 30))) := (Below.refl _ _).alloc (Nat.le_refl _) _
    obtain ⟨B, hB⟩ : ∃ B, B = w1.heap.size := ⟨_, rfl⟩
    rw [← hB] at HT0 HBA ⊢
    have HBle : Hid (w.heap.size ≤ B) := by have := HB1.out.size; show _ ≤ _; omega
    generalize w1.alloc (.cells #[.int .u32 0, .int .i64 0] 30) = W0 at HT0 HBA ⊢
    have HB0 : Hid (Below w.heap.size w W0) := HB1.out.trans (HBA.out.mono HBle.out)
    clear hB HBA
    clear HB1
    refine (tSum B 0 0 W0 HT0.out).mono ?_
    rintro e wx ⟨rfl, rfl⟩
    have HL0 := Lib.hid (tLen B 0 0 wx HT0.out)
    have hs1 := cut_left ao zs.length cap i (by omega)
    have hs2 := cut_both ao zs.length cap i (i + d) (by omega) (by omega)
    have hs3 := cut_right ao zs.length cap (i + d) (by omega)
    rw [Int.natCast_add] at hs2 hs3
    rw [show i + d - i = d by omega] at hs2
    have hs4 := cut_right ao zs.length cap i (by omega)
    go_wp2_with (go_at_call 11; refine HL0.out.mono ?_; rintro e wy ⟨rfl, rfl⟩)
    have HS1 := Lib.hid (tAdd2 B 4294967295 0 (cutA ao cap 0) cap i ((zs.drop 0).take i) wy (cut_length (by omega)) HT0.out (by decide) (by decide) (by rw [cut_length (by omega)]; omega) (cut_mem HZ.out) ((HC.out.below HB0.out).cut hlen 0 i (by omega)) (HT.out.below HB0.out))
    refine HS1.out.mono ?_
    rintro e w2 ⟨v2, rfl, ht2, hr2, hb2⟩
    have HT2 := Lib.hid ht2
    have HB2 : Hid (Below w.heap.size w w2) := HB0.out.trans (hb2.mono HBle.out)
    clear ht2 hb2 HS1 HT0 HB0 HL0
    generalize hR1 : reg 4294967295 ((zs.drop 0).take i) = R1 at HT2 hr2
    have HR1 := Lib.hid hR1
    clear hR1
    go_wp2_with fail
    have HS2 := Lib.hid (tAdd2 B R1 (0 + i) (cutA ao cap i) (cap - i) d ((zs.drop i).take d) w2 (cut_length (by omega)) HT2.out hr2 (by omega) (by rw [cut_length (by omega)]; omega) (cut_mem HZ.out) ((HC.out.below HB2.out).cut hlen i d (by omega)) (HT.out.below HB2.out))
    refine HS2.out.mono ?_
    rintro e w3 ⟨v3, rfl, ht3, hr3, hb3⟩
    have HT3 := Lib.hid ht3
    have HB3 : Hid (Below w.heap.size w w3) := HB2.out.trans (hb3.mono HBle.out)
    clear ht3 hb3 HS2 HT2 HB2 hr2
    generalize hR2 : reg R1 ((zs.drop i).take d) = R2 at HT3 hr3
    have HR2 := Lib.hid hR2
    clear hR2
    go_wp2_with fail
    have HS3 := Lib.hid (tAdd2 B R2 (0 + i + d) (cutA ao cap (i + d)) (cap - (i + d)) (zs.length - (i + d)) ((zs.drop (i + d)).take (zs.length - (i + d))) w3 (cut_length (by omega)) HT3.out hr3 (by omega) (by rw [cut_length (by omega)]; omega) (cut_mem HZ.out) ((HC.out.below HB3.out).cut hlen (i + d) (zs.length - (i + d)) (by omega)) (HT.out.below HB3.out))
    refine HS3.out.mono ?_
    rintro e w4 ⟨v4, rfl, ht4, hr4, hb4⟩
    have HB4 : Hid (Below w.heap.size w w4) := HB3.out.trans (hb4.mono HBle.out)
    have hfin : 4294967295 - reg R2 ((zs.drop (i + d)).take (zs.length - (i + d))) = sum zs := by
      rw [← HR2.out, ← HR1.out, parts_reg zs i d]; exact reg_sum HZ.out
    rw [hfin, show 0 + i + d + (zs.length - (i + d)) = zs.length by omega] at ht4
    have HT4 := Lib.hid ht4
    clear ht4 hb4 HS3 HT3 HB3 hr3 hr4 hfin HR1 HR2
    have HC4 := Lib.hid (HC.out.below HB4.out)
    have HTab := Lib.hid (HT.out.below HB4.out)
    have A1 : Hid (∀ q, Calls Tryd.prog 10 #[.pointer (some ⟨B, 0, none⟩)] (w4.drewN q) fun e w' => e = .returned (.int .u32 ((sum zs : Nat) : Int)) ∧ w' = w4.drewN q) := Lib.hid fun q => tSum B _ _ (w4.drewN q) ⟨HT4.out.lt, HT4.out.c0, HT4.out.c1, HT4.out.f0, HT4.out.f1⟩
    have A2 : Hid (∀ q, Calls Tryd.prog 11 #[.pointer (some ⟨B, 0, none⟩)] (w4.drewN q) fun e w' => e = .returned (.int .i64 ((zs.length : Nat) : Int)) ∧ w' = w4.drewN q) := Lib.hid fun q => tLen B _ _ (w4.drewN q) ⟨HT4.out.lt, HT4.out.c0, HT4.out.c1, HT4.out.f0, HT4.out.f1⟩
    have A3 := Lib.hid fun q => cSum ao cap zs (w4.drewN q) (by omega) HZ.out HC4.out HTab.out
    have A4 := Lib.hid fun q => cSum2 (cutA ao cap 0) cap i ((zs.drop 0).take i) (w4.drewN q) (cut_length (by omega)) (by rw [cut_length (by omega)]; omega) (cut_mem HZ.out) (HC4.out.cut hlen 0 i (by omega)) HTab.out
    have A5 := Lib.hid fun q => cSum2 (cutA ao cap i) (cap - i) (zs.length - i) ((zs.drop i).take (zs.length - i)) (w4.drewN q) (cut_length (by omega)) (by rw [cut_length (by omega)]; omega) (cut_mem HZ.out) (HC4.out.cut hlen i (zs.length - i) (by omega)) HTab.out
    have hj := join ((zs.drop 0).take i) ((zs.drop i).take (zs.length - i))
    rw [cut_length (by omega), List.take_of_length_le (l := zs.drop i) (by simp), List.drop_zero, List.take_append_drop] at hj
    have A6 := Lib.hid fun q => cJoin (sum ((zs.drop 0).take i)) (sum ((zs.drop i).take (zs.length - i))) (zs.length - i) (w4.drewN q) (sum_lt _ (cut_mem HZ.out)) (sum_lt _ (cut_mem HZ.out)) (by omega)
    rw [List.take_of_length_le (l := zs.drop i) (by simp), List.drop_zero, hj] at A6
    obtain ⟨m, hmm⟩ : ∃ m, m = zs.length - i := ⟨_, rfl⟩
    have hwr : IntKind.i64.wrap ((zs.length : Int) - (i : Int)) = (m : Int) := by rw [IntKind.wrap_i64]; omega
    rw [← hmm] at A6
    clear hmm
    rw [List.drop_zero] at A4
    rw [List.take_of_length_le (l := zs.drop i) (by simp)] at A5
    clear hj
    generalize sum (zs.take i) = S1 at A4 A6
    generalize sum (zs.drop i) = S2 at A5 A6
    clear hi hd HT4 HC4 HTab HC HT HZ
    go_wp2_with fail
    go_quiet ((first
      | (go_at_call 10; exact quiet_at (A1.out _))
      | (go_at_call 11; exact quiet_at (A2.out _))
      | (go_at_call 13; exact quiet_at (A6.out _))
      | (go_at_call 7; first | exact quiet_at (A3.out _) | exact quiet_at (A4.out _) | exact quiet_at (A5.out _))))
    go_wp2
    go_ret
    exact ⟨rfl, HB4.out.os, HB4.out.tape, HB4.out.output, HB4.out.size, HB4.out.block⟩
end Go.Proofs.YtfnbhpjekjjpaaaDoor
