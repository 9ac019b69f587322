import Derived.Test.YtmgckfkdbepkdaaTreT
namespace Go.Proofs.Ytmgckfkdbepkdaa
open Go.RowKit Go.Proofs Go.Proofs.PipeM Go.Proofs.PipeA Go.Proofs.TreM
set_option maxRecDepth 100000

/-- What takes a tree, in memory: over a reader at rb. -/
structure TkAt (rb : Nat) (rao : Option Addr) (b m : Nat) (s : TkS) (v : Value) (w : World) : Prop where
  lt : b < w.heap.size
  rlt : rb < b
  c0 : w.cell? ⟨b, 0, none⟩ = some (.pointer (some ⟨rb, 0, none⟩))
  c1 : w.cell? ⟨b, 1, none⟩ = some (.string (bs s.text))
  c2 : w.cell? ⟨b, 2, none⟩ = some v
  f1 : w.frozen? ⟨b, 1, none⟩ = false
  f2 : w.frozen? ⟨b, 2, none⟩ = false
  rd : RdA w rb rao s.rs
  ra : ∀ g off, rao = some ⟨g, off, none⟩ → g < b
  own : w.ownsRow (b + 1) 3 1 v s.out.length (intsOf s.out)
  ht : s.text.length + m ≤ 1000
  hm : s.out.length + m ≤ 1000
theorem TkAt.row_lt {rb b m : Nat} {rao : Option Addr} {s : TkS} {v : Value} {w : World} (h : TkAt rb rao b m s v w) {g : Nat} (hg : v.ownBlock = some g) : b + 1 ≤ g ∧ g < w.heap.size := own_block_lt h.own g hg
theorem TkAt.less {rb b m m' : Nat} {rao : Option Addr} {s : TkS} {v : Value} {w : World} (h : TkAt rb rao b m s v w) (hm : m' ≤ m) : TkAt rb rao b m' s v w :=
  ⟨h.lt, h.rlt, h.c0, h.c1, h.c2, h.f1, h.f2, h.rd, h.ra, h.own, by have := h.ht; omega, by have := h.hm; omega⟩
theorem TkAt.keeps {rb b m : Nat} {rao : Option Addr} {s : TkS} {v : Value} {w w' : World} (h : TkAt rb rao b m s v w) (hk : Keeps [] w w') : TkAt rb rao b m s v w' :=
  ⟨Nat.lt_of_lt_of_le h.lt hk.size, h.rlt, (hk.cell (p := ⟨b, 0, none⟩) h.lt (by simp)).trans h.c0, (hk.cell (p := ⟨b, 1, none⟩) h.lt (by simp)).trans h.c1, (hk.cell (p := ⟨b, 2, none⟩) h.lt (by simp)).trans h.c2,
   (hk.frozen (p := ⟨b, 1, none⟩) h.lt (by simp)).trans h.f1, (hk.frozen (p := ⟨b, 2, none⟩) h.lt (by simp)).trans h.f2, h.rd.keeps hk (by simp) (by simp), h.ra, ownsRow_keeps h.own hk (by simp), h.ht, h.hm⟩
/-- The reader went on. -/
theorem TkAt.read {rb b m : Nat} {rao : Option Addr} {rs rs' : RS} {text : List UInt8} {out : List Int} {v : Value} {w w' : World} (h : TkAt rb rao b m ⟨rs, text, out⟩ v w) (hr : Reads w rb rao rs' w') : TkAt rb rao b m ⟨rs', text, out⟩ v w' := by
  have hk := hr.2
  have hb : b ∉ [rb] := by have := h.rlt; simp; omega
  refine ⟨Nat.lt_of_lt_of_le h.lt hk.size, h.rlt, (hk.cell (p := ⟨b, 0, none⟩) h.lt hb).trans h.c0, (hk.cell (p := ⟨b, 1, none⟩) h.lt hb).trans h.c1, (hk.cell (p := ⟨b, 2, none⟩) h.lt hb).trans h.c2,
   (hk.frozen (p := ⟨b, 1, none⟩) h.lt hb).trans h.f1, (hk.frozen (p := ⟨b, 2, none⟩) h.lt hb).trans h.f2, hr.1, h.ra, ownsRow_keeps h.own hk (fun g hg => ?_), h.ht, h.hm⟩
  have h1 := (h.row_lt hg).1
  have h2 := h.rlt
  simp; omega
/-- The text grew. -/
theorem TkAt.tell {rb b m : Nat} {rao : Option Addr} {rs : RS} {text : List UInt8} {out : List Int} {v : Value} {w : World} (h : TkAt rb rao b (m + 1) ⟨rs, text, out⟩ v w) (t : List UInt8) (ht : t.length = 1) :
    TkAt rb rao b m ⟨rs, text ++ t, out⟩ v (w.setCell ⟨b, 1, none⟩ (.string (bs (text ++ t)))) := by
  have hk := keeps_setCell w b 1 (.string (bs (text ++ t)))
  have h1 := h.ht
  have h2 := h.hm
  have hr := h.rlt
  simp only at h1 h2
  refine ⟨Nat.lt_of_lt_of_le h.lt hk.size, h.rlt, by simp [World.cell?_setCell_other, h.c0], World.cell?_setCell_same _ _ _ h.c1, by simp [World.cell?_setCell_other, h.c2], by simp [h.f1], by simp [h.f2], h.rd.keeps hk (by simp; omega) (fun g off hg => ?_), h.ra, ownsRow_keeps h.own hk (fun g hg => ?_), by simp only [List.length_append]; omega, by simp only; omega⟩
  · have := h.ra g off hg
    simp; omega
  · have := (h.row_lt hg).1
    simp; omega

set_option maxHeartbeats 3200000 in
theorem tTwo (rb : Nat) (rao : Option Addr) (b m : Nat) (s : TkS) (v : Value) (n : Int) (w : World) (h : TkAt rb rao b (m + 1) s v w) :
    Calls Try.prog 48 #[.pointer (some ⟨b, 0, none⟩), .int .i64 n] w fun e w' => e = .returned (.bool (tkM.two s n.toNat).1) ∧ TkAt rb rao b m (tkM.two s n.toNat).2 v w' ∧ Keeps [rb, b] w w' := by
  obtain ⟨rs, text, out⟩ := s
  have HT := Lib.hid (aTake rb rao rs 1 w h.rd)
  have HS := fun W hr => Lib.hid ((h.read (w' := W) (rs' := rs.takeS 1) hr).tell (letterB (decide (rs.takeV 1 = 1))) rfl)
  have HD := fun W hr => Lib.hid (h.read (w' := W) (rs' := rs.takeS 1) hr)
  have HL := fun W => Lib.hid (cLetterOf (decide (rs.takeV 1 = 1)) W)
  have HAP : Hid (bs text ++ bs (letterB (decide (rs.takeV 1 = 1))) = bs (text ++ letterB (decide (rs.takeV 1 = 1)))) := bs_append _ _
  have c0 := h.c0
  have c1 := h.c1
  have hb := h.lt
  have hrb := h.rlt
  have hts : (bs text).size ≤ 1000 := by have := h.ht; rw [bs_size]; simp only at this; omega
  have hls : (bs (letterB (decide (rs.takeV 1 = 1)))).size = 1 := rfl
  have HE : Hid (tkM.two (⟨rs, text, out⟩ : TkS) n.toNat = (decide (rs.takeV 1 = 1), ⟨rs.takeS 1, text ++ letterB (decide (rs.takeV 1 = 1)), out⟩)) := rfl
  have hV : rs.takeV 1 ≤ 281474976710656 := by have := takeV_lt rs 1; omega
  have HTV : Hid (((rs.takeV 1 : Int) == 1) = decide (rs.takeV 1 = 1)) := by
    show _ = _
    by_cases h1 : rs.takeV 1 = 1
    · rw [h1]; rfl
    · rw [decide_eq_false h1, beq_eq_false_iff_ne]; omega
  obtain ⟨V, hVV⟩ : ∃ V, V = rs.takeV 1 := ⟨_, rfl⟩
  rw [← hVV] at HT HS HL HAP hls HE hV HTV
  obtain ⟨two, htwo⟩ : ∃ two, two = decide (V = 1) := ⟨_, rfl⟩
  rw [← htwo] at HS HL HAP hls HE HTV
  obtain ⟨S, hS⟩ : ∃ S, S = bs text := ⟨_, rfl⟩
  rw [show bs (TkS.mk rs text out).text = S from hS.symm] at c1
  rw [← hS] at hts HAP
  obtain ⟨L, hL⟩ : ∃ L, L = bs (letterB two) := ⟨_, rfl⟩
  rw [← hL] at HL HAP hls
  clear h hS hL hVV htwo
  go_enter Try.func48, Try.ntmps48
  go_wp2_with fail
  refine HT.out.mono ?_
  rintro e w1 ⟨rfl, hr1⟩
  have HS1 := Lib.hid (HS w1 hr1).out
  have hd1 := (HD w1 hr1).out
  have d1 := hd1.c1
  have g1 := hd1.f1
  have hb1 := hd1.lt
  rw [show bs (TkS.mk (rs.takeS 1) text out).text = bs text from rfl] at d1
  have HK1 := Lib.hid hr1.2
  have d1' : w1.cell? ⟨b, 1, none⟩ = some (.string S) := (hr1.2.cell (p := ⟨b, 1, none⟩) hb (by simp; omega)).trans c1
  have tv : ((V : Int) == 1) = two := HTV.out
  clear hd1 d1 hr1 HS HD c0 c1
  go_wp2
  go_region_with (go_at_call 55; refine (HL _).out.mono ?_; rintro e w2 ⟨rfl, rfl⟩)
  all_goals
    rw [HAP.out]
    go_wp2
    go_ret
    rw [HE.out]
    refine ⟨rfl, HS1.out.keeps (keeps_drew_b _ []), ?_⟩
    have k2 := (keeps_setCell w1 b 1 (.string (bs (text ++ letterB two)))).trans (keeps_drew_b _ [b])
    have k1 := HK1.out
    exact ⟨k2.os.trans k1.os, k2.tape.trans k1.tape, k2.output.trans k1.output, Nat.le_trans k1.size k2.size, fun i hi hn => (k2.block i (Nat.lt_of_lt_of_le hi k1.size) (fun hc => hn (by simp at hc; simp [hc]))).trans (k1.block i hi (fun hc => hn (by simp at hc; simp [hc])))⟩
end Go.Proofs.Ytmgckfkdbepkdaa
