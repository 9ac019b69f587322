import Derived.Test.YtpbbhebongggpaaPackP
import Derived.Deep.RegionHeld3
namespace Go.Proofs.Ytpbbhebongggpaa
open Go.RowKit Go.Shelf Go.Proofs Go.Proofs.PipeM Go.Proofs.PipeA Go.Proofs.PackM
set_option maxRecDepth 100000

/-- Channels of noughts, each in a block of its own. -/
structure ZerosAt (w : World) (O ch s : Nat) : Prop where
  top : KeysAt w O ch (fun i => .slice (some ⟨O + 1 + i, 0, none⟩) s s)
  row : ∀ c, c < ch → KeysAt w (O + 1 + c) s (fun _ => .int .i64 0)
  size : w.heap.size = O + 1 + ch

theorem keys_setCell_far {W : World} {H m b off : Nat} {f : Nat → Value} (h : KeysAt W H m f) (hn : H ≠ b) (v : Value) : KeysAt (W.setCell ⟨b, off, none⟩ v) H m f := by
  intro j hj
  rw [World.frozen?_setCell, World.cell?_setCell_other _ _ _ _ (by intro e; cases e; exact hn rfl)]
  exact h j hj

set_option maxHeartbeats 1600000 in
theorem cZeros (ch s : Nat) (w : World) (hc : ch ≤ 8) (hs : s ≤ 24000) :
    Calls Try.prog 29 #[.int .i64 (ch : Int), .int .i64 (s : Int)] w fun e w' => e = .returned (.slice (some ⟨w.heap.size, 0, none⟩) ch ch) ∧ ZerosAt w' w.heap.size ch s ∧ Below w.heap.size w w' := by
  obtain ⟨cs, hcsz, hcs, hmk⟩ := makeRows ch (by omega)
  obtain ⟨ds, hds, hmk2⟩ := makeInts s (by omega)
  have HDS := Lib.hid hds
  have hh := World.alloc_heap_new w (.cells cs 45)
  have HK0 : Hid (KeysAt (w.alloc (.cells cs 45)) w.heap.size ch (fun _ => .slice none 0 0)) := fun j hj => ⟨(cell_of_heap hh j).trans (hcs j hj), frozen_of_heap hh j⟩
  have HB0 := Lib.hid (box_below w (.cells cs 45))
  have hsz0 : (w.alloc (.cells cs 45)).heap.size = w.heap.size + 1 := by simp
  clear hcs hds hcsz hh
  go_enter Try.func29, Try.ntmps29
  go_wp2
  generalize w.alloc (.cells cs 45) = w1 at HK0 HB0 hsz0 ⊢
  go_loopg [6, 11] ch (fun gk q i wr => ∃ c : Nat, c ≤ ch ∧ gk + c = ch ∧ i = .int .i64 c ∧ wr.heap.size = w.heap.size + 1 + c ∧ Hid (KeysAt wr w.heap.size ch (fun i => if i < c then .slice (some ⟨w.heap.size + 1 + i, 0, none⟩) s s else .slice none 0 0)) ∧ Hid (∀ j, j < c → KeysAt wr (w.heap.size + 1 + j) s (fun _ => .int .i64 0)) ∧ Hid (Below w.heap.size w wr))
  case atStart => exact ⟨0, Nat.zero_le _, by omega, rfl, by omega, HK0.out.congr (fun j _ => by simp), fun j hj => by omega, HB0⟩
  case round =>
    obtain ⟨c, hc', hgk, rfl, hsz, HK, HR, HW⟩ := hrel
    have HGK := Lib.hid hgk
    clear hgk
    by_cases hlt : c < ch
    · have hc1 := (HK.out c hlt).1
      have hf1 := (HK.out c hlt).2
      have c2 := cellA (.cells ds 3) hc1
      have f2 : (wr.alloc (.cells ds 3)).frozen? ⟨w.heap.size, c, none⟩ = false := by rw [(box_below wr _).frozen (p := ⟨w.heap.size, c, none⟩) (by show w.heap.size < _; omega)]; exact hf1
      have hk := World.alloc_heap_new wr (.cells ds 3)
      have HN : Hid (KeysAt (wr.alloc (.cells ds 3)) (w.heap.size + 1 + c) s (fun _ => .int .i64 0)) := by
        intro j hj
        rw [← hsz]
        exact ⟨(cell_of_heap hk j).trans (HDS.out j hj), frozen_of_heap hk j⟩
      have kk := keeps_of_below (box_below wr (.cells ds 3)) []
      have HK2 := Lib.hid ((HK.out.keeps kk (by simp) (by omega)).set hlt (.slice (some ⟨wr.heap.size, 0, none⟩) s s))
      have HR2 : Hid (∀ j, j < c → KeysAt (wr.alloc (.cells ds 3)) (w.heap.size + 1 + j) s (fun _ => .int .i64 0)) := fun j hj => (HR.out j hj).keeps kk (by simp) (by omega)
      have HW2 : Hid (Below w.heap.size w ((wr.alloc (.cells ds 3)).setCell ⟨w.heap.size, c, none⟩ (.slice (some ⟨wr.heap.size, 0, none⟩) s s))) := (HW.out.alloc HW.out.size _).setCell (p := ⟨w.heap.size, c, none⟩) (Nat.le_refl _) _
      rw [hsz] at HK2 HW2
      clear hc1 hf1 hk kk
      go_wp2
      go_roundg (gk - 1)
      case rel =>
        refine ⟨c + 1, by omega, by have := HGK.out; omega, by go_num, by simp; omega, HK2.out.congr (fun j hj => ?_), ?_, HW2⟩
        · by_cases e : j = c
          · subst e
            rw [if_pos (by omega), if_pos rfl]
          · rw [if_neg e]
            by_cases e2 : j < c
            · rw [if_pos (by omega), if_pos e2]
            · rw [if_neg (by omega), if_neg e2]
        · intro j hj
          by_cases e : j = c
          · subst e; exact keys_setCell_far HN.out (by omega) _
          · exact keys_setCell_far (HR2.out j (by omega)) (by omega) _
      case measure => have := HGK.out; omega
    · obtain rfl : c = ch := by omega
      go_wp2
      go_ret
      exact ⟨rfl, ⟨HK.out.congr (fun j hj => by rw [if_pos hj]), HR.out, hsz⟩, HW.out⟩

/-- What Unpack answers where something is wrong. -/
def unpCode (B : Int) (ch : Int) (n : Nat) : Int :=
  if good B = true then (if 1 ≤ ch ∧ ch ≤ 8 then (if (n : Int) % (ch * (B / 8)) ≠ 0 then 3 else 0) else 8) else 7

set_option maxHeartbeats 1600000 in
theorem cUnpack_bad (ao : Option Addr) (cap : Nat) (n : Nat) (B ch : Int) (g : Bool) (w : World) (hg : good B = false) :
    Calls Try.prog 15 #[.agg #[.int .i64 B, .bool g], .int .i64 ch, .slice ao n cap] w fun e w' => e = .returned (.tuple #[.slice none 0 0, .int .i64 7]) ∧ Below w.heap.size w w' := by
  have HB := fun o1 o2 => Lib.hid (below2 w o1 o2)
  have HG := fun W => Lib.hid (cGood B g W)
  rw [hg] at HG
  clear hg
  go_enter Try.func15, Try.ntmps15
  go_wp2_with fail
  refine (HG _).out.mono ?_
  rintro e w1 ⟨rfl, hb⟩
  have HB1 := Lib.hid ((HB _ _).out.trans (hb.mono (HB _ _).out.size))
  clear hb
  go_wp2
  refine bodyPost_ret (v := .tuple #[.slice none 0 0, .int .i64 7]) (by simp [results, Try.results15, go_sem]) rfl ?_
  exact ⟨rfl, HB1.out⟩

set_option maxHeartbeats 1600000 in
theorem cUnpack_count (ao : Option Addr) (cap : Nat) (n : Nat) (B ch : Int) (g : Bool) (w : World) (hg : good B = true) (hc : ¬ (1 ≤ ch ∧ ch ≤ 8)) :
    Calls Try.prog 15 #[.agg #[.int .i64 B, .bool g], .int .i64 ch, .slice ao n cap] w fun e w' => e = .returned (.tuple #[.slice none 0 0, .int .i64 8]) ∧ Below w.heap.size w w' := by
  have HB := fun o1 o2 => Lib.hid (below2 w o1 o2)
  have HG := fun W => Lib.hid (cGood B g W)
  have HC := fun W => Lib.hid (cIsCount ch W)
  rw [hg] at HG
  have hcf : decide (1 ≤ ch ∧ ch < 9) = false := decide_eq_false (by omega)
  rw [hcf] at HC
  clear hg hc hcf
  go_enter Try.func15, Try.ntmps15
  go_wp2_with fail
  refine (HG _).out.mono ?_
  rintro e w1 ⟨rfl, hb⟩
  have HB1 := Lib.hid ((HB _ _).out.trans (hb.mono (HB _ _).out.size))
  clear hb
  go_wp2_with fail
  refine (HC _).out.mono ?_
  rintro e w2 ⟨rfl, rfl⟩
  go_wp2
  refine bodyPost_ret (v := .tuple #[.slice none 0 0, .int .i64 8]) (by simp [results, Try.results15, go_sem]) rfl ?_
  exact ⟨rfl, HB1.out⟩

set_option maxHeartbeats 3200000 in
theorem cUnpack_end (ao : Option Addr) (cap : Nat) (n : Nat) (z ch : Nat) (g : Bool) (w : World) (hz : z = 1 ∨ z = 2 ∨ z = 3) (hc1 : 1 ≤ ch) (hc8 : ch ≤ 8) (hn : n ≤ 24000) (hm : n % (ch * z) ≠ 0) :
    Calls Try.prog 15 #[.agg #[.int .i64 ((8 * z : Nat) : Int), .bool g], .int .i64 (ch : Int), .slice ao n cap] w fun e w' => e = .returned (.tuple #[.slice none 0 0, .int .i64 3]) ∧ Below w.heap.size w w' := by
  have HB := fun o1 o2 => Lib.hid (below2 w o1 o2)
  have HG := fun W => Lib.hid (cGood ((8 * z : Nat) : Int) g W)
  have hgd : good ((8 * z : Nat) : Int) = true := decide_eq_true (by omega)
  have HC := fun W => Lib.hid (cIsCount ch W)
  have HRB := fun W => Lib.hid (cRowBytes z ch g W hz (by omega))
  rw [hgd] at HG
  have hcf : decide (1 ≤ (ch : Int) ∧ (ch : Int) < 9) = true := decide_eq_true (by omega)
  rw [hcf] at HC
  obtain ⟨r, hr⟩ : ∃ r, r = ch * z := ⟨_, rfl⟩
  have hr1 : 1 ≤ r := by rw [hr]; exact Nat.mul_pos hc1 (by omega)
  rw [← hr] at HRB hm
  obtain ⟨zb, hzb⟩ : ∃ zb, zb = 8 * z := ⟨_, rfl⟩
  rw [← hzb] at HG HRB ⊢
  obtain ⟨x, hx⟩ : ∃ x, x = n % r := ⟨_, rfl⟩
  have hxi : (n : Int) % (r : Int) = (x : Int) := by rw [hx, Int.natCast_emod]
  have t1 : ((x : Int) != 0) = true := by rw [bne_iff_ne]; omega
  have hri : ((r : Int) == 0) = false := by rw [beq_eq_false_iff_ne]; omega
  clear hcf hgd hr hzb hm hx hz
  go_enter Try.func15, Try.ntmps15
  go_wp2_with fail
  refine (HG _).out.mono ?_
  rintro e w1 ⟨rfl, hb⟩
  have HB1 := Lib.hid ((HB _ _).out.trans (hb.mono (HB _ _).out.size))
  have c0 : w1.cell? ⟨w.heap.size, 0, none⟩ = some (.int .i64 (zb : Int)) := (hb.cell (p := ⟨w.heap.size, 0, none⟩) (by simp; omega)).trans (by simp)
  have c1 : w1.cell? ⟨w.heap.size, 1, none⟩ = some (.bool g) := (hb.cell (p := ⟨w.heap.size, 1, none⟩) (by simp; omega)).trans (by simp)
  have c2 : w1.cell? ⟨w.heap.size + 1, 0, none⟩ = some (.slice ao n cap) := (hb.cell (p := ⟨w.heap.size + 1, 0, none⟩) (by simp)).trans (by simp)
  have hsz : w.heap.size + 2 ≤ w1.heap.size := by have := hb.size; simpa using this
  clear hb
  go_wp2_with fail
  refine (HC _).out.mono ?_
  rintro e w2 ⟨rfl, rfl⟩
  go_wp2_with fail
  go_region_with (go_at_call 23; refine (HRB _).out.mono ?_; rintro e w3 ⟨rfl, hb3⟩; have hb3' : Below w2.heap.size w2 w3 := ((keeps_drew_b w2 []).below (Nat.le_refl _) (by simp)).trans hb3; have p2 := (hb3'.cell (p := ⟨w.heap.size + 1, 0, none⟩) (by show w.heap.size + 1 < _; omega)).trans c2; have HB3 := Lib.hid (HB1.out.trans (hb3'.mono HB1.out.size)); clear hb3 hb3')
  all_goals
    go_wp2
    refine bodyPost_ret (v := .tuple #[.slice none 0 0, .int .i64 3]) (by simp [results, Try.results15, go_sem]) rfl ?_
    exact ⟨rfl, HB3.out⟩
end Go.Proofs.Ytpbbhebongggpaa
