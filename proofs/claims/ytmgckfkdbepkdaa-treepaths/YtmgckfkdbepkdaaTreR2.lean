import Derived.Test.YtmgckfkdbepkdaaTreR
namespace Go.Proofs.Ytmgckfkdbepkdaa
open Go.RowKit Go.Proofs Go.Proofs.PipeA Go.Proofs.TreM
set_option maxRecDepth 100000

theorem readAt_new (w : World) (s : List UInt8) (m : Nat) (hs : s.length ≤ 100000) (hm : m ≤ 1000) :
    RdAt w.heap.size m ⟨s, false, []⟩ (.slice none 0 0) (w.alloc (.cells #[.string (bs s), .bool false, .slice none 0 0] 68)) := by
  have hn := World.alloc_heap_new w (.cells #[.string (bs s), .bool false, .slice none 0 0] 68)
  exact ⟨by simp, cell_of_heap hn 0, cell_of_heap hn 1, cell_of_heap hn 2, frozen_of_heap hn 0, frozen_of_heap hn 1, frozen_of_heap hn 2, World.ownsRow_nil _ _ _ _, hs, by simpa using hm⟩

/-- What is left of a machine whose blocks all are new. -/
theorem lives_new {w w1 w2 : World} {Own : World → Nat → Prop} (hb : Below w.heap.size w w1) (hl : Lives Own w1 w2) (ho : ∀ x, Own w1 x → w.heap.size ≤ x) : Below w.heap.size w w2 :=
  hb.trans ⟨hl.os, hl.tape, hl.output, hl.size, fun k hk => (hl.block k (Nat.lt_of_lt_of_le hk hb.size) (fun h => by have := ho k h; omega)).1⟩

set_option maxHeartbeats 1600000 in
theorem cLeaves (size : Int) (s : List UInt8) (w : World) (hl : s.length ≤ 100000) :
    Calls Try.prog 11 #[.string (bs s), .int .i64 size] w (LeavesIs size s w) := by
  have HI := Lib.hid (cIsSize size w)
  cases hs : sizeB size with
  | false =>
    have HF := Lib.hid (LeavesIs.no (w := w) (w' := w) (codeL_size (s := s) hs) (by omega) (Below.refl _ _))
    rw [hs] at HI
    clear hs
    go_enter Try.func11, Try.ntmps11
    go_wp2_with fail
    refine HI.out.mono ?_
    rintro e w1 ⟨rfl, rfl⟩
    go_wp2
    refine bodyPost_ret (v := .tuple #[.slice none 0 0, .int .i64 1]) (by simp [results, Try.results11, go_sem]) rfl ?_
    exact HF.out
  | true =>
    obtain ⟨n, rfl, h1, h2⟩ := sizeB_of hs
    have HSB := Lib.hid hs
    rw [hs] at HI
    have HA := readAt_new w s (1 + cst 4) hl (by decide)
    have HW := Lib.hid (cWalk (readWalks w.heap.size) 4 n 1 [] ⟨s, false, []⟩ _ rfl h2 (walkOk_all (fun _ _ _ => trivial) _ _ _ _) ⟨_, HA⟩)
    have HR := Lib.hid (rdM_ok 4 n [] ⟨s, false, []⟩ rfl)
    have hbx := box_below w (.cells #[.string (bs s), .bool false, .slice none 0 0] 68)
    have HOW : Hid (∀ x, rowBlock w.heap.size 2 (w.alloc (.cells #[.string (bs s), .bool false, .slice none 0 0] 68)) x → w.heap.size ≤ x) := fun x hx => by
      rw [own_row HA.c2] at hx
      rcases hx with hx | hx
      · omega
      · cases hx
    have HBX := Lib.hid hbx
    clear hs HA hbx
    cases hr : rd 4 n s with
    | none =>
      have HF : Hid (∀ W, Below w.heap.size w W → LeavesIs n s w (.returned (.tuple #[.slice none 0 0, .int .i64 10])) W) := fun W hb => LeavesIs.no (codeL_none HSB.out (leavesOf_none1 hr)) (by omega) hb
      rw [HR.out.2 hr] at HW
      clear hr
      go_enter Try.func11, Try.ntmps11
      go_wp2_with fail
      refine HI.out.mono ?_
      rintro e w1 ⟨rfl, rfl⟩
      go_wp2_with fail
      refine HW.out.mono ?_
      rintro e w2 ⟨rfl, hat, hlv⟩
      have HB := Lib.hid (lives_new HBX.out hlv HOW.out)
      clear hat hlv
      go_wp2
      refine bodyPost_ret (v := .tuple #[.slice none 0 0, .int .i64 10]) (by simp [results, Try.results11, go_sem]) rfl ?_
      exact HF.out _ HB.out
    | some x =>
      obtain ⟨l, r⟩ := x
      have hlen := (rd_like _ _ _ _ _ hr).2.1
      rw [HR.out.1 l r hr] at HW
      cases r with
      | nil =>
        have HL := Lib.hid (leavesOf_some.2 hr)
        clear hr
        go_enter Try.func11, Try.ntmps11
        go_wp2_with fail
        refine HI.out.mono ?_
        rintro e w1 ⟨rfl, rfl⟩
        go_wp2_with fail
        refine HW.out.mono ?_
        rintro e w2 ⟨rfl, ⟨v, hat⟩, hlv⟩
        have hb := lives_new HBX.out hlv HOW.out
        have c0 := hat.c0
        have c2 := hat.c2
        have hown := hat.own
        obtain ⟨ao, cap, rfl⟩ := own_sl hown
        have HF : Hid (LeavesIs n s w (.returned (.tuple #[.slice ao l.length cap, .int .i64 0])) w2) := .inr ⟨codeL_some HSB.out HL.out, ao, cap, l, by rw [Int.toNat_natCast]; exact HL.out, rfl, ints_own hown, own_capR hown, hlen, hb⟩
        rw [show bs (RdS.mk [] false ([] ++ l)).rest = ⟨#[]⟩ from rfl] at c0
        rw [show (RdS.mk [] false ([] ++ l)).out.length = l.length from rfl] at c2
        clear hat hlv hb hown hlen
        go_wp2
        refine bodyPost_ret (v := .tuple #[.slice ao l.length cap, .int .i64 0]) (by simp [results, Try.results11, go_sem]) rfl ?_
        exact HF.out
      | cons c r =>
        have HF : Hid (∀ W, Below w.heap.size w W → LeavesIs n s w (.returned (.tuple #[.slice none 0 0, .int .i64 10])) W) := fun W hb => LeavesIs.no (codeL_none HSB.out (leavesOf_none2 hr)) (by omega) hb
        have hE : ((bs (c :: r)).toList == ([] : List UInt8)) = false := by rw [bs_toList]; rfl
        clear hr hlen
        go_enter Try.func11, Try.ntmps11
        go_wp2_with fail
        refine HI.out.mono ?_
        rintro e w1 ⟨rfl, rfl⟩
        go_wp2_with fail
        refine HW.out.mono ?_
        rintro e w2 ⟨rfl, ⟨v, hat⟩, hlv⟩
        have HB := Lib.hid (lives_new HBX.out hlv HOW.out)
        have c0 := hat.c0
        rw [show (RdS.mk (c :: r) false ([] ++ l)).rest = c :: r from rfl] at c0
        generalize bs (c :: r) = S at c0 hE
        clear hat hlv
        go_wp2
        refine bodyPost_ret (v := .tuple #[.slice none 0 0, .int .i64 10]) (by simp [results, Try.results11, go_sem]) rfl ?_
        exact HF.out _ HB.out
end Go.Proofs.Ytmgckfkdbepkdaa
