import Derived.Test.YtmgckfkdbepkdaaTreX
namespace Go.Proofs.Ytmgckfkdbepkdaa
open Go.RowKit Go.Proofs Go.Proofs.PipeA Go.Proofs.TreM
set_option maxRecDepth 100000

theorem fitAt_new (w : World) (l : List Int) (ao : Option Addr) (cap m : Nat) (hl : l.length ≤ 100000) (hcap : l.length ≤ cap) (hi : IntsAt w ao l) (hm : m ≤ 1000) :
    FtAt w.heap.size m ⟨l, []⟩ ao cap (w.alloc (.cells #[.slice ao l.length cap, .string ⟨#[]⟩] 72)) := by
  have hn' := World.alloc_heap_new w (.cells #[.slice ao l.length cap, .string ⟨#[]⟩] 72)
  exact ⟨by simp, cell_of_heap hn' 0, cell_of_heap hn' 1, frozen_of_heap hn' 0, frozen_of_heap hn' 1, hi.below (box_below w _), hcap, fun a h0 ha => by
    obtain ⟨g, off, rfl, hg, _⟩ := hi 0 h0
    cases ha
    simp only; omega, hl, by simpa using hm⟩

set_option maxHeartbeats 1600000 in
theorem cText (size : Int) (ao : Option Addr) (cap : Nat) (l : List Int) (w : World) (hl : l.length ≤ 100000) (hcap : l.length ≤ cap) (hi : IntsAt w ao l) :
    Calls Try.prog 14 #[.slice ao l.length cap, .int .i64 size] w (TextB size l w) := by
  have HI := Lib.hid (cIsSize size w)
  cases hs : sizeB size with
  | false =>
    have HF : Hid (TextB size l w (.returned (.tuple #[.string ⟨#[]⟩, .int .i64 1])) w) := ⟨Below.refl _ _, .inl ⟨by rw [codeX_size hs]; omega, by rw [codeX_size hs]⟩⟩
    rw [hs] at HI
    clear hs hi
    go_enter Try.func14, Try.ntmps14
    go_wp2_with fail
    refine HI.out.mono ?_
    rintro e w1 ⟨rfl, rfl⟩
    go_wp2
    refine bodyPost_ret (v := .tuple #[.string ⟨#[]⟩, .int .i64 1]) (by simp [results, Try.results14, go_sem]) rfl ?_
    exact HF.out
  | true =>
    obtain ⟨n, rfl, h1, h2⟩ := sizeB_of hs
    have HSB := Lib.hid hs
    rw [hs] at HI
    have HA := fitAt_new w l ao cap (1 + cst 4) hl hcap hi (by decide)
    have HW := Lib.hid (cWalk (fitWalks w.heap.size) 4 n 1 [] ⟨l, []⟩ _ rfl h2 (walkOk_all (fun _ _ _ => trivial) _ _ _ _) ⟨_, _, HA⟩)
    have HR := Lib.hid (ftM_ok 4 n [] ⟨l, []⟩)
    have HBX := Lib.hid (box_below w (.cells #[.slice ao l.length cap, .string ⟨#[]⟩] 72))
    have HOW : Hid (∀ x, x = w.heap.size → w.heap.size ≤ x) := fun x hx => by omega
    obtain ⟨q, hq⟩ : ∃ q, q = l.length := ⟨_, rfl⟩
    rw [← hq] at HW HBX ⊢
    have HQ := Lib.hid hq
    clear hs HA hi hq hl hcap
    cases hr : ft 4 n l with
    | none =>
      have HF : Hid (∀ W, Below w.heap.size w W → TextB n l w (.returned (.tuple #[.string ⟨#[]⟩, .int .i64 10])) W) := fun W hb => ⟨hb, .inl ⟨by rw [codeX_none HSB.out (textOf_none1 hr)]; omega, by rw [codeX_none HSB.out (textOf_none1 hr)]⟩⟩
      rw [HR.out.2 hr] at HW
      clear hr
      go_enter Try.func14, Try.ntmps14
      go_wp2_with fail
      refine HI.out.mono ?_
      rintro e w1 ⟨rfl, rfl⟩
      go_wp2_with fail
      refine HW.out.mono ?_
      rintro e w2 ⟨rfl, hat, hlv⟩
      have HB := Lib.hid (lives_new HBX.out hlv HOW.out)
      clear hat hlv
      go_wp2
      refine bodyPost_ret (v := .tuple #[.string ⟨#[]⟩, .int .i64 10]) (by simp [results, Try.results14, go_sem]) rfl ?_
      exact HF.out _ HB.out
    | some x =>
      obtain ⟨t, r⟩ := x
      have hsh := (ft_short _ _ _ _ hr).1
      rw [HR.out.1 t r hr] at HW
      cases r with
      | nil =>
        have hlv' : textOf n l = some t := textOf_some.2 hr
        have HF : Hid (∀ W, Below w.heap.size w W → TextB n l w (.returned (.tuple #[.string (bs t), .int .i64 0])) W) := fun W hb => ⟨hb, .inr ⟨codeX_some HSB.out hlv', t, by rw [Int.toNat_natCast]; exact hlv', rfl, hsh⟩⟩
        clear hr hsh hlv'
        go_enter Try.func14, Try.ntmps14
        go_wp2_with fail
        refine HI.out.mono ?_
        rintro e w1 ⟨rfl, rfl⟩
        go_wp2_with fail
        refine HW.out.mono ?_
        rintro e w2 ⟨rfl, ⟨ao2, cap2, hat⟩, hlv⟩
        have HB := Lib.hid (lives_new HBX.out hlv HOW.out)
        have c0 := hat.c0
        have c1 := hat.c1
        rw [show (FtS.mk [] ([] ++ t)).rest.length = 0 from rfl] at c0
        rw [show (FtS.mk [] ([] ++ t)).text = t from rfl] at c1
        clear hat hlv
        go_wp2
        refine bodyPost_ret (v := .tuple #[.string (bs t), .int .i64 0]) (by simp [results, Try.results14, go_sem]) rfl ?_
        exact HF.out _ HB.out
      | cons c r =>
        have HF : Hid (∀ W, Below w.heap.size w W → TextB n l w (.returned (.tuple #[.string ⟨#[]⟩, .int .i64 10])) W) := fun W hb => ⟨hb, .inl ⟨by rw [codeX_none HSB.out (textOf_none2 hr)]; omega, by rw [codeX_none HSB.out (textOf_none2 hr)]⟩⟩
        clear hr hsh
        obtain ⟨j, hj⟩ : ∃ j, j = (c :: r).length := ⟨_, rfl⟩
        have hj0 : 0 < j := by rw [hj, List.length_cons]; omega
        have HJ := Lib.hid hj
        clear hj
        go_enter Try.func14, Try.ntmps14
        go_wp2_with fail
        refine HI.out.mono ?_
        rintro e w1 ⟨rfl, rfl⟩
        go_wp2_with fail
        refine HW.out.mono ?_
        rintro e w2 ⟨rfl, ⟨ao2, cap2, hat⟩, hlv⟩
        have HB := Lib.hid (lives_new HBX.out hlv HOW.out)
        have c0 := hat.c0
        rw [show (FtS.mk (c :: r) ([] ++ t)).rest.length = j from HJ.out.symm] at c0
        clear hat hlv
        go_wp2
        refine bodyPost_ret (v := .tuple #[.string ⟨#[]⟩, .int .i64 10]) (by simp [results, Try.results14, go_sem]) rfl ?_
        exact HF.out _ HB.out
end Go.Proofs.Ytmgckfkdbepkdaa
