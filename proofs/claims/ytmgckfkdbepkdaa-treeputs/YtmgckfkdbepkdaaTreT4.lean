import Derived.Test.YtmgckfkdbepkdaaTreT3
namespace Go.Proofs.Ytmgckfkdbepkdaa
open Go.RowKit Go.Proofs Go.Proofs.PipeM Go.Proofs.PipeA Go.Proofs.TreM
set_option maxRecDepth 100000

/-- What Take of a tree leaves. -/
def TreeIs (rb : Nat) (rao : Option Addr) (size : Int) (s : RS) (w : World) (e : Ending) (w' : World) : Prop :=
  (sizeB size = false ∧ e = .returned (.tuple #[.string ⟨#[]⟩, .slice none 0 0]) ∧ Reads w rb rao (s.give 1) w') ∨
  (sizeB size = true ∧ (s.err ≠ 0 ∨ rd 4 size.toNat (s.bits.map chr) = none) ∧ e = .returned (.tuple #[.string ⟨#[]⟩, .slice none 0 0]) ∧ Reads w rb rao ⟨[], if s.err = 0 then 3 else s.err⟩ w') ∨
  (sizeB size = true ∧ s.err = 0 ∧ ∃ u rest a ao cap, s.bits = u ++ rest ∧ rd 4 size.toNat (s.bits.map chr) = some (a, rest.map chr) ∧ e = .returned (.tuple #[.string (bs (u.map chr)), .slice ao a.length cap]) ∧
    w'.ownsRow w.heap.size 3 1 (.slice ao a.length cap) a.length (intsOf a) ∧ Reads w rb rao ⟨rest, 0⟩ w')

theorem takeAt_new (w : World) (rb : Nat) (rao : Option Addr) (s : RS) (m : Nat) (h : RdA w rb rao s) (ha : ∀ g off, rao = some ⟨g, off, none⟩ → g < w.heap.size) (hm : m ≤ 1000) :
    TkAt rb rao w.heap.size m ⟨s, [], []⟩ (.slice none 0 0) (w.alloc (.cells #[.pointer (some ⟨rb, 0, none⟩), .string ⟨#[]⟩, .slice none 0 0] 84)) := by
  have hn := World.alloc_heap_new w (.cells #[.pointer (some ⟨rb, 0, none⟩), .string ⟨#[]⟩, .slice none 0 0] 84)
  exact ⟨by simp, h.lt, cell_of_heap hn 0, cell_of_heap hn 1, cell_of_heap hn 2, frozen_of_heap hn 1, frozen_of_heap hn 2, h.keeps (keeps_of_below (box_below w _) []) (by simp) (by simp), ha, World.ownsRow_nil _ _ _ _, by simpa using hm, by simpa using hm⟩
theorem take_keeps {rb : Nat} {w w1 w2 : World} (hb : Below w.heap.size w w1) (hl : Lives (takeOwn rb w.heap.size) w1 w2) (ho : ∀ x, rowBlock w.heap.size 2 w1 x → w.heap.size ≤ x) : Keeps [rb] w w2 :=
  ⟨hl.os.trans hb.os, hl.tape.trans hb.tape, hl.output.trans hb.output, Nat.le_trans hb.size hl.size, fun k hk hn =>
    (hl.block k (Nat.lt_of_lt_of_le hk hb.size) (fun h => by
      rcases h with h | h
      · exact hn (by simp [h])
      · have := ho k h; omega)).1.trans (hb.block k hk)⟩
theorem own_base {w : World} {b b' n size : Nat} {e : TypeId} {v : Value} {xs : List Value} (h : w.ownsRow b e size v n xs) (hb : b' ≤ b) : w.ownsRow b' e size v n xs := by
  refine ⟨h.1, ?_⟩
  rcases h.2 with h | ⟨g, cap, cur, h1, h2, h3⟩
  · exact .inl h
  · exact .inr ⟨g, cap, cur, h1, Nat.le_trans hb h2, h3⟩

set_option maxHeartbeats 3200000 in
theorem cTreeTake (rb : Nat) (rao : Option Addr) (size : Int) (s : RS) (w : World) (h : RdA w rb rao s) (ha : ∀ g off, rao = some ⟨g, off, none⟩ → g < w.heap.size) :
    Calls Try.prog 22 #[.pointer (some ⟨rb, 0, none⟩), .int .i64 size] w (TreeIs rb rao size s w) := by
  have HI := Lib.hid (cIsSize size w)
  cases hs : sizeB size with
  | false =>
    have HG := Lib.hid (aGive rb rao s 1 w h)
    have HF : Hid (∀ W, Reads w rb rao (s.give 1) W → TreeIs rb rao size s w (.returned (.tuple #[.string ⟨#[]⟩, .slice none 0 0])) W) := fun W hr => .inl ⟨hs, rfl, hr⟩
    rw [hs] at HI
    clear hs h ha
    go_enter Try.func22, Try.ntmps22
    go_wp2_with fail
    refine HI.out.mono ?_
    rintro e w1 ⟨rfl, rfl⟩
    go_wp2_with fail
    refine HG.out.mono ?_
    rintro e w1 ⟨rfl, hr⟩
    have HR := Lib.hid (HF.out _ hr)
    clear hr
    go_wp2
    refine bodyPost_ret (v := .tuple #[.string ⟨#[]⟩, .slice none 0 0]) (by simp [results, Try.results22, go_sem]) rfl ?_
    exact HR.out
  | true =>
    obtain ⟨n, rfl, h1, h2⟩ := sizeB_of hs
    have HSB := Lib.hid hs
    rw [hs] at HI
    have HA := takeAt_new w rb rao s (1 + cst 4) h ha (by decide)
    have HW := Lib.hid (cWalk (takeWalks rb rao w.heap.size) 4 n 1 [] ⟨s, [], []⟩ _ rfl h2 (walkOk_all (fun _ _ _ => trivial) _ _ _ _) ⟨_, HA⟩)
    have HBX := Lib.hid (box_below w (.cells #[.pointer (some ⟨rb, 0, none⟩), .string ⟨#[]⟩, .slice none 0 0] 84))
    have HOW : Hid (∀ x, rowBlock w.heap.size 2 (w.alloc (.cells #[.pointer (some ⟨rb, 0, none⟩), .string ⟨#[]⟩, .slice none 0 0] 84)) x → w.heap.size ≤ x) := fun x hx => by
      rw [own_row HA.c2] at hx
      rcases hx with hx | hx
      · omega
      · cases hx
    have hfail : (s.err ≠ 0 ∨ rd 4 n (s.bits.map chr) = none) → (walkF tkM 4 n [] ⟨s, [], []⟩).1 = false ∧ (walkF tkM 4 n [] ⟨s, [], []⟩).2.rs = ⟨[], if s.err = 0 then 3 else s.err⟩ := by
      intro hf
      by_cases he : s.err = 0
      · obtain ⟨bits, err⟩ := s
        obtain rfl : err = 0 := he
        rw [if_pos rfl]
        exact (tkM_ok 4 n [] bits [] []).2 (hf.resolve_left (fun h => h rfl))
      · rw [if_neg he]
        have hb := h.spent he
        obtain ⟨bits, err⟩ := s
        obtain rfl : bits = [] := hb
        exact tkM_fail 4 n [] ⟨⟨[], err⟩, [], []⟩ rfl he
    by_cases hf : s.err ≠ 0 ∨ rd 4 n (s.bits.map chr) = none
    · obtain ⟨e1, e2⟩ := hfail hf
      have HF : Hid (∀ W, Reads w rb rao ⟨[], if s.err = 0 then 3 else s.err⟩ W → TreeIs rb rao n s w (.returned (.tuple #[.string ⟨#[]⟩, .slice none 0 0])) W) := fun W hr => .inr (.inl ⟨hs, by rw [Int.toNat_natCast]; exact hf, rfl, hr⟩)
      rw [e1] at HW
      have HE2 := Lib.hid e2
      clear hs HA hf hfail h ha e1 e2
      go_enter Try.func22, Try.ntmps22
      go_wp2_with fail
      refine HI.out.mono ?_
      rintro e w1 ⟨rfl, rfl⟩
      go_wp2_with fail
      refine HW.out.mono ?_
      rintro e w2 ⟨rfl, ⟨v, hat⟩, hlv⟩
      have hrd := hat.rd
      rw [HE2.out] at hrd
      have HR := Lib.hid (HF.out _ ⟨hrd, take_keeps HBX.out hlv HOW.out⟩)
      clear hat hlv hrd
      go_wp2
      refine bodyPost_ret (v := .tuple #[.string ⟨#[]⟩, .slice none 0 0]) (by simp [results, Try.results22, go_sem]) rfl ?_
      exact HR.out
    · have he : s.err = 0 := Classical.byContradiction fun h => hf (.inl h)
      obtain ⟨bits, err⟩ := s
      obtain rfl : err = 0 := he
      cases hr : rd 4 n (bits.map chr) with
      | none => exact absurd (.inr hr) hf
      | some x =>
        obtain ⟨a, r⟩ := x
        obtain ⟨u, rest, hu, rfl, hw⟩ := (tkM_ok 4 n [] bits [] []).1 a r hr
        have HF : Hid (∀ ao cap W, W.ownsRow w.heap.size 3 1 (.slice ao a.length cap) a.length (intsOf a) → Reads w rb rao ⟨rest, 0⟩ W → TreeIs rb rao n ⟨bits, 0⟩ w (.returned (.tuple #[.string (bs (u.map chr)), .slice ao a.length cap])) W) := fun ao cap W ho hrd => .inr (.inr ⟨hs, rfl, u, rest, a, ao, cap, hu, by rw [Int.toNat_natCast]; exact hr, rfl, ho, hrd⟩)
        rw [hw] at HW
        clear hs HA hf hfail h ha hr hu hw
        go_enter Try.func22, Try.ntmps22
        go_wp2_with fail
        refine HI.out.mono ?_
        rintro e w1 ⟨rfl, rfl⟩
        go_wp2_with fail
        refine HW.out.mono ?_
        rintro e w2 ⟨rfl, ⟨v, hat⟩, hlv⟩
        have c1 := hat.c1
        have c2 := hat.c2
        have hown := hat.own
        rw [show (TkS.mk ⟨rest, 0⟩ ([] ++ u.map chr) ([] ++ a)).text = u.map chr from rfl] at c1
        rw [show (TkS.mk ⟨rest, 0⟩ ([] ++ u.map chr) ([] ++ a)).out = a from rfl] at hown
        obtain ⟨ao, cap, rfl⟩ := own_sl hown
        have HRR := Lib.hid (HF.out ao cap w2.drew (own_base (ownsRow_drewN hown 1) (by omega)) ⟨hat.rd.drewN 1, (take_keeps HBX.out hlv HOW.out).trans (keeps_drew_b _ _)⟩)
        clear hat hlv hown
        go_wp2
        go_region
        all_goals
          go_wp2
          refine bodyPost_ret (v := .tuple #[.string (bs (u.map chr)), .slice ao a.length cap]) (by simp [results, Try.results22, go_sem]) rfl ?_
          exact HRR.out
end Go.Proofs.Ytmgckfkdbepkdaa
