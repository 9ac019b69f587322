import Derived.Test.YtengpeaagfilmaaLatL1
namespace Go.Proofs.Ytengpeaagfilmaa
open Go.RowKit Go.Proofs Go.Proofs.PipeA Go.Proofs.LatM
set_option maxRecDepth 100000


set_option maxHeartbeats 3200000 in
theorem steps2_calls (b2 b5 b6 b7 B H : Nat) (l : List Int) (W : World) (bs : List Nat) (J : Nat → World → Prop) (go : Nat → Bool) (hgd : goodL l = true) (hS : StepsAt W B H l) (hB : B ∉ bs) (hH : H ∉ bs) (hbs : ∀ x ∈ bs, x < W.heap.size)
    (hJ : ∀ j A C, J j A → Below A.heap.size A C → J j C)
    (hY0 : Calls Try.prog 18 #[.int .i64 0, .slice none 0 0, .pointer (some ⟨b7, 0, none⟩), .pointer (some ⟨b5, 0, none⟩), .pointer (some ⟨b2, 0, none⟩), .pointer (some ⟨b6, 0, none⟩)] W fun e W' => e = .returned (.bool (go 0)) ∧ J 1 W' ∧ Keeps bs W W')
    (hY : ∀ (c g cap : Nat) (cur : Array Value) W1, c < l.length → c + 1 ≤ cap → J (c + 1) W1 → IntsAt W1 (some ⟨g, 0, none⟩) (cf l (c + 1)) → W1.heap[g]? = some (.cells cur 3) → W.heap.size ≤ g →
      Calls Try.prog 18 #[.int .i64 ((c : Int) + 1), .slice (some ⟨g, 0, none⟩) (c + 1) cap, .pointer (some ⟨b7, 0, none⟩), .pointer (some ⟨b5, 0, none⟩), .pointer (some ⟨b2, 0, none⟩), .pointer (some ⟨b6, 0, none⟩)] W1
        fun e W' => e = .returned (.bool (go (c + 1))) ∧ J (c + 1 + 1) W' ∧ Keeps (g :: bs) W1 W') :
    Calls Try.prog 29 #[.func (.func 18) #[] #[.pointer (some ⟨b7, 0, none⟩), .pointer (some ⟨b5, 0, none⟩), .pointer (some ⟨b2, 0, none⟩), .pointer (some ⟨b6, 0, none⟩)], .pointer (some ⟨B, 0, none⟩)] W
      fun e W' => (∃ v, e = .returned v) ∧ ∃ c, c ≤ l.length ∧ J (c + 1) W' ∧ (∀ j, j < c → go j = true) ∧ (c = l.length ∨ go c = false) := by
  have hl16 := good_len hgd
  have HJ := Lib.hid hJ
  have HY := Lib.hid hY
  have HY0 := Lib.hid hY0
  have HS := Lib.hid hS
  have HGD := Lib.hid hgd
  have HBS := Lib.hid hbs
  have HBN := Lib.hid hB
  have HHN := Lib.hid hH
  have hBlt : B < W.heap.size := (Array.getElem?_eq_some_iff.1 hS.box).1
  have hHlt := hS.lt
  clear hJ hY hY0 hS hgd hbs hB hH
  cases hg0 : go 0 with
  | false =>
    rw [hg0] at HY0
    have HG0 := Lib.hid hg0
    clear hg0
    go_enter Try.func29, Try.ntmps29
    go_wp2_with fail
    refine HY0.out.mono ?_
    rintro e W1 ⟨rfl, hJ1, hk1⟩
    have HF : Hid (∃ c, c ≤ l.length ∧ J (c + 1) W1 ∧ (∀ j, j < c → go j = true) ∧ (c = l.length ∨ go c = false)) := ⟨0, Nat.zero_le _, hJ1, fun j hj => by omega, .inr HG0.out⟩
    clear hJ1 hk1
    go_wp2
    refine bodyPost_ret (results_none rfl _ _ _) rfl ?_
    exact ⟨⟨_, rfl⟩, HF.out⟩
  | true =>
    rw [hg0] at HY0
    have HG0 : Hid (∀ j, j < 1 → go j = true) := fun j hj => by obtain rfl : j = 0 := by omega
                                                                exact hg0
    clear hg0
    go_enter Try.func29, Try.ntmps29
    go_wp2_with fail
    refine HY0.out.mono ?_
    rintro e W1 ⟨rfl, hJ1, hk1⟩
    have HJ1 := Lib.hid hJ1
    have HK1 := Lib.hid hk1
    have e0 : W1.cell? ⟨B, 0, none⟩ = some (.slice (some ⟨H, 0, none⟩) l.length l.length) := by
      rw [hk1.cell (p := ⟨B, 0, none⟩) hBlt HBN.out, cell_of_heap HS.out.box]; rfl
    clear hJ1 hk1 HY0
    go_wp2
    go_loopg [3, 4, 5, 11] l.length (fun gk vc q4 q5 i wr => ∃ (c ccap : Nat) (co : Option Addr), c ≤ l.length ∧ gk + c = l.length ∧ i = .int .i64 c ∧ vc = .slice co c ccap ∧ Hid (IntsAt wr co (cf l c)) ∧ Hid (From W.heap.size co) ∧ Hid (J (c + 1) wr) ∧ Hid (Keeps bs W wr) ∧ Hid (∀ j, j < c + 1 → go j = true))
    case atStart => exact ⟨0, 0, none, Nat.zero_le _, by omega, rfl, rfl, (fun j hj => by simp [cf] at hj), (fun a e => by cases e), HJ1, HK1, HG0⟩
    case round =>
      clear HJ1 HK1 e0 HG0
      obtain ⟨c, ccap, co, hc, hgk, rfl, rfl, HIC, HFR, HJ1, HK1, HG1⟩ := hrel
      have HGK := Lib.hid hgk
      clear hgk
      by_cases hlt : c < l.length
      · have hltR : c < (reflV l).length := by rw [reflV_length]; exact hlt
        obtain ⟨g', off', hge, _, hcell⟩ := HS.out.ints c hltR
        simp only [Option.some.injEq, Addr.mk.injEq, and_true] at hge
        obtain ⟨rfl, rfl⟩ := hge
        rw [Nat.zero_add] at hcell
        have k1 : wr.cell? ⟨H, c, none⟩ = some (.int .i64 (reflV l)[c]) := (HK1.out.cell (p := ⟨H, c, none⟩) hHlt HHN.out).trans hcell
        have hkb := refl_in HGD.out hlt
        have HSU := Lib.hid (cf_succ hlt)
        have hlen := cf_length l c
        have HBE : Hid (∀ W, IntsAt W co (cf l c) → Calls Try.prog 30 #[.slice co c ccap, .int .i64 (reflV l)[c]] W (NewIs (cf l (c + 1)) W)) := fun W hW => by
          have := cBehind co ccap (cf l c) (reflV l)[c] W (by omega) (cf_b30 HGD.out (by omega)) hkb hW
          rw [hlen] at this
          rw [HSU.out]
          exact this
        generalize (reflV l)[c] = k at k1 HBE
        clear hcell hkb HSU hlen hltR
        go_wp2_with fail
        refine (HBE.out wr HIC.out).mono ?_
        rintro e w2 ⟨H2, rfl, hi2, hH2, hlt2, hb2⟩
        rw [cf_length]
        have HI2 := Lib.hid hi2
        have HCL : Hid (Calls Try.prog 31 #[.slice (some ⟨H2, 0, none⟩) (c + 1) (c + 1)] w2 (CopyIs (cf l (c + 1)) w2)) := by
          have := cClone ⟨H2, 0, none⟩ (c + 1) (cf l (c + 1)) w2 (by rw [cf_length]; omega) hi2
          rw [cf_length] at this
          exact this
        have HJ2 := Lib.hid (HJ.out _ _ _ HJ1.out hb2)
        have HK2 := Lib.hid (HK1.out.trans (keeps_of_below hb2 bs))
        have hsz : W.heap.size ≤ wr.heap.size := HK1.out.size
        clear hi2 hb2 k1 HBE HIC HFR HJ1 HK1
        go_wp2_with fail
        refine HCL.out.mono ?_
        rintro e w3 ⟨H3, cap3, rfl, hi3, ⟨cur, hcur⟩, hcap3, hH3, hlt3, hb3⟩
        rw [cf_length] at hcap3 ⊢
        have HR := Lib.hid (HY.out c H3 cap3 cur w3 hlt hcap3 (HJ.out _ _ _ HJ2.out hb3) hi3 hcur (by omega))
        have HI3 := Lib.hid (HI2.out.below hb3)
        have HK3 := Lib.hid (HK2.out.trans (keeps_of_below hb3 bs))
        have HF2 : Hid (From W.heap.size (some ⟨H2, 0, none⟩)) := fun a e => by cases e; show W.heap.size ≤ H2; omega
        have hne : H2 ≠ H3 := by omega
        have HNE := Lib.hid hne
        have hH3W : W.heap.size ≤ H3 := by omega
        clear hi3 hb3 hcap3 hcur hne HCL HJ2 HK2 HI2
        cases hgo : go (c + 1) with
        | true =>
          rw [hgo] at HR
          have HG2 : Hid (∀ j, j < c + 1 + 1 → go j = true) := fun j hj => by
            by_cases h : j < c + 1
            · exact HG1.out j h
            · obtain rfl : j = c + 1 := by omega
              exact hgo
          clear hgo
          go_wp2_with fail
          refine HR.out.mono ?_
          rintro e W4 ⟨rfl, hJ4, hk4⟩
          have HJ4 := Lib.hid hJ4
          have HK4 : Hid (Keeps bs W W4) := HK3.out.trans_new hk4 (fun x hx => by
            rcases List.mem_cons.1 hx with h | h
            · exact .inr (by omega)
            · exact .inl h)
          have HI4 : Hid (IntsAt W4 (some ⟨H2, 0, none⟩) (cf l (c + 1))) := HI3.out.keeps hk4 (fun g off he hg => by
            simp only [Option.some.injEq, Addr.mk.injEq, and_true] at he
            obtain ⟨rfl, _⟩ := he
            rcases List.mem_cons.1 hg with h | h
            · exact HNE.out h
            · have h1 := HBS.out _ h
              have h2 := HF2.out _ rfl
              simp only at h2
              omega)
          clear hJ4 hk4 HI3 HK3
          go_wp2
          go_roundg (gk - 1)
          case rel => exact ⟨c + 1, c + 1, _, by omega, by have := HGK.out; omega, by go_num, rfl, HI4, HF2, HJ4, HK4, HG2⟩
          case measure => have := HGK.out; omega
        | false =>
          rw [hgo] at HR
          have HGO := Lib.hid hgo
          clear hgo
          go_wp2_with fail
          refine HR.out.mono ?_
          rintro e W4 ⟨rfl, hJ4, hk4⟩
          have HF : Hid (∃ c, c ≤ l.length ∧ J (c + 1) W4 ∧ (∀ j, j < c → go j = true) ∧ (c = l.length ∨ go c = false)) := ⟨c + 1, by omega, hJ4, HG1.out, .inr HGO.out⟩
          clear hJ4 hk4
          go_wp2
          refine bodyPost_ret (results_none rfl _ _ _) rfl ?_
          exact ⟨⟨_, rfl⟩, HF.out⟩
      · obtain rfl : c = l.length := by omega
        have HF : Hid (∃ c, c ≤ l.length ∧ J (c + 1) wr ∧ (∀ j, j < c → go j = true) ∧ (c = l.length ∨ go c = false)) := ⟨l.length, Nat.le_refl _, HJ1.out, fun j hj => HG1.out j (by omega), .inl rfl⟩
        go_wp2
        go_end0
        exact ⟨⟨_, rfl⟩, HF.out⟩
end Go.Proofs.Ytengpeaagfilmaa
