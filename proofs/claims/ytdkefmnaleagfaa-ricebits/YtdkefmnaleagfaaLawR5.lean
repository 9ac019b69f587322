import Derived.Test.YtdkefmnaleagfaaLawR4
namespace Go.Proofs.Ytdkefmnaleagfaa
open Go.RowKit Go.Proofs Go.Proofs.PipeM Go.Proofs.PipeA

theorem cut_pre {zs : List Nat} {l t : List Bool} (h : bitsOf zs = l ++ t) : (str (bitsOf zs)).extract 0 l.length = str l := by
  rw [str_extract, h]; simp

/-- What holds while numbers are taken and put again. -/
def BitsRel (w : World) (R B : Nat) (ao : Option Addr) (zs : List Nat) (s : RS) (v : Value) (l : List Bool) (zw : List Nat) (wr : World) : Prop :=
  RdA wr R ao s ∧ s.err = 0 ∧ WrIs wr B v l zw ∧ bitsOf zs = l ++ s.bits ∧ Below w.heap.size w wr ∧ w.heap.size ≤ R ∧ R < B ∧ (∀ g off, ao = some ⟨g, off, none⟩ → g < w.heap.size)

theorem bits_step {w wr w3 : World} {R B : Nat} {ao : Option Addr} {zs : List Nat} {s : RS} {v : Value} {l : List Bool} {zw : List Nat} {p : Nat} (h : BitsRel w R B ao zs s v l zw wr) (hp : p ≤ 24) (hr : Reads wr R ao (s.rice p).1 w3) :
    WrIs w3 B v l zw ∧ Below w.heap.size w w3 ∧ (∃ t, bitsOf zs = l ++ t) ∧
    ((s.rice p).1.err = 0 → codeOk (s.rice p).2 (p : Int) = true ∧ bitsOf zs = (l ++ codeOf (s.rice p).2 (p : Int)) ++ (s.rice p).1.bits ∧ s.bits.length = (codeOf (s.rice p).2 (p : Int)).length + (s.rice p).1.bits.length) := by
  obtain ⟨h1, h2, h3, h4, h5, h6, h7, h8⟩ := h
  have hv := own_block_lt h3.own
  refine ⟨h3.keeps hr.2 (by simp; omega) (fun g hg => by have := (hv g hg).1; simp; omega), h5.trans (hr.2.below h5.size (by intro y hy; simp at hy; omega)), ⟨s.bits, h4⟩, fun he => ?_⟩
  obtain ⟨z, hz, hn, hb⟩ := rice_taken s p hp h2 he
  have hin : InR (s.rice p).2 := by rw [hn]; exact unfold_inR hz
  have hok : codeOk (s.rice p).2 (p : Int) = true := by unfold codeOk; exact decide_eq_true ⟨hin.1, hin.2, by omega, by omega⟩
  have hco : codeOf (s.rice p).2 (p : Int) = codeZ z p := by unfold codeOf; rw [if_pos hok, Int.toNat_natCast, codeBits, hn, fold_unfold]
  refine ⟨hok, ?_, ?_⟩
  · rw [hco, h4, hb, List.append_assoc]
  · rw [hco, hb, List.length_append]

set_option maxRecDepth 100000 in
set_option maxHeartbeats 3200000 in
theorem rbits_small (ao : Option Addr) (cap : Nat) (zs : List Nat) (kk : Nat) (w : World) (hkk : kk ≤ 255) (hl : zs.length ≤ 100) (hz : ∀ z ∈ zs, z < 256) (hd : BytesAt w ao zs) :
    Calls Try.prog 6 #[.slice ao zs.length cap, .int .u8 kk] w fun e w' => e = .returned (.bool true) ∧ Below w.heap.size w w' := by
  obtain ⟨ao2, ha2, hao⟩ : ∃ ao2 : Option Addr, (0 < zs.length → ao = ao2) ∧ ∀ g off, ao2 = some ⟨g, off, none⟩ → g < w.heap.size := by
    by_cases h0 : 0 < zs.length
    · refine ⟨ao, fun _ => rfl, fun g off hg => ?_⟩
      obtain ⟨g', off', h1, h2, _⟩ := hd 0 h0
      rw [hg] at h1
      simp at h1
      omega
    · exact ⟨none, fun h => absurd h h0, fun g off hg => by cases hg⟩
  obtain ⟨p, hp0⟩ : ∃ p : Nat, p = kk % 25 := ⟨_, rfl⟩
  have hp : p ≤ 24 := by omega
  have hki : ((kk : Int) % 25) = (p : Int) := by omega
  have HD := Lib.hid hd
  have HZ := Lib.hid hz
  have HA2 := Lib.hid ha2
  have HAO := Lib.hid hao
  clear hd hz hao ha2 hp0
  go_enter Try.func6, Try.ntmps6
  go_wp2_with fail
  refine (awake2 w).mono ?_
  rintro e w1 ⟨rfl, hb1⟩
  have HB1 := Lib.hid hb1
  clear hb1
  have t1 : decide ((100 : Int) < (zs.length : Int)) = false := decide_eq_false (by omega)
  go_wp2_with fail
  refine (aOpen ao ao2 cap zs w1 HA2.out (HD.out.below HB1.out) HZ.out (by omega)).mono ?_
  rintro e w2 ⟨rfl, hr2, hb2⟩
  have HB2 : Hid (Below w.heap.size w w2) := HB1.out.trans (hb2.mono HB1.out.size)
  have HREL : Hid (BitsRel w w1.heap.size w2.heap.size ao2 zs ⟨bitsOf zs, 0⟩ (.slice none 0 0) [] [] (w2.alloc (.cells #[.slice none 0 0, .int .i64 0] 29))) := by
    have hk : Keeps [] w2 (w2.alloc (.cells #[.slice none 0 0, .int .i64 0] 29)) := keeps_of_below ((Below.refl _ _).alloc (Nat.le_refl _) _) _
    exact ⟨hr2.keeps hk (by simp) (by simp), rfl, wr_fresh w2, rfl, HB2.out.alloc HB2.out.size _, HB1.out.size, hr2.lt, HAO.out⟩
  clear hr2 hb2
  go_wp2
  generalize w2.alloc (.cells #[.slice none 0 0, .int .i64 0] 29) = W3 at HREL ⊢
  generalize w2.heap.size = B at HREL ⊢
  generalize w1.heap.size = R at HREL ⊢
  go_loopg [8, 9, 25] 40 (fun gk lf nn i wr => ∃ (j : Nat) (s : RS) (v : Value) (l : List Bool) (zw : List Nat), j ≤ 40 ∧ gk + j = 40 ∧ i = .int .i64 j ∧ Hid (BitsRel w R B ao2 zs s v l zw wr))
  case atStart => exact ⟨0, _, _, _, _, Nat.zero_le _, by omega, rfl, HREL⟩
  case round =>
    obtain ⟨j, s, v, l, zw, hj, hgk, rfl, HT⟩ := hrel
    have HGK := Lib.hid hgk
    clear hgk HREL
    by_cases hlt : j < 40
    · go_wp2_with fail
      refine (aLeft R ao2 s wr HT.out.1).mono ?_
      rintro e w4 ⟨rfl, hm⟩
      have HT4 : Hid (BitsRel w R B ao2 zs s v l zw w4) := by
        obtain ⟨m, rfl⟩ := hm
        obtain ⟨h1, h2, h3, h4, h5, h6, h7, h8⟩ := HT.out
        have hk := keeps_drewN wr m []
        exact ⟨h1.drewN m, h2, h3.keeps hk (by simp) (by simp), h4, h5.trans (hk.below h5.size (by simp)), h6, h7, h8⟩
      clear hm
      go_wp2_with fail
      refine (cTake R ao2 s p w4 HT4.out.1).mono ?_
      rintro e w5 ⟨rfl, hr5⟩
      obtain ⟨hw5, hb5, hpre, hok5⟩ := bits_step HT4.out hp hr5
      obtain ⟨⟨s2, n⟩, hs2⟩ : ∃ t, t = s.rice p := ⟨_, rfl⟩
      rw [← hs2] at hr5 hok5 ⊢
      simp only at hr5 hok5
      have HR5 := Lib.hid hr5
      have HW5 := Lib.hid hw5
      have HB5 := Lib.hid hb5
      have HPRE := Lib.hid hpre
      have HOK5 := Lib.hid hok5
      clear hs2 hr5 hw5 hb5 hpre hok5
      by_cases he : s2.err = 0
      · obtain ⟨k1, k2, k3⟩ := HOK5.out he
        have HK2 := Lib.hid k2
        have hlen : (s.bits.length : Int) - (s2.bits.length : Int) = ((codeOf n (p : Int)).length : Int) := by omega
        have hsl : s.bits.length ≤ 800000000 := HT4.out.1.len
        have hs2l : s2.bits.length ≤ s.bits.length := by omega
        have HE := Lib.hid he
        have t3 : (s2.err != 0) = false := by simp [he]
        have hll : Hid (l.length ≤ 800) := by
          have := congrArg List.length HT4.out.2.2.2.1
          rw [bitsOf_length, List.length_append] at this
          show _ ≤ _
          omega
        generalize hsb : s.bits.length = sb at hlen hsl hs2l ⊢
        go_wp2_with fail
        refine (aFail R ao2 s2 w5 HR5.out.1).mono ?_
        rintro e w6 ⟨rfl, rfl⟩
        go_wp2_with fail
        refine (aLeft R ao2 s2 w5 HR5.out.1).mono ?_
        rintro e w6 ⟨rfl, hm⟩
        have HK6 : Hid (Keeps [] w5 w6) := by obtain ⟨m, rfl⟩ := hm; exact keeps_drewN w5 m []
        clear hm
        generalize hsb2 : s2.bits.length = sb2 at hlen hs2l ⊢
        go_wp2_with fail
        refine (cCost n p w6).mono ?_
        rintro e w7 ⟨rfl, hb7⟩
        have HK7 : Hid (Keeps [] w5 w7) := HK6.out.trans (keeps_of_below hb7 [])
        clear hb7
        generalize hcl : ((codeOf n (p : Int)).length : Int) = cl at hlen ⊢
        have t4 : (((sb : Int) - (sb2 : Int)) != cl) = false := by rw [bne_eq_false_iff_eq]; exact hlen
        clear hlen hsb hsb2 hcl k2 k3 he
        go_wp2_with fail
        have HP := Lib.hid (cPut B v l zw n p w7 (by have := hll.out; omega) (HW5.out.keeps HK7.out (by simp) (by simp)))
        rw [k1] at HP
        refine HP.out.mono ?_
        rintro e w8 ⟨rfl, hw8⟩
        obtain ⟨v8, zw8, hi8, hk8, ho8⟩ := hw8
        have HREL8 : Hid (BitsRel w R B ao2 zs s2 v8 (l ++ codeOf n (p : Int)) zw8 w8) := by
          obtain ⟨h1, h2, h3, h4, h5, h6, h7, h8⟩ := HT4.out
          have hv := own_block_lt HW5.out.own
          have hRd := HR5.out.1.keeps HK7.out (by simp) (by simp)
          refine ⟨hRd.keeps hk8 ?_ ?_, HE.out, hi8, HK2.out, ?_, h6, h7, h8⟩
          · intro hc; rw [List.mem_cons] at hc; rcases hc with hc | hc
            · omega
            · simp at hc; have := (hv R hc).1; omega
          · intro g off hg hc
            have hgl := h8 g off hg
            rw [List.mem_cons] at hc; rcases hc with hc | hc
            · omega
            · simp at hc; have := (hv g hc).1; omega
          · have b7 : Below w.heap.size w w7 := HB5.out.trans (HK7.out.below HB5.out.size (by simp))
            refine b7.trans (hk8.below b7.size ?_)
            intro y hy
            rw [List.mem_cons] at hy; rcases hy with hy | hy
            · omega
            · simp at hy; have := (hv y hy).1; omega
        clear hi8 hk8 ho8 k1
        go_wp2
        go_roundg (gk - 1)
        case rel => exact ⟨j + 1, s2, v8, _, zw8, by omega, by have := HGK.out; omega, by go_num, HREL8⟩
        case measure => have := HGK.out; omega
      · have t3 : (s2.err != 0) = true := by rw [bne_iff_ne]; exact he
        go_wp2_with fail
        refine (aFail R ao2 s2 w5 HR5.out.1).mono ?_
        rintro e w6 ⟨rfl, rfl⟩
        clear he
        have HLL : Hid (l.length ≤ 8 * zs.length) := by
          obtain ⟨t, ht⟩ := HPRE.out
          have := congrArg List.length ht
          rw [bitsOf_length, List.length_append] at this
          show _ ≤ _
          omega
        go_wp2

        have HEX := Lib.hid (cut_packs HW5.out.packs)
        have HEY : Hid ((str (bitsOf zs)).extract 0 l.length = str l) := by obtain ⟨t, ht⟩ := HPRE.out; exact cut_pre ht
        have hwl : zw.length ≤ 100000 := by have := HW5.out.packs.length; have := HLL.out; omega
        have q1 : (str (bitsOf zw)).size = 8 * zw.length := by rw [str_size, bitsOf_length]
        have q2 : (str (bitsOf zs)).size = 8 * zs.length := by rw [str_size, bitsOf_length]
        have hx1 : l.length ≤ (str (bitsOf zw)).size := by have := HW5.out.packs.length; omega
        have hy1 : l.length ≤ (str (bitsOf zs)).size := by have := HLL.out; omega
        have hx2 : (str (bitsOf zw)).size ≤ 800000 := by omega
        have hy2 : (str (bitsOf zs)).size ≤ 800000 := by omega
        obtain ⟨sx, hsx⟩ : ∃ sx, sx = str (bitsOf zw) := ⟨_, rfl⟩
        obtain ⟨sy, hsy⟩ : ∃ sy, sy = str (bitsOf zs) := ⟨_, rfl⟩
        rw [← hsx] at hx1 hx2 HEX
        rw [← hsy] at hy1 hy2 HEY
        have HSX := Lib.hid hsx
        have HSY := Lib.hid hsy
        clear q1 q2 hsx hsy
        go_region_with (first
          | (go_at_call_of 19 B; refine (wBytes B v l zw _ (by omega) (HW5.out.keeps (keeps_drew w5) (by simp) (by simp))).mono ?_; rintro e w6 ⟨g2, rfl, hown2, hb2⟩; have kk2 : Keeps [] w5 w6 := (keeps_drew w5).trans (keeps_of_below hb2 []))
          | (go_at_call_of 27 g2; refine (refBits _ _ zw _ (by omega) HW5.out.packs.1 (bytes_own hown2)).mono ?_; rintro e w7 ⟨rfl, hb3⟩; rw [← HSX.out]; have kk3 : Keeps [] w5 w7 := kk2.trans (keeps_of_below hb3 []))
          | (go_at_call_of 16 B; refine (wLen B _ _ (HW5.out.keeps kk3 (by simp) (by simp)).c1).mono ?_; rintro e w7' ⟨rfl, rfl⟩)
          | (go_at_call 27; refine (refBits _ _ zs _ (by omega) HZ.out (HD.out.below (HB5.out.trans (kk3.below HB5.out.size (by simp))))).mono ?_; rintro e w8 ⟨rfl, hb4⟩; rw [← HSY.out]; have kk4 : Keeps [] w5 w8 := kk3.trans (keeps_of_below hb4 []))
          | (go_at_call_of 16 B; refine (wLen B _ _ (HW5.out.keeps kk4 (by simp) (by simp)).c1).mono ?_; rintro e w8' ⟨rfl, rfl⟩))
        all_goals
          rw [HEX.out, HEY.out, beq_self_eq_true]
          go_wp2
          go_ret
          exact ⟨rfl, HB5.out.trans (kk4.below HB5.out.size (by simp))⟩
    · obtain rfl : j = 40 := by omega
      obtain ⟨w5, hw5⟩ : ∃ w5, w5 = wr := ⟨_, rfl⟩
      rw [← hw5] at HT ⊢
      clear hw5
      have HW5 := Lib.hid HT.out.2.2.1
      have HB5 := Lib.hid HT.out.2.2.2.2.1
      have HPRE : Hid (∃ t, bitsOf zs = l ++ t) := ⟨_, HT.out.2.2.2.1⟩
      have HLL : Hid (l.length ≤ 8 * zs.length) := by
        obtain ⟨t, ht⟩ := HPRE.out
        have := congrArg List.length ht
        rw [bitsOf_length, List.length_append] at this
        show _ ≤ _
        omega
      go_wp2

      have HEX := Lib.hid (cut_packs HW5.out.packs)
      have HEY : Hid ((str (bitsOf zs)).extract 0 l.length = str l) := by obtain ⟨t, ht⟩ := HPRE.out; exact cut_pre ht
      have hwl : zw.length ≤ 100000 := by have := HW5.out.packs.length; have := HLL.out; omega
      have q1 : (str (bitsOf zw)).size = 8 * zw.length := by rw [str_size, bitsOf_length]
      have q2 : (str (bitsOf zs)).size = 8 * zs.length := by rw [str_size, bitsOf_length]
      have hx1 : l.length ≤ (str (bitsOf zw)).size := by have := HW5.out.packs.length; omega
      have hy1 : l.length ≤ (str (bitsOf zs)).size := by have := HLL.out; omega
      have hx2 : (str (bitsOf zw)).size ≤ 800000 := by omega
      have hy2 : (str (bitsOf zs)).size ≤ 800000 := by omega
      obtain ⟨sx, hsx⟩ : ∃ sx, sx = str (bitsOf zw) := ⟨_, rfl⟩
      obtain ⟨sy, hsy⟩ : ∃ sy, sy = str (bitsOf zs) := ⟨_, rfl⟩
      rw [← hsx] at hx1 hx2 HEX
      rw [← hsy] at hy1 hy2 HEY
      have HSX := Lib.hid hsx
      have HSY := Lib.hid hsy
      clear q1 q2 hsx hsy
      go_region_with (first
        | (go_at_call_of 19 B; refine (wBytes B v l zw _ (by omega) (HW5.out.keeps (keeps_drew w5) (by simp) (by simp))).mono ?_; rintro e w6 ⟨g2, rfl, hown2, hb2⟩; have kk2 : Keeps [] w5 w6 := (keeps_drew w5).trans (keeps_of_below hb2 []))
        | (go_at_call_of 27 g2; refine (refBits _ _ zw _ (by omega) HW5.out.packs.1 (bytes_own hown2)).mono ?_; rintro e w7 ⟨rfl, hb3⟩; rw [← HSX.out]; have kk3 : Keeps [] w5 w7 := kk2.trans (keeps_of_below hb3 []))
        | (go_at_call_of 16 B; refine (wLen B _ _ (HW5.out.keeps kk3 (by simp) (by simp)).c1).mono ?_; rintro e w7' ⟨rfl, rfl⟩)
        | (go_at_call 27; refine (refBits _ _ zs _ (by omega) HZ.out (HD.out.below (HB5.out.trans (kk3.below HB5.out.size (by simp))))).mono ?_; rintro e w8 ⟨rfl, hb4⟩; rw [← HSY.out]; have kk4 : Keeps [] w5 w8 := kk3.trans (keeps_of_below hb4 []))
        | (go_at_call_of 16 B; refine (wLen B _ _ (HW5.out.keeps kk4 (by simp) (by simp)).c1).mono ?_; rintro e w8' ⟨rfl, rfl⟩))
      all_goals
        rw [HEX.out, HEY.out, beq_self_eq_true]
        go_wp2
        go_ret
        exact ⟨rfl, HB5.out.trans (kk4.below HB5.out.size (by simp))⟩
end Go.Proofs.Ytdkefmnaleagfaa
