import Derived.Test.YtpbbhebongggpaaPackF2
namespace Go.Proofs.Ytpbbhebongggpaa
open Go.RowKit Go.Proofs Go.Proofs.PipeM Go.Proofs.PipeA Go.Proofs.PackM
set_option maxRecDepth 100000

theorem own_lower {w : World} {base base' n size : Nat} {e : TypeId} {xs : List Value} {v : Value} (h : w.ownsRow base e size v n xs) (hb : base' ≤ base) : w.ownsRow base' e size v n xs := by
  refine ⟨h.1, ?_⟩
  rcases h.2 with h2 | ⟨g, cap, cur, hv, hg, r⟩
  · exact Or.inl h2
  · exact Or.inr ⟨g, cap, cur, hv, Nat.le_trans hb hg, r⟩

theorem hasB_range {z : Nat} {n : Int} (hz : z = 1 ∨ z = 2 ∨ z = 3) (h : hasB ((8 * z : Nat) : Int) n = true) : -(2 ^ (8 * z - 1)) ≤ n ∧ n < 2 ^ (8 * z - 1) := by
  have h : _ := of_decide_eq_true h
  rcases hz with rfl | rfl | rfl <;> simp at h ⊢ <;> omega

theorem sampBytes_length (z : Nat) (g : Bool) (n : Int) : (sampBytes z g n).length = z := by simp [sampBytes]

def OneIs (z : Nat) (g : Bool) (n : Int) (w : World) (e : Ending) (w' : World) : Prop :=
  ∃ g5 cap5, e = .returned (.slice (some ⟨g5, 0, none⟩) z cap5) ∧ w'.ownsRow w.heap.size 5 1 (.slice (some ⟨g5, 0, none⟩) z cap5) z (cellsOf (sampBytes z g n)) ∧ Below w.heap.size w w'

theorem cells_one (zs : List Nat) : ∀ u ∈ cellsOf zs, u.oneCell' = true := by
  intro u hu
  simp only [cellsOf, List.mem_map] at hu
  obtain ⟨z, _, rfl⟩ := hu
  rfl
theorem cells_at {w : World} {a : Addr} {zs : List Nat} (h : BytesAt w (some a) zs) : ∀ j u, (cellsOf zs)[j]? = some u → w.cell? (a.add j) = some u := by
  intro j u hj
  have hlt : j < zs.length := by
    rcases Nat.lt_or_ge j zs.length with h1 | h1
    · exact h1
    · rw [List.getElem?_eq_none (by rw [cellsOf_length]; exact h1)] at hj; cases hj
  obtain ⟨b, off, he, _, hc⟩ := h j hlt
  simp only [Option.some.injEq] at he
  subst he
  rw [cellsOf_get zs j hlt] at hj
  simp only [Option.some.injEq] at hj
  subst hj
  rw [Addr.add_lit]
  exact hc

theorem take_rev (zs : List Nat) (j : Nat) (h : j < zs.length) : zs.reverse.take (j + 1) = zs.reverse.take j ++ [zs.getD (zs.length - 1 - j) 0] := by
  rw [List.take_succ_eq_append_getElem (by simpa using h), List.getElem_reverse]
  simp [List.getD, show zs.length - 1 - j < zs.length by omega]

set_option maxHeartbeats 1600000 in
theorem rOne (z : Nat) (g : Bool) (n : Int) (w : World) (hz : z = 1 ∨ z = 2 ∨ z = 3) (hn : hasB ((8 * z : Nat) : Int) n = true) :
    Calls Try.prog 31 #[.agg #[.int .i64 ((8 * z : Nat) : Int), .bool g], .int .i64 n] w (OneIs z g n w) := by
  obtain ⟨i0, hi, hz0, hz1, hz2⟩ := info_parts info_u8
  have hrg := hasB_range hz hn
  have hz3 : 1 ≤ z ∧ z ≤ 3 := by omega
  have HS := fun W => Lib.hid (refSigned n (8 * z) W (by omega) (by omega) hrg.1 hrg.2)
  have HBY := fun W => Lib.hid (refBytes (low (n % 2 ^ (8 * z)).toNat (8 * z)) W (by rw [low_length]; omega))
  have HUN : Hid (∀ zs, Packs zs (low (n % 2 ^ (8 * z)).toNat (8 * z)) → zs = sampBytes z true n) := fun zs h => h.unique (samp_packs z n hz)
  have HTN := Lib.hid (samp_turned z n hz)
  have HLE := Lib.hid (sampBytes_length z true n)
  have HB := fun o => Lib.hid (box_below w o)
  have hbyte : Hid (∀ b ∈ sampBytes z true n, b < 256) := (samp_packs z n hz).1
  generalize low (n % 2 ^ (8 * z)).toNat (8 * z) = bl at HS HBY HUN
  obtain ⟨zb, hzb⟩ : ∃ zb, zb = 8 * z := ⟨_, rfl⟩
  rw [← hzb] at HS ⊢
  clear hzb hrg hn hz
  cases g
  · go_enter Try.func31, Try.ntmps31
    go_wp2_with fail
    refine (HS _).out.mono ?_
    rintro e w1 ⟨rfl, hb1⟩
    have HB1 := Lib.hid ((HB _).out.trans (hb1.mono (HB _).out.size))
    have c1 : w1.cell? ⟨w.heap.size, 1, none⟩ = some (.bool false) := (hb1.cell (p := ⟨w.heap.size, 1, none⟩) (by simp)).trans (by simp)
    have hsz1 : w.heap.size + 1 ≤ w1.heap.size := by have := hb1.size; simpa using this
    clear hb1
    generalize str bl = st at HBY ⊢
    go_wp2_with fail
    refine (HBY _).out.mono ?_
    rintro e w2 ⟨v, zs, rfl, hpk, hown, hb2⟩
    obtain rfl := HUN.out zs hpk
    rw [HLE.out] at hown
    obtain ⟨g5, cap5, rfl, hg5, hg5'⟩ := hown.form (by omega)
    have HB2 := Lib.hid (HB1.out.trans (hb2.mono HB1.out.size))
    have c1 := (hb2.cell (p := ⟨w.heap.size, 1, none⟩) (by show w.heap.size < _; omega)).trans c1
    have HBA : Hid (BytesAt w2 (some ⟨g5, 0, none⟩) (sampBytes z true n)) := bytes_own (cap := cap5) (base := w1.heap.size) (by rw [HLE.out]; exact hown)
    have hsz2 := hb2.size
    clear hb2 hown hpk
    go_wp2
    go_loopg [6, 7] z (fun gk v i wr => ∃ j : Nat, j ≤ z ∧ gk + j = z ∧ i = .int .i64 ((z : Int) - 1 - (j : Int)) ∧ wr.ownsRow w2.heap.size 5 1 v j (cellsOf ((sampBytes z true n).reverse.take j)) ∧ Hid (Below w2.heap.size w2 wr))
    case atStart => exact ⟨0, Nat.zero_le _, by omega, by simp, World.ownsRow_nil _ _ _ _, Below.refl _ _⟩
    case round =>
      obtain ⟨j, hj, hgk, rfl, hown, HW⟩ := hrel
      have HGK := Lib.hid hgk
      clear hgk
      by_cases hlt : j < z
      · obtain ⟨q, hq⟩ : ∃ q : Nat, q = z - 1 - j := ⟨_, rfl⟩
        have hqi : (z : Int) - 1 - (j : Int) = (q : Int) := by omega
        have hqi2 : (z : Int) - 1 - ((j : Int) + 1) = (q : Int) - 1 := by omega
        obtain ⟨b', off', e', hb', hc'⟩ := (HBA.out.below HW.out) q (by have := HLE.out; omega)
        cases e'
        rw [Nat.zero_add] at hc'
        have HTK : Hid ((sampBytes z true n).reverse.take (j + 1) = (sampBytes z true n).reverse.take j ++ [(sampBytes z true n).getD q 0]) := by
          show _ = _
          rw [take_rev _ _ (by have := HLE.out; omega), HLE.out, ← hq]
        have hqz : q < z := by omega
        generalize (sampBytes z true n).getD q 0 = zz at hc' HTK
        generalize (sampBytes z true n).reverse.take j = done at hown HTK
        have HQ2 := Lib.hid hqi2
        have HQ1 := Lib.hid hqi
        rw [hqi]
        clear hqi hqi2 hb'
        clear hq
        go_wp2_with (at_builtin; refine wpList_append_own _ rfl _ _ 30 rfl w2.heap.size 5 i0 (.int .u8 0) 1 1 und_bytes hi hz0 hz1 hz2 rfl (by decide) _ _ _ rfl (hown.alloc _) ⟨wr.heap.size, 0, none⟩ 1 1 [.int .u8 (zz : Int)] rfl rfl ?c1 ?c2 ?c3 ?c4 ?c5 ?_)
        case c1 =>
          intro j u hj
          match j, hj with
          | 0, hj => simp at hj; subst hj; simp [Addr.add]
        case c2 => intro u hu; simp at hu; subst hu; rfl
        case c3 => unfold maxLen; omega
        case c4 => omega
        case c5 => have := HW.out.size; simp; omega
        intro v' w3 hown' hgrow _
        have HB3 : Hid (Below w2.heap.size w2 w3) := (HW.out.alloc HW.out.size _).grown hgrow (by have := HW.out.size; simp; omega) (by
          intro g hg
          rcases hown.2 with ⟨rfl, _⟩ | ⟨g', cap, cur, rfl, h1, _⟩
          · cases hg
          · simp [Value.ownBlock] at hg; omega)
        rw [← cellsOf_snoc, ← HTK.out] at hown'
        clear hgrow hown
        go_wp2
        go_roundg (gk - 1)
        case rel => exact ⟨j + 1, by omega, by have := HGK.out; omega, by have := HQ2.out; simp; omega, hown', HB3⟩
        case measure => have := HGK.out; omega
      · obtain rfl : j = z := by omega
        have hrev : (sampBytes j true n).reverse.take j = sampBytes j false n := by rw [← HTN.out]; exact List.take_of_length_le (by rw [List.length_reverse]; have := HLE.out; omega)
        rw [hrev] at hown
        clear hrev
        obtain ⟨g6, cap6, rfl, hg6, hg6'⟩ := hown.form (by omega)
        have HO := Lib.hid hown
        clear hown
        have t1 : decide (0 ≤ (j : Int) - 1 - (j : Int)) = false := decide_eq_false (by omega)
        go_wp2
        go_ret
        exact ⟨g6, cap6, rfl, own_lower HO.out (by omega), HB2.out.trans (HW.out.mono HB2.out.size)⟩
  · go_enter Try.func31, Try.ntmps31
    go_wp2_with fail
    refine (HS _).out.mono ?_
    rintro e w1 ⟨rfl, hb1⟩
    have HB1 := Lib.hid ((HB _).out.trans (hb1.mono (HB _).out.size))
    have c1 : w1.cell? ⟨w.heap.size, 1, none⟩ = some (.bool true) := (hb1.cell (p := ⟨w.heap.size, 1, none⟩) (by simp)).trans (by simp)
    have hsz1 : w.heap.size + 1 ≤ w1.heap.size := by have := hb1.size; simpa using this
    clear hb1
    generalize str bl = st at HBY ⊢
    go_wp2_with fail
    refine (HBY _).out.mono ?_
    rintro e w2 ⟨v, zs, rfl, hpk, hown, hb2⟩
    obtain rfl := HUN.out zs hpk
    rw [HLE.out] at hown
    obtain ⟨g5, cap5, rfl, hg5, hg5'⟩ := hown.form (by omega)
    have HB2 := Lib.hid (HB1.out.trans (hb2.mono HB1.out.size))
    have c1 := (hb2.cell (p := ⟨w.heap.size, 1, none⟩) (by show w.heap.size < _; omega)).trans c1
    have HO := Lib.hid hown
    clear hb2 hown hpk
    go_wp2
    go_ret
    exact ⟨g5, cap5, rfl, own_lower HO.out (by omega), HB2.out⟩
end Go.Proofs.Ytpbbhebongggpaa
