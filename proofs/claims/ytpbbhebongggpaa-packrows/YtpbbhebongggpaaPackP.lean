import Derived.Test.YtpbbhebongggpaaPackR
namespace Go.Proofs.Ytpbbhebongggpaa
open Go.RowKit Go.Shelf Go.Proofs Go.Proofs.PipeM Go.Proofs.PipeA Go.Proofs.PackM
set_option maxRecDepth 100000

attribute [local go_sem] Oper.semAt_some

set_option maxHeartbeats 800000 in
theorem cPack_no (ao : Option Addr) (cap : Nat) (rows : List (List Int)) (B : Int) (g : Bool) (w : World) (hs : Small rows) (hi : RowsAt w ao rows) (hc : code B rows ≠ 0) :
    Calls Try.prog 12 #[.agg #[.int .i64 B, .bool g], .slice ao rows.length cap] w fun e w' => e = .returned (.tuple #[.slice none 0 0, .int .i64 (code B rows)]) ∧ Below w.heap.size w w' := by
  have HB := fun o1 o2 => Lib.hid (below2 w o1 o2)
  have HC := fun o1 o2 => Lib.hid (cCheck ao cap rows B g ((w.alloc o1).alloc o2) hs (hi.below (below2 w o1 o2)))
  have t : (code B rows != 0) = true := by rw [bne_iff_ne]; exact hc
  clear hi hc
  generalize code B rows = cd at HC t ⊢
  go_enter Try.func12, Try.ntmps12
  go_wp2_with fail
  refine (HC _ _).out.mono ?_
  rintro e w1 ⟨rfl, hb⟩
  have HB1 := Lib.hid ((HB _ _).out.trans (hb.mono (HB _ _).out.size))
  clear hb
  go_wp2
  refine bodyPost_ret (v := .tuple #[.slice none 0 0, .int .i64 cd]) (by simp [results, Try.results12, go_sem]) rfl ?_
  exact ⟨rfl, HB1.out⟩

theorem cellA {W : World} {a : Addr} {v : Value} (o : Obj) (h : W.cell? a = some v) : (W.alloc o).cell? a = some v := cell_kept h (World.grownBy_alloc W o none) (fun r e => by cases e)

/-- How many samples a channel has. -/
def len0 (rows : List (List Int)) : Nat := (rows.headD []).length
def PackIs (z : Nat) (g : Bool) (rows : List (List Int)) (m : Nat) (w : World) (e : Ending) (w' : World) : Prop :=
  ∃ H, e = .returned (.tuple #[.slice (some ⟨H, 0, none⟩) m m, .int .i64 0]) ∧ BytesAt w' (some ⟨H, 0, none⟩) (packF z g rows m) ∧ w.heap.size ≤ H ∧ H < w'.heap.size ∧ Below w.heap.size w w'

/-- What is there when these bytes have come. -/
def bAt (z : Nat) (g : Bool) (rows : List (List Int)) {m : Nat} (pre : List (Fin m)) (j : Nat) : Value := .int .u8 (if j ∈ pre.map (·.val) then ((pAt z g rows j : Nat) : Int) else 0)
theorem bAt_new (z : Nat) (g : Bool) (rows : List (List Int)) {m : Nat} (pre : List (Fin m)) (x : Fin m) : bAt z g rows (pre ++ [x]) x.val = .int .u8 ((pAt z g rows x.val : Nat) : Int) := by
  unfold bAt; rw [if_pos (by simp)]
theorem bAt_old (z : Nat) (g : Bool) (rows : List (List Int)) {m : Nat} (pre : List (Fin m)) (x : Fin m) (j : Nat) (h : j ≠ x.val) : bAt z g rows (pre ++ [x]) j = bAt z g rows pre j := by
  unfold bAt
  have : (j ∈ (pre ++ [x]).map (·.val)) ↔ j ∈ pre.map (·.val) := by simp [h]
  by_cases hj : j ∈ pre.map (·.val)
  · rw [if_pos hj, if_pos (this.2 hj)]
  · rw [if_neg hj, if_neg (fun h => hj (this.1 h))]
theorem bAt_all (z : Nat) (g : Bool) (rows : List (List Int)) {m : Nat} {xs : List (Fin m)} (h : xs.map (·.val) = List.range m) (j : Nat) (hj : j < m) : bAt z g rows xs j = .int .u8 ((pAt z g rows j : Nat) : Int) := by
  unfold bAt; rw [h, if_pos (by simpa using hj)]

def packA (B0 B1 BO H zb z ch s m b off : Nat) (g : Bool) (cap : Nat) (r0 : Option Addr) (rc0 sb cb fb r : Nat) (x Bx : Nat) : Array Value :=
  #[.agg #[.int .i64 (zb : Int), .bool g], .slice (some ⟨b, off, none⟩) ch cap, .pointer (some ⟨B0, 0, none⟩), .pointer (some ⟨B1, 0, none⟩), .slice none 0 0, .int .i64 0, .int .i64 0, .int .i64 (s : Int), .pointer (some ⟨BO, 0, none⟩), .int .i64 (x : Int), .pointer (some ⟨Bx, 0, none⟩),
    .agg #[.int .i64 (zb : Int), .bool g], .slice (some ⟨b, off, none⟩) ch cap, .int .i64 0, .int .i64 0, .bool false, undef, .slice (some ⟨b, off, none⟩) ch cap, .pointer (some ⟨b, off, none⟩), .slice r0 s rc0, .int .i64 (s : Int), .int .i64 (s : Int), .agg #[.int .i64 (zb : Int), .bool g], .slice (some ⟨b, off, none⟩) ch cap, .int .i64 (ch : Int), .int .i64 (r : Int), .int .i64 (m : Int), .slice (some ⟨H, 0, none⟩) m m,
    .agg #[.int .i64 (zb : Int), .bool g], .slice (some ⟨b, off, none⟩) ch cap, .int .i64 (ch : Int), .int .i64 (s : Int), .func (.func 34) #[] #[.pointer (some ⟨sb, 0, none⟩), .pointer (some ⟨cb, 0, none⟩), .pointer (some ⟨fb, 0, none⟩)], .int .i64 (x : Int), plV z ch g x,
    undef, undef, undef, undef, undef, undef, undef, undef, undef, undef, undef, undef, undef, undef, undef, undef, undef]

/-- A round's own box. -/
def BoxAt (B : Nat) (z ch : Nat) (g : Bool) (x Bx : Nat) (W : World) : Prop :=
  B ≤ Bx ∧ W.cell? ⟨Bx, 0, none⟩ = some (.int .i64 ((x / z % ch : Nat) : Int)) ∧ W.cell? ⟨Bx, 1, none⟩ = some (.int .i64 ((x / z / ch : Nat) : Int)) ∧ W.cell? ⟨Bx, 2, none⟩ = some (.int .i64 ((shiftN z g (x % z) : Nat) : Int))
theorem own_box {β : Type} {B z ch : Nat} {g : Bool} {x : Nat} {C : Nat → Prop} : OwnFrom B (fun (_ : β) W => ∃ Bx, BoxAt B z ch g x Bx W ∧ C Bx) :=
  Own.from (fun _ _ _ _ hs hg hr => by
    obtain ⟨Bx, ⟨h0, h1, h2, h3⟩, h4⟩ := hs
    exact ⟨Bx, ⟨h0, cell_kept h1 hg hr, cell_kept h2 hg hr, cell_kept h3 hg hr⟩, h4⟩) B

set_option maxHeartbeats 6400000 in
theorem cPack_ok (ao : Option Addr) (cap : Nat) (rows : List (List Int)) (z : Nat) (g : Bool) (w : World) (hz : z = 1 ∨ z = 2 ∨ z = 3) (hs : Small rows) (hi : RowsAt w ao rows) (hcode : code ((8 * z : Nat) : Int) rows = 0) :
    Calls Try.prog 12 #[.agg #[.int .i64 ((8 * z : Nat) : Int), .bool g], .slice ao rows.length cap] w (PackIs z g rows (len0 rows * rows.length * z) w) := by
  obtain ⟨_, hc1, hc8, hlev, hhas⟩ := code_zero hcode
  have HC := fun o1 o2 => Lib.hid (cCheck ao cap rows ((8 * z : Nat) : Int) g ((w.alloc o1).alloc o2) hs (hi.below (below2 w o1 o2)))
  rw [hcode] at HC
  have HB := fun o1 o2 => Lib.hid (below2 w o1 o2)
  obtain ⟨b, off, r0, rc0, rfl, hbw, hcell0, _⟩ := hi 0 hc1
  rw [Nat.add_zero] at hcell0
  have hs0 : rows[0].length = len0 rows := by unfold len0; rw [head_get hc1]
  have hs1 : len0 rows ≤ 1000 := by rw [← hs0]; exact hs.2 _ (List.getElem_mem _)
  rw [hs0] at hcell0
  have HLEV : Hid (∀ r ∈ rows, r.length = len0 rows) := hlev
  have HI := Lib.hid hi
  obtain ⟨s, hse⟩ : ∃ s, s = len0 rows := ⟨_, rfl⟩
  obtain ⟨ch, hche⟩ : ∃ ch, ch = rows.length := ⟨_, rfl⟩
  rw [← hse] at hs1 hcell0 HLEV ⊢
  rw [← hche] at hc1 hc8 HC ⊢
  obtain ⟨m, hme⟩ : ∃ m, m = s * ch * z := ⟨_, rfl⟩
  obtain ⟨r, hre⟩ : ∃ r, r = ch * z := ⟨_, rfl⟩
  rw [← hme]
  have hz3 : 1 ≤ z ∧ z ≤ 3 := by omega
  have hr24 : r ≤ 24 := by rw [hre]; exact Nat.le_trans (Nat.mul_le_mul hc8 hz3.2) (by decide)
  have hmr : m = s * r := by rw [hme, hre, Nat.mul_assoc]
  have hm1 : m ≤ 24000 := by rw [hmr]; exact Nat.le_trans (Nat.mul_le_mul hs1 hr24) (by decide)
  have hmi : (s : Int) * (r : Int) = (m : Int) := by rw [hmr, Int.natCast_mul]
  have HRB := fun W => Lib.hid (cRowBytes z ch g W hz (by omega))
  rw [← hre] at HRB
  have HPL := fun W => Lib.hid (cPlaces z ch s g W)
  obtain ⟨zb, hzb⟩ : ∃ zb, zb = 8 * z := ⟨_, rfl⟩
  rw [← hzb] at HC HRB HPL ⊢
  have HST := fun sb cb fb W => Lib.hid (places1_stops (n := 4) z ch s m sb cb fb g W (by omega) hz (by omega) (by omega) hme (by omega))
  obtain ⟨cs, hcs, hmk⟩ := makeBytes m (by omega)
  have HCS := Lib.hid hcs
  have HME := Lib.hid hme
  have HCH := Lib.hid hche
  have HZ := Lib.hid hz
  clear hcs hme hre hmr hche hse hlev hi hs hz hs0 hhas hcode hzb
  refine (callsIn_wide (n := 5)).1 ?_
  refine callsIn_of_wp_marks Try.func12 rfl trivial ?_ rfl
  simp only [Try.ntmps12, List.size_toArray, List.length_cons, List.length_nil, Nat.reduceAdd, Nat.reduceSub, Array.replicate_succ, Array.replicate_zero, List.push_toArray, List.append_toArray, List.nil_append, List.cons_append]
  gi_wp2_with fail
  refine ⟨trivial, (callsIn_wide.2 (HC _ _).out).mono ?_⟩
  rintro e w1 ⟨rfl, hb⟩
  have HB1 := Lib.hid ((HB _ _).out.trans (hb.mono (HB _ _).out.size))
  have c0 : w1.cell? ⟨w.heap.size, 0, none⟩ = some (.int .i64 (zb : Int)) := (hb.cell (p := ⟨w.heap.size, 0, none⟩) (by simp; omega)).trans (by simp)
  have c1 : w1.cell? ⟨w.heap.size, 1, none⟩ = some (.bool g) := (hb.cell (p := ⟨w.heap.size, 1, none⟩) (by simp; omega)).trans (by simp)
  have c2 : w1.cell? ⟨w.heap.size + 1, 0, none⟩ = some (.slice (some ⟨b, off, none⟩) ch cap) := (hb.cell (p := ⟨w.heap.size + 1, 0, none⟩) (by simp)).trans (by simp)
  have k0 := (HB1.out.cell (p := ⟨b, off, none⟩) hbw).trans hcell0
  have hsz1 : w.heap.size + 2 ≤ w1.heap.size := by have := hb.size; simpa using this
  clear hb HC HB
  gi_wp2_with fail
  refine ⟨trivial, (callsIn_wide.2 (HRB _).out).mono ?_⟩
  rintro e w2 ⟨rfl, hb2⟩
  have c0 := (hb2.cell (p := ⟨w.heap.size, 0, none⟩) (by show w.heap.size < _; omega)).trans c0
  have c1 := (hb2.cell (p := ⟨w.heap.size, 1, none⟩) (by show w.heap.size < _; omega)).trans c1
  have c2 := (hb2.cell (p := ⟨w.heap.size + 1, 0, none⟩) (by show w.heap.size + 1 < _; omega)).trans c2
  have hsz2 := hb2.size
  have HB2 := Lib.hid (HB1.out.trans (hb2.mono HB1.out.size))
  clear hb2 HB1 k0
  have d0 := cellA (.cells #[.slice (some ⟨w2.heap.size, 0, none⟩) m m] 30) (cellA (.cells cs 5) c0)
  have d1 := cellA (.cells #[.slice (some ⟨w2.heap.size, 0, none⟩) m m] 30) (cellA (.cells cs 5) c1)
  have d2 := cellA (.cells #[.slice (some ⟨w2.heap.size, 0, none⟩) m m] 30) (cellA (.cells cs 5) c2)
  have hh1 : ((w2.alloc (.cells cs 5)).alloc (.cells #[.slice (some ⟨w2.heap.size, 0, none⟩) m m] 30)).heap[w2.heap.size]? = some (.cells cs 5) := (Below.heap_alloc _ _ _ (by simp)).trans (World.alloc_heap_new w2 _)
  have hh2 : ((w2.alloc (.cells cs 5)).alloc (.cells #[.slice (some ⟨w2.heap.size, 0, none⟩) m m] 30)).heap[w2.heap.size + 1]? = some (.cells #[.slice (some ⟨w2.heap.size, 0, none⟩) m m] 30) := by
    have := World.alloc_heap_new (w2.alloc (.cells cs 5)) (.cells #[.slice (some ⟨w2.heap.size, 0, none⟩) m m] 30)
    rwa [World.size_alloc] at this
  have HB3 := Lib.hid (HB2.out.trans ((below2 w2 (.cells cs 5) (.cells #[.slice (some ⟨w2.heap.size, 0, none⟩) m m] 30)).mono HB2.out.size))
  have hsz3 : ((w2.alloc (.cells cs 5)).alloc (.cells #[.slice (some ⟨w2.heap.size, 0, none⟩) m m] 30)).heap.size = w2.heap.size + 2 := by simp
  clear c0 c1 c2
  gi_wp2_with fail
  refine ⟨trivial, (callsIn_wide.2 (HPL _).out).mono ?_⟩
  generalize (w2.alloc (.cells cs 5)).alloc (.cells #[.slice (some ⟨w2.heap.size, 0, none⟩) m m] 30) = wa at d0 d1 d2 hh1 hh2 HB3 hsz3 ⊢
  generalize hHe : w2.heap.size = H at hh1 hh2 hsz3 hsz2 ⊢
  clear hHe
  rintro e w4 ⟨sb, cb, fb, rfl, hpa, hsb1, hcb1, hfb1, hsb2, hcb2, hfb2, hb4⟩
  gi_wp2_with fail
  have hsz4 := hb4.size
  have HB4 := Lib.hid (HB3.out.trans (hb4.mono HB3.out.size))
  have f2 := (hb4.cell (p := ⟨w.heap.size + 1, 0, none⟩) (by show w.heap.size + 1 < _; omega)).trans d2
  have hO4 : w4.heap[H + 1]? = some (.cells #[.slice (some ⟨H, 0, none⟩) m m] 30) := (hb4.block (H + 1) (by omega)).trans hh2
  have o0 : w4.cell? ⟨H + 1, 0, none⟩ = some (.slice (some ⟨H, 0, none⟩) m m) := cell_of_heap hO4 0
  have hH4 : w4.heap[H]? = some (.cells cs 5) := (hb4.block H (by omega)).trans hh1
  have HK0 : Hid (KeysAt w4 H m (bAt z g rows ([] : List (Fin m)))) := fun j hj => ⟨(cell_of_heap hH4 j).trans (by rw [HCS.out j hj]; rfl), frozen_of_heap hH4 j⟩
  have hseq := (HST sb cb fb w4).out hpa
  clear d0 d1 d2 hh1 hh2 HB3 hO4 hH4 HST HPL HRB hmk hpa hb4 HCS HB2
  refine wpIn_rangeFunc_ownH rfl (by omega) (gf := 34) (lb := #[.pointer (some ⟨sb, 0, none⟩), .pointer (some ⟨cb, 0, none⟩), .pointer (some ⟨fb, 0, none⟩)]) rfl trivial (enters_of Try.func34 (by kernel_rfl) rfl)
    hseq kpC_t (kpC_b hsb2 hcb2 hfb2) (Below.refl _ _) (fun _ => rfl)
    (fun pre W => Keeps [H] w4 W ∧ KeysAt W H m (bAt z g rows pre))
    (fun _ _ _ => False)
    (own_keeps.and (own_keys _)) (fun _ _ _ _ _ hs _ _ => hs.elim)
    ⟨Keeps.refl _ _, HK0.out⟩
    (fun x a' W => ∃ Bx, BoxAt w4.heap.size z ch g x.val Bx W ∧ a' = { tmps := packA w.heap.size (w.heap.size + 1) (H + 1) H zb z ch s m b off g cap r0 rc0 sb cb fb r x.val Bx, defers := [] })
    (fun _ _ => own_box) ?assign ?body ?done ?stop
  case assign =>
    rintro l' pre ⟨x, hx⟩ W K ⟨hI1, hI2⟩ hK
    have HI1 := Lib.hid hI1
    have HI2 := Lib.hid hI2
    have hHW : H < W.heap.size := Nat.lt_of_lt_of_le (by omega) hI1.size
    have hw4W := hI1.size
    unfold packA at hK
    unfold plV at hK
    unfold encP plV
    have HKK := Lib.hid hK
    clear hI1 hI2 hK
    gi_wp2
    have kk := keeps_of_below (box_below W (.cells #[.int .i64 ((x / z % ch : Nat) : Int), .int .i64 ((x / z / ch : Nat) : Int), .int .i64 ((shiftN z g (x % z) : Nat) : Int)] 54)) []
    refine HKK.out _ _ (keepsFrom_of kk (by simp)) (kpC_keeps kk (by omega) (by omega) (by omega) (by simp) (by simp) (by simp)) ⟨HI1.out.trans_new kk (by simp), HI2.out.keeps kk (by simp) hHW⟩ ⟨W.heap.size, ⟨hw4W, ?_, ?_, ?_⟩, rfl⟩
    · simp
    · simp
    · simp
  case body =>
    rintro l' pre ⟨x, hx⟩ a' W hl' hr' ⟨hK, hkeys⟩ ⟨Bx, ⟨hBx, x0, x1, x2⟩, rfl⟩ hpre
    have hmx : Try.prog.follows .mixedOrders = true := by kernel_rfl
    have hz0 : 0 < z := by omega
    have hc0 : 0 < ch := by omega
    have hcx : x / z % ch < ch := Nat.mod_lt _ hc0
    have hsx : x / z / ch < s := by
      have h1 : x / z < s * ch := by rw [Nat.div_lt_iff_lt_mul hz0, ← HME.out]; exact hx
      rw [Nat.div_lt_iff_lt_mul hc0]; exact h1
    have hcr : x / z % ch < rows.length := by rw [← HCH.out]; exact hcx
    have hPA : Hid (pAt z g rows x = PackM.byteOf ((rows.getD (x / z % ch) []).getD (x / z / ch) 0) (shiftN z g (x % z))) := by
      show _ = _
      unfold pAt samp
      rw [← HCH.out]
    have hsh := shift_cases (g := g) HZ.out (Nat.mod_lt x hz0)
    have hsh16 : shiftN z g (x % z) ≤ 16 := by omega
    have y2 := (hK.cell (p := ⟨w.heap.size + 1, 0, none⟩) (by show w.heap.size + 1 < _; omega) (by simp; omega)).trans f2
    have y0 := (hK.cell (p := ⟨H + 1, 0, none⟩) (by show H + 1 < _; omega) (by simp)).trans o0
    obtain ⟨b', off', ro, rc, e0, hb', hcell, hints⟩ := HI.out (x / z % ch) hcr
    cases e0
    have hrl : rows[x / z % ch].length = s := HLEV.out _ (List.getElem_mem _)
    obtain ⟨b2, off2, rfl, hb2, hcell2⟩ := hints (x / z / ch) (by rw [hrl]; exact hsx)
    have hbH : b ≠ H := by omega
    have hPB : Hid (pAt z g rows x = PackM.byteOf (rows[x / z % ch][x / z / ch]'(by rw [hrl]; exact hsx)) (shiftN z g (x % z))) := by
      show _ = _
      rw [hPA.out]
      simp [List.getD, hcr, show x / z / ch < rows[x / z % ch].length by rw [hrl]; exact hsx]
    have hb2H : b2 ≠ H := by omega
    have q1 : W.cell? ⟨b, off + x / z % ch, none⟩ = some (.slice (some ⟨b2, off2, none⟩) s rc) := by
      have := (hK.cell (p := ⟨b, off + x / z % ch, none⟩) (by show b < _; omega) (by simpa using hbH)).trans ((HB4.out.cell (p := ⟨b, off + x / z % ch, none⟩) hb').trans hcell)
      rwa [hrl] at this
    have q2 := (hK.cell (p := ⟨b2, off2 + x / z / ch, none⟩) (by show b2 < _; omega) (by simpa using hb2H)).trans ((HB4.out.cell (p := ⟨b2, off2 + x / z / ch, none⟩) hb2).trans hcell2)
    have s1 := (hkeys x hx).1
    have s2 := (hkeys x hx).2
    have HK := Lib.hid hK
    have HKEYS := Lib.hid hkeys
    dsimp only at x0 x1 x2
    generalize rows[x / z % ch][x / z / ch] = nn at q2 hPB
    generalize hbo : pAt z g rows x = pa at hPB
    have HPA := Lib.hid hbo
    generalize bAt z g rows pre x = old at s1
    generalize x / z % ch = cx at x0 q1 hcx q2
    generalize x / z / ch = kx at x1 q2 hsx
    generalize shiftN z g (x % z) = sh at x2 hsh16 hPB
    clear hbo hK hkeys hcell hcell2 hints hPA hsh hcr hrl
    unfold packA
    gi_wp2_with fail
    refine regionTail 16 hmx (by kernel_rfl) (by kernel_rfl) ?_
    simp only [List.take_succ_cons, List.take_zero, List.drop_succ_cons, List.drop_zero]
    repeat still_step
    refine wpStill_nil ?_
    go_wp2
    have hval : (nn / 2 ^ sh % 256) = ((pa : Nat) : Int) := by
      rw [hPB.out]
      unfold PackM.byteOf
      omega
    rw [hval]
    have kk : Keeps [H] W (W.setCell ⟨H, x, none⟩ (.int .u8 ((pa : Nat) : Int))).drew := (keeps_setCell W H x _).trans (keeps_drew_b _ _)
    have hszW := HK.out.size
    refine show KeepsFrom w4.heap.size W _ ∧ KpC sb cb fb W _ ∧ (Keeps [H] w4 _ ∧ KeysAt _ H m (bAt z g rows (pre ++ [⟨x, hx⟩]))) from ⟨keepsFrom_of kk (fun k hk => by simp at hk; subst hk; exact Or.inl (by omega)), kpC_keeps kk (by omega) (by omega) (by omega) (by simp; omega) (by simp; omega) (by simp; omega), HK.out.trans kk, ?_⟩
    refine KeysAt.congr (HKEYS.out.set hx (.int .u8 ((pa : Nat) : Int))) (fun j hj => ?_)
    by_cases e : j = x
    · subst e
      rw [if_pos rfl, bAt_new z g rows pre ⟨j, hx⟩, HPA.out]
    · rw [if_neg e, bAt_old z g rows pre ⟨x, hx⟩ j e]
  case done =>
    rintro D xs W hD hS ⟨hK, hkeys⟩ hDW
    have HKI : Hid (BytesAt W (some ⟨H, 0, none⟩) (packF z g rows m)) := by
      intro j hj
      rw [packF_length] at hj
      refine ⟨H, 0, rfl, Nat.lt_of_lt_of_le (by omega) hK.size, ?_⟩
      rw [Nat.zero_add, (hkeys j hj).1, bAt_all z g rows hS j hj, packF_get z g rows m j hj]
    have y0 := (hK.cell (p := ⟨H + 1, 0, none⟩) (by show H + 1 < _; omega) (by simp)).trans o0
    have HBW := Lib.hid (HB4.out.trans (hK.below HB4.out.size (by simp; omega)))
    have hszW := hK.size
    have HDW := Lib.hid hDW
    clear hK hkeys
    gi_wp2
    refine ⟨by simp, .inl ⟨_, _, rfl, run_takeDeferred HDW.out, ?_⟩⟩
    have kD : Keeps [D] W (W.putObj D (.deferred none)) := ⟨rfl, rfl, rfl, by simp [World.putObj], fun k _ hk => World.putObj_heap_other (by simpa using hk)⟩
    have hHD : H ≠ D := by omega
    refine ⟨.tuple #[.slice (some ⟨H, 0, none⟩) m m, .int .i64 0], ?_, H, rfl, HKI.out.keeps kD (by intro g' off' hh; cases hh; simpa using hHD), by omega, Nat.lt_of_lt_of_le (by omega) kD.size, HBW.out.trans (kD.below HBW.out.size (by simp; omega))⟩
    simp [results, Try.results12, go_sem]
  case stop =>
    rintro D c pre W _ _ h _
    exact h.elim
end Go.Proofs.Ytpbbhebongggpaa
