import Derived.Test.YtpbbhebongggpaaPackU1
namespace Go.Proofs.Ytpbbhebongggpaa
open Go.RowKit Go.Shelf Go.Proofs Go.Proofs.PipeM Go.Proofs.PipeA Go.Proofs.PackM
set_option maxRecDepth 100000

attribute [local go_sem] Oper.semAt_some

def UnpIs (z ch s : Nat) (g : Bool) (zs : List Nat) (w : World) (e : Ending) (w' : World) : Prop :=
  ∃ O, e = .returned (.tuple #[.slice (some ⟨O, 0, none⟩) ch ch, .int .i64 0]) ∧ RowsAt w' (some ⟨O, 0, none⟩) (unpF z g ch s zs) ∧ w.heap.size ≤ O ∧ Below w.heap.size w w'

def unpA (B0 B1 BO O zb z ch s n r : Nat) (g : Bool) (ao : Option Addr) (cap sb cb fb x Bx : Nat) : Array Value :=
  #[.agg #[.int .i64 (zb : Int), .bool g], .int .i64 (ch : Int), .slice ao n cap, .pointer (some ⟨B0, 0, none⟩), undef, .pointer (some ⟨B1, 0, none⟩), .slice none 0 0, .int .i64 0, .int .i64 (s : Int), .pointer (some ⟨BO, 0, none⟩), .int .i64 (x : Int), .pointer (some ⟨Bx, 0, none⟩),
    .agg #[.int .i64 (zb : Int), .bool g], .bool true, .bool false, .int .i64 (ch : Int), .bool true, .bool false, .slice ao n cap, .int .i64 (n : Int), .agg #[.int .i64 (zb : Int), .bool g], .int .i64 (ch : Int), .int .i64 (r : Int), .int .i64 0, .bool false, .slice ao n cap, .int .i64 (n : Int), .agg #[.int .i64 (zb : Int), .bool g], .int .i64 (ch : Int), .int .i64 (r : Int), .int .i64 (s : Int), .int .i64 (s : Int), .bool false, .int .i64 (ch : Int), .int .i64 (s : Int), .slice (some ⟨O, 0, none⟩) ch ch,
    .agg #[.int .i64 (zb : Int), .bool g], .int .i64 (ch : Int), .int .i64 (s : Int), .func (.func 34) #[] #[.pointer (some ⟨sb, 0, none⟩), .pointer (some ⟨cb, 0, none⟩), .pointer (some ⟨fb, 0, none⟩)], .int .i64 (x : Int), plV z ch g x,
    undef, undef, undef, undef, undef, undef, undef, undef, undef, undef, undef, undef, undef, undef, undef, undef, undef, undef, undef, undef]

/-- The samples' cells, when these bytes have come. -/
def AccAt (z ch s : Nat) (g : Bool) (b : Nat → Nat) (O : Nat) (l : List Nat) (W : World) : Prop := ∀ c, c < ch → KeysAt W (O + 1 + c) s (fun k => .int .i64 (acc z g b l (k * ch + c)))
theorem own_acc {z ch s : Nat} {g : Bool} {b : Nat → Nat} {O B m : Nat} : OwnFrom B (fun (pre : List (Fin m)) W => AccAt z ch s g b O (pre.map (·.val)) W) :=
  fun pre X Y row hs hg hr c hc => own_keys (B := B) (fun (pre : List (Fin m)) k => .int .i64 (acc z g b (pre.map (·.val)) (k * ch + c))) pre X Y row (hs c hc) hg hr
def rowBs (O ch : Nat) : List Nat := (List.range ch).map fun c => O + 1 + c
theorem mem_rowBs {O ch x : Nat} : x ∈ rowBs O ch ↔ O + 1 ≤ x ∧ x < O + 1 + ch := by
  simp only [rowBs, List.mem_map, List.mem_range]
  constructor
  · rintro ⟨c, hc, rfl⟩; omega
  · rintro ⟨h1, h2⟩; exact ⟨x - (O + 1), by omega, by omega⟩

theorem acc_all (z : Nat) (g : Bool) (b : Nat → Nat) (s ch n q : Nat) (hz : z = 1 ∨ z = 2 ∨ z = 3) (hn : n = s * ch * z) (hq : q < s * ch) (hb : ∀ i, b i < 256) : acc z g b (List.range n) q = valZ z g fun i => b (q * z + i) := by
  rw [acc_range z g b q (by omega) n]
  have h1 : (q + 1) * z ≤ s * ch * z := Nat.mul_le_mul_right _ hq
  rw [Nat.add_mul, Nat.one_mul] at h1
  rw [show min z (n - q * z) = z by omega, part_all z g _ hz (fun i => hb _)]

/-- The cells that a round reads. -/
def UnpS (BO O Bx B0 B1 ab aoff x cx kx sh R ch s zb n cap bb : Nat) (g : Bool) (w : World) : Prop :=
  w.cell? ⟨BO, 0, none⟩ = some (.slice (some ⟨O, 0, none⟩) ch ch) ∧ w.cell? ⟨Bx, 0, none⟩ = some (.int .i64 (cx : Int)) ∧ w.cell? ⟨Bx, 1, none⟩ = some (.int .i64 (kx : Int)) ∧ w.cell? ⟨Bx, 2, none⟩ = some (.int .i64 (sh : Int)) ∧ w.cell? ⟨O, cx, none⟩ = some (.slice (some ⟨R, 0, none⟩) s s) ∧
  w.cell? ⟨B0, 0, none⟩ = some (.int .i64 (zb : Int)) ∧ w.cell? ⟨B0, 1, none⟩ = some (.bool g) ∧ w.cell? ⟨B1, 0, none⟩ = some (.slice (some ⟨ab, aoff, none⟩) n cap) ∧ w.cell? ⟨ab, aoff + x, none⟩ = some (.int .u8 (bb : Int))

set_option maxHeartbeats 6400000 in
theorem cUnpack_ok (ao : Option Addr) (cap : Nat) (zs : List Nat) (z ch s : Nat) (g : Bool) (w : World) (hz : z = 1 ∨ z = 2 ∨ z = 3) (hc1 : 1 ≤ ch) (hc8 : ch ≤ 8) (hb : ∀ b ∈ zs, b < 256) (hl : zs.length = s * ch * z) (hm : zs.length ≤ 24000) (hi : BytesAt w ao zs) :
    Calls Try.prog 15 #[.agg #[.int .i64 ((8 * z : Nat) : Int), .bool g], .int .i64 (ch : Int), .slice ao zs.length cap] w (UnpIs z ch s g zs w) := by
  have hgd : good ((8 * z : Nat) : Int) = true := decide_eq_true (by omega)
  have hcf : decide (1 ≤ (ch : Int) ∧ (ch : Int) < 9) = true := decide_eq_true (by omega)
  have HB := fun o1 o2 => Lib.hid (below2 w o1 o2)
  have HG := fun W => Lib.hid (cGood ((8 * z : Nat) : Int) g W)
  have HC := fun W => Lib.hid (cIsCount ch W)
  have HRB := fun W => Lib.hid (cRowBytes z ch g W hz (by omega))
  rw [hgd] at HG
  rw [hcf] at HC
  obtain ⟨r, hr⟩ : ∃ r, r = ch * z := ⟨_, rfl⟩
  have hz3 : 1 ≤ z ∧ z ≤ 3 := by omega
  have hr1 : 1 ≤ r := by rw [hr]; exact Nat.mul_pos hc1 hz3.1
  rw [← hr] at HRB
  obtain ⟨n, hn⟩ : ∃ n, n = zs.length := ⟨_, rfl⟩
  have hnr : n = s * r := by rw [hn, hl, hr, Nat.mul_assoc]
  have hs24 : s ≤ 24000 := by
    have h1 : s * 1 ≤ s * r := Nat.mul_le_mul_left s hr1
    omega
  have hmi : (n : Int) % (r : Int) = 0 := by rw [hnr, Int.natCast_mul]; exact Int.mul_emod_left _ _
  have hdi : (n : Int) / (r : Int) = (s : Int) := by rw [hnr, Int.natCast_mul]; exact Int.mul_ediv_cancel _ (by omega)
  have ht8 : decide (1048576 < (s : Int)) = false := decide_eq_false (by omega)
  have HPL := fun W => Lib.hid (cPlaces z ch s g W)
  have HST := fun sb cb fb W => Lib.hid (places1_stops (n := 4) z ch s n sb cb fb g W (by omega) hz (by omega) (by omega) (by rw [hn, hl]) (by omega))
  have HZR := fun W => Lib.hid (cZeros ch s W hc8 (by omega))
  have HWO := fun b sh W (h1 : _) (h2 : b < 256) => Lib.hid (cWorth z b sh g W h1 h2)
  obtain ⟨zb, hzb⟩ : ∃ zb, zb = 8 * z := ⟨_, rfl⟩
  rw [← hzb] at HG HRB HPL HWO ⊢
  rw [← hn] at hm ⊢
  have HI := Lib.hid hi
  have HBS := Lib.hid hb
  have HL := Lib.hid hl
  have HN := Lib.hid hn
  have HZ := Lib.hid hz
  clear hcf hgd hr hzb hz hb hl hn hi hnr
  refine (callsIn_wide (n := 5)).1 ?_
  refine callsIn_of_wp_marks Try.func15 rfl trivial ?_ rfl
  simp only [Try.ntmps15, List.size_toArray, List.length_cons, List.length_nil, Nat.reduceAdd, Nat.reduceSub, Array.replicate_succ, Array.replicate_zero, List.push_toArray, List.append_toArray, List.nil_append, List.cons_append]
  gi_wp2_with fail
  refine ⟨trivial, (callsIn_wide.2 (HG _).out).mono ?_⟩
  rintro e w1 ⟨rfl, hb⟩
  have HB1 := Lib.hid ((HB _ _).out.trans (hb.mono (HB _ _).out.size))
  have c0 : w1.cell? ⟨w.heap.size, 0, none⟩ = some (.int .i64 (zb : Int)) := (hb.cell (p := ⟨w.heap.size, 0, none⟩) (by simp; omega)).trans (by simp)
  have c1 : w1.cell? ⟨w.heap.size, 1, none⟩ = some (.bool g) := (hb.cell (p := ⟨w.heap.size, 1, none⟩) (by simp; omega)).trans (by simp)
  have c2 : w1.cell? ⟨w.heap.size + 1, 0, none⟩ = some (.slice ao n cap) := (hb.cell (p := ⟨w.heap.size + 1, 0, none⟩) (by simp)).trans (by simp)
  have hsz1 : w.heap.size + 2 ≤ w1.heap.size := by have := hb.size; simpa using this
  clear hb HB
  gi_wp2_with fail
  refine ⟨trivial, (callsIn_wide.2 (HC _).out).mono ?_⟩
  rintro e w2 ⟨rfl, rfl⟩
  gi_wp2_with fail
  refine wpIn_mono (Q := OnlyN fun a W => a = { tmps := #[.agg #[.int .i64 (zb : Int), .bool g], .int .i64 (ch : Int), .slice ao n cap, .pointer (some ⟨w.heap.size, 0, none⟩), undef, .pointer (some ⟨w.heap.size + 1, 0, none⟩), .slice none 0 0, .int .i64 0, undef, undef, undef, undef, .agg #[.int .i64 (zb : Int), .bool g], .bool true, .bool false, .int .i64 (ch : Int), .bool true, .bool false, .slice ao n cap, .int .i64 (n : Int), .agg #[.int .i64 (zb : Int), .bool g], .int .i64 (ch : Int), .int .i64 (r : Int), .int .i64 0, .bool false, undef, undef, undef, undef, undef, undef, undef, undef, undef, undef, undef, undef, undef, undef, undef, undef, undef, undef, undef, undef, undef, undef, undef, undef, undef, undef, undef, undef, undef, undef, undef, undef, undef, undef, undef, undef, undef], defers := [] } ∧ Below w2.heap.size w2 W) ?reg1 ?mono1
  case reg1 =>
    refine wpIn_wide.2 ?_
    go_region_with (go_at_call 23; refine (HRB _).out.mono ?_; rintro e w3 ⟨rfl, hb3⟩; have hb3' : Below w2.heap.size w2 w3 := ((keeps_drew_b w2 []).below (Nat.le_refl _) (by simp)).trans hb3; have p2 := (hb3'.cell (p := ⟨w.heap.size + 1, 0, none⟩) (by show w.heap.size + 1 < _; omega)).trans c2; have HB3 := Lib.hid hb3'; clear hb3 hb3')
    all_goals
      refine ⟨?_, HB3.out⟩
      simp [go_sem]
      exact hmi
  case mono1 =>
    intro e a W hq
    cases e <;> try exact hq.elim
    obtain ⟨rfl, hb3⟩ := hq
    have c0 := (hb3.cell (p := ⟨w.heap.size, 0, none⟩) (by show w.heap.size < _; omega)).trans c0
    have c1 := (hb3.cell (p := ⟨w.heap.size, 1, none⟩) (by show w.heap.size < _; omega)).trans c1
    have c2 := (hb3.cell (p := ⟨w.heap.size + 1, 0, none⟩) (by show w.heap.size + 1 < _; omega)).trans c2
    have hsz3 := hb3.size
    have HB3 := Lib.hid (HB1.out.trans (hb3.mono HB1.out.size))
    clear hb3 HB1
    gi_wp2_with fail
    refine wpIn_mono (Q := OnlyN fun a W5 => a = { tmps := #[.agg #[.int .i64 (zb : Int), .bool g], .int .i64 (ch : Int), .slice ao n cap, .pointer (some ⟨w.heap.size, 0, none⟩), undef, .pointer (some ⟨w.heap.size + 1, 0, none⟩), .slice none 0 0, .int .i64 0, .int .i64 (s : Int), undef, undef, undef, .agg #[.int .i64 (zb : Int), .bool g], .bool true, .bool false, .int .i64 (ch : Int), .bool true, .bool false, .slice ao n cap, .int .i64 (n : Int), .agg #[.int .i64 (zb : Int), .bool g], .int .i64 (ch : Int), .int .i64 (r : Int), .int .i64 0, .bool false, .slice ao n cap, .int .i64 (n : Int), .agg #[.int .i64 (zb : Int), .bool g], .int .i64 (ch : Int), .int .i64 (r : Int), .int .i64 (s : Int), undef, undef, undef, undef, undef, undef, undef, undef, undef, undef, undef, undef, undef, undef, undef, undef, undef, undef, undef, undef, undef, undef, undef, undef, undef, undef, undef, undef, undef, undef, undef], defers := [] } ∧ Below W.heap.size W W5) ?reg2 ?mono2
    case reg2 =>
      refine wpIn_wide.2 ?_
      go_region_with (go_at_call 23; refine (HRB _).out.mono ?_; rintro e w4 ⟨rfl, hb4⟩; have hb4' : Below W.heap.size W w4 := ((keeps_drew_b W []).below (Nat.le_refl _) (by simp)).trans hb4; have p2 := (hb4'.cell (p := ⟨w.heap.size + 1, 0, none⟩) (by show w.heap.size + 1 < _; omega)).trans c2; have HB4 := Lib.hid hb4'; clear hb4 hb4')
      all_goals
        refine ⟨?_, HB4.out⟩
        simp [go_sem]
    case mono2 =>
      intro e a w4 hq
      cases e <;> try exact hq.elim
      obtain ⟨rfl, hb4⟩ := hq
      have c0 := (hb4.cell (p := ⟨w.heap.size, 0, none⟩) (by show w.heap.size < _; omega)).trans c0
      have c1 := (hb4.cell (p := ⟨w.heap.size, 1, none⟩) (by show w.heap.size < _; omega)).trans c1
      have c2 := (hb4.cell (p := ⟨w.heap.size + 1, 0, none⟩) (by show w.heap.size + 1 < _; omega)).trans c2
      have hsz4 := hb4.size
      have HB4 := Lib.hid (HB3.out.trans (hb4.mono HB3.out.size))
      clear hb4 HB3
      gi_wp2_with fail
      refine ⟨trivial, (callsIn_wide.2 (HZR _).out).mono ?_⟩
      rintro e w5 ⟨rfl, hza, hb5⟩
      have hsz5 := hza.size
      generalize hOe : w4.heap.size = O at hza hsz5 hb5 hsz4 ⊢
      have hOw : w.heap.size + 2 ≤ O := by omega
      have hbO : Below w4.heap.size w4 w5 := by rw [hOe]; exact hb5
      have d0 := cellA (.cells #[.slice (some ⟨O, 0, none⟩) ch ch] 24) ((hbO.cell (p := ⟨w.heap.size, 0, none⟩) (by show w.heap.size < _; omega)).trans c0)
      have d1 := cellA (.cells #[.slice (some ⟨O, 0, none⟩) ch ch] 24) ((hbO.cell (p := ⟨w.heap.size, 1, none⟩) (by show w.heap.size < _; omega)).trans c1)
      have d2 := cellA (.cells #[.slice (some ⟨O, 0, none⟩) ch ch] 24) ((hbO.cell (p := ⟨w.heap.size + 1, 0, none⟩) (by show w.heap.size + 1 < _; omega)).trans c2)
      have HB5 := Lib.hid ((HB4.out.trans (hbO.mono HB4.out.size)).alloc (HB4.out.trans (hbO.mono HB4.out.size)).size (.cells #[.slice (some ⟨O, 0, none⟩) ch ch] 24))
      have kk5 := keeps_of_below (box_below w5 (.cells #[.slice (some ⟨O, 0, none⟩) ch ch] 24)) []
      have HTOP := Lib.hid (hza.top.keeps kk5 (by simp) (by omega))
      have HROW : Hid (∀ c, c < ch → KeysAt (w5.alloc (.cells #[.slice (some ⟨O, 0, none⟩) ch ch] 24)) (O + 1 + c) s (fun _ => .int .i64 0)) := fun c hc => (hza.row c hc).keeps kk5 (by simp) (by omega)
      have d3 : (w5.alloc (.cells #[.slice (some ⟨O, 0, none⟩) ch ch] 24)).cell? ⟨w5.heap.size, 0, none⟩ = some (.slice (some ⟨O, 0, none⟩) ch ch) := by simp
      have hszA : (w5.alloc (.cells #[.slice (some ⟨O, 0, none⟩) ch ch] 24)).heap.size = w5.heap.size + 1 := by simp
      have H5 := Lib.hid hsz5
      clear c0 c1 c2 hza hb5 hbO hOe kk5 HB4 hsz5
      gi_wp2_with fail
      refine ⟨trivial, (callsIn_wide.2 (HPL _).out).mono ?_⟩
      generalize w5.alloc (.cells #[.slice (some ⟨O, 0, none⟩) ch ch] 24) = wa at d0 d1 d2 d3 HB5 HTOP HROW hszA ⊢
      generalize hBO : w5.heap.size = BO at d3 hszA H5 ⊢
      have hBO1 : BO ≤ O + 1 + ch := by have := H5.out; omega
      have hBO2 : O + 1 + ch ≤ BO := by have := H5.out; omega
      clear hBO H5
      rintro e w6 ⟨sb, cb, fb, rfl, hpa, hsb1, hcb1, hfb1, hsb2, hcb2, hfb2, hb6⟩
      gi_wp2_with fail
      have hsz6 := hb6.size
      have HB6 := Lib.hid (HB5.out.trans (hb6.mono HB5.out.size))
      have f0 := (hb6.cell (p := ⟨w.heap.size, 0, none⟩) (by show w.heap.size < _; omega)).trans d0
      have f1 := (hb6.cell (p := ⟨w.heap.size, 1, none⟩) (by show w.heap.size < _; omega)).trans d1
      have f2 := (hb6.cell (p := ⟨w.heap.size + 1, 0, none⟩) (by show w.heap.size + 1 < _; omega)).trans d2
      have f3 := (hb6.cell (p := ⟨BO, 0, none⟩) (by show BO < _; omega)).trans d3
      have kk6 := keeps_of_below hb6 []
      have HTOP6 := Lib.hid (HTOP.out.keeps kk6 (by simp) (by omega))
      have HACC0 : Hid (AccAt z ch s g (fun x => zs.getD x 0) O ([] : List Nat) w6) := fun c hc => ((HROW.out c hc).keeps kk6 (by simp) (by omega)).congr (fun j _ => rfl)
      have hseq := (HST sb cb fb w6).out hpa
      clear d0 d1 d2 d3 HB5 HTOP HROW kk6 hpa hb6 HST HPL HRB HZR HG HC
      refine wpIn_rangeFunc_ownH rfl (by omega) (gf := 34) (lb := #[.pointer (some ⟨sb, 0, none⟩), .pointer (some ⟨cb, 0, none⟩), .pointer (some ⟨fb, 0, none⟩)]) rfl trivial (enters_of Try.func34 (by kernel_rfl) rfl)
        hseq kpC_t (kpC_b hsb2 hcb2 hfb2) (Below.refl _ _) (fun _ => rfl)
        (fun pre W => Keeps (rowBs O ch) w6 W ∧ AccAt z ch s g (fun x => zs.getD x 0) O (pre.map (·.val)) W)
        (fun _ _ _ => False)
        (own_keeps.and own_acc) (fun _ _ _ _ _ hs _ _ => hs.elim)
        ⟨Keeps.refl _ _, HACC0.out⟩
        (fun x a' W => ∃ Bx, BoxAt w6.heap.size z ch g x.val Bx W ∧ a' = { tmps := unpA w.heap.size (w.heap.size + 1) BO O zb z ch s n r g ao cap sb cb fb x.val Bx, defers := [] })
        (fun _ _ => own_box) ?assign ?body ?done ?stop
      case assign =>
        rintro l' pre ⟨x, hx⟩ W K ⟨hI1, hI2⟩ hK
        have HI1 := Lib.hid hI1
        have HI2 := Lib.hid hI2
        have hw6W := hI1.size
        unfold unpA at hK
        unfold plV at hK
        unfold encP plV
        have HKK := Lib.hid hK
        clear hI1 hI2 hK
        gi_wp2
        have kk := keeps_of_below (box_below W (.cells #[.int .i64 ((x / z % ch : Nat) : Int), .int .i64 ((x / z / ch : Nat) : Int), .int .i64 ((shiftN z g (x % z) : Nat) : Int)] 54)) []
        refine HKK.out _ _ (keepsFrom_of kk (by simp)) (kpC_keeps kk (by omega) (by omega) (by omega) (by simp) (by simp) (by simp)) ⟨HI1.out.trans_new kk (by simp), fun c hc => (HI2.out c hc).keeps kk (by simp) (by omega)⟩ ⟨W.heap.size, ⟨hw6W, ?_, ?_, ?_⟩, rfl⟩
        · simp
        · simp
        · simp
      case body =>
        rintro l' pre ⟨x, hx⟩ a' W hl' hr' ⟨hK, hacc⟩ ⟨Bx, ⟨hBx, x0, x1, x2⟩, rfl⟩ hpre
        have hmx : Try.prog.follows .mixedOrders = true := by kernel_rfl
        have hz0 : 0 < z := by omega
        have hc0 : 0 < ch := by omega
        have hcx : x / z % ch < ch := Nat.mod_lt _ hc0
        have hsx : x / z / ch < s := by
          have h1 : x / z < s * ch := by rw [Nat.div_lt_iff_lt_mul hz0, ← HL.out, ← HN.out]; exact hx
          rw [Nat.div_lt_iff_lt_mul hc0]; exact h1
        have hqx : x / z / ch * ch + x / z % ch = x / z := by rw [Nat.mul_comm]; exact Nat.div_add_mod _ _
        have hsh := shift_cases (g := g) HZ.out (Nat.mod_lt x hz0)
        have hxl : x < zs.length := by rw [← HN.out]; exact hx
        have hbx := getD_lt HBS.out x
        obtain ⟨ab, aoff, rfl, hab, hbyte⟩ := HI.out x hxl
        have hszW := hK.size
        have y0 := (hK.cell (p := ⟨w.heap.size, 0, none⟩) (by show w.heap.size < _; omega) (by show w.heap.size ∉ _; rw [mem_rowBs]; omega)).trans f0
        have y1 := (hK.cell (p := ⟨w.heap.size, 1, none⟩) (by show w.heap.size < _; omega) (by show w.heap.size ∉ _; rw [mem_rowBs]; omega)).trans f1
        have y2 := (hK.cell (p := ⟨w.heap.size + 1, 0, none⟩) (by show w.heap.size + 1 < _; omega) (by show w.heap.size + 1 ∉ _; rw [mem_rowBs]; omega)).trans f2
        have y3 := (hK.cell (p := ⟨BO, 0, none⟩) (by show BO < _; omega) (by show BO ∉ _; rw [mem_rowBs]; omega)).trans f3
        have y4 := (hK.cell (p := ⟨O, x / z % ch, none⟩) (by show O < _; omega) (by show O ∉ _; rw [mem_rowBs]; omega)).trans (HTOP6.out _ hcx).1
        have y5 := (hK.cell (p := ⟨ab, aoff + x, none⟩) (by show ab < _; omega) (by show ab ∉ _; rw [mem_rowBs]; omega)).trans ((HB6.out.cell (p := ⟨ab, aoff + x, none⟩) hab).trans hbyte)
        have hBxW : Bx < W.heap.size := World.block_lt_of_cell? _ _ x0
        have v0 := (hacc _ hcx _ hsx).1
        have v1 := (hacc _ hcx _ hsx).2
        have HWX := fun W' => Lib.hid (HWO (zs.getD x 0) (shiftN z g (x % z)) W' hsh hbx).out
        have HNEW := Lib.hid (acc_new z g (fun x => zs.getD x 0) (pre.map (·.val)) x)
        have HOLD := fun q => Lib.hid (acc_old z g (fun x => zs.getD x 0) (pre.map (·.val)) x q)
        have hpm : (pre ++ [(⟨x, hx⟩ : Fin n)]).map (fun y : Fin n => y.val) = pre.map (fun y : Fin n => y.val) ++ [x] := by simp
        have HQX := Lib.hid hqx
        dsimp only at x0 x1 x2
        obtain ⟨R, hR⟩ : ∃ R, R = O + 1 + x / z % ch := ⟨_, rfl⟩
        have hR1 : O + 1 ≤ R := by omega
        have hR2 : R < O + 1 + ch := by omega
        have HRE := Lib.hid hR
        dsimp only at y4 v0 v1
        rw [← hR] at y4 v0 v1
        rw [hqx] at v0
        generalize hwv : worthI z (zs.getD x 0) (shiftN z g (x % z)) = wv at HWX HNEW
        have HEND : Hid (∀ w7, Keeps [] W w7 → KeepsFrom w6.heap.size W (w7.setCell ⟨R, x / z / ch, none⟩ (.int .i64 (orI (acc z g (fun x => zs.getD x 0) (pre.map (·.val)) (x / z)) wv))) ∧ KpC sb cb fb W (w7.setCell ⟨R, x / z / ch, none⟩ (.int .i64 (orI (acc z g (fun x => zs.getD x 0) (pre.map (·.val)) (x / z)) wv))) ∧ (Keeps (rowBs O ch) w6 (w7.setCell ⟨R, x / z / ch, none⟩ (.int .i64 (orI (acc z g (fun x => zs.getD x 0) (pre.map (·.val)) (x / z)) wv))) ∧ AccAt z ch s g (fun x => zs.getD x 0) O ((pre ++ [(⟨x, hx⟩ : Fin n)]).map (fun y : Fin n => y.val)) (w7.setCell ⟨R, x / z / ch, none⟩ (.int .i64 (orI (acc z g (fun x => zs.getD x 0) (pre.map (·.val)) (x / z)) wv))))) := by
          intro w7 hk7
          have kk : Keeps [R] W (w7.setCell ⟨R, x / z / ch, none⟩ (.int .i64 (orI (acc z g (fun x => zs.getD x 0) (pre.map (·.val)) (x / z)) wv))) := ((Keeps.refl [R] W).trans_new hk7 (by simp)).trans (keeps_setCell w7 R _ _)
          refine ⟨keepsFrom_of kk (fun k hk => by simp at hk; subst hk; exact Or.inl (by omega)), kpC_keeps kk (by omega) (by omega) (by omega) (by simp; omega) (by simp; omega) (by simp; omega), hK.trans_new kk (fun y hy => by simp at hy; subst hy; exact Or.inl (by rw [mem_rowBs]; omega)), ?_⟩
          intro c hc
          rw [hpm]
          have hkc := (hacc c hc).keeps hk7 (by simp) (by omega)
          by_cases e : c = x / z % ch
          · subst e
            rw [← hR] at hkc ⊢
            refine KeysAt.congr (hkc.set hsx _) (fun j hj => ?_)
            by_cases e2 : j = x / z / ch
            · subst e2
              rw [if_pos rfl, hqx, HNEW.out]
            · rw [if_neg e2, (HOLD _).out (fun e3 => e2 ?_)]
              have h1 : (j * ch + x / z % ch) / ch = j := by rw [Nat.mul_comm, Nat.mul_add_div hc0, Nat.div_eq_of_lt hcx]; rfl
              rw [← h1, e3]
          · refine KeysAt.congr (keys_setCell_far hkc (by omega) _) (fun j hj => ?_)
            rw [(HOLD _).out (fun e3 => e ?_)]
            have h1 : (j * ch + c) % ch = c := by rw [Nat.mul_comm, Nat.mul_add_mod, Nat.mod_eq_of_lt hc]
            rw [← h1, e3]
        have HSK : Hid (∀ W', Keeps [R] W W' → UnpS BO O Bx w.heap.size (w.heap.size + 1) ab aoff x (x / z % ch) (x / z / ch) (shiftN z g (x % z)) R ch s zb n cap (zs.getD x 0) g W') := by
          intro W' hk
          have hn : ∀ b, b < W.heap.size → b ≠ R → ∀ o v, W.cell? ⟨b, o, none⟩ = some v → W'.cell? ⟨b, o, none⟩ = some v := fun b hb hne o v h => (hk.cell (p := ⟨b, o, none⟩) hb (by simpa using hne)).trans h
          exact ⟨hn _ (by omega) (by omega) _ _ y3, hn _ hBxW (by omega) _ _ x0, hn _ hBxW (by omega) _ _ x1, hn _ hBxW (by omega) _ _ x2, hn _ (by omega) (by omega) _ _ y4, hn _ (by omega) (by omega) _ _ y0, hn _ (by omega) (by omega) _ _ y1, hn _ (by omega) (by omega) _ _ y2, hn _ (by omega) (by omega) _ _ y5⟩
        have hsh16 : shiftN z g (x % z) ≤ 16 := by omega
        have hRW : R < W.heap.size := by omega
        unfold orI at HEND
        generalize acc z g (fun x => zs.getD x 0) (pre.map (fun y : Fin n => y.val)) (x / z) = old at v0 HEND HNEW
        generalize x / z % ch = cx at HSK hcx
        generalize x / z / ch = kx at HSK hsx v0 v1 HEND
        generalize shiftN z g (x % z) = sh at HSK HWX hsh16
        generalize zs.getD x 0 = bb at HSK HWX hbx
        clear hsh hbyte y0 y1 y2 y3 y4 y5 x0 x1 x2 hqx hR hK hacc hwv
        unfold unpA
        gi_wp2_with fail
        refine regionHeld (S := UnpS BO O Bx w.heap.size (w.heap.size + 1) ab aoff x cx kx sh R ch s zb n cap bb g) hmx (by kernel_rfl) ?_
        have hHeld := HSK.out _ (keeps_drew_b W _)
        unfold UnpS at hHeld ⊢
        unfold UnpS at HSK
        refine wpAnyH_take (i := 0) (v := ?_) rfl (by kernel_rfl) (by kernel_rfl) (by kernel_rfl) (fun _ _ _ h => h) (Or.inl ⟨by rfl, ?_⟩) hHeld ?_
        rotate_left
        · intro w9 hSw; obtain ⟨s0, s1, s2, s3, s4, s5, s6, s7, s8⟩ := hSw; go_simp; try with_reducible rfl
        refine wpAnyH_take (i := 1) (v := ?_) rfl (by kernel_rfl) (by kernel_rfl) (by kernel_rfl) (fun _ _ _ h => h) (Or.inl ⟨by rfl, ?_⟩) hHeld ?_
        rotate_left
        · intro w9 hSw; obtain ⟨s0, s1, s2, s3, s4, s5, s6, s7, s8⟩ := hSw; go_simp; try with_reducible rfl
        refine wpAnyH_take (i := 2) (v := ?_) rfl (by kernel_rfl) (by kernel_rfl) (by kernel_rfl) (fun _ _ _ h => h) (Or.inl ⟨by rfl, ?_⟩) hHeld ?_
        rotate_left
        · intro w9 hSw; obtain ⟨s0, s1, s2, s3, s4, s5, s6, s7, s8⟩ := hSw; go_simp; try with_reducible rfl
        refine wpAnyH_take (i := 3) (v := ?_) rfl (by kernel_rfl) (by kernel_rfl) (by kernel_rfl) (fun _ _ _ h => h) (Or.inl ⟨by rfl, ?_⟩) hHeld ?_
        rotate_left
        · intro w9 hSw; obtain ⟨s0, s1, s2, s3, s4, s5, s6, s7, s8⟩ := hSw; go_simp; try with_reducible rfl
        refine wpAnyH_take (i := 4) (v := ?_) rfl (by kernel_rfl) (by kernel_rfl) (by kernel_rfl) (fun _ _ _ h => h) (Or.inl ⟨by rfl, ?_⟩) hHeld ?_
        rotate_left
        · intro w9 hSw; obtain ⟨s0, s1, s2, s3, s4, s5, s6, s7, s8⟩ := hSw; go_simp; try with_reducible rfl
        refine wpAnyH_take (i := 5) (v := ?_) rfl (by kernel_rfl) (by kernel_rfl) (by kernel_rfl) (fun _ _ _ h => h) (Or.inl ⟨by rfl, ?_⟩) hHeld ?_
        rotate_left
        · intro w9 hSw; obtain ⟨s0, s1, s2, s3, s4, s5, s6, s7, s8⟩ := hSw; go_simp; try with_reducible rfl
        refine wpAnyH_take (i := 6) (v := ?_) rfl (by kernel_rfl) (by kernel_rfl) (by kernel_rfl) (fun _ _ _ h => h) (Or.inl ⟨by rfl, ?_⟩) hHeld ?_
        rotate_left
        · intro w9 hSw; obtain ⟨s0, s1, s2, s3, s4, s5, s6, s7, s8⟩ := hSw; go_simp; try with_reducible rfl
        refine wpAnyH_take (i := 7) (v := ?_) rfl (by kernel_rfl) (by kernel_rfl) (by kernel_rfl) (fun _ _ _ h => h) (Or.inl ⟨by rfl, ?_⟩) hHeld ?_
        rotate_left
        · intro w9 hSw; obtain ⟨s0, s1, s2, s3, s4, s5, s6, s7, s8⟩ := hSw; go_simp; try with_reducible rfl
        refine wpAnyH_take (i := 9) (v := ?_) rfl (by kernel_rfl) (by kernel_rfl) (by kernel_rfl) (fun _ _ _ h => h) (Or.inl ⟨by rfl, ?_⟩) hHeld ?_
        rotate_left
        · intro w9 hSw; obtain ⟨s0, s1, s2, s3, s4, s5, s6, s7, s8⟩ := hSw; go_simp; try with_reducible rfl
        refine wpAnyH_take (i := 10) (v := ?_) rfl (by kernel_rfl) (by kernel_rfl) (by kernel_rfl) (fun _ _ _ h => h) (Or.inl ⟨by rfl, ?_⟩) hHeld ?_
        rotate_left
        · intro w9 hSw; obtain ⟨s0, s1, s2, s3, s4, s5, s6, s7, s8⟩ := hSw; go_simp; try with_reducible rfl
        refine wpAnyH_take (i := 11) (v := ?_) rfl (by kernel_rfl) (by kernel_rfl) (by kernel_rfl) (fun _ _ _ h => h) (Or.inl ⟨by rfl, ?_⟩) hHeld ?_
        rotate_left
        · intro w9 hSw; obtain ⟨s0, s1, s2, s3, s4, s5, s6, s7, s8⟩ := hSw; go_simp; try with_reducible rfl
        refine wpAnyH_take (i := 12) (v := ?_) rfl (by kernel_rfl) (by kernel_rfl) (by kernel_rfl) (fun _ _ _ h => h) (Or.inl ⟨by rfl, ?_⟩) hHeld ?_
        rotate_left
        · intro w9 hSw; obtain ⟨s0, s1, s2, s3, s4, s5, s6, s7, s8⟩ := hSw; go_simp; try with_reducible rfl
        refine wpAnyH_take (i := 13) (v := ?_) rfl (by kernel_rfl) (by kernel_rfl) (by kernel_rfl) (fun _ _ _ h => h) (Or.inl ⟨by rfl, ?_⟩) hHeld ?_
        rotate_left
        · intro w9 hSw; obtain ⟨s0, s1, s2, s3, s4, s5, s6, s7, s8⟩ := hSw; go_simp; try with_reducible rfl
        refine wpAnyH_take (i := 14) (v := ?_) rfl (by kernel_rfl) (by kernel_rfl) (by kernel_rfl) (fun _ _ _ h => h) (Or.inl ⟨by rfl, ?_⟩) hHeld ?_
        rotate_left
        · intro w9 hSw; obtain ⟨s0, s1, s2, s3, s4, s5, s6, s7, s8⟩ := hSw; go_simp; try with_reducible rfl
        refine wpAnyH_take (i := 15) (v := ?_) rfl (by kernel_rfl) (by kernel_rfl) (by kernel_rfl) (fun _ _ _ h => h) (Or.inl ⟨by rfl, ?_⟩) hHeld ?_
        rotate_left
        · intro w9 hSw; obtain ⟨s0, s1, s2, s3, s4, s5, s6, s7, s8⟩ := hSw; go_simp; try with_reducible rfl
        refine wpAnyH_ready (rs := [8, 16]) (by kernel_rfl) (by simp) ?_
        refine AllReadyH.cons rfl (fun K hK => ?_) ?_
        · go_simp
          refine hK.out _ _ ?_ (fun hHeld => ?_)
          · first | exact HSK.out _ (keeps_drew_b _ _) | exact HSK.out _ hk8 | exact HSK.out _ (hk8.trans (keeps_setCell _ _ _ _)) | fail
          clear hK K
          refine wpAnyH_ready (rs := [16]) (by kernel_rfl) (by simp) ?_
          refine AllReadyH.cons rfl (fun K hK => ?_) ?_
          · go_simp
            refine (HWX _).out.mono ?_
            rintro e w7 ⟨rfl, hb7⟩
            have hb7' : Below W.heap.size W w7 := ((keeps_drew_b W []).below (Nat.le_refl _) (by simp)).trans hb7
            have hk7 : Keeps [] W w7 := keeps_of_below hb7' _
            have hk8 : Keeps [R] W w7 := keeps_of_below hb7' _
            have v7 : w7.cell? ⟨R, kx, none⟩ = some (.int .i64 old) := (hb7'.cell (p := ⟨R, kx, none⟩) (by show R < _; omega)).trans v0
            have u7 : w7.frozen? ⟨R, kx, none⟩ = false := (hb7'.frozen (p := ⟨R, kx, none⟩) (by show R < _; omega)).trans v1
            clear hb7 hb7'
            refine hK.out _ _ ?_ (fun hHeld => ?_)
            · first | exact HSK.out _ (keeps_drew_b _ _) | exact HSK.out _ hk8 | exact HSK.out _ (hk8.trans (keeps_setCell _ _ _ _)) | fail
            clear hK K
            refine wpAnyH_take (i := 17) (v := ?_) rfl (by kernel_rfl) (by kernel_rfl) (by kernel_rfl) (fun _ _ _ h => h) (Or.inl ⟨by rfl, ?_⟩) hHeld ?_
            rotate_left
            · intro w9 hSw; obtain ⟨s0, s1, s2, s3, s4, s5, s6, s7, s8⟩ := hSw; go_simp; try with_reducible rfl
            refine wpAnyH_take (i := 18) (v := ?_) rfl (by kernel_rfl) (by kernel_rfl) (by kernel_rfl) (fun _ _ _ h => h) (Or.inl ⟨by rfl, ?_⟩) hHeld ?_
            rotate_left
            · intro w9 hSw; obtain ⟨s0, s1, s2, s3, s4, s5, s6, s7, s8⟩ := hSw; go_simp; try with_reducible rfl
            refine wpAnyH_ready (rs := [19]) (by kernel_rfl) (by simp) ?_
            refine AllReadyH.cons rfl (fun K hK => ?_) ?_
            · go_simp
              refine hK.out _ _ ?_ (fun hHeld => ?_)
              · first | exact HSK.out _ (keeps_drew_b _ _) | exact HSK.out _ hk8 | exact HSK.out _ (hk8.trans (keeps_setCell _ _ _ _)) | fail
              clear hK K
              refine wpAnyH_done (by kernel_rfl) ?_ _
              exact HEND.out w7 hk7
            exact AllReadyH.nil
          exact AllReadyH.nil
        refine AllReadyH.cons rfl (fun K hK => ?_) ?_
        · go_simp
          refine (HWX _).out.mono ?_
          rintro e w7 ⟨rfl, hb7⟩
          have hb7' : Below W.heap.size W w7 := ((keeps_drew_b W []).below (Nat.le_refl _) (by simp)).trans hb7
          have hk7 : Keeps [] W w7 := keeps_of_below hb7' _
          have hk8 : Keeps [R] W w7 := keeps_of_below hb7' _
          have v7 : w7.cell? ⟨R, kx, none⟩ = some (.int .i64 old) := (hb7'.cell (p := ⟨R, kx, none⟩) (by show R < _; omega)).trans v0
          have u7 : w7.frozen? ⟨R, kx, none⟩ = false := (hb7'.frozen (p := ⟨R, kx, none⟩) (by show R < _; omega)).trans v1
          clear hb7 hb7'
          refine hK.out _ _ ?_ (fun hHeld => ?_)
          · first | exact HSK.out _ (keeps_drew_b _ _) | exact HSK.out _ hk8 | exact HSK.out _ (hk8.trans (keeps_setCell _ _ _ _)) | fail
          clear hK K
          refine wpAnyH_ready (rs := [8]) (by kernel_rfl) (by simp) ?_
          refine AllReadyH.cons rfl (fun K hK => ?_) ?_
          · go_simp
            refine hK.out _ _ ?_ (fun hHeld => ?_)
            · first | exact HSK.out _ (keeps_drew_b _ _) | exact HSK.out _ hk8 | exact HSK.out _ (hk8.trans (keeps_setCell _ _ _ _)) | fail
            clear hK K
            refine wpAnyH_take (i := 17) (v := ?_) rfl (by kernel_rfl) (by kernel_rfl) (by kernel_rfl) (fun _ _ _ h => h) (Or.inl ⟨by rfl, ?_⟩) hHeld ?_
            rotate_left
            · intro w9 hSw; obtain ⟨s0, s1, s2, s3, s4, s5, s6, s7, s8⟩ := hSw; go_simp; try with_reducible rfl
            refine wpAnyH_take (i := 18) (v := ?_) rfl (by kernel_rfl) (by kernel_rfl) (by kernel_rfl) (fun _ _ _ h => h) (Or.inl ⟨by rfl, ?_⟩) hHeld ?_
            rotate_left
            · intro w9 hSw; obtain ⟨s0, s1, s2, s3, s4, s5, s6, s7, s8⟩ := hSw; go_simp; try with_reducible rfl
            refine wpAnyH_ready (rs := [19]) (by kernel_rfl) (by simp) ?_
            refine AllReadyH.cons rfl (fun K hK => ?_) ?_
            · go_simp
              refine hK.out _ _ ?_ (fun hHeld => ?_)
              · first | exact HSK.out _ (keeps_drew_b _ _) | exact HSK.out _ hk8 | exact HSK.out _ (hk8.trans (keeps_setCell _ _ _ _)) | fail
              clear hK K
              refine wpAnyH_done (by kernel_rfl) ?_ _
              exact HEND.out w7 hk7
            exact AllReadyH.nil
          exact AllReadyH.nil
        exact AllReadyH.nil
      case done =>
        rintro D xs W hD hS ⟨hK, hacc⟩ hDW
        have HRW : Hid (∀ D', w6.heap.size ≤ D' → RowsAt (W.putObj D' (.deferred none)) (some ⟨O, 0, none⟩) (unpF z g ch s zs)) := by
          intro D' hD' c hc
          rw [unpF_length] at hc
          have kD : Keeps [D'] W (W.putObj D' (.deferred none)) := ⟨rfl, rfl, rfl, by simp [World.putObj], fun k _ hk => World.putObj_heap_other (by simpa using hk)⟩
          have hszW := hK.size
          have hrow : (unpF z g ch s zs)[c]'(by rw [unpF_length]; exact hc) = (List.range s).map fun k => valZ z g fun i => zs.getD ((k * ch + c) * z + i) 0 := by simp [unpF]
          rw [hrow]
          refine ⟨O, 0, some ⟨O + 1 + c, 0, none⟩, s, rfl, Nat.lt_of_lt_of_le (by omega) kD.size, ?_, ?_⟩
          · rw [Nat.zero_add, kD.cell (p := ⟨O, c, none⟩) (by show O < _; omega) (by simp; omega), hK.cell (p := ⟨O, c, none⟩) (by show O < _; omega) (by show O ∉ _; rw [mem_rowBs]; omega), (HTOP6.out c hc).1]
            simp
          · intro k hk
            have hk : k < s := by simpa using hk
            refine ⟨O + 1 + c, 0, rfl, Nat.lt_of_lt_of_le (by omega) kD.size, ?_⟩
            rw [Nat.zero_add, kD.cell (p := ⟨O + 1 + c, k, none⟩) (by show O + 1 + c < _; omega) (by simp; omega), (hacc c hc k hk).1, hS]
            have hq : k * ch + c < s * ch := by
              have : (k + 1) * ch ≤ s * ch := Nat.mul_le_mul_right _ hk
              rw [Nat.add_mul, Nat.one_mul] at this
              omega
            dsimp only
            rw [acc_all z g (fun x => zs.getD x 0) s ch n (k * ch + c) HZ.out (by rw [HN.out, HL.out]) hq (fun i => getD_lt HBS.out i)]
            simp
        have y3 := (hK.cell (p := ⟨BO, 0, none⟩) (by show BO < _; omega) (by show BO ∉ _; rw [mem_rowBs]; omega)).trans f3
        have HBW := Lib.hid (HB6.out.trans (hK.below HB6.out.size (fun x hx => by rw [mem_rowBs] at hx; omega)))
        have hszW := hK.size
        have HDW := Lib.hid hDW
        clear hK hacc
        gi_wp2
        refine ⟨by simp, .inl ⟨_, _, rfl, run_takeDeferred HDW.out, ?_⟩⟩
        have kD : Keeps [D] W (W.putObj D (.deferred none)) := ⟨rfl, rfl, rfl, by simp [World.putObj], fun k _ hk => World.putObj_heap_other (by simpa using hk)⟩
        refine ⟨.tuple #[.slice (some ⟨O, 0, none⟩) ch ch, .int .i64 0], ?_, O, rfl, ?_, by omega, HBW.out.trans (kD.below HBW.out.size (by simp; omega))⟩
        · simp [results, Try.results15, go_sem]
        · exact HRW.out D hD
      case stop =>
        rintro D c pre W _ _ h _
        exact h.elim
end Go.Proofs.Ytpbbhebongggpaa
