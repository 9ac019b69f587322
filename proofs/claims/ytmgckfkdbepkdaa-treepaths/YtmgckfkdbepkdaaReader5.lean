import Derived.Test.YtmgckfkdbepkdaaReader4
namespace Go.Proofs.Ytmgckfkdbepkdaa
open Go.RowKit Go.Proofs Go.Proofs.PipeM Go.Proofs.PipeA

/-- Align: so many bits are taken, if all are 0. -/
def ago (err : Int) : Nat → List Bool → RS
  | 0, l => ⟨l, err⟩
  | _ + 1, [] => ⟨[], err⟩
  | _ + 1, true :: r => RS.give ⟨r, err⟩ 5
  | k + 1, false :: r => ago err k r
def RS.align (s : RS) : RS := ago s.err (s.bits.length % 8) s.bits

/-- The cell that tells how many bits were taken. -/
theorem RdA.at {w : World} {b : Nat} {ao : Option Addr} {s : RS} (h : RdA w b ao s) : ∃ p : Nat, w.cell? ⟨b, 1, none⟩ = some (.int .i64 p) ∧ (p + s.bits.length) % 8 = 0 ∧ p ≤ 800000000 := by
  obtain ⟨ao', cap, zs, p, h1, h2, h3, h4⟩ := h
  have e : s.bits.length = 8 * zs.length - p := by rw [h2]; simp [bitsOf_length]
  have := h1.le
  have := h1.len
  exact ⟨p, h1.c1, by omega, by omega⟩

set_option maxHeartbeats 800000 in
theorem aAlign (b : Nat) (ao : Option Addr) (s : RS) (w : World) (h : RdA w b ao s) :
    Calls Try.prog 23 #[.pointer (some ⟨b, 0, none⟩)] w fun r w' => r = .returned (.tuple #[]) ∧ Reads w b ao s.align w' := by
  have H := Lib.hid h
  obtain ⟨err, herr⟩ : ∃ err, err = s.err := ⟨_, rfl⟩
  have H0 : Hid (Reads w b ao ⟨s.bits, err⟩ w) := by rw [herr]; exact Reads.refl H.out
  have HA : Hid (s.align = ago err (s.bits.length % 8) s.bits) := by rw [herr]; rfl
  clear h herr H
  go_enter Try.func23, Try.ntmps23
  go_wp2
  go_loopg [] 8 (fun gk wr => ∃ l : List Bool, Hid (l.length % 8 < gk) ∧ Hid (Reads w b ao ⟨l, err⟩ wr) ∧ Hid (s.align = ago err (l.length % 8) l))
  case atStart => exact ⟨s.bits, by show _ < _; omega, H0, HA⟩
  case round =>
    obtain ⟨l, HGK, HR, HZ⟩ := hrel
    clear H0 HA
    obtain ⟨p, hp, hp8, hpl⟩ := HR.out.1.at
    by_cases h8 : l.length % 8 = 0
    · have t1 : ((p : Int) % 8 != 0) = false := by rw [bne_eq_false_iff_eq]; simp at hp8; omega
      have HZ2 : Hid (s.align = ⟨l, err⟩) := by rw [HZ.out, h8]; rfl
      clear hp8 h8
      go_wp2
      go_end0
      exact ⟨rfl, by rw [HZ2.out]; exact HR.out⟩
    · have t1 : ((p : Int) % 8 != 0) = true := by rw [bne_iff_ne]; simp at hp8; omega
      obtain ⟨k, hk⟩ : ∃ k, l.length % 8 = k + 1 := ⟨l.length % 8 - 1, by omega⟩
      cases l with
      | nil => simp at h8
      | cons x r =>
        have hr8 : r.length % 8 = k := by simp at hk; omega
        have HK := Lib.hid hk
        have HR8 := Lib.hid hr8
        clear hp8 h8 hk hr8
        go_wp2_with fail
        refine (aNext b ao ⟨x :: r, err⟩ x r wr HR.out.1 rfl).mono ?_
        rintro e w2 ⟨rfl, hw2⟩
        have HW2 : Hid (Reads w b ao ⟨r, err⟩ w2) := HR.out.next hw2
        clear hw2
        cases x with
        | true =>
          have HZ2 : Hid (s.align = RS.give ⟨r, err⟩ 5) := by rw [HZ.out, HK.out]; rfl
          go_wp2_with fail
          refine (aGive b ao ⟨r, err⟩ 5 w2 HW2.out.1).mono ?_
          rintro e w3 ⟨rfl, hw3⟩
          have HW3 := Lib.hid hw3
          clear hw3
          go_wp2
          refine bodyPost_ret (v := .tuple #[]) (by simp [results, Try.results23, go_sem]) rfl ?_
          exact ⟨rfl, by rw [HZ2.out]; exact HW2.out.next HW3.out⟩
        | false =>
          have HZ2 : Hid (s.align = ago err (r.length % 8) r) := by rw [HZ.out, HK.out, HR8.out]; rfl
          go_wp2
          go_roundg (gk - 1)
          case rel => exact ⟨r, by have := HGK.out; have := HK.out; have := HR8.out; show _ < _; omega, HW2, HZ2⟩
          case measure => have := HGK.out; have := HK.out; omega

/-- How a reader ended. -/
def RS.endv (s : RS) : Int := if s.err ≠ 0 then s.err else if 8 ≤ s.bits.length then 4 else if num s.bits = 0 then 0 else 5

/-- A new reader upon bytes. -/
theorem aOpen (ao ao2 : Option Addr) (cap : Nat) (zs : List Nat) (w : World) (h2 : 0 < zs.length → ao = ao2) (hd : BytesAt w ao zs) (hs : ∀ z ∈ zs, z < 256) (hl : zs.length ≤ 100000000) :
    Calls Try.prog 21 #[.slice ao zs.length cap] w fun e w' => e = .returned (.pointer (some ⟨w.heap.size, 0, none⟩)) ∧ RdA w' w.heap.size ao2 ⟨bitsOf zs, 0⟩ ∧ Below w.heap.size w w' := by
  refine (rOpen ao cap zs w hd hs hl).mono ?_
  rintro e w1 ⟨rfl, h1, hb⟩
  exact ⟨rfl, ⟨ao, cap, zs, 0, h1, by simp, h2, by simp⟩, hb⟩
end Go.Proofs.Ytmgckfkdbepkdaa
