/- VmRuns: the law's walk. -/
import Derived.Test.YtplgkblahmndoaaVmRunC
import Derived.Test.YtplgkblahmndoaaVdRun
import Derived.Test.YtplgkblahmndoaaCThe
namespace Go.Proofs.Ytplgkblahmndoaa
open Go.RowKit
set_option linter.unusedVariables false
set_option maxRecDepth 100000

def insA : Ins := ⟨⟨#[99, 111, 110, 115, 116]⟩, 0, 0, 0, (1, 7, ⟨#[]⟩)⟩
theorem formed_insA : formedP 1 [insA] = true := by
  refine formedP_all (by simp) (fun j hj => ?_)
  obtain rfl : j = 0 := by simpa using hj
  show okI 1 1 0 insA = true
  have h0 : opClass insA.op = 0 := class_const
  refine okI_mk ?_ (fit0 h0 (by show formedB 1 7 ⟨#[]⟩ = true; unfold formedB; simp [ByteArray.toList_eq])) (by decide)
  unfold bareB
  rw [h0]; rfl
theorem run_insA (R : List (List Val)) : runP R 1 [insA] = ((1, 7, ⟨#[]⟩), 2, 0) := by
  have e : runP R 1 [insA] = runR R [insA] 2 0 [noR] := by unfold runP; rw [if_pos formed_insA]; rfl
  rw [e]
  have h := (runR_step (rfl : runR R [insA] (1 + 1) 0 [noR] = runR R [insA] 2 0 [noR]) (by simp) (step_const R 0 0 0 (1, 7, ⟨#[]⟩) [noR] 0)).1 rfl
  exact runR_end (f := 0) h (by simp)
theorem isRR_nil (w : World) : IsRR w none 0 [] := ⟨rfl, by omega, .inl rfl⟩

set_option maxHeartbeats 1600000 in
theorem vmawake_any (w : World) : Calls Try.prog 42 #[] w fun e w' => e = .returned (.bool true) ∧ Below w.heap.size w w' := by
  obtain ⟨w0, hw0⟩ : ∃ w0, w0 = w.alloc (.cells #[.string ⟨#[99, 111, 110, 115, 116]⟩, .int .i64 0, .int .i64 0, .int .i64 0, .int .i64 1, .int .i64 7, .string ⟨#[]⟩] 168) := ⟨_, rfl⟩
  have HI := Lib.hid (show IsI w0 (some ⟨w.heap.size, 0, none⟩) 1 [insA] from ⟨rfl, by omega, .inr ⟨w.heap.size, 0, rfl, by rw [hw0]; simp, fun i hi => by
    obtain rfl : i = 0 := by omega
    rw [hw0]
    exact cells7_new w insA _⟩⟩)
  have HB0 := Lib.hid (show Below w.heap.size w w0 from by rw [hw0]; exact bel0 _ (Below.refl _ _))
  have HW := Lib.hid hw0
  clear hw0
  go_enter Try.func42, Try.ntmps42
  go_wp2_with fail
  rw [← HW.out]
  refine (vmrun_any (some ⟨w.heap.size, 0, none⟩) 1 1 1 [insA] none 0 0 [] _ HI.out (fun x hx => by
    obtain rfl : x = insA := by simpa using hx
    exact ⟨⟨by decide, by decide⟩, InR.zero, InR.zero⟩) (isRR_nil _) (by simp [RowsR])).mono ?_
  rintro e w1 ⟨rfl, hb1⟩
  rw [run_insA]
  have HB1 := Lib.hid (bt HB0.out hb1)
  clear hb1
  simp only [valV]
  go_wp2
  go_ret
  exact ⟨rfl, by first | exact bel0 _ HB1.out | exact (bel0 _ HB1.out).setCell (Nat.le_trans HB1.out.size (Nat.le_refl _)) _⟩

set_option maxHeartbeats 3200000 in
theorem vmRuns_walk (ca : Option Addr) (cl cc : Nat) (k : Int) (xs : List Ins) (ra : Option Addr) (rl rc : Nat) (R : List (List Val)) (w : World) (hI : IsI w ca cl xs) (hN : ∀ x ∈ xs, InsR x) (hR : IsRR w ra rl R) (hRr : RowsR R) :
    Calls Try.prog 7 #[.agg #[.slice ca cl cc, .int .i64 k], .slice ra rl rc] w fun e w' => e = .returned (.bool true) ∧ Below w.heap.size w w' := by
  obtain ⟨W0, hW0⟩ : ∃ W0, W0 = w.alloc (.cells #[.slice ca cl cc, .int .i64 k] 88) := ⟨_, rfl⟩
  have q0 : W0.cell? ⟨w.heap.size, 0, none⟩ = some (.slice ca cl cc) := by rw [hW0]; simp [go_sem]
  have q1 : W0.cell? ⟨w.heap.size, 1, none⟩ = some (.int .i64 k) := by rw [hW0]; simp [go_sem]
  have hb0 : Below w.heap.size w W0 := by rw [hW0]; exact bel0 _ (Below.refl _ _)
  have Q := Lib.hid (show ∀ W, Below W0.heap.size W0 W → W.cell? ⟨w.heap.size, 0, none⟩ = some (.slice ca cl cc) ∧ W.cell? ⟨w.heap.size, 1, none⟩ = some (.int .i64 k) from fun W hW =>
    ⟨(hW.cell (World.block_lt_of_cell? _ _ q0)).trans q0, (hW.cell (World.block_lt_of_cell? _ _ q1)).trans q1⟩)
  have HI0 := Lib.hid (hI.below hb0)
  have HR0 := Lib.hid (hR.below hb0)
  have HNs := Lib.hid hN
  have HRr := Lib.hid hRr
  have hmax := hI.2.1
  have hmaxr := hR.2.1
  have HB0 := Lib.hid hb0
  have HW := Lib.hid hW0
  clear hI hR hN hRr hb0 hW0 q0 q1
  have early : ∀ (W : World), Below W0.heap.size W0 W → True := fun _ _ => trivial
  go_enter Try.func7, Try.ntmps7
  go_wp2_with fail
  rw [← HW.out]
  refine (vmawake_any _).mono ?_
  rintro e w1 ⟨rfl, hb1⟩
  obtain ⟨q0, q1⟩ := Q.out w1 hb1
  have HB1 := Lib.hid (bt HB0.out hb1)
  have HB01 := Lib.hid hb1
  clear hb1 early
  by_cases hbig : (cl : Int) ≤ 1100 ∧ (rl : Int) ≤ 20
  · obtain ⟨hs1, hs2⟩ := hbig
    have HSm := Lib.hid (show cl ≤ 1100 by omega)
    have d1 : decide (1100 < cl) = false := decide_eq_false (by omega)
    have d2 : decide (20 < rl) = false := decide_eq_false (by omega)
    go_wp2_with fail
    refine (theirs_any ca cl cc k xs _ (HI0.out.below HB01.out) HSm.out).mono ?_
    rintro e w2 ⟨⟨a, c, rfl, hI2⟩, hb2⟩
    have HI2 := Lib.hid hI2
    have HB02 := Lib.hid (bt HB01.out hb2)
    clear hI2 hb2 q0 q1
    go_wp2_with fail
    refine (vmrun_any a cl c k xs ra rl rc R _ HI2.out HNs.out (HR0.out.below HB02.out) HRr.out).mono ?_
    rintro e w3 ⟨rfl, hb3⟩
    have HB03 := Lib.hid (bt HB02.out hb3)
    clear hb3
    have HRun := Lib.hid (show ∀ W, Below W0.heap.size W0 W → Calls Try.prog 45 #[.agg #[.slice ca cl cc, .int .i64 k], .slice ra rl rc] W (RunD W (runP R k xs)) from fun W hW => rrun_any ca cl cc k xs ra rl rc R W (HI0.out.below hW) HNs.out (HR0.out.below hW) HRr.out)
    generalize runP R k xs = y at *
    obtain ⟨⟨yk, yn, ys⟩, yt, ye⟩ := y
    simp only [valV]
    obtain ⟨q0, q1⟩ := Q.out w3 HB03.out
    have hlt3 : w.heap.size < w3.heap.size := World.block_lt_of_cell? _ _ q0
    obtain ⟨w4, hw4⟩ : ∃ w4, w4 = w3.alloc (.cells #[.int .i64 yk, .int .i64 yn, .string ys] 46) := ⟨_, rfl⟩
    have hb4 : Below w3.heap.size w3 w4 := by rw [hw4]; exact bel0 _ (Below.refl _ _)
    have hn4 : w4.heap[w3.heap.size]? = some (.cells #[.int .i64 yk, .int .i64 yn, .string ys] 46 (0, 0)) := by rw [hw4]; exact Go.heap_alloc_new w3 _
    have HN4 := Lib.hid hn4
    have HB04 := Lib.hid (bt HB03.out hb4)
    have hlt4 : w3.heap.size < w4.heap.size := (Array.getElem?_eq_some_iff.1 hn4).1
    go_wp2_with fail
    rw [← hw4]
    refine (HRun.out _ HB04.out).mono ?_
    rintro e w5 ⟨rfl, hb5⟩
    simp only [valV]
    have hn5 := (hb5.block w3.heap.size hlt4).trans HN4.out
    have c0 := cell_of_row _ _ 0 _ _ _ hn5
    have c1 := cell_of_row _ _ 1 _ _ _ hn5
    have c2 := cell_of_row _ _ 2 _ _ _ hn5
    simp only [List.getElem?_toArray, List.getElem?_cons_zero, List.getElem?_cons_succ] at c0 c1 c2
    have hlt5 : w3.heap.size < w5.heap.size := (Array.getElem?_eq_some_iff.1 hn5).1
    have HB5 := Lib.hid (bt (bt HB0.out HB04.out) hb5)
    clear hb5 hn5 hn4 hb4 hw4 q0 q1 hlt3 hlt4
    go_wp2
    go_ret
    exact ⟨by simp, bel0 _ HB5.out⟩
  · have hbig : 1100 < cl ∨ (cl ≤ 1100 ∧ 20 < rl) := by omega
    rcases hbig with h1 | ⟨h1, h2⟩
    · have d1 : decide (1100 < cl) = true := decide_eq_true h1
      have d1i : (1100 : Int) < (cl : Int) := by omega
      go_wp2_with fail
      refine (vmawake_any _).mono ?_
      rintro e w2 ⟨rfl, hb2⟩
      have HB2 := Lib.hid (bt HB1.out hb2)
      clear hb2
      go_wp2
      go_ret
      exact ⟨rfl, HB2.out⟩
    · have d1 : decide (1100 < cl) = false := decide_eq_false (by omega)
      have d1i : (cl : Int) ≤ 1100 := by omega
      have d2 : decide (20 < rl) = true := decide_eq_true h2
      have d2i : (20 : Int) < (rl : Int) := by omega
      go_wp2_with fail
      refine (vmawake_any _).mono ?_
      rintro e w2 ⟨rfl, hb2⟩
      have HB2 := Lib.hid (bt HB1.out hb2)
      clear hb2
      go_wp2
      go_ret
      exact ⟨rfl, HB2.out⟩
end Go.Proofs.Ytplgkblahmndoaa
