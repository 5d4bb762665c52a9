/- CodeForms: the law's walk. -/
import Derived.Test.YtmackldddhfmjaaCThe
import Derived.Test.YtmackldddhfmjaaCRForm
import Derived.Deep.RegionHeld3
namespace Go.Proofs.Ytmackldddhfmjaa
open Go.RowKit
set_option linter.unusedVariables false
set_option maxRecDepth 100000

def insC : Ins := ⟨⟨#[99, 111, 110, 115, 116]⟩, 0, 0, 0, noV⟩
theorem formed_insC : formedP 1 [insC] = true := by
  refine formedP_all (by simp) (fun j hj => ?_)
  obtain rfl : j = 0 := by simpa using hj
  show okI 1 1 0 insC = true
  have h0 : opClass insC.op = 0 := class_const
  refine okI_mk ?_ (fit0 h0 formed_null) (by decide)
  unfold bareB
  rw [h0]; rfl

set_option maxHeartbeats 1600000 in
theorem cawake_any (w : World) : Calls Try.prog 58 #[] w fun e w' => e = .returned (.bool true) ∧ Below w.heap.size w w' := by
  have HI := Lib.hid (show IsI (w.alloc (.cells #[.string ⟨#[99, 111, 110, 115, 116]⟩, .int .i64 0, .int .i64 0, .int .i64 0, .int .i64 0, .int .i64 0, .string ⟨#[]⟩] 179)) (some ⟨w.heap.size, 0, none⟩) 1 [insC] from ⟨rfl, by omega, .inr ⟨w.heap.size, 0, rfl, by simp, fun i hi => by
    obtain rfl : i = 0 := by omega
    exact cells7_new w insC _⟩⟩)
  go_enter Try.func58, Try.ntmps58
  go_wp2_with fail
  refine (cform_any (some ⟨w.heap.size, 0, none⟩) 1 1 1 [insC] _ HI.out).mono ?_
  rintro e w1 ⟨rfl, hb1⟩
  rw [formed_insC]
  have HB := Lib.hid (bt (bel0 (.cells #[.string ⟨#[99, 111, 110, 115, 116]⟩, .int .i64 0, .int .i64 0, .int .i64 0, .int .i64 0, .int .i64 0, .string ⟨#[]⟩] 179) (Below.refl w.heap.size w)) hb1)
  clear hb1
  go_wp2
  go_ret
  exact ⟨rfl, HB.out⟩

theorem lastT {A B C : Prop} (h : A ∧ B ∧ C) : C := h.2.2

set_option maxHeartbeats 3200000 in
theorem codeForms_walk (ca : Option Addr) (cl cc : Nat) (R : Int) (xs : List Ins) (w : World) (hI : IsI w ca cl xs) :
    Calls Try.prog 11 #[.agg #[.slice ca cl cc, .int .i64 R]] w fun e w' => e = .returned (.bool true) ∧ Below w.heap.size w w' := by
  obtain ⟨W0, hW0⟩ : ∃ W0, W0 = w.alloc (.cells #[.slice ca cl cc, .int .i64 R] 112) := ⟨_, rfl⟩
  have q0 : W0.cell? ⟨w.heap.size, 0, none⟩ = some (.slice ca cl cc) := by rw [hW0]; simp [go_sem]
  have q1 : W0.cell? ⟨w.heap.size, 1, none⟩ = some (.int .i64 R) := by rw [hW0]; simp [go_sem]
  have hb0 : Below w.heap.size w W0 := by rw [hW0]; exact bel0 _ (Below.refl _ _)
  have hs0 : W0.heap.size = w.heap.size + 1 := by rw [hW0]; simp
  have Q := Lib.hid (show ∀ W, Below W0.heap.size W0 W → W.cell? ⟨w.heap.size, 0, none⟩ = some (.slice ca cl cc) ∧ W.cell? ⟨w.heap.size, 1, none⟩ = some (.int .i64 R) from fun W hW =>
    ⟨(hW.cell (p := ⟨w.heap.size, 0, none⟩) (by show w.heap.size < _; omega)).trans q0, (hW.cell (p := ⟨w.heap.size, 1, none⟩) (by show w.heap.size < _; omega)).trans q1⟩)
  have HI0 := Lib.hid (hI.below hb0)
  have hmax := hI.2.1
  have HB0 := Lib.hid hb0
  have HW := Lib.hid hW0
  clear hI hb0 hs0 hW0 q0 q1
  by_cases hbig : 1100 < (cl : Int)
  · go_enter Try.func11, Try.ntmps11
    go_wp2_with fail
    rw [← HW.out]
    refine (cawake_any _).mono ?_
    rintro e w1 ⟨rfl, hb1⟩
    obtain ⟨q0, q1⟩ := Q.out w1 hb1
    have HB1 := Lib.hid (bt HB0.out hb1)
    clear hb1
    go_wp2_with fail
    refine (cawake_any _).mono ?_
    rintro e w2 ⟨rfl, hb2⟩
    have HB2 := Lib.hid (bt HB1.out hb2)
    clear hb2
    go_wp2
    go_ret
    exact ⟨rfl, HB2.out⟩
  have hsm : (cl : Int) ≤ 1100 := by omega
  have HSm := Lib.hid (show cl ≤ 1100 by omega)
  clear hbig
  obtain ⟨q, hq⟩ : ∃ q, formedP R xs = q := ⟨_, rfl⟩
  have CF := Lib.hid (show ∀ (W : World) (a : Option Addr) (c : Nat), IsI W a cl xs → Calls Try.prog 59 #[.agg #[.slice a cl c, .int .i64 R]] W fun e w' => e = .returned (.bool q) ∧ Below W.heap.size W w' from fun W a c h => by rw [← hq]; exact cform_any a cl c R xs W h)
  have CR := Lib.hid (show ∀ (W : World) (a : Option Addr) (c : Nat), IsI W a cl xs → Calls Try.prog 61 #[.agg #[.slice a cl c, .int .i64 R]] W fun e w' => e = .returned (.bool q) ∧ Below W.heap.size W w' from fun W a c h => by rw [← hq]; exact rform_any a cl c R xs W h)
  clear hq
  go_enter Try.func11, Try.ntmps11
  go_wp2_with fail
  rw [← HW.out]
  refine (cawake_any _).mono ?_
  rintro e w1 ⟨rfl, hb1⟩
  obtain ⟨q0, q1⟩ := Q.out w1 hb1
  have HB1 := Lib.hid (bt HB0.out hb1)
  have Q1 := Lib.hid (show ∀ W, Below w1.heap.size w1 W → W.cell? ⟨w.heap.size, 0, none⟩ = some (.slice ca cl cc) ∧ W.cell? ⟨w.heap.size, 1, none⟩ = some (.int .i64 R) from fun W hW => Q.out W (bt hb1 hW))
  have HI1 := Lib.hid (HI0.out.below hb1)
  clear hb1
  go_wp2_with fail
  refine wp_region_noPanic ?_
  go_region_held3 (fun w' => w'.cell? ⟨w.heap.size, 0, none⟩ = some (.slice ca cl cc) ∧ w'.cell? ⟨w.heap.size, 1, none⟩ = some (.int .i64 R) ∧ Below w1.heap.size w1 w')
    (first | exact ⟨q0, q1, Below.refl _ _⟩ | exact ⟨q0, q1, (Below.refl _ _).drew⟩ | exact ⟨by assumption, by assumption, by assumption⟩)
    (first
      | (go_at_call 60; refine (theirs_any ca cl cc R xs _ (HI1.out.below (lastT (by assumption))) HSm.out).mono ?_; rintro e w8 ⟨⟨a8, c8, rfl, hI8⟩, hb8⟩; have B8 := bt (lastT (by assumption)) hb8; obtain ⟨e0, e1⟩ := Q1.out w8 B8; have HI8 := Lib.hid hI8; clear hI8)
      | (go_at_call 59; refine (CF.out _ _ _ (IsI.below (by exact Hid.out (by assumption)) (by first | exact Below.refl _ _ | assumption))).mono ?_; rintro e w9 ⟨rfl, hb9⟩; have B9 := bt (lastT (by assumption)) hb9; obtain ⟨f0, f1⟩ := Q1.out w9 B9)
      | (go_at_call 61; refine (CR.out _ ca cc (HI1.out.below (lastT (by assumption)))).mono ?_; rintro e w10 ⟨rfl, hb10⟩; have B10 := bt (lastT (by assumption)) hb10; obtain ⟨g0, g1⟩ := Q1.out w10 B10))
  all_goals refine NoPanic.normal ?_
  all_goals go_wp2_with fail
  all_goals go_ret
  all_goals exact ⟨by simp, bt HB1.out (by assumption)⟩
end Go.Proofs.Ytmackldddhfmjaa
