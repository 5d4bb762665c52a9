/- Layer 9's awake, beside the contracts for any disk. -/
import Derived.Test.YtafhgilikcablaaDkAwk0
import Derived.Test.YtafhgilikcablaaDkW
import Derived.Lib.SlBytesConst
import Derived.Deep.QuietTactic
import Derived.BigQuiet
namespace Go.Proofs.Ytafhgilikcablaa
open Go.RowKit
set_option linter.unusedVariables false
set_option maxRecDepth 100000

set_option maxHeartbeats 1600000 in
theorem dwrite (D g : Nat) (w : World) (hF : Fresh w D) (hc0 : w.cell? ⟨g, 0, none⟩ = some (.int .u8 97)) (hc1 : w.cell? ⟨g, 1, none⟩ = some (.int .u8 98)) :
    Calls Try.prog 39 #[.pointer (some ⟨D, 0, none⟩), .int .i64 0, .int .i64 0, .slice (some ⟨g, 0, none⟩) 2 2] w fun e w' => e = .returned (.int .i64 0) ∧
      (∃ h c, w'.cell? ⟨D, 0, none⟩ = some (.slice (some ⟨h, 0, none⟩) 2 c)) ∧ (∀ o, o ≠ 0 → o ≠ 2 → w'.cell? ⟨D, o, none⟩ = w.cell? ⟨D, o, none⟩) ∧ Below D w w' := by
  have HF := Lib.hid hF
  have HC0 := Lib.hid hc0
  have HC1 := Lib.hid hc1
  obtain ⟨f0, f1, f2, f3, f4, f5, f6, f7, f8⟩ := hF
  clear f2 f7 f8 hc0 hc1
  go_enter Try.func39, Try.ntmps39
  go_wp2_with fail
  refine (ready_ok D 0 (.inl rfl) _ f6).mono ?_
  rintro e w1 ⟨rfl, hw⟩
  subst hw
  go_wp2_with fail
  refine (size0 D none 0 0 _ f1).mono ?_
  rintro e w2 ⟨rfl, hw⟩
  subst hw
  go_wp2
  go_quiet ((go_at_call 40; exact Calls.quiet_of_same (size1 D none 0 0 _ f3)))
  go_wp2_with fail
  refine (change_ok D _ (by exact f5)).mono ?_
  rintro e w3 ⟨rfl, hw⟩
  subst hw
  go_wp2_with fail
  refine (fwrite D g _ (by exact HF.out) (by exact HC0.out) (by exact HC1.out)).mono ?_
  rintro e w4 ⟨rfl, h1, h2, h3⟩
  have H1 := Lib.hid h1
  have H2 := Lib.hid h2
  have H3 := Lib.hid h3
  clear h1 h2 h3
  go_wp2
  go_ret
  exact ⟨rfl, H1.out, H2.out, ⟨H3.out.os, H3.out.tape, H3.out.output, H3.out.size, H3.out.block⟩⟩

set_option maxHeartbeats 1600000 in
theorem dleft (D h c : Nat) (w : World) (h0 : w.cell? ⟨D, 0, none⟩ = some (.slice (some ⟨h, 0, none⟩) 2 c)) (h3 : w.cell? ⟨D, 3, none⟩ = some (.slice none 0 0)) (h6 : w.cell? ⟨D, 6, none⟩ = some (.int .i64 10)) :
    Calls Try.prog 41 #[.pointer (some ⟨D, 0, none⟩)] w fun e w' => e = .returned (.int .i64 8) ∧ ∃ n, w' = w.drewN n := by
  go_enter Try.func41, Try.ntmps41
  go_wp2
  have k0 := fun n => Calls.quiet_of_same (size0 D (some ⟨h, 0, none⟩) 2 c (w.drewN n) h0)
  have k1 := fun n => Calls.quiet_of_same (size1 D none 0 0 (w.drewN n) h3)
  go_quiet ((go_at_call 40; with_reducible first | exact k0 _ | exact k1 _))
  go_wp2
  go_ret
  exact ⟨rfl, _, rfl⟩

theorem ab_run (w : World) : (convert 30 30 (.slice (some ⟨w.heap.size, 0, none⟩) 2 2)).run Try.prog (w.alloc (.cells #[.int .u8 97, .int .u8 98] 5)) = .ok (.slice (some ⟨w.heap.size, 0, none⟩) 2 2) (w.alloc (.cells #[.int .u8 97, .int .u8 98] 5 (2, 3))) :=
  Lib.run_convert_bytes_const (P := Try.prog) w 30 5 #[.int .u8 97, .int .u8 98] 2 2 Try.underlying30 Try.underlying5

/-- a disk with two bytes in a file -/
def Two (w : World) (D : Nat) : Prop := (∃ h c, w.cell? ⟨D, 0, none⟩ = some (.slice (some ⟨h, 0, none⟩) 2 c)) ∧ w.cell? ⟨D, 3, none⟩ = some (.slice none 0 0) ∧ w.cell? ⟨D, 6, none⟩ = some (.int .i64 10)

set_option maxHeartbeats 1600000 in
theorem dawake_any (w : World) : Calls Try.prog 8 #[] w fun e w' => e = .returned (.bool true) ∧ Below w.heap.size w w' := by
  go_enter Try.func8, Try.ntmps8
  go_wp2_with fail
  refine (dnew _).mono ?_
  rintro e w1 ⟨rfl, hw1⟩
  have hF : Fresh w1 w.heap.size := by rw [hw1]; refine ⟨by simp, ?_, ?_, ?_, ?_, ?_, ?_, ?_, ?_⟩ <;> simp [go_sem]
  have hb1 : Below w.heap.size w w1 := by rw [hw1]; exact bel0 _ (Below.refl _ _)
  have hs1 : w1.heap.size = w.heap.size + 1 := by rw [hw1]; simp
  have hcv := ab_run w1
  have HF := Lib.hid (show Fresh (w1.alloc (.cells #[.int .u8 97, .int .u8 98] 5 (2, 3))) w.heap.size by
    obtain ⟨f0, f1, f2, f3, f4, f5, f6, f7, f8⟩ := hF
    refine ⟨by simp; omega, ?_, ?_, ?_, ?_, ?_, ?_, ?_, ?_⟩ <;> simp [go_sem, *])
  have HB1 := Lib.hid (show Below w.heap.size w (w1.alloc (.cells #[.int .u8 97, .int .u8 98] 5 (2, 3))) from bel0 _ hb1)
  have HC := Lib.hid (show (w1.alloc (.cells #[.int .u8 97, .int .u8 98] 5 (2, 3))).cell? ⟨w1.heap.size, 0, none⟩ = some (.int .u8 97) ∧ (w1.alloc (.cells #[.int .u8 97, .int .u8 98] 5 (2, 3))).cell? ⟨w1.heap.size, 1, none⟩ = some (.int .u8 98) from ⟨(World.cell?_alloc_mark w1 _ _ _ 0).trans rfl, (World.cell?_alloc_mark w1 _ _ _ 1).trans rfl⟩)
  clear hw1 hF hb1 hs1
  generalize w1.alloc (.cells #[.int .u8 97, .int .u8 98] 5 (2, 3)) = W2 at *
  go_wp2_with fail
  refine (dwrite w.heap.size w1.heap.size _ HF.out HC.out.1 HC.out.2).mono ?_
  rintro e w3 ⟨rfl, ⟨h, c, g0⟩, g1, hb3⟩
  have HB3 := Lib.hid (HB1.out.trans hb3)
  obtain ⟨f0, f1, f2, f3, f4, f5, f6, f7, f8⟩ := HF.out
  have g3 := (g1 3 (by omega) (by omega)).trans f3
  have g6 := (g1 6 (by omega) (by omega)).trans f4
  have HT := Lib.hid (show w3.cell? ⟨w.heap.size, 0, none⟩ = _ ∧ w3.cell? ⟨w.heap.size, 3, none⟩ = _ ∧ w3.cell? ⟨w.heap.size, 6, none⟩ = _ from ⟨g0, g3, g6⟩)
  clear f0 f1 f2 f3 f4 f5 f6 f7 f8 g1 g0 g3 g6 hb3 hcv
  go_wp2_with fail
  refine (size0 w.heap.size _ 2 c _ HT.out.1).mono ?_
  rintro e w4 ⟨rfl, hw⟩
  subst hw
  go_wp2_with fail
  refine (dleft w.heap.size h c _ HT.out.1 HT.out.2.1 HT.out.2.2).mono ?_
  rintro e w5 ⟨rfl, n, hw⟩
  have HB5 := Lib.hid (show Below w.heap.size w w5 by rw [hw]; exact ⟨HB3.out.os, HB3.out.tape, HB3.out.output, HB3.out.size, HB3.out.block⟩)
  clear hw
  go_wp2
  go_ret
  exact ⟨rfl, HB5.out⟩
end Go.Proofs.Ytafhgilikcablaa
