/- Contracts of code's fits: const, col, those of one more register. -/
import Derived.Test.YtplgkblahmndoaaCFit
namespace Go.Proofs.Ytplgkblahmndoaa
open Go.RowKit
set_option linter.unusedVariables false
set_option maxRecDepth 100000

theorem class_const : opClass ⟨#[99, 111, 110, 115, 116]⟩ = 0 := by unfold opClass; rw [ByteArray.toList_eq]; rfl
set_option maxHeartbeats 1600000 in
theorem fits_const (ca : Option Addr) (cl cc : Nat) (R i a b c k n : Int) (s : ByteArray) (w : World) (hcl : cl ≤ 9223372036854775807) :
    Calls Try.prog 136 #[.agg #[.slice ca cl cc, .int .i64 R], .int .i64 i, .agg #[.string ⟨#[99, 111, 110, 115, 116]⟩, .int .i64 a, .int .i64 b, .int .i64 c, .int .i64 k, .int .i64 n, .string s]] w fun e w' => e = .returned (.bool (fitsB cl R i ⟨⟨#[99, 111, 110, 115, 116]⟩, a, b, c, (k, n, s)⟩)) ∧ Below w.heap.size w w' := by
  have HE := Lib.hid (show fitsB cl R i ⟨⟨#[99, 111, 110, 115, 116]⟩, a, b, c, (k, n, s)⟩ = (hasB R a && decide (b = 0) && decide (c = 0) && formedB k n s) by unfold fitsB; rw [class_const]; rfl)
  rw [HE.out]
  clear HE
  go_enter Try.func136, Try.ntmps136
  go_wp2_with (first | (go_at_call 177; refine (has_any _ rfl _ _ _).mono ?_; rintro e w' ⟨rfl, rfl⟩) | (go_at_call 115; refine (formed_any _ _ _ _).mono ?_; rintro e w' ⟨rfl, rfl⟩))
  all_goals go_ret
  all_goals refine ⟨ret_bool ?_, by repeat (first | exact Below.refl _ _ | refine bel0 _ ?_)⟩
  all_goals first | (simp_all; done) | (simp_all; rfl) | (simp_all; omega)

theorem class_col : opClass ⟨#[99, 111, 108]⟩ = 1 := by unfold opClass; rw [ByteArray.toList_eq]; rfl
set_option maxHeartbeats 1600000 in
theorem fits_col (ca : Option Addr) (cl cc : Nat) (R i a b c k n : Int) (s : ByteArray) (w : World) (hcl : cl ≤ 9223372036854775807) :
    Calls Try.prog 136 #[.agg #[.slice ca cl cc, .int .i64 R], .int .i64 i, .agg #[.string ⟨#[99, 111, 108]⟩, .int .i64 a, .int .i64 b, .int .i64 c, .int .i64 k, .int .i64 n, .string s]] w fun e w' => e = .returned (.bool (fitsB cl R i ⟨⟨#[99, 111, 108]⟩, a, b, c, (k, n, s)⟩)) ∧ Below w.heap.size w w' := by
  have HE := Lib.hid (show fitsB cl R i ⟨⟨#[99, 111, 108]⟩, a, b, c, (k, n, s)⟩ = (hasB R a && decide (0 ≤ b) && decide (0 ≤ c)) by unfold fitsB; rw [class_col]; rfl)
  rw [HE.out]
  clear HE
  go_enter Try.func136, Try.ntmps136
  go_wp2_with (go_at_call 177; refine (has_any _ rfl _ _ _).mono ?_; rintro e w' ⟨rfl, rfl⟩)
  all_goals go_ret
  all_goals refine ⟨ret_bool ?_, by repeat (first | exact Below.refl _ _ | refine bel0 _ ?_)⟩
  all_goals first | (simp_all; done) | (simp_all; rfl) | (simp_all; omega)

theorem class_neg : opClass ⟨#[110, 101, 103]⟩ = 2 := by unfold opClass; rw [ByteArray.toList_eq]; rfl
set_option maxHeartbeats 1600000 in
theorem fits_neg (ca : Option Addr) (cl cc : Nat) (R i a b c k n : Int) (s : ByteArray) (w : World) (hcl : cl ≤ 9223372036854775807) :
    Calls Try.prog 136 #[.agg #[.slice ca cl cc, .int .i64 R], .int .i64 i, .agg #[.string ⟨#[110, 101, 103]⟩, .int .i64 a, .int .i64 b, .int .i64 c, .int .i64 k, .int .i64 n, .string s]] w fun e w' => e = .returned (.bool (fitsB cl R i ⟨⟨#[110, 101, 103]⟩, a, b, c, (k, n, s)⟩)) ∧ Below w.heap.size w w' := by
  have HE := Lib.hid (show fitsB cl R i ⟨⟨#[110, 101, 103]⟩, a, b, c, (k, n, s)⟩ = (hasB R a && hasB R b && decide (c = 0)) by unfold fitsB; rw [class_neg]; rfl)
  rw [HE.out]
  clear HE
  go_enter Try.func136, Try.ntmps136
  go_wp2_with (go_at_call 177; refine (has_any _ rfl _ _ _).mono ?_; rintro e w' ⟨rfl, rfl⟩)
  all_goals go_ret
  all_goals refine ⟨ret_bool ?_, by repeat (first | exact Below.refl _ _ | refine bel0 _ ?_)⟩
  all_goals first | (simp_all; done) | (simp_all; rfl) | (simp_all; omega)

theorem class_null : opClass ⟨#[110, 117, 108, 108]⟩ = 2 := by unfold opClass; rw [ByteArray.toList_eq]; rfl
set_option maxHeartbeats 1600000 in
theorem fits_null (ca : Option Addr) (cl cc : Nat) (R i a b c k n : Int) (s : ByteArray) (w : World) (hcl : cl ≤ 9223372036854775807) :
    Calls Try.prog 136 #[.agg #[.slice ca cl cc, .int .i64 R], .int .i64 i, .agg #[.string ⟨#[110, 117, 108, 108]⟩, .int .i64 a, .int .i64 b, .int .i64 c, .int .i64 k, .int .i64 n, .string s]] w fun e w' => e = .returned (.bool (fitsB cl R i ⟨⟨#[110, 117, 108, 108]⟩, a, b, c, (k, n, s)⟩)) ∧ Below w.heap.size w w' := by
  have HE := Lib.hid (show fitsB cl R i ⟨⟨#[110, 117, 108, 108]⟩, a, b, c, (k, n, s)⟩ = (hasB R a && hasB R b && decide (c = 0)) by unfold fitsB; rw [class_null]; rfl)
  rw [HE.out]
  clear HE
  go_enter Try.func136, Try.ntmps136
  go_wp2_with (go_at_call 177; refine (has_any _ rfl _ _ _).mono ?_; rintro e w' ⟨rfl, rfl⟩)
  all_goals go_ret
  all_goals refine ⟨ret_bool ?_, by repeat (first | exact Below.refl _ _ | refine bel0 _ ?_)⟩
  all_goals first | (simp_all; done) | (simp_all; rfl) | (simp_all; omega)

theorem class_some : opClass ⟨#[115, 111, 109, 101]⟩ = 2 := by unfold opClass; rw [ByteArray.toList_eq]; rfl
set_option maxHeartbeats 1600000 in
theorem fits_some (ca : Option Addr) (cl cc : Nat) (R i a b c k n : Int) (s : ByteArray) (w : World) (hcl : cl ≤ 9223372036854775807) :
    Calls Try.prog 136 #[.agg #[.slice ca cl cc, .int .i64 R], .int .i64 i, .agg #[.string ⟨#[115, 111, 109, 101]⟩, .int .i64 a, .int .i64 b, .int .i64 c, .int .i64 k, .int .i64 n, .string s]] w fun e w' => e = .returned (.bool (fitsB cl R i ⟨⟨#[115, 111, 109, 101]⟩, a, b, c, (k, n, s)⟩)) ∧ Below w.heap.size w w' := by
  have HE := Lib.hid (show fitsB cl R i ⟨⟨#[115, 111, 109, 101]⟩, a, b, c, (k, n, s)⟩ = (hasB R a && hasB R b && decide (c = 0)) by unfold fitsB; rw [class_some]; rfl)
  rw [HE.out]
  clear HE
  go_enter Try.func136, Try.ntmps136
  go_wp2_with (go_at_call 177; refine (has_any _ rfl _ _ _).mono ?_; rintro e w' ⟨rfl, rfl⟩)
  all_goals go_ret
  all_goals refine ⟨ret_bool ?_, by repeat (first | exact Below.refl _ _ | refine bel0 _ ?_)⟩
  all_goals first | (simp_all; done) | (simp_all; rfl) | (simp_all; omega)

theorem class_not : opClass ⟨#[110, 111, 116]⟩ = 2 := by unfold opClass; rw [ByteArray.toList_eq]; rfl
set_option maxHeartbeats 1600000 in
theorem fits_not (ca : Option Addr) (cl cc : Nat) (R i a b c k n : Int) (s : ByteArray) (w : World) (hcl : cl ≤ 9223372036854775807) :
    Calls Try.prog 136 #[.agg #[.slice ca cl cc, .int .i64 R], .int .i64 i, .agg #[.string ⟨#[110, 111, 116]⟩, .int .i64 a, .int .i64 b, .int .i64 c, .int .i64 k, .int .i64 n, .string s]] w fun e w' => e = .returned (.bool (fitsB cl R i ⟨⟨#[110, 111, 116]⟩, a, b, c, (k, n, s)⟩)) ∧ Below w.heap.size w w' := by
  have HE := Lib.hid (show fitsB cl R i ⟨⟨#[110, 111, 116]⟩, a, b, c, (k, n, s)⟩ = (hasB R a && hasB R b && decide (c = 0)) by unfold fitsB; rw [class_not]; rfl)
  rw [HE.out]
  clear HE
  go_enter Try.func136, Try.ntmps136
  go_wp2_with (go_at_call 177; refine (has_any _ rfl _ _ _).mono ?_; rintro e w' ⟨rfl, rfl⟩)
  all_goals go_ret
  all_goals refine ⟨ret_bool ?_, by repeat (first | exact Below.refl _ _ | refine bel0 _ ?_)⟩
  all_goals first | (simp_all; done) | (simp_all; rfl) | (simp_all; omega)

theorem class_copy : opClass ⟨#[99, 111, 112, 121]⟩ = 2 := by unfold opClass; rw [ByteArray.toList_eq]; rfl
set_option maxHeartbeats 1600000 in
theorem fits_copy (ca : Option Addr) (cl cc : Nat) (R i a b c k n : Int) (s : ByteArray) (w : World) (hcl : cl ≤ 9223372036854775807) :
    Calls Try.prog 136 #[.agg #[.slice ca cl cc, .int .i64 R], .int .i64 i, .agg #[.string ⟨#[99, 111, 112, 121]⟩, .int .i64 a, .int .i64 b, .int .i64 c, .int .i64 k, .int .i64 n, .string s]] w fun e w' => e = .returned (.bool (fitsB cl R i ⟨⟨#[99, 111, 112, 121]⟩, a, b, c, (k, n, s)⟩)) ∧ Below w.heap.size w w' := by
  have HE := Lib.hid (show fitsB cl R i ⟨⟨#[99, 111, 112, 121]⟩, a, b, c, (k, n, s)⟩ = (hasB R a && hasB R b && decide (c = 0)) by unfold fitsB; rw [class_copy]; rfl)
  rw [HE.out]
  clear HE
  go_enter Try.func136, Try.ntmps136
  go_wp2_with (go_at_call 177; refine (has_any _ rfl _ _ _).mono ?_; rintro e w' ⟨rfl, rfl⟩)
  all_goals go_ret
  all_goals refine ⟨ret_bool ?_, by repeat (first | exact Below.refl _ _ | refine bel0 _ ?_)⟩
  all_goals first | (simp_all; done) | (simp_all; rfl) | (simp_all; omega)
end Go.Proofs.Ytplgkblahmndoaa
