/- Contracts of code's fits: the others of two more registers; jumps. -/
import Derived.Test.YtafhgilikcablaaCFit0
namespace Go.Proofs.Ytafhgilikcablaa
open Go.RowKit
set_option linter.unusedVariables false
set_option linter.unusedSimpArgs false
set_option maxRecDepth 100000

theorem class_add : opClass ⟨#[43]⟩ = 3 := by unfold opClass; rw [ByteArray.toList_eq]; rfl
set_option maxHeartbeats 1600000 in
theorem fits_add (ca : Option Addr) (cl cc : Nat) (R i a b c k n : Int) (s : ByteArray) (w : World) (hcl : cl ≤ 9223372036854775807) :
    Calls Try.prog 116 #[.agg #[.slice ca cl cc, .int .i64 R], .int .i64 i, .agg #[.string ⟨#[43]⟩, .int .i64 a, .int .i64 b, .int .i64 c, .int .i64 k, .int .i64 n, .string s]] w fun e w' => e = .returned (.bool (fitsB cl R i ⟨⟨#[43]⟩, a, b, c, (k, n, s)⟩)) ∧ Below w.heap.size w w' := by
  have HE := Lib.hid (show fitsB cl R i ⟨⟨#[43]⟩, a, b, c, (k, n, s)⟩ = (hasB R a && hasB R b && hasB R c) by unfold fitsB; rw [class_add]; rfl)
  rw [HE.out]
  clear HE
  go_enter Try.func116, Try.ntmps116
  go_wp2_with (go_at_call 150; refine (has_any _ rfl _ _ _).mono ?_; rintro e w' ⟨rfl, rfl⟩)
  all_goals go_ret
  all_goals refine ⟨ret_bool ?_, by repeat (first | exact Below.refl _ _ | refine bel0 _ ?_)⟩
  all_goals first | (simp_all; done) | (simp_all; rfl) | (simp_all; omega)

theorem class_sub : opClass ⟨#[45]⟩ = 3 := by unfold opClass; rw [ByteArray.toList_eq]; rfl
set_option maxHeartbeats 1600000 in
theorem fits_sub (ca : Option Addr) (cl cc : Nat) (R i a b c k n : Int) (s : ByteArray) (w : World) (hcl : cl ≤ 9223372036854775807) :
    Calls Try.prog 116 #[.agg #[.slice ca cl cc, .int .i64 R], .int .i64 i, .agg #[.string ⟨#[45]⟩, .int .i64 a, .int .i64 b, .int .i64 c, .int .i64 k, .int .i64 n, .string s]] w fun e w' => e = .returned (.bool (fitsB cl R i ⟨⟨#[45]⟩, a, b, c, (k, n, s)⟩)) ∧ Below w.heap.size w w' := by
  have HE := Lib.hid (show fitsB cl R i ⟨⟨#[45]⟩, a, b, c, (k, n, s)⟩ = (hasB R a && hasB R b && hasB R c) by unfold fitsB; rw [class_sub]; rfl)
  rw [HE.out]
  clear HE
  go_enter Try.func116, Try.ntmps116
  go_wp2_with (go_at_call 150; refine (has_any _ rfl _ _ _).mono ?_; rintro e w' ⟨rfl, rfl⟩)
  all_goals go_ret
  all_goals refine ⟨ret_bool ?_, by repeat (first | exact Below.refl _ _ | refine bel0 _ ?_)⟩
  all_goals first | (simp_all; done) | (simp_all; rfl) | (simp_all; omega)

theorem class_mul : opClass ⟨#[42]⟩ = 3 := by unfold opClass; rw [ByteArray.toList_eq]; rfl
set_option maxHeartbeats 1600000 in
theorem fits_mul (ca : Option Addr) (cl cc : Nat) (R i a b c k n : Int) (s : ByteArray) (w : World) (hcl : cl ≤ 9223372036854775807) :
    Calls Try.prog 116 #[.agg #[.slice ca cl cc, .int .i64 R], .int .i64 i, .agg #[.string ⟨#[42]⟩, .int .i64 a, .int .i64 b, .int .i64 c, .int .i64 k, .int .i64 n, .string s]] w fun e w' => e = .returned (.bool (fitsB cl R i ⟨⟨#[42]⟩, a, b, c, (k, n, s)⟩)) ∧ Below w.heap.size w w' := by
  have HE := Lib.hid (show fitsB cl R i ⟨⟨#[42]⟩, a, b, c, (k, n, s)⟩ = (hasB R a && hasB R b && hasB R c) by unfold fitsB; rw [class_mul]; rfl)
  rw [HE.out]
  clear HE
  go_enter Try.func116, Try.ntmps116
  go_wp2_with (go_at_call 150; refine (has_any _ rfl _ _ _).mono ?_; rintro e w' ⟨rfl, rfl⟩)
  all_goals go_ret
  all_goals refine ⟨ret_bool ?_, by repeat (first | exact Below.refl _ _ | refine bel0 _ ?_)⟩
  all_goals first | (simp_all; done) | (simp_all; rfl) | (simp_all; omega)

theorem class_eq : opClass ⟨#[61]⟩ = 3 := by unfold opClass; rw [ByteArray.toList_eq]; rfl
set_option maxHeartbeats 1600000 in
theorem fits_eq (ca : Option Addr) (cl cc : Nat) (R i a b c k n : Int) (s : ByteArray) (w : World) (hcl : cl ≤ 9223372036854775807) :
    Calls Try.prog 116 #[.agg #[.slice ca cl cc, .int .i64 R], .int .i64 i, .agg #[.string ⟨#[61]⟩, .int .i64 a, .int .i64 b, .int .i64 c, .int .i64 k, .int .i64 n, .string s]] w fun e w' => e = .returned (.bool (fitsB cl R i ⟨⟨#[61]⟩, a, b, c, (k, n, s)⟩)) ∧ Below w.heap.size w w' := by
  have HE := Lib.hid (show fitsB cl R i ⟨⟨#[61]⟩, a, b, c, (k, n, s)⟩ = (hasB R a && hasB R b && hasB R c) by unfold fitsB; rw [class_eq]; rfl)
  rw [HE.out]
  clear HE
  go_enter Try.func116, Try.ntmps116
  go_wp2_with (go_at_call 150; refine (has_any _ rfl _ _ _).mono ?_; rintro e w' ⟨rfl, rfl⟩)
  all_goals go_ret
  all_goals refine ⟨ret_bool ?_, by repeat (first | exact Below.refl _ _ | refine bel0 _ ?_)⟩
  all_goals first | (simp_all; done) | (simp_all; rfl) | (simp_all; omega)

theorem class_ne : opClass ⟨#[60, 62]⟩ = 3 := by unfold opClass; rw [ByteArray.toList_eq]; rfl
set_option maxHeartbeats 1600000 in
theorem fits_ne (ca : Option Addr) (cl cc : Nat) (R i a b c k n : Int) (s : ByteArray) (w : World) (hcl : cl ≤ 9223372036854775807) :
    Calls Try.prog 116 #[.agg #[.slice ca cl cc, .int .i64 R], .int .i64 i, .agg #[.string ⟨#[60, 62]⟩, .int .i64 a, .int .i64 b, .int .i64 c, .int .i64 k, .int .i64 n, .string s]] w fun e w' => e = .returned (.bool (fitsB cl R i ⟨⟨#[60, 62]⟩, a, b, c, (k, n, s)⟩)) ∧ Below w.heap.size w w' := by
  have HE := Lib.hid (show fitsB cl R i ⟨⟨#[60, 62]⟩, a, b, c, (k, n, s)⟩ = (hasB R a && hasB R b && hasB R c) by unfold fitsB; rw [class_ne]; rfl)
  rw [HE.out]
  clear HE
  go_enter Try.func116, Try.ntmps116
  go_wp2_with (go_at_call 150; refine (has_any _ rfl _ _ _).mono ?_; rintro e w' ⟨rfl, rfl⟩)
  all_goals go_ret
  all_goals refine ⟨ret_bool ?_, by repeat (first | exact Below.refl _ _ | refine bel0 _ ?_)⟩
  all_goals first | (simp_all; done) | (simp_all; rfl) | (simp_all; omega)

theorem class_lt : opClass ⟨#[60]⟩ = 3 := by unfold opClass; rw [ByteArray.toList_eq]; rfl
set_option maxHeartbeats 1600000 in
theorem fits_lt (ca : Option Addr) (cl cc : Nat) (R i a b c k n : Int) (s : ByteArray) (w : World) (hcl : cl ≤ 9223372036854775807) :
    Calls Try.prog 116 #[.agg #[.slice ca cl cc, .int .i64 R], .int .i64 i, .agg #[.string ⟨#[60]⟩, .int .i64 a, .int .i64 b, .int .i64 c, .int .i64 k, .int .i64 n, .string s]] w fun e w' => e = .returned (.bool (fitsB cl R i ⟨⟨#[60]⟩, a, b, c, (k, n, s)⟩)) ∧ Below w.heap.size w w' := by
  have HE := Lib.hid (show fitsB cl R i ⟨⟨#[60]⟩, a, b, c, (k, n, s)⟩ = (hasB R a && hasB R b && hasB R c) by unfold fitsB; rw [class_lt]; rfl)
  rw [HE.out]
  clear HE
  go_enter Try.func116, Try.ntmps116
  go_wp2_with (go_at_call 150; refine (has_any _ rfl _ _ _).mono ?_; rintro e w' ⟨rfl, rfl⟩)
  all_goals go_ret
  all_goals refine ⟨ret_bool ?_, by repeat (first | exact Below.refl _ _ | refine bel0 _ ?_)⟩
  all_goals first | (simp_all; done) | (simp_all; rfl) | (simp_all; omega)
end Go.Proofs.Ytafhgilikcablaa
namespace Go.Proofs.Ytafhgilikcablaa
open Go.RowKit
set_option linter.unusedVariables false
set_option linter.unusedSimpArgs false
set_option maxRecDepth 100000

theorem class_le : opClass ⟨#[60, 61]⟩ = 3 := by unfold opClass; rw [ByteArray.toList_eq]; rfl
set_option maxHeartbeats 1600000 in
theorem fits_le (ca : Option Addr) (cl cc : Nat) (R i a b c k n : Int) (s : ByteArray) (w : World) (hcl : cl ≤ 9223372036854775807) :
    Calls Try.prog 116 #[.agg #[.slice ca cl cc, .int .i64 R], .int .i64 i, .agg #[.string ⟨#[60, 61]⟩, .int .i64 a, .int .i64 b, .int .i64 c, .int .i64 k, .int .i64 n, .string s]] w fun e w' => e = .returned (.bool (fitsB cl R i ⟨⟨#[60, 61]⟩, a, b, c, (k, n, s)⟩)) ∧ Below w.heap.size w w' := by
  have HE := Lib.hid (show fitsB cl R i ⟨⟨#[60, 61]⟩, a, b, c, (k, n, s)⟩ = (hasB R a && hasB R b && hasB R c) by unfold fitsB; rw [class_le]; rfl)
  rw [HE.out]
  clear HE
  go_enter Try.func116, Try.ntmps116
  go_wp2_with (go_at_call 150; refine (has_any _ rfl _ _ _).mono ?_; rintro e w' ⟨rfl, rfl⟩)
  all_goals go_ret
  all_goals refine ⟨ret_bool ?_, by repeat (first | exact Below.refl _ _ | refine bel0 _ ?_)⟩
  all_goals first | (simp_all; done) | (simp_all; rfl) | (simp_all; omega)

theorem class_gt : opClass ⟨#[62]⟩ = 3 := by unfold opClass; rw [ByteArray.toList_eq]; rfl
set_option maxHeartbeats 1600000 in
theorem fits_gt (ca : Option Addr) (cl cc : Nat) (R i a b c k n : Int) (s : ByteArray) (w : World) (hcl : cl ≤ 9223372036854775807) :
    Calls Try.prog 116 #[.agg #[.slice ca cl cc, .int .i64 R], .int .i64 i, .agg #[.string ⟨#[62]⟩, .int .i64 a, .int .i64 b, .int .i64 c, .int .i64 k, .int .i64 n, .string s]] w fun e w' => e = .returned (.bool (fitsB cl R i ⟨⟨#[62]⟩, a, b, c, (k, n, s)⟩)) ∧ Below w.heap.size w w' := by
  have HE := Lib.hid (show fitsB cl R i ⟨⟨#[62]⟩, a, b, c, (k, n, s)⟩ = (hasB R a && hasB R b && hasB R c) by unfold fitsB; rw [class_gt]; rfl)
  rw [HE.out]
  clear HE
  go_enter Try.func116, Try.ntmps116
  go_wp2_with (go_at_call 150; refine (has_any _ rfl _ _ _).mono ?_; rintro e w' ⟨rfl, rfl⟩)
  all_goals go_ret
  all_goals refine ⟨ret_bool ?_, by repeat (first | exact Below.refl _ _ | refine bel0 _ ?_)⟩
  all_goals first | (simp_all; done) | (simp_all; rfl) | (simp_all; omega)

theorem class_ge : opClass ⟨#[62, 61]⟩ = 3 := by unfold opClass; rw [ByteArray.toList_eq]; rfl
set_option maxHeartbeats 1600000 in
theorem fits_ge (ca : Option Addr) (cl cc : Nat) (R i a b c k n : Int) (s : ByteArray) (w : World) (hcl : cl ≤ 9223372036854775807) :
    Calls Try.prog 116 #[.agg #[.slice ca cl cc, .int .i64 R], .int .i64 i, .agg #[.string ⟨#[62, 61]⟩, .int .i64 a, .int .i64 b, .int .i64 c, .int .i64 k, .int .i64 n, .string s]] w fun e w' => e = .returned (.bool (fitsB cl R i ⟨⟨#[62, 61]⟩, a, b, c, (k, n, s)⟩)) ∧ Below w.heap.size w w' := by
  have HE := Lib.hid (show fitsB cl R i ⟨⟨#[62, 61]⟩, a, b, c, (k, n, s)⟩ = (hasB R a && hasB R b && hasB R c) by unfold fitsB; rw [class_ge]; rfl)
  rw [HE.out]
  clear HE
  go_enter Try.func116, Try.ntmps116
  go_wp2_with (go_at_call 150; refine (has_any _ rfl _ _ _).mono ?_; rintro e w' ⟨rfl, rfl⟩)
  all_goals go_ret
  all_goals refine ⟨ret_bool ?_, by repeat (first | exact Below.refl _ _ | refine bel0 _ ?_)⟩
  all_goals first | (simp_all; done) | (simp_all; rfl) | (simp_all; omega)

theorem class_and : opClass ⟨#[97, 110, 100]⟩ = 3 := by unfold opClass; rw [ByteArray.toList_eq]; rfl
set_option maxHeartbeats 1600000 in
theorem fits_and (ca : Option Addr) (cl cc : Nat) (R i a b c k n : Int) (s : ByteArray) (w : World) (hcl : cl ≤ 9223372036854775807) :
    Calls Try.prog 116 #[.agg #[.slice ca cl cc, .int .i64 R], .int .i64 i, .agg #[.string ⟨#[97, 110, 100]⟩, .int .i64 a, .int .i64 b, .int .i64 c, .int .i64 k, .int .i64 n, .string s]] w fun e w' => e = .returned (.bool (fitsB cl R i ⟨⟨#[97, 110, 100]⟩, a, b, c, (k, n, s)⟩)) ∧ Below w.heap.size w w' := by
  have HE := Lib.hid (show fitsB cl R i ⟨⟨#[97, 110, 100]⟩, a, b, c, (k, n, s)⟩ = (hasB R a && hasB R b && hasB R c) by unfold fitsB; rw [class_and]; rfl)
  rw [HE.out]
  clear HE
  go_enter Try.func116, Try.ntmps116
  go_wp2_with (go_at_call 150; refine (has_any _ rfl _ _ _).mono ?_; rintro e w' ⟨rfl, rfl⟩)
  all_goals go_ret
  all_goals refine ⟨ret_bool ?_, by repeat (first | exact Below.refl _ _ | refine bel0 _ ?_)⟩
  all_goals first | (simp_all; done) | (simp_all; rfl) | (simp_all; omega)

theorem class_or : opClass ⟨#[111, 114]⟩ = 3 := by unfold opClass; rw [ByteArray.toList_eq]; rfl
set_option maxHeartbeats 1600000 in
theorem fits_or (ca : Option Addr) (cl cc : Nat) (R i a b c k n : Int) (s : ByteArray) (w : World) (hcl : cl ≤ 9223372036854775807) :
    Calls Try.prog 116 #[.agg #[.slice ca cl cc, .int .i64 R], .int .i64 i, .agg #[.string ⟨#[111, 114]⟩, .int .i64 a, .int .i64 b, .int .i64 c, .int .i64 k, .int .i64 n, .string s]] w fun e w' => e = .returned (.bool (fitsB cl R i ⟨⟨#[111, 114]⟩, a, b, c, (k, n, s)⟩)) ∧ Below w.heap.size w w' := by
  have HE := Lib.hid (show fitsB cl R i ⟨⟨#[111, 114]⟩, a, b, c, (k, n, s)⟩ = (hasB R a && hasB R b && hasB R c) by unfold fitsB; rw [class_or]; rfl)
  rw [HE.out]
  clear HE
  go_enter Try.func116, Try.ntmps116
  go_wp2_with (go_at_call 150; refine (has_any _ rfl _ _ _).mono ?_; rintro e w' ⟨rfl, rfl⟩)
  all_goals go_ret
  all_goals refine ⟨ret_bool ?_, by repeat (first | exact Below.refl _ _ | refine bel0 _ ?_)⟩
  all_goals first | (simp_all; done) | (simp_all; rfl) | (simp_all; omega)

theorem class_false : opClass ⟨#[102, 97, 108, 115, 101]⟩ = 4 := by unfold opClass; rw [ByteArray.toList_eq]; rfl
set_option maxHeartbeats 1600000 in
theorem fits_false (ca : Option Addr) (cl cc : Nat) (R i a b c k n : Int) (s : ByteArray) (w : World) (hcl : cl ≤ 9223372036854775807) :
    Calls Try.prog 116 #[.agg #[.slice ca cl cc, .int .i64 R], .int .i64 i, .agg #[.string ⟨#[102, 97, 108, 115, 101]⟩, .int .i64 a, .int .i64 b, .int .i64 c, .int .i64 k, .int .i64 n, .string s]] w fun e w' => e = .returned (.bool (fitsB cl R i ⟨⟨#[102, 97, 108, 115, 101]⟩, a, b, c, (k, n, s)⟩)) ∧ Below w.heap.size w w' := by
  have HE := Lib.hid (show fitsB cl R i ⟨⟨#[102, 97, 108, 115, 101]⟩, a, b, c, (k, n, s)⟩ = (decide (a = 0) && hasB R b && decide (i < c) && decide (c ≤ cl)) by unfold fitsB; rw [class_false]; rfl)
  rw [HE.out]
  clear HE
  go_enter Try.func116, Try.ntmps116
  go_wp2_with (go_at_call 150; refine (has_any _ rfl _ _ _).mono ?_; rintro e w' ⟨rfl, rfl⟩)
  all_goals go_ret
  all_goals refine ⟨ret_bool ?_, by repeat (first | exact Below.refl _ _ | refine bel0 _ ?_)⟩
  all_goals first | (simp_all; done) | (simp_all; rfl) | (simp_all; omega)

theorem class_true : opClass ⟨#[116, 114, 117, 101]⟩ = 4 := by unfold opClass; rw [ByteArray.toList_eq]; rfl
set_option maxHeartbeats 1600000 in
theorem fits_true (ca : Option Addr) (cl cc : Nat) (R i a b c k n : Int) (s : ByteArray) (w : World) (hcl : cl ≤ 9223372036854775807) :
    Calls Try.prog 116 #[.agg #[.slice ca cl cc, .int .i64 R], .int .i64 i, .agg #[.string ⟨#[116, 114, 117, 101]⟩, .int .i64 a, .int .i64 b, .int .i64 c, .int .i64 k, .int .i64 n, .string s]] w fun e w' => e = .returned (.bool (fitsB cl R i ⟨⟨#[116, 114, 117, 101]⟩, a, b, c, (k, n, s)⟩)) ∧ Below w.heap.size w w' := by
  have HE := Lib.hid (show fitsB cl R i ⟨⟨#[116, 114, 117, 101]⟩, a, b, c, (k, n, s)⟩ = (decide (a = 0) && hasB R b && decide (i < c) && decide (c ≤ cl)) by unfold fitsB; rw [class_true]; rfl)
  rw [HE.out]
  clear HE
  go_enter Try.func116, Try.ntmps116
  go_wp2_with (go_at_call 150; refine (has_any _ rfl _ _ _).mono ?_; rintro e w' ⟨rfl, rfl⟩)
  all_goals go_ret
  all_goals refine ⟨ret_bool ?_, by repeat (first | exact Below.refl _ _ | refine bel0 _ ?_)⟩
  all_goals first | (simp_all; done) | (simp_all; rfl) | (simp_all; omega)
end Go.Proofs.Ytafhgilikcablaa
