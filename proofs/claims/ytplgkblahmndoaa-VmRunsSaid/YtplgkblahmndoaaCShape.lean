/- Contract of the document's shape: every word of an instruction. -/
import Derived.Test.YtplgkblahmndoaaCFit4
namespace Go.Proofs.Ytplgkblahmndoaa
open Go.RowKit
set_option linter.unusedVariables false
set_option maxRecDepth 100000

set_option maxHeartbeats 800000 in
theorem shape_const (w : World) : Calls Try.prog 143 #[.string ⟨#[99, 111, 110, 115, 116]⟩] w fun e w' => e = .returned (.int .i64 0) ∧ w' = w := by
  go_enter Try.func143, Try.ntmps143
  go_wp2
  go_ret
  exact ⟨rfl, rfl⟩

set_option maxHeartbeats 800000 in
theorem shape_col (w : World) : Calls Try.prog 143 #[.string ⟨#[99, 111, 108]⟩] w fun e w' => e = .returned (.int .i64 0) ∧ w' = w := by
  go_enter Try.func143, Try.ntmps143
  go_wp2
  go_ret
  exact ⟨rfl, rfl⟩

set_option maxHeartbeats 800000 in
theorem shape_neg (w : World) : Calls Try.prog 143 #[.string ⟨#[110, 101, 103]⟩] w fun e w' => e = .returned (.int .i64 1) ∧ w' = w := by
  go_enter Try.func143, Try.ntmps143
  go_wp2
  go_ret
  exact ⟨rfl, rfl⟩

set_option maxHeartbeats 800000 in
theorem shape_null (w : World) : Calls Try.prog 143 #[.string ⟨#[110, 117, 108, 108]⟩] w fun e w' => e = .returned (.int .i64 1) ∧ w' = w := by
  go_enter Try.func143, Try.ntmps143
  go_wp2
  go_ret
  exact ⟨rfl, rfl⟩

set_option maxHeartbeats 800000 in
theorem shape_some (w : World) : Calls Try.prog 143 #[.string ⟨#[115, 111, 109, 101]⟩] w fun e w' => e = .returned (.int .i64 1) ∧ w' = w := by
  go_enter Try.func143, Try.ntmps143
  go_wp2
  go_ret
  exact ⟨rfl, rfl⟩

set_option maxHeartbeats 800000 in
theorem shape_not (w : World) : Calls Try.prog 143 #[.string ⟨#[110, 111, 116]⟩] w fun e w' => e = .returned (.int .i64 1) ∧ w' = w := by
  go_enter Try.func143, Try.ntmps143
  go_wp2
  go_ret
  exact ⟨rfl, rfl⟩

set_option maxHeartbeats 800000 in
theorem shape_copy (w : World) : Calls Try.prog 143 #[.string ⟨#[99, 111, 112, 121]⟩] w fun e w' => e = .returned (.int .i64 1) ∧ w' = w := by
  go_enter Try.func143, Try.ntmps143
  go_wp2
  go_ret
  exact ⟨rfl, rfl⟩

set_option maxHeartbeats 800000 in
theorem shape_add (w : World) : Calls Try.prog 143 #[.string ⟨#[43]⟩] w fun e w' => e = .returned (.int .i64 2) ∧ w' = w := by
  go_enter Try.func143, Try.ntmps143
  go_wp2
  go_ret
  exact ⟨rfl, rfl⟩

set_option maxHeartbeats 800000 in
theorem shape_sub (w : World) : Calls Try.prog 143 #[.string ⟨#[45]⟩] w fun e w' => e = .returned (.int .i64 2) ∧ w' = w := by
  go_enter Try.func143, Try.ntmps143
  go_wp2
  go_ret
  exact ⟨rfl, rfl⟩

set_option maxHeartbeats 800000 in
theorem shape_mul (w : World) : Calls Try.prog 143 #[.string ⟨#[42]⟩] w fun e w' => e = .returned (.int .i64 2) ∧ w' = w := by
  go_enter Try.func143, Try.ntmps143
  go_wp2
  go_ret
  exact ⟨rfl, rfl⟩

set_option maxHeartbeats 800000 in
theorem shape_eq (w : World) : Calls Try.prog 143 #[.string ⟨#[61]⟩] w fun e w' => e = .returned (.int .i64 2) ∧ w' = w := by
  go_enter Try.func143, Try.ntmps143
  go_wp2
  go_ret
  exact ⟨rfl, rfl⟩

set_option maxHeartbeats 800000 in
theorem shape_ne (w : World) : Calls Try.prog 143 #[.string ⟨#[60, 62]⟩] w fun e w' => e = .returned (.int .i64 2) ∧ w' = w := by
  go_enter Try.func143, Try.ntmps143
  go_wp2
  go_ret
  exact ⟨rfl, rfl⟩

set_option maxHeartbeats 800000 in
theorem shape_lt (w : World) : Calls Try.prog 143 #[.string ⟨#[60]⟩] w fun e w' => e = .returned (.int .i64 2) ∧ w' = w := by
  go_enter Try.func143, Try.ntmps143
  go_wp2
  go_ret
  exact ⟨rfl, rfl⟩

set_option maxHeartbeats 800000 in
theorem shape_le (w : World) : Calls Try.prog 143 #[.string ⟨#[60, 61]⟩] w fun e w' => e = .returned (.int .i64 2) ∧ w' = w := by
  go_enter Try.func143, Try.ntmps143
  go_wp2
  go_ret
  exact ⟨rfl, rfl⟩

set_option maxHeartbeats 800000 in
theorem shape_gt (w : World) : Calls Try.prog 143 #[.string ⟨#[62]⟩] w fun e w' => e = .returned (.int .i64 2) ∧ w' = w := by
  go_enter Try.func143, Try.ntmps143
  go_wp2
  go_ret
  exact ⟨rfl, rfl⟩

set_option maxHeartbeats 800000 in
theorem shape_ge (w : World) : Calls Try.prog 143 #[.string ⟨#[62, 61]⟩] w fun e w' => e = .returned (.int .i64 2) ∧ w' = w := by
  go_enter Try.func143, Try.ntmps143
  go_wp2
  go_ret
  exact ⟨rfl, rfl⟩

set_option maxHeartbeats 800000 in
theorem shape_and (w : World) : Calls Try.prog 143 #[.string ⟨#[97, 110, 100]⟩] w fun e w' => e = .returned (.int .i64 2) ∧ w' = w := by
  go_enter Try.func143, Try.ntmps143
  go_wp2
  go_ret
  exact ⟨rfl, rfl⟩

set_option maxHeartbeats 800000 in
theorem shape_or (w : World) : Calls Try.prog 143 #[.string ⟨#[111, 114]⟩] w fun e w' => e = .returned (.int .i64 2) ∧ w' = w := by
  go_enter Try.func143, Try.ntmps143
  go_wp2
  go_ret
  exact ⟨rfl, rfl⟩

set_option maxHeartbeats 800000 in
theorem shape_false (w : World) : Calls Try.prog 143 #[.string ⟨#[102, 97, 108, 115, 101]⟩] w fun e w' => e = .returned (.int .i64 (-1)) ∧ w' = w := by
  go_enter Try.func143, Try.ntmps143
  go_wp2
  go_ret
  exact ⟨rfl, rfl⟩

set_option maxHeartbeats 800000 in
theorem shape_true (w : World) : Calls Try.prog 143 #[.string ⟨#[116, 114, 117, 101]⟩] w fun e w' => e = .returned (.int .i64 (-1)) ∧ w' = w := by
  go_enter Try.func143, Try.ntmps143
  go_wp2
  go_ret
  exact ⟨rfl, rfl⟩

set_option maxHeartbeats 1600000 in
theorem shape_other (op : ByteArray) (h0 : (op.toList == [99, 111, 110, 115, 116]) = false) (h1 : (op.toList == [99, 111, 108]) = false) (h2 : (op.toList == [110, 101, 103]) = false) (h3 : (op.toList == [110, 117, 108, 108]) = false) (h4 : (op.toList == [115, 111, 109, 101]) = false) (h5 : (op.toList == [110, 111, 116]) = false) (h6 : (op.toList == [99, 111, 112, 121]) = false) (h7 : (op.toList == [43]) = false) (h8 : (op.toList == [45]) = false) (h9 : (op.toList == [42]) = false) (h10 : (op.toList == [61]) = false) (h11 : (op.toList == [60, 62]) = false) (h12 : (op.toList == [60]) = false) (h13 : (op.toList == [60, 61]) = false) (h14 : (op.toList == [62]) = false) (h15 : (op.toList == [62, 61]) = false) (h16 : (op.toList == [97, 110, 100]) = false) (h17 : (op.toList == [111, 114]) = false) (h18 : (op.toList == [102, 97, 108, 115, 101]) = false) (h19 : (op.toList == [116, 114, 117, 101]) = false) (w : World) : Calls Try.prog 143 #[.string op] w fun e w' => e = .returned (.int .i64 (-1)) ∧ w' = w := by
  go_enter Try.func143, Try.ntmps143
  go_wp2
  go_ret
  exact ⟨rfl, rfl⟩

/-- how many more registers a class takes -/
def shapeN : Nat → Int
  | 0 => 0
  | 1 => 0
  | 2 => 1
  | 3 => 2
  | _ => -1
theorem shape_any (op : ByteArray) (w : World) : Calls Try.prog 143 #[.string op] w fun e w' => e = .returned (.int .i64 (shapeN (opClass op))) ∧ w' = w := by
  rcases op_cases op with rfl | rfl | rfl | rfl | rfl | rfl | rfl | rfl | rfl | rfl | rfl | rfl | rfl | rfl | rfl | rfl | rfl | rfl | rfl | rfl | ⟨h0, h1, h2, h3, h4, h5, h6, h7, h8, h9, h10, h11, h12, h13, h14, h15, h16, h17, h18, h19⟩
  · rw [class_const]; exact shape_const w
  · rw [class_col]; exact shape_col w
  · rw [class_neg]; exact shape_neg w
  · rw [class_null]; exact shape_null w
  · rw [class_some]; exact shape_some w
  · rw [class_not]; exact shape_not w
  · rw [class_copy]; exact shape_copy w
  · rw [class_add]; exact shape_add w
  · rw [class_sub]; exact shape_sub w
  · rw [class_mul]; exact shape_mul w
  · rw [class_eq]; exact shape_eq w
  · rw [class_ne]; exact shape_ne w
  · rw [class_lt]; exact shape_lt w
  · rw [class_le]; exact shape_le w
  · rw [class_gt]; exact shape_gt w
  · rw [class_ge]; exact shape_ge w
  · rw [class_and]; exact shape_and w
  · rw [class_or]; exact shape_or w
  · rw [class_false]; exact shape_false w
  · rw [class_true]; exact shape_true w
  · rw [class_other op h0 h1 h2 h3 h4 h5 h6 h7 h8 h9 h10 h11 h12 h13 h14 h15 h16 h17 h18 h19]
    exact shape_other op h0 h1 h2 h3 h4 h5 h6 h7 h8 h9 h10 h11 h12 h13 h14 h15 h16 h17 h18 h19 w

/-- what the document's tests of a word say, by its class -/
theorem class_facts (op : ByteArray) :
    (opClass op = 0 ∧ (op.toList == [99, 111, 110, 115, 116]) = true ∧ (op.toList == [102, 97, 108, 115, 101]) = false ∧ (op.toList == [116, 114, 117, 101]) = false ∧ (op.toList == [99, 111, 108]) = false) ∨
    (opClass op = 1 ∧ (op.toList == [99, 111, 110, 115, 116]) = false ∧ (op.toList == [102, 97, 108, 115, 101]) = false ∧ (op.toList == [116, 114, 117, 101]) = false ∧ (op.toList == [99, 111, 108]) = true) ∨
    ((opClass op = 2 ∨ opClass op = 3 ∨ opClass op = 5) ∧ (op.toList == [99, 111, 110, 115, 116]) = false ∧ (op.toList == [102, 97, 108, 115, 101]) = false ∧ (op.toList == [116, 114, 117, 101]) = false ∧ (op.toList == [99, 111, 108]) = false) ∨
    (opClass op = 4 ∧ (op.toList == [99, 111, 110, 115, 116]) = false ∧ (op.toList == [102, 97, 108, 115, 101]) = true) ∨
    (opClass op = 4 ∧ (op.toList == [99, 111, 110, 115, 116]) = false ∧ (op.toList == [102, 97, 108, 115, 101]) = false ∧ (op.toList == [116, 114, 117, 101]) = true) := by
  rcases op_cases op with rfl | rfl | rfl | rfl | rfl | rfl | rfl | rfl | rfl | rfl | rfl | rfl | rfl | rfl | rfl | rfl | rfl | rfl | rfl | rfl | ⟨h0, h1, h2, h3, h4, h5, h6, h7, h8, h9, h10, h11, h12, h13, h14, h15, h16, h17, h18, h19⟩
  · simp only [ByteArray.toList_eq]; exact .inl ⟨class_const, rfl, rfl, rfl, rfl⟩
  · simp only [ByteArray.toList_eq]; exact .inr (.inl ⟨class_col, rfl, rfl, rfl, rfl⟩)
  · simp only [ByteArray.toList_eq]; exact .inr (.inr (.inl ⟨.inl class_neg, rfl, rfl, rfl, rfl⟩))
  · simp only [ByteArray.toList_eq]; exact .inr (.inr (.inl ⟨.inl class_null, rfl, rfl, rfl, rfl⟩))
  · simp only [ByteArray.toList_eq]; exact .inr (.inr (.inl ⟨.inl class_some, rfl, rfl, rfl, rfl⟩))
  · simp only [ByteArray.toList_eq]; exact .inr (.inr (.inl ⟨.inl class_not, rfl, rfl, rfl, rfl⟩))
  · simp only [ByteArray.toList_eq]; exact .inr (.inr (.inl ⟨.inl class_copy, rfl, rfl, rfl, rfl⟩))
  · simp only [ByteArray.toList_eq]; exact .inr (.inr (.inl ⟨.inr (.inl class_add), rfl, rfl, rfl, rfl⟩))
  · simp only [ByteArray.toList_eq]; exact .inr (.inr (.inl ⟨.inr (.inl class_sub), rfl, rfl, rfl, rfl⟩))
  · simp only [ByteArray.toList_eq]; exact .inr (.inr (.inl ⟨.inr (.inl class_mul), rfl, rfl, rfl, rfl⟩))
  · simp only [ByteArray.toList_eq]; exact .inr (.inr (.inl ⟨.inr (.inl class_eq), rfl, rfl, rfl, rfl⟩))
  · simp only [ByteArray.toList_eq]; exact .inr (.inr (.inl ⟨.inr (.inl class_ne), rfl, rfl, rfl, rfl⟩))
  · simp only [ByteArray.toList_eq]; exact .inr (.inr (.inl ⟨.inr (.inl class_lt), rfl, rfl, rfl, rfl⟩))
  · simp only [ByteArray.toList_eq]; exact .inr (.inr (.inl ⟨.inr (.inl class_le), rfl, rfl, rfl, rfl⟩))
  · simp only [ByteArray.toList_eq]; exact .inr (.inr (.inl ⟨.inr (.inl class_gt), rfl, rfl, rfl, rfl⟩))
  · simp only [ByteArray.toList_eq]; exact .inr (.inr (.inl ⟨.inr (.inl class_ge), rfl, rfl, rfl, rfl⟩))
  · simp only [ByteArray.toList_eq]; exact .inr (.inr (.inl ⟨.inr (.inl class_and), rfl, rfl, rfl, rfl⟩))
  · simp only [ByteArray.toList_eq]; exact .inr (.inr (.inl ⟨.inr (.inl class_or), rfl, rfl, rfl, rfl⟩))
  · simp only [ByteArray.toList_eq]; exact .inr (.inr (.inr (.inl ⟨class_false, rfl, rfl⟩)))
  · simp only [ByteArray.toList_eq]; exact .inr (.inr (.inr (.inr ⟨class_true, rfl, rfl, rfl⟩)))
  · exact .inr (.inr (.inl ⟨.inr (.inr (class_other op h0 h1 h2 h3 h4 h5 h6 h7 h8 h9 h10 h11 h12 h13 h14 h15 h16 h17 h18 h19)), h0, h18, h19, h1⟩))
end Go.Proofs.Ytplgkblahmndoaa
