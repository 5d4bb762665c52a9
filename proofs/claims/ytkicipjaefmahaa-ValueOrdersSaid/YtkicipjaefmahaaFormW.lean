/- Contracts of Formed (the program's and the document's), of cmp.Compare at int, int64 and string, of ints and texts: by walks; no conditions. -/
import Derived.Test.YtkicipjaefmahaaProg
import Derived.Test.YtkicipjaefmahaaPure
import Derived.WalkKit
import Derived.WalkLawsBesides
import Derived.WalkSpells
import Derived.Outline
import Derived.BigQuiet
import Derived.Deep.QuietTactic
import Derived.Lib.Hide
namespace Go.Proofs.Ytkicipjaefmahaa
open Go.RowKit

theorem fB0 {k n : Int} {s : ByteArray} (hk : (k == 0) = true) (hn : n = 0) : s.toList.isEmpty = formedB k n s := by
  have := eq_of_beq hk; subst this hn
  unfold formedB; rw [Bool.eq_iff_iff]; simp
theorem fB0n {k n : Int} {s : ByteArray} (hk : (k == 0) = true) (hn : ¬ n = 0) : false = formedB k n s := by
  have := eq_of_beq hk; subst this
  unfold formedB; symm; rw [decide_eq_false_iff_not]; simp [hn]
theorem fB1 {k n : Int} {s : ByteArray} (hk : (k == 1) = true) : s.toList.isEmpty = formedB k n s := by
  have := eq_of_beq hk; subst this
  unfold formedB; rw [Bool.eq_iff_iff]; simp
theorem fB2 {k n : Int} {s : ByteArray} (hk : (k == 2) = true) (hn : n = 0) : decide ((s.size : Int) ≤ 100) = formedB k n s := by
  have := eq_of_beq hk; subst this hn
  unfold formedB; rw [Bool.eq_iff_iff]; simp; omega
theorem fB2n {k n : Int} {s : ByteArray} (hk : (k == 2) = true) (hn : ¬ n = 0) : false = formedB k n s := by
  have := eq_of_beq hk; subst this
  unfold formedB; symm; rw [decide_eq_false_iff_not]; simp [hn]
theorem fBn {k n : Int} {s : ByteArray} (h0 : (k == 0) = false) (h1 : (k == 1) = false) (h2 : (k == 2) = false) : false = formedB k n s := by
  unfold formedB; symm; rw [decide_eq_false_iff_not]
  have a := beq_eq_false_iff_ne.1 h0; have b := beq_eq_false_iff_ne.1 h1; have c := beq_eq_false_iff_ne.1 h2
  simp [a, b, c]

theorem formed_any (k n : Int) (s : ByteArray) (w : World) : Calls Try.prog 12 #[.agg #[.int .i64 k, .int .i64 n, .string s]] w fun e w' => e = .returned (.bool (formedB k n s)) ∧ w.alloc (.cells #[.int .i64 k, .int .i64 n, .string s] 23) = w' := by
  go_enter Try.func12, Try.ntmps12
  go_wp2
  all_goals go_ret
  all_goals first
    | exact ⟨ret_bool (fB0 ‹_› ‹_›), by subst_vars; rfl⟩
    | exact ⟨ret_bool (fB0 ‹_› rfl), rfl⟩
    | exact ⟨ret_bool (fB0n ‹_› ‹_›), rfl⟩
    | exact ⟨ret_bool (fB1 ‹_›), rfl⟩
    | exact ⟨ret_bool (fB2 ‹_› ‹_›), by subst_vars; rfl⟩
    | exact ⟨ret_bool (fB2n ‹_› ‹_›), rfl⟩
    | exact ⟨ret_bool (fBn ‹_› ‹_› ‹_›), rfl⟩

theorem rformed_any (k n : Int) (s : ByteArray) (w : World) : Calls Try.prog 13 #[.agg #[.int .i64 k, .int .i64 n, .string s]] w fun e w' => e = .returned (.bool (formedB k n s)) ∧ w.alloc (.cells #[.int .i64 k, .int .i64 n, .string s] 23) = w' := by
  go_enter Try.func13, Try.ntmps13
  go_wp2
  all_goals go_ret
  all_goals first
    | exact ⟨ret_bool (fB0 ‹_› ‹_›), by subst_vars; rfl⟩
    | exact ⟨ret_bool (fB0 ‹_› rfl), rfl⟩
    | exact ⟨ret_bool (fB0n ‹_› ‹_›), rfl⟩
    | exact ⟨ret_bool (fB1 ‹_›), rfl⟩
    | exact ⟨ret_bool (fB2 ‹_› ‹_›), by subst_vars; rfl⟩
    | exact ⟨ret_bool (fB2n ‹_› ‹_›), rfl⟩
    | exact ⟨ret_bool (fBn ‹_› ‹_› ‹_›), rfl⟩

theorem oI_lt {a b : Int} (h : a < b) : (-1 : Int) = ordI a b := by unfold ordI; rw [if_pos h]
theorem oI_gt {a b : Int} (h : b < a) : (1 : Int) = ordI a b := by unfold ordI; rw [if_neg (by omega), if_pos h]
theorem oI_eq {a b : Int} (h1 : ¬ a < b) (h : ¬ b < a) : (0 : Int) = ordI a b := by unfold ordI; rw [if_neg h1, if_neg h]

theorem cmpI_any (a b : Int) (w : World) : Calls Try.prog 31 #[.int .i64 a, .int .i64 b] w fun e w' => e = .returned (.int .i64 (ordI a b)) ∧ w = w' := by
  by_cases h1 : a < b
  · rw [← oI_lt h1]
    go_enter Try.func31, Try.ntmps31
    go_wp2
    go_ret
    exact ⟨rfl, rfl⟩
  · by_cases h2 : b < a
    · rw [← oI_gt h2]
      go_enter Try.func31, Try.ntmps31
      go_wp2
      go_ret
      exact ⟨rfl, rfl⟩
    · rw [← oI_eq h1 h2]
      go_enter Try.func31, Try.ntmps31
      go_wp2
      go_ret
      exact ⟨rfl, rfl⟩

theorem cmpL_any (a b : Int) (w : World) : Calls Try.prog 32 #[.int .i64 a, .int .i64 b] w fun e w' => e = .returned (.int .i64 (ordI a b)) ∧ w = w' := by
  by_cases h1 : a < b
  · rw [← oI_lt h1]
    go_enter Try.func32, Try.ntmps32
    go_wp2
    go_ret
    exact ⟨rfl, rfl⟩
  · by_cases h2 : b < a
    · rw [← oI_gt h2]
      go_enter Try.func32, Try.ntmps32
      go_wp2
      go_ret
      exact ⟨rfl, rfl⟩
    · rw [← oI_eq h1 h2]
      go_enter Try.func32, Try.ntmps32
      go_wp2
      go_ret
      exact ⟨rfl, rfl⟩

theorem ints_any (a b : Int) (w : World) : Calls Try.prog 34 #[.int .i64 a, .int .i64 b] w fun e w' => e = .returned (.int .i64 (ordI a b)) ∧ w = w' := by
  by_cases h1 : a < b
  · rw [← oI_lt h1]
    go_enter Try.func34, Try.ntmps34
    go_wp2
    go_ret
    exact ⟨rfl, rfl⟩
  · by_cases h2 : b < a
    · rw [← oI_gt h2]
      go_enter Try.func34, Try.ntmps34
      go_wp2
      go_ret
      exact ⟨rfl, rfl⟩
    · rw [← oI_eq h1 h2]
      go_enter Try.func34, Try.ntmps34
      go_wp2
      go_ret
      exact ⟨rfl, rfl⟩

theorem oS_lt {a b : ByteArray} (h : Op.bytesLess a.toList b.toList = true) : (-1 : Int) = ordS a b := by unfold ordS; rw [if_pos h]
theorem oS_eq {a b : ByteArray} (h : Op.bytesLess a.toList b.toList = false) (h2 : (a.toList == b.toList) = true) : (0 : Int) = ordS a b := by
  unfold ordS; rw [if_neg (by rw [h]; exact Bool.false_ne_true), if_pos (eq_of_beq h2)]
theorem oS_gt {a b : ByteArray} (h : Op.bytesLess a.toList b.toList = false) (h2 : (a.toList == b.toList) = false) : (1 : Int) = ordS a b := by
  unfold ordS; rw [if_neg (by rw [h]; exact Bool.false_ne_true), if_neg (beq_eq_false_iff_ne.1 h2)]

theorem cmpS_any (a b : ByteArray) (w : World) : Calls Try.prog 33 #[.string a, .string b] w fun e w' => e = .returned (.int .i64 (ordS a b)) ∧ w = w' := by
  rcases Bool.eq_false_or_eq_true (Op.bytesLess a.toList b.toList) with h1 | h1
  · rw [← oS_lt h1]
    go_enter Try.func33, Try.ntmps33
    go_wp2
    go_ret
    exact ⟨rfl, rfl⟩
  · rcases Bool.eq_false_or_eq_true (a.toList == b.toList) with h2 | h2
    · rw [← oS_eq h1 h2]
      go_enter Try.func33, Try.ntmps33
      go_wp2
      go_ret
      exact ⟨rfl, rfl⟩
    · rw [← oS_gt h1 h2]
      go_enter Try.func33, Try.ntmps33
      go_wp2
      go_ret
      exact ⟨rfl, rfl⟩

theorem texts_any (a b : ByteArray) (w : World) : Calls Try.prog 35 #[.string a, .string b] w fun e w' => e = .returned (.int .i64 (ordS a b)) ∧ w = w' := by
  rcases Bool.eq_false_or_eq_true (Op.bytesLess a.toList b.toList) with h1 | h1
  · rw [← oS_lt h1]
    go_enter Try.func35, Try.ntmps35
    go_wp2
    go_ret
    exact ⟨rfl, rfl⟩
  · rcases Bool.eq_false_or_eq_true (a.toList == b.toList) with h2 | h2
    · rw [← oS_eq h1 h2]
      go_enter Try.func35, Try.ntmps35
      go_wp2
      go_ret
      exact ⟨rfl, rfl⟩
    · rw [← oS_gt h1 h2]
      go_enter Try.func35, Try.ntmps35
      go_wp2
      go_ret
      exact ⟨rfl, rfl⟩
end Go.Proofs.Ytkicipjaefmahaa
