/- Contracts of Formed (the program's and the document's): by walks; no conditions. -/
import Derived.Test.YtafhgilikcablaaGreatDoorProg
import Derived.Test.YtafhgilikcablaaGreatDoorVRecPure
import Derived.Test.YtafhgilikcablaaGreatDoorAggIn
import Derived.WalkKit
import Derived.WalkLawsBesides
import Derived.WalkSpells
import Derived.Outline
import Derived.BigQuiet
import Derived.Deep.QuietTactic
import Derived.Deep.RegionHeld3
import Derived.LoopTactic
import Derived.Lib.Hide
namespace Go.Proofs.YtafhgilikcablaaGreatDoor
open Go.RowKit
set_option linter.unusedVariables false
set_option linter.unusedSimpArgs false
set_option maxRecDepth 100000

theorem fB0 {k n : Int} {s : ByteArray} (hk : (k == 0) = true) (hn : n = 0) : s.toList.isEmpty = formedB k n s := by
  have := eq_of_beq hk; subst this hn
  unfold formedB; rw [Bool.eq_iff_iff]; simp
theorem fB0n {k n : Int} {s : ByteArray} (hk : (k == 0) = true) (hn : ¬ n = 0) : false = formedB k n s := by
  have := eq_of_beq hk; subst this
  unfold formedB; symm; rw [decide_eq_false_iff_not]; simp [hn]
theorem fB1 {k n : Int} {s : ByteArray} (hk : (k == 1) = true) : s.toList.isEmpty = formedB k n s := by
  have := eq_of_beq hk; subst this
  unfold formedB; rw [Bool.eq_iff_iff]; simp
theorem fB2 {k n : Int} {s : ByteArray} (hk : (k == 2) = true) (hn : n = 0) : decide ((s.size : Int) ≤ 100) = formedB k n s := by
  have := eq_of_beq hk; subst this hn
  unfold formedB; rw [Bool.eq_iff_iff]; simp; omega
theorem fB2n {k n : Int} {s : ByteArray} (hk : (k == 2) = true) (hn : ¬ n = 0) : false = formedB k n s := by
  have := eq_of_beq hk; subst this
  unfold formedB; symm; rw [decide_eq_false_iff_not]; simp [hn]
theorem fBn {k n : Int} {s : ByteArray} (h0 : (k == 0) = false) (h1 : (k == 1) = false) (h2 : (k == 2) = false) : false = formedB k n s := by
  unfold formedB; symm; rw [decide_eq_false_iff_not]
  have a := beq_eq_false_iff_ne.1 h0; have b := beq_eq_false_iff_ne.1 h1; have c := beq_eq_false_iff_ne.1 h2
  simp [a, b, c]

theorem formed_any (k n : Int) (s : ByteArray) (w : World) : Calls Tryz.prog 34 #[.agg #[.int .i64 k, .int .i64 n, .string s]] w fun e w' => e = .returned (.bool (formedB k n s)) ∧ w.alloc (.cells #[.int .i64 k, .int .i64 n, .string s] 23) = w' := by
  go_enter Tryz.func34, Tryz.ntmps34
  go_wp2
  all_goals go_ret
  all_goals first
    | exact ⟨ret_bool (fB0 ‹_› ‹_›), by subst_vars; rfl⟩
    | exact ⟨ret_bool (fB0 ‹_› rfl), rfl⟩
    | exact ⟨ret_bool (fB0n ‹_› ‹_›), rfl⟩
    | exact ⟨ret_bool (fB1 ‹_›), rfl⟩
    | exact ⟨ret_bool (fB2 ‹_› ‹_›), by subst_vars; rfl⟩
    | exact ⟨ret_bool (fB2n ‹_› ‹_›), rfl⟩
    | exact ⟨ret_bool (fBn ‹_› ‹_› ‹_›), rfl⟩

theorem rformed_any (k n : Int) (s : ByteArray) (w : World) : Calls Tryz.prog 38 #[.agg #[.int .i64 k, .int .i64 n, .string s]] w fun e w' => e = .returned (.bool (formedB k n s)) ∧ w.alloc (.cells #[.int .i64 k, .int .i64 n, .string s] 23) = w' := by
  go_enter Tryz.func38, Tryz.ntmps38
  go_wp2
  all_goals go_ret
  all_goals first
    | exact ⟨ret_bool (fB0 ‹_› ‹_›), by subst_vars; rfl⟩
    | exact ⟨ret_bool (fB0 ‹_› rfl), rfl⟩
    | exact ⟨ret_bool (fB0n ‹_› ‹_›), rfl⟩
    | exact ⟨ret_bool (fB1 ‹_›), rfl⟩
    | exact ⟨ret_bool (fB2 ‹_› ‹_›), by subst_vars; rfl⟩
    | exact ⟨ret_bool (fB2n ‹_› ‹_›), rfl⟩
    | exact ⟨ret_bool (fBn ‹_› ‹_› ‹_›), rfl⟩

end Go.Proofs.YtafhgilikcablaaGreatDoor
