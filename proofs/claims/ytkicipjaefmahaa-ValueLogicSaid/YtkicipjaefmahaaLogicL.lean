/- ValueLogic: the law's walk; no conditions. -/
import Derived.Test.YtkicipjaefmahaaLogicR
import Derived.Test.YtkicipjaefmahaaCmpR
namespace Go.Proofs.Ytkicipjaefmahaa
open Go.RowKit

theorem notI_notI_and (a b : Int) : notI (andI a b) = orI (notI a) (notI b) := by
  rw [orI_cases]; unfold notI andI
  by_cases a0 : a = 0 <;> by_cases a1 : a = 1 <;> by_cases b0 : b = 0 <;> by_cases b1 : b = 1 <;> simp_all
theorem notI_or (a b : Int) : notI (orI a b) = andI (notI a) (notI b) := by
  rw [orI_cases]; unfold notI andI
  by_cases a0 : a = 0 <;> by_cases a1 : a = 1 <;> by_cases b0 : b = 0 <;> by_cases b1 : b = 1 <;> simp_all
theorem and_or (a b c : Int) : andI a (orI b c) = orI (andI a b) (andI a c) := by
  rw [orI_cases, orI_cases]; unfold andI
  by_cases a0 : a = 0 <;> by_cases a1 : a = 1 <;> by_cases b0 : b = 0 <;> by_cases b1 : b = 1 <;> by_cases c0 : c = 0 <;> by_cases c1 : c = 1 <;> simp_all
theorem and_comm' (a b : Int) : andI a b = andI b a := by
  unfold andI
  by_cases a0 : a = 0 <;> by_cases a1 : a = 1 <;> by_cases b0 : b = 0 <;> by_cases b1 : b = 1 <;> simp_all

set_option maxHeartbeats 2000000 in
theorem valueLogic_walk (a b c : Int) (w : World) :
    Calls Try.prog 5 #[.int .i64 a, .int .i64 b, .int .i64 c] w fun x w' => x = .returned (.bool true) ∧ Below w.heap.size w w' := by
  have f1 : (notI (andI a b) == orI (notI a) (notI b)) = true := by rw [notI_notI_and]; simp
  have f2 : (notI (orI a b) == andI (notI a) (notI b)) = true := by rw [notI_or]; simp
  have f3 : (andI a (orI b c) == orI (andI a b) (andI a c)) = true := by rw [and_or]; simp
  have f4 : (andI a b == andI b a) = true := by rw [and_comm' a b]; simp
  go_enter Try.func5, Try.ntmps5
  go_wp2_with (first
    | (go_at_call 9; refine (awake_any _).mono ?_; rintro e w1 ⟨rfl, hb⟩)
    | (go_at_call 18; refine (and_any _ _ _).mono ?_; rintro e w' ⟨rfl, rfl⟩)
    | (go_at_call 19; refine (or_any _ _ _).mono ?_; rintro e w' ⟨rfl, rfl⟩)
    | (go_at_call 20; refine (rand_any _ _ _).mono ?_; rintro e w' ⟨rfl, rfl⟩)
    | (go_at_call 21; refine (ror_any _ _ _).mono ?_; rintro e w' ⟨rfl, rfl⟩)
    | (go_at_call 22; refine (not_any _ _).mono ?_; rintro e w' ⟨rfl, rfl⟩)
    | (go_at_call 23; refine (rnot_any _ _).mono ?_; rintro e w' ⟨rfl, rfl⟩))
  go_ret
  exact ⟨rfl, hb⟩
end Go.Proofs.Ytkicipjaefmahaa
