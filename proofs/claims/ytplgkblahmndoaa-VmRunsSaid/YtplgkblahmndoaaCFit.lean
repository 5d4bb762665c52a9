/- Contracts of code's has and fits: every instruction. -/
import Derived.Test.YtplgkblahmndoaaIns
import Derived.Test.YtplgkblahmndoaaForm1
namespace Go.Proofs.Ytplgkblahmndoaa
open Go.RowKit
set_option linter.unusedVariables false
set_option maxRecDepth 100000

set_option maxHeartbeats 800000 in
theorem has_any (sl : Value) (hsl : sl.oneCell' = true) (R r : Int) (w : World) : Calls Try.prog 177 #[.agg #[sl, .int .i64 R], .int .i64 r] w fun e w' => e = .returned (.bool (hasB R r)) ∧ w' = w.alloc (.cells #[sl, .int .i64 R] 93) := by
  by_cases h0 : 0 ≤ r
  · by_cases h1 : r < R
    · rw [show hasB R r = true from decide_eq_true ⟨h0, h1⟩]
      go_enter Try.func177, Try.ntmps177
      go_wp2
      go_ret
      exact ⟨by simp, rfl⟩
    · rw [show hasB R r = false from decide_eq_false (fun h => h1 h.2)]
      go_enter Try.func177, Try.ntmps177
      go_wp2
      go_ret
      exact ⟨by simp, rfl⟩
  · rw [show hasB R r = false from decide_eq_false (fun h => h0 h.1)]
    go_enter Try.func177, Try.ntmps177
    go_wp2
    go_ret
    exact ⟨by simp, rfl⟩

end Go.Proofs.Ytplgkblahmndoaa
