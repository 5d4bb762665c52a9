/- Small words on values: one that lies in a block of its own. -/
import Derived.Test.YtplgkblahmndoaaForm1
namespace Go.Proofs.Ytplgkblahmndoaa
open Go.RowKit
set_option linter.unusedVariables false
set_option maxRecDepth 100000

theorem isV_one (w : World) (v : Val) : IsV (w.alloc (.cells #[.int .i64 v.1, .int .i64 v.2.1, .string v.2.2] 46)) (some ⟨w.heap.size, 0, none⟩) 1 [v] := by
  refine ⟨rfl, by omega, .inr ⟨w.heap.size, 0, rfl, by simp, fun i hi => ?_⟩⟩
  obtain rfl : i = 0 := by omega
  simp [go_sem]
theorem box_new (w : World) (x : Val) : Box (w.alloc (.cells #[.int .i64 x.1, .int .i64 x.2.1, .string x.2.2] 46)) w.heap.size x := ⟨by simp, by simp, by simp⟩

end Go.Proofs.Ytplgkblahmndoaa
