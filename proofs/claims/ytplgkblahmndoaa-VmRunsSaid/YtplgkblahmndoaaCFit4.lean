/- Contract of code's fits: every instruction. -/
import Derived.Test.YtplgkblahmndoaaCFit0
import Derived.Test.YtplgkblahmndoaaCFit1
import Derived.Test.YtplgkblahmndoaaCFit2
import Derived.Test.YtplgkblahmndoaaCFit3
namespace Go.Proofs.Ytplgkblahmndoaa
open Go.RowKit
set_option linter.unusedVariables false
set_option maxRecDepth 100000

theorem fits_any (ca : Option Addr) (cl cc : Nat) (R i : Int) (x : Ins) (w : World) (hcl : cl ≤ 9223372036854775807) :
    Calls Try.prog 136 #[.agg #[.slice ca cl cc, .int .i64 R], .int .i64 i, .agg #[.string x.op, .int .i64 x.a, .int .i64 x.b, .int .i64 x.c, .int .i64 x.v.1, .int .i64 x.v.2.1, .string x.v.2.2]] w fun e w' => e = .returned (.bool (fitsB cl R i x)) ∧ Below w.heap.size w w' := by
  obtain ⟨op, a, b, c, k, n, s⟩ := x
  rcases op_cases op with rfl | rfl | rfl | rfl | rfl | rfl | rfl | rfl | rfl | rfl | rfl | rfl | rfl | rfl | rfl | rfl | rfl | rfl | rfl | rfl | ⟨h0, h1, h2, h3, h4, h5, h6, h7, h8, h9, h10, h11, h12, h13, h14, h15, h16, h17, h18, h19⟩
  · exact fits_const ca cl cc R i a b c k n s w hcl
  · exact fits_col ca cl cc R i a b c k n s w hcl
  · exact fits_neg ca cl cc R i a b c k n s w hcl
  · exact fits_null ca cl cc R i a b c k n s w hcl
  · exact fits_some ca cl cc R i a b c k n s w hcl
  · exact fits_not ca cl cc R i a b c k n s w hcl
  · exact fits_copy ca cl cc R i a b c k n s w hcl
  · exact fits_add ca cl cc R i a b c k n s w hcl
  · exact fits_sub ca cl cc R i a b c k n s w hcl
  · exact fits_mul ca cl cc R i a b c k n s w hcl
  · exact fits_eq ca cl cc R i a b c k n s w hcl
  · exact fits_ne ca cl cc R i a b c k n s w hcl
  · exact fits_lt ca cl cc R i a b c k n s w hcl
  · exact fits_le ca cl cc R i a b c k n s w hcl
  · exact fits_gt ca cl cc R i a b c k n s w hcl
  · exact fits_ge ca cl cc R i a b c k n s w hcl
  · exact fits_and ca cl cc R i a b c k n s w hcl
  · exact fits_or ca cl cc R i a b c k n s w hcl
  · exact fits_false ca cl cc R i a b c k n s w hcl
  · exact fits_true ca cl cc R i a b c k n s w hcl
  · have hc := class_other op h0 h1 h2 h3 h4 h5 h6 h7 h8 h9 h10 h11 h12 h13 h14 h15 h16 h17 h18 h19
    have e : fitsB cl R i ⟨op, a, b, c, (k, n, s)⟩ = false := by unfold fitsB; rw [hc]; rfl
    rw [e]
    exact fits_other op h0 h1 h2 h3 h4 h5 h6 h7 h8 h9 h10 h11 h12 h13 h14 h15 h16 h17 h18 h19 ca cl cc R i a b c k n s w
end Go.Proofs.Ytplgkblahmndoaa
