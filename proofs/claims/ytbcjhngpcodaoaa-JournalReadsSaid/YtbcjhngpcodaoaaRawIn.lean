/- The header of a slice that came in, of whatever elements; arrays of nine values. -/
import Derived.Test.YtbcjhngpcodaoaaAggIn
namespace Go.Proofs.Ytbcjhngpcodaoaa
open Go.ChangeShapes Go.WideShapes Go.Deep Go.RowKit Go.Joins
set_option linter.unusedVariables false
section
variable {H : Type} {enc : TypeId × Value → H} {P : Program} {w : World} {base : Nat} {spare : Nat → Bool} {held : Bool}
theorem open_raw {t e : TypeId} {fuel : Nat} {v : Value} {x : DataW H × List MemPlace} (ht : P.underlying t = some (.slice e))
    (h : DataW.trod enc P w base spare held fuel t [v] = some x) : ∃ a len cap, v = .slice a len cap ∧ len ≤ 9223372036854775807 := by
  rcases open_slice ht h with ⟨hv, _⟩ | ⟨a', len', cap', _, _, _, _, hv, _, hl', hm', _⟩
  · simp at hv
    exact ⟨none, 0, 0, hv, by omega⟩
  · simp at hv
    unfold maxLen at hm'
    exact ⟨some a', len', cap', hv, by omega⟩
end
theorem arr9 {cs : Array Value} (h : cs.size = 9) : ∃ a b c d e f g i j, cs = #[a, b, c, d, e, f, g, i, j] := by
  obtain ⟨l⟩ := cs
  match l, h with
  | [a, b, c, d, e, f, g, i, j], _ => exact ⟨a, b, c, d, e, f, g, i, j, rfl⟩
end Go.Proofs.Ytbcjhngpcodaoaa
