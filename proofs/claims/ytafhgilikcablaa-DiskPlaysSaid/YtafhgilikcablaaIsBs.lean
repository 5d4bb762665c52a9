/- A slice of slices of bytes. No program. -/
import Derived.Test.YtafhgilikcablaaBase
namespace Go.Proofs.Ytafhgilikcablaa
open Go.RowKit
set_option linter.unusedVariables false

/-- a slice of slices of bytes -/
def IsBs (w : World) (a : Option Addr) (len : Nat) (ks : List (List Int)) : Prop :=
  ks.length = len ∧ len ≤ 9223372036854775807 ∧ (len = 0 ∨ ∃ b off, a = some ⟨b, off, none⟩ ∧ b < w.heap.size ∧
    ∀ i, i < len → ∃ (ai : Option Addr) (li ci : Nat), w.cell? ⟨b, off + i, none⟩ = some (.slice ai li ci) ∧ IsB w ai li (ks.getD i []) ∧ (ai = none → li = 0 ∧ ci = 0) ∧ (∀ x, li ≠ 0 → ai = some x → x.block < w.heap.size))
theorem IsBs.below {w w' : World} {a : Option Addr} {len : Nat} {ks : List (List Int)} (h : IsBs w a len ks) (hb : Below w.heap.size w w') : IsBs w' a len ks := by
  obtain ⟨h1, h2, h3⟩ := h
  refine ⟨h1, h2, ?_⟩
  rcases h3 with h3 | ⟨b, off, rfl, hlt, hc⟩
  · exact .inl h3
  · refine .inr ⟨b, off, rfl, Nat.lt_of_lt_of_le hlt hb.size, fun i hi => ?_⟩
    obtain ⟨ai, li, ci, c1, c2, c3, c4⟩ := hc i hi
    exact ⟨ai, li, ci, (hb.cell (p := ⟨b, off + i, none⟩) hlt).trans c1, c2.below hb c4, c3, fun x hx hy => Nat.lt_of_lt_of_le (c4 x hx hy) hb.size⟩

end Go.Proofs.Ytafhgilikcablaa
