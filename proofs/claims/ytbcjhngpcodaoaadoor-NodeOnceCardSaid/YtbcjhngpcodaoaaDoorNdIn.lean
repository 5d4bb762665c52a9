/- A slice of ints that came in, as node's texts say it. -/
import Derived.Test.YtbcjhngpcodaoaaDoorNdPure
import Derived.Test.YtbcjhngpcodaoaaDoorBsIn
namespace Go.Proofs.YtbcjhngpcodaoaaDoor
open Go.ChangeShapes Go.WideShapes Go.Deep Go.RowKit
set_option linter.unusedVariables false

theorem isN_row {w : World} {a : Option Addr} {len cap : Nat} {zs : List Int} (h : IsRow .i64 w a len cap zs) : IsN w a len (zs.take len) := by
  rcases h with ⟨rfl, rfl, rfl, rfl⟩ | ⟨x, rfl, hl, hm, hz, hcell, hwz⟩
  · exact ⟨rfl, by omega, .inl rfl, fun i hi => absurd hi (Nat.not_lt_zero _)⟩
  · unfold maxLen at hm
    have hg : ∀ i, i < len → (zs.take len).getD i 0 = zs.getD i 0 := fun i hi => by simp [List.getD, hi]
    refine ⟨by simp; omega, by omega, ?_, fun i hi => ?_⟩
    · by_cases h0 : len = 0
      · exact .inl h0
      · right
        obtain ⟨b, off, spot⟩ := x
        have hc := hcell 0 (by omega)
        have hspot : spot = none := by simpa [Addr.add] using World.cell?_spot hc
        subst hspot
        have hlt := World.block_lt_of_cell? w _ hc
        simp [Addr.add] at hlt
        refine ⟨b, off, rfl, hlt, fun i hi => ?_⟩
        have := hcell i (by omega)
        rw [Addr.add_lit] at this
        rw [this, hg i hi]
    · rw [hg i hi]
      have hmem : zs.getD i 0 ∈ zs := by
        rw [List.getD_eq_getElem?_getD, List.getElem?_eq_getElem (by omega)]
        exact List.getElem_mem _
      exact bounds_i64 (hwz _ hmem)
end Go.Proofs.YtbcjhngpcodaoaaDoor
