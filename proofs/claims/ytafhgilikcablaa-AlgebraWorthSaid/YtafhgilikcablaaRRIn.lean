/- Rows of values that came in, read as data. Over any program with such a type. -/
import Derived.Test.YtafhgilikcablaaValsIn
import Derived.Test.YtafhgilikcablaaVRecPure
import Derived.Test.YtafhgilikcablaaAggIn
import Derived.Test.YtafhgilikcablaaRowsR
namespace Go.Proofs.Ytafhgilikcablaa
open Go.ChangeShapes Go.WideShapes Go.Deep Go.RowKit
set_option linter.unusedVariables false
set_option linter.unusedSimpArgs false

section
variable {H : Type} {enc : TypeId × Value → H} {P : Program} {w : World} {base : Nat} {spare : Nat → Bool} {held : Bool}
theorem open_rr {t p q ti tj ts : TypeId} {g0 g1 g2 : Field} {fuel : Nat} {v : Value} {x : DataW H × List MemPlace} (ht : P.underlying t = some (.slice q)) (hq : P.underlying q = some (.slice p)) (cq : P.cellsOf q = 1)
    (up : P.underlying p = some (.struct #[g0, g1, g2])) (hone : oneCellFields P #[g0, g1, g2] = true) (hp : P.cellsOf p = 3) (e0 : g0.type = ti) (e1 : g1.type = tj) (e2 : g2.type = ts) (v0 : P.underlying ti = some (.int .i64)) (v1 : P.underlying tj = some (.int .i64)) (v2 : P.underlying ts = some .string)
    (h : DataW.trod enc P w base spare held fuel t [v] = some x) : ∃ a len cap R, v = .slice a len cap ∧ IsRR w a len R ∧ RowsR R := by
  rcases open_slice1 ht cq h with ⟨hcs, _⟩ | ⟨a, len, cap, m, n, V, D, Pl, hcs, hb, hl, hm, hmm, _, hx⟩
  · simp at hcs
    exact ⟨none, 0, 0, [], hcs, ⟨rfl, by omega, .inl rfl⟩, by simp [RowsR]⟩
  simp at hcs
  have hml : len ≤ m := by rw [hmm]; split <;> omega
  unfold maxLen at hm
  have key : ∀ i, i < len → ∃ l : List Val, (∀ v ∈ l, InR v.2.1) ∧ ∃ ra rl rc, w.cell? (a.add i) = some (.slice ra rl rc) ∧ IsV w ra rl l := by
    intro i hi
    obtain ⟨c1, c2⟩ := hx i (by omega)
    rcases open_vals hq up hone hp e0 e1 e2 v0 v1 v2 c2 with hv | ⟨ax, l, c, vs, hv, hvl, hl', hm', hcell⟩
    · simp only [List.cons.injEq, and_true] at hv
      exact ⟨[], by simp, none, 0, 0, by rw [c1, hv], ⟨rfl, by omega, .inl rfl⟩⟩
    · simp only [List.cons.injEq, and_true] at hv
      exact ⟨vs, range_of hvl hcell, some ax, l, c, by rw [c1, hv], isV_of hvl hl' hm' hcell⟩
  refine ⟨some a, len, cap, (List.range len).map (fun i => if h : i < len then Classical.choose (key i h) else []), hcs, ⟨by simp, by omega, ?_⟩, ?_⟩
  rotate_left
  · intro l hl
    obtain ⟨i, hi, rfl⟩ := List.mem_map.1 hl
    have hil := List.mem_range.1 hi
    simp only [hil, dif_pos]
    exact (Classical.choose_spec (key i hil)).1
  by_cases h0 : len = 0
  · exact .inl h0
  right
  obtain ⟨b, off, spot⟩ := a
  have c0 := (hx 0 (by omega)).1
  have hs : spot = none := by simpa [Addr.add] using World.cell?_spot c0
  subst hs
  have hlt := World.block_lt_of_cell? w _ c0
  simp [Addr.add] at hlt
  refine ⟨b, off, rfl, hlt, fun i hi => ?_⟩
  have e : ((List.range len).map (fun i => if h : i < len then Classical.choose (key i h) else [])).getD i [] = Classical.choose (key i hi) := by
    rw [List.getD_eq_getElem?_getD, List.getElem?_map, List.getElem?_range hi]
    simp [hi]
  rw [e]
  obtain ⟨ra, rl, rc, k1, k2⟩ := (Classical.choose_spec (key i hi)).2
  rw [Addr.add_lit] at k1
  exact ⟨ra, rl, rc, k1, k2⟩
end
end Go.Proofs.Ytafhgilikcablaa
