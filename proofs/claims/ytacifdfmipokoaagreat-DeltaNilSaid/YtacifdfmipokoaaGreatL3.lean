/- Slices of slices of slices that came in: their headers alone. Over any program. -/
import Derived.Test.YtacifdfmipokoaaGreatBase
import Derived.Deep.Slices
import Derived.ProofKit
import Derived.OpenShut
namespace Go.Proofs.YtacifdfmipokoaaGreat
open Go.ChangeShapes Go.WideShapes Go.Deep Go.RowKit
set_option linter.unusedVariables false

/-- a slice of slices: each one's header -/
def IsL2 (w : World) (a : Option Addr) (len : Nat) : Prop :=
  len ≤ 9223372036854775807 ∧ (len = 0 ∨ ∃ b off, a = some ⟨b, off, none⟩ ∧ b < w.heap.size ∧ ∀ i, i < len → ∃ (ai : Option Addr) (li ci : Nat), w.cell? ⟨b, off + i, none⟩ = some (.slice ai li ci) ∧ li ≤ 9223372036854775807)
/-- .. of these -/
def IsL3 (w : World) (a : Option Addr) (len : Nat) : Prop :=
  len ≤ 9223372036854775807 ∧ (len = 0 ∨ ∃ b off, a = some ⟨b, off, none⟩ ∧ b < w.heap.size ∧ ∀ i, i < len → ∃ (ai : Option Addr) (li ci : Nat), w.cell? ⟨b, off + i, none⟩ = some (.slice ai li ci) ∧ IsL2 w ai li)
theorem IsL2.below {w w' : World} {a : Option Addr} {len : Nat} (h : IsL2 w a len) (hb : Below w.heap.size w w') : IsL2 w' a len := by
  obtain ⟨h1, h2⟩ := h
  refine ⟨h1, ?_⟩
  rcases h2 with h2 | ⟨b, off, rfl, hlt, hc⟩
  · exact .inl h2
  · refine .inr ⟨b, off, rfl, Nat.lt_of_lt_of_le hlt hb.size, fun i hi => ?_⟩
    obtain ⟨ai, li, ci, c1, c2⟩ := hc i hi
    exact ⟨ai, li, ci, (hb.cell (p := ⟨b, off + i, none⟩) hlt).trans c1, c2⟩
theorem IsL3.below {w w' : World} {a : Option Addr} {len : Nat} (h : IsL3 w a len) (hb : Below w.heap.size w w') : IsL3 w' a len := by
  obtain ⟨h1, h2⟩ := h
  refine ⟨h1, ?_⟩
  rcases h2 with h2 | ⟨b, off, rfl, hlt, hc⟩
  · exact .inl h2
  · refine .inr ⟨b, off, rfl, Nat.lt_of_lt_of_le hlt hb.size, fun i hi => ?_⟩
    obtain ⟨ai, li, ci, c1, c2⟩ := hc i hi
    exact ⟨ai, li, ci, (hb.cell (p := ⟨b, off + i, none⟩) hlt).trans c1, c2.below hb⟩

section
variable {H : Type} {enc : TypeId × Value → H} {P : Program} {w : World} {base : Nat} {spare : Nat → Bool} {held : Bool}
theorem open_l2 {t e q : TypeId} {fuel : Nat} {v : Value} {x : DataW H × List MemPlace} (ht : P.underlying t = some (.slice e)) (he : P.underlying e = some (.slice q)) (ce : P.cellsOf e = 1)
    (h : DataW.trod enc P w base spare held fuel t [v] = some x) : ∃ a len cap, v = .slice a len cap ∧ IsL2 w a len := by
  rcases open_slice1 ht ce h with ⟨hcs, _⟩ | ⟨a, len, cap, m, n, V, D, Pl, hcs, hb, hl, hm, hmm, _, hx⟩
  · simp at hcs
    exact ⟨none, 0, 0, hcs, by omega, .inl rfl⟩
  simp at hcs
  have hml : len ≤ m := by rw [hmm]; split <;> omega
  unfold maxLen at hm
  refine ⟨some a, len, cap, hcs, by omega, ?_⟩
  by_cases h0 : len = 0
  · exact .inl h0
  right
  have c0 := (hx 0 (by omega)).1
  obtain ⟨b, off, spot⟩ := a
  have hs : spot = none := by simpa [Addr.add] using World.cell?_spot c0
  subst hs
  have hlt := World.block_lt_of_cell? w _ c0
  simp [Addr.add] at hlt
  refine ⟨b, off, rfl, hlt, fun i hi => ?_⟩
  obtain ⟨c1, c2⟩ := hx i (by omega)
  rw [Addr.add_lit] at c1
  rcases open_slice he c2 with ⟨hv, _⟩ | ⟨a', len', cap', _, _, _, _, hv, _, hl', hm', _⟩
  · simp at hv
    exact ⟨none, 0, 0, by rw [c1, hv], by omega⟩
  · simp at hv
    unfold maxLen at hm'
    exact ⟨some a', len', cap', by rw [c1, hv], by omega⟩
theorem open_l3 {t e q r : TypeId} {fuel : Nat} {v : Value} {x : DataW H × List MemPlace} (ht : P.underlying t = some (.slice e)) (he : P.underlying e = some (.slice q)) (hq : P.underlying q = some (.slice r)) (ce : P.cellsOf e = 1) (cq : P.cellsOf q = 1)
    (h : DataW.trod enc P w base spare held fuel t [v] = some x) : ∃ a len cap, v = .slice a len cap ∧ IsL3 w a len := by
  rcases open_slice1 ht ce h with ⟨hcs, _⟩ | ⟨a, len, cap, m, n, V, D, Pl, hcs, hb, hl, hm, hmm, _, hx⟩
  · simp at hcs
    exact ⟨none, 0, 0, hcs, by omega, .inl rfl⟩
  simp at hcs
  have hml : len ≤ m := by rw [hmm]; split <;> omega
  unfold maxLen at hm
  refine ⟨some a, len, cap, hcs, by omega, ?_⟩
  by_cases h0 : len = 0
  · exact .inl h0
  right
  have c0 := (hx 0 (by omega)).1
  obtain ⟨b, off, spot⟩ := a
  have hs : spot = none := by simpa [Addr.add] using World.cell?_spot c0
  subst hs
  have hlt := World.block_lt_of_cell? w _ c0
  simp [Addr.add] at hlt
  refine ⟨b, off, rfl, hlt, fun i hi => ?_⟩
  obtain ⟨c1, c2⟩ := hx i (by omega)
  rw [Addr.add_lit] at c1
  obtain ⟨a', len', cap', hv, h2⟩ := open_l2 he hq cq c2
  exact ⟨a', len', cap', by rw [c1, hv], h2⟩
end
end Go.Proofs.YtacifdfmipokoaaGreat
