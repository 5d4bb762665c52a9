/- The registers' rows in memory: what is there, what a store leaves. -/
import Derived.Test.YtplgkblahmndoaaVmMach
namespace Go.Proofs.Ytplgkblahmndoaa
open Go.RowKit
set_option linter.unusedVariables false

/-- the program's registers -/
def RegAt (w : World) (g : Nat) (rs : List Reg) : Prop := w.heap[g]? = some (.cells ⟨regC rs⟩ 172 (0, 0))
/-- the document's values, and truths -/
def ValAt (w : World) (g : Nat) (rs : List Reg) : Prop := w.heap[g]? = some (.cells ⟨valC rs⟩ 46 (0, 0))
def TruAt (w : World) (g : Nat) (rs : List Reg) : Prop := w.heap[g]? = some (.cells ⟨truC rs⟩ 3 (0, 0))
section
variable {w w' : World} {g : Nat} {rs : List Reg}
theorem RegAt.lt (h : RegAt w g rs) : g < w.heap.size := (Array.getElem?_eq_some_iff.1 h).1
theorem ValAt.lt (h : ValAt w g rs) : g < w.heap.size := (Array.getElem?_eq_some_iff.1 h).1
theorem TruAt.lt (h : TruAt w g rs) : g < w.heap.size := (Array.getElem?_eq_some_iff.1 h).1
theorem RegAt.below (h : RegAt w g rs) (hb : Below w.heap.size w w') : RegAt w' g rs := (hb.block g h.lt).trans h
theorem ValAt.below (h : ValAt w g rs) (hb : Below w.heap.size w w') : ValAt w' g rs := (hb.block g h.lt).trans h
theorem TruAt.below (h : TruAt w g rs) (hb : Below w.heap.size w w') : TruAt w' g rs := (hb.block g h.lt).trans h
theorem RegAt.other (h : RegAt w g rs) {b j : Nat} (hne : b ≠ g) (u : Value) : RegAt (w.setCell ⟨b, j, none⟩ u) g rs := (heap_setCell_other w ⟨b, j, none⟩ g u (fun e => hne e.symm)).trans h
theorem ValAt.other (h : ValAt w g rs) {b j : Nat} (hne : b ≠ g) (u : Value) : ValAt (w.setCell ⟨b, j, none⟩ u) g rs := (heap_setCell_other w ⟨b, j, none⟩ g u (fun e => hne e.symm)).trans h
theorem TruAt.other (h : TruAt w g rs) {b j : Nat} (hne : b ≠ g) (u : Value) : TruAt (w.setCell ⟨b, j, none⟩ u) g rs := (heap_setCell_other w ⟨b, j, none⟩ g u (fun e => hne e.symm)).trans h
theorem RegAt.cells (h : RegAt w g rs) {i : Nat} (hi : i < rs.length) : w.cell? ⟨g, i * 4, none⟩ = some (.int .i64 (rs.getD i noR).1.1) ∧ w.cell? ⟨g, i * 4 + 1, none⟩ = some (.int .i64 (rs.getD i noR).1.2.1) ∧ w.cell? ⟨g, i * 4 + 2, none⟩ = some (.string (rs.getD i noR).1.2.2) ∧ w.cell? ⟨g, i * 4 + 3, none⟩ = some (.int .i64 (rs.getD i noR).2) := by
  obtain ⟨h0, h1, h2, h3⟩ := regC_at rs i hi
  refine ⟨?_, ?_, ?_, ?_⟩
  · rw [cell_of_row w g (i * 4) _ _ _ h]; simpa using h0
  · rw [cell_of_row w g (i * 4 + 1) _ _ _ h]; simpa using h1
  · rw [cell_of_row w g (i * 4 + 2) _ _ _ h]; simpa using h2
  · rw [cell_of_row w g (i * 4 + 3) _ _ _ h]; simpa using h3
theorem ValAt.cells (h : ValAt w g rs) {i : Nat} (hi : i < rs.length) : w.cell? ⟨g, i * 3, none⟩ = some (.int .i64 (rs.getD i noR).1.1) ∧ w.cell? ⟨g, i * 3 + 1, none⟩ = some (.int .i64 (rs.getD i noR).1.2.1) ∧ w.cell? ⟨g, i * 3 + 2, none⟩ = some (.string (rs.getD i noR).1.2.2) := by
  obtain ⟨h0, h1, h2⟩ := valC_at rs i hi
  refine ⟨?_, ?_, ?_⟩
  · rw [cell_of_row w g (i * 3) _ _ _ h]; simpa using h0
  · rw [cell_of_row w g (i * 3 + 1) _ _ _ h]; simpa using h1
  · rw [cell_of_row w g (i * 3 + 2) _ _ _ h]; simpa using h2
theorem TruAt.cells (h : TruAt w g rs) {i : Nat} (hi : i < rs.length) : w.cell? ⟨g, i, none⟩ = some (.int .i64 (rs.getD i noR).2) := by
  rw [cell_of_row w g i _ _ _ h]; simpa using truC_at rs i hi
theorem RegAt.frozen (h : RegAt w g rs) (j : Nat) : w.frozen? ⟨g, j, none⟩ = false := frozen_of_row _ _ j _ _ h
theorem ValAt.frozen (h : ValAt w g rs) (j : Nat) : w.frozen? ⟨g, j, none⟩ = false := frozen_of_row _ _ j _ _ h
theorem TruAt.frozen (h : TruAt w g rs) (j : Nat) : w.frozen? ⟨g, j, none⟩ = false := frozen_of_row _ _ j _ _ h
theorem RegAt.truth (h : RegAt w g rs) {i : Nat} (hi : i < rs.length) (t : Int) : RegAt (w.setCell ⟨g, i * 4 + 3, none⟩ (.int .i64 t)) g (rs.set i ((rs.getD i noR).1, t)) := by
  have := Go.heap_setCell_same w g (i * 4 + 3) _ _ (.int .i64 t) h
  unfold RegAt
  rw [this, ← regC_truth rs i t hi]
  simp
theorem RegAt.value (h : RegAt w g rs) {i : Nat} (hi : i < rs.length) (v : Val) : RegAt (((w.setCell ⟨g, i * 4, none⟩ (.int .i64 v.1)).setCell ⟨g, i * 4 + 1, none⟩ (.int .i64 v.2.1)).setCell ⟨g, i * 4 + 2, none⟩ (.string v.2.2)) g (rs.set i (v, (rs.getD i noR).2)) := by
  have := Go.heap_setCell_same _ g (i * 4 + 2) _ _ (.string v.2.2) (Go.heap_setCell_same _ g (i * 4 + 1) _ _ (.int .i64 v.2.1) (Go.heap_setCell_same w g (i * 4) _ _ (.int .i64 v.1) h))
  unfold RegAt
  rw [this, ← regC_value rs i v hi]
  simp
theorem RegAt.copy (h : RegAt w g rs) {i : Nat} (hi : i < rs.length) (r : Reg) : RegAt ((((w.setCell ⟨g, i * 4, none⟩ (.int .i64 r.1.1)).setCell ⟨g, i * 4 + 1, none⟩ (.int .i64 r.1.2.1)).setCell ⟨g, i * 4 + 2, none⟩ (.string r.1.2.2)).setCell ⟨g, i * 4 + 3, none⟩ (.int .i64 r.2)) g (rs.set i r) := by
  have := Go.heap_setCell_same _ g (i * 4 + 3) _ _ (.int .i64 r.2) (Go.heap_setCell_same _ g (i * 4 + 2) _ _ (.string r.1.2.2) (Go.heap_setCell_same _ g (i * 4 + 1) _ _ (.int .i64 r.1.2.1) (Go.heap_setCell_same w g (i * 4) _ _ (.int .i64 r.1.1) h)))
  unfold RegAt
  rw [this, ← regC_copy rs i r hi]
  simp
theorem ValAt.value (h : ValAt w g rs) {i : Nat} (hi : i < rs.length) (r : Reg) : ValAt (((w.setCell ⟨g, i * 3, none⟩ (.int .i64 r.1.1)).setCell ⟨g, i * 3 + 1, none⟩ (.int .i64 r.1.2.1)).setCell ⟨g, i * 3 + 2, none⟩ (.string r.1.2.2)) g (rs.set i r) := by
  have := Go.heap_setCell_same _ g (i * 3 + 2) _ _ (.string r.1.2.2) (Go.heap_setCell_same _ g (i * 3 + 1) _ _ (.int .i64 r.1.2.1) (Go.heap_setCell_same w g (i * 3) _ _ (.int .i64 r.1.1) h))
  unfold ValAt
  rw [this, ← valC_value rs i r hi]
  simp
theorem TruAt.truth (h : TruAt w g rs) (i : Nat) (r : Reg) : TruAt (w.setCell ⟨g, i, none⟩ (.int .i64 r.2)) g (rs.set i r) := by
  have := Go.heap_setCell_same w g i _ _ (.int .i64 r.2) h
  unfold TruAt
  rw [this, ← truC_set rs i r]
  simp
end
/-- a row that was made -/
theorem own_full {w : World} {B e size n g : Nat} {xs : List Value} (h : w.ownsRow B e size (.slice (some ⟨g, 0, none⟩) n n) n xs) : B ≤ g ∧ w.heap[g]? = some (.cells ⟨xs⟩ e (0, 0)) := by
  rcases h.2 with ⟨h', _⟩ | ⟨g', cap', cur, h', hb, hg, _, _, hsz, htake⟩
  · simp at h'
  · simp only [Value.slice.injEq, Option.some.injEq, Addr.mk.injEq, and_true, true_and] at h'
    obtain ⟨rfl, rfl⟩ := h'
    refine ⟨hb, ?_⟩
    rw [hg, ← htake, List.take_of_length_le (by rw [Array.length_toList, hsz]; exact Nat.le_refl _)]
end Go.Proofs.Ytplgkblahmndoaa
