/- PagerNil: what a new disk's pager is opened from. -/
import Derived.Test.YtbcjhngpcodaoaaGreatDoorPg1
namespace Go.Proofs.YtbcjhngpcodaoaaGreatDoor
open Go.RowKit
set_option linter.unusedVariables false
set_option maxRecDepth 100000

def LeftC (w : World) (L D : Nat) : Prop := w.heap[L]? = some (.cells #[.pointer (some ⟨D, 0, none⟩), .int .u64 0, .int .i64 0, .slice none 0 0, .slice none 0 0, .bool false, .int .i64 0] 53 (0, 0))
def stC (n : Int) : Array Value := #[.int .i64 n, .int .i64 0, .int .i64 0, .int .i64 0, .int .i64 0, .int .i64 0, .int .i64 0, .int .i64 0, .int .i64 0, .slice none 0 0, .int .u64 0]
theorem LeftC.below {w w' : World} {L D : Nat} (h : LeftC w L D) (hb : Below w.heap.size w w') : LeftC w' L D := (hb.block L (Array.getElem?_eq_some_iff.1 h).1).trans h
theorem LeftC.cells {w : World} {L D : Nat} (h : LeftC w L D) : w.cell? ⟨L, 0, none⟩ = some (.pointer (some ⟨D, 0, none⟩)) ∧ w.cell? ⟨L, 5, none⟩ = some (.bool false) ∧ w.cell? ⟨L, 6, none⟩ = some (.int .i64 0) ∧ w.frozen? ⟨L, 6, none⟩ = false ∧ L < w.heap.size :=
  ⟨cell_of_row w L 0 _ _ _ h, cell_of_row w L 5 _ _ _ h, cell_of_row w L 6 _ _ _ h, frozen_of_row w L 6 _ _ h, (Array.getElem?_eq_some_iff.1 h).1⟩
/-- stores into a box, one behind the other -/
def setL (w : World) (B : Nat) : Nat → List Value → World
  | _, [] => w
  | k, v :: vs => setL (w.setCell ⟨B, k, none⟩ v) B (k + 1) vs
theorem setL_below {w0 : World} {K B : Nat} (hK : K ≤ B) : ∀ (vs : List Value) (k : Nat) (w : World), Below K w0 w → Below K w0 (setL w B k vs)
  | [], k, w, h => h
  | v :: vs, k, w, h => setL_below hK vs (k + 1) _ (h.setCell (p := ⟨B, k, none⟩) hK v)
theorem setL_other {B M : Nat} (hM : M ≠ B) : ∀ (vs : List Value) (k : Nat) (w : World), (setL w B k vs).heap[M]? = w.heap[M]?
  | [], k, w => rfl
  | v :: vs, k, w => (setL_other hM vs (k + 1) _).trans (heap_setCell_other _ _ _ _ (by exact hM))
theorem st_cells {w : World} {B : Nat} {n : Int} {T : TypeId} (h : w.heap[B]? = some (.cells (stC n) T (0, 0))) : w.cell? ⟨B, 0, none⟩ = some (.int .i64 n) ∧ w.cell? ⟨B, 1, none⟩ = some (.int .i64 0) ∧ w.cell? ⟨B, 2, none⟩ = some (.int .i64 0) ∧ w.cell? ⟨B, 3, none⟩ = some (.int .i64 0) ∧ w.cell? ⟨B, 4, none⟩ = some (.int .i64 0) ∧ w.cell? ⟨B, 5, none⟩ = some (.int .i64 0) ∧ w.cell? ⟨B, 6, none⟩ = some (.int .i64 0) ∧ w.cell? ⟨B, 7, none⟩ = some (.int .i64 0) ∧ w.cell? ⟨B, 8, none⟩ = some (.int .i64 0) ∧ w.cell? ⟨B, 9, none⟩ = some (.slice none 0 0) ∧ w.cell? ⟨B, 10, none⟩ = some (.int .u64 0) :=
  ⟨cell_of_row w B 0 _ _ _ h, cell_of_row w B 1 _ _ _ h, cell_of_row w B 2 _ _ _ h, cell_of_row w B 3 _ _ _ h, cell_of_row w B 4 _ _ _ h, cell_of_row w B 5 _ _ _ h, cell_of_row w B 6 _ _ _ h, cell_of_row w B 7 _ _ _ h, cell_of_row w B 8 _ _ _ h, cell_of_row w B 9 _ _ _ h, cell_of_row w B 10 _ _ _ h⟩
theorem st_free {w : World} {B : Nat} {n : Int} {T : TypeId} (h : w.heap[B]? = some (.cells (stC n) T (0, 0))) : ∀ j, w.frozen? ⟨B, j, none⟩ = false := fun j => frozen_of_row w B j _ _ h
set_option maxHeartbeats 1600000 in
theorem pstate (w : World) (L D : Nat) (r : Int) (hL : LeftC w L D) (hd : NewD w D r) :
    Calls Tryz.prog 25 #[.pointer (some ⟨L, 0, none⟩)] w fun e w' => e = .returned (.tuple #[.agg (stC 1), .int .i64 0]) ∧ LeftC w' L D ∧ Below L w w' := by
  obtain ⟨W0, hW0⟩ : ∃ W0, W0 = w.alloc (.cells (stC 0) 58) := ⟨_, rfl⟩
  have HW := Lib.hid hW0
  have hb0 : Below w.heap.size w W0 := by rw [hW0]; exact bel0 _ (Below.refl _ _)
  have HX := Lib.hid (show W0.heap[w.heap.size]? = some (.cells (stC 0) 58 (0, 0)) by rw [hW0]; exact Go.heap_alloc_new w _)
  have HL := Lib.hid (hL.below hb0)
  have HD := Lib.hid (hd.below hb0)
  have hLt := (Array.getElem?_eq_some_iff.1 hL).1
  have HLt := Lib.hid hLt
  have HB0 := Lib.hid (show Below L w W0 from hb0.mono (Nat.le_of_lt hLt))
  obtain ⟨l0, l5, l6, l7, l8⟩ := hL.cells
  clear hW0 hL hd hb0 hLt
  unfold stC at HW
  go_enter Tryz.func25, Tryz.ntmps25
  go_wp2_with fail
  rw [← HW.out]
  clear l0 l5 l6 l7 l8
  obtain ⟨l0, l5, l6, l7, l8⟩ := HL.out.cells
  refine (psize D r 0 (.inl rfl) _ HD.out).mono ?_
  rintro e w1 ⟨rfl, hw⟩
  subst hw
  obtain ⟨y0, y1, y2, y3, y4, y5, y6, y7, y8, y9, y10⟩ := st_cells HX.out
  have zz := st_free HX.out
  have hne := HLt.out
  have hlt := (Array.getElem?_eq_some_iff.1 HX.out).1
  go_wp2_with fail
  have HP := Lib.hid (show LeftC (setL (w1.setCell ⟨L, 6, none⟩ (.int .i64 0)) w.heap.size 0 (stC 1).toList) L D ∧ Below L w (setL (w1.setCell ⟨L, 6, none⟩ (.int .i64 0)) w.heap.size 0 (stC 1).toList) from
    ⟨(setL_other (by omega) _ _ _).trans (Go.heap_setCell_same w1 L 6 _ _ (.int .i64 0) HL.out), setL_below (Nat.le_of_lt hne) _ _ _ (HB0.out.setCell (p := ⟨L, 6, none⟩) (Nat.le_refl _) _)⟩)
  refine bodyPost_ret (v := .tuple #[.agg (stC 1), .int .i64 0]) (by simp [results, Tryz.results25, go_sem, y0, y1, y2, y3, y4, y5, y6, y7, y8, y9, y10, zz, hlt, hne, stC]) rfl ⟨rfl, HP.out⟩
end Go.Proofs.YtbcjhngpcodaoaaGreatDoor
