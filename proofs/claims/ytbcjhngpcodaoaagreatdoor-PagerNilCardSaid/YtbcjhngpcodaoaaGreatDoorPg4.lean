/- PagerNil: Open of a new disk. -/
import Derived.Test.YtbcjhngpcodaoaaGreatDoorPg3
namespace Go.Proofs.YtbcjhngpcodaoaaGreatDoor
open Go.RowKit
set_option linter.unusedVariables false
set_option maxRecDepth 100000

theorem LeftC.sets {w : World} {L D : Nat} (h : LeftC w L D) : LeftC (setL w L 1 [.int .u64 0, .int .i64 0, .slice none 0 0, .slice none 0 0, .bool false]) L D :=
  Go.heap_setCell_same _ L 5 _ _ (.bool false) (Go.heap_setCell_same _ L 4 _ _ (.slice none 0 0) (Go.heap_setCell_same _ L 3 _ _ (.slice none 0 0) (Go.heap_setCell_same _ L 2 _ _ (.int .i64 0) (Go.heap_setCell_same w L 1 _ _ (.int .u64 0) h))))
theorem LeftC.all {w : World} {L D : Nat} (h : LeftC w L D) : w.cell? ⟨L, 1, none⟩ = some (.int .u64 0) ∧ w.cell? ⟨L, 2, none⟩ = some (.int .i64 0) ∧ w.cell? ⟨L, 3, none⟩ = some (.slice none 0 0) ∧ w.cell? ⟨L, 4, none⟩ = some (.slice none 0 0) ∧ (∀ j, w.frozen? ⟨L, j, none⟩ = false) :=
  ⟨cell_of_row w L 1 _ _ _ h, cell_of_row w L 2 _ _ _ h, cell_of_row w L 3 _ _ _ h, cell_of_row w L 4 _ _ _ h, fun j => frozen_of_row w L j _ _ h⟩
/-- what Open leaves -/
def OpenPost (w : World) (D : Nat) (e : Ending) (w' : World) : Prop := ∃ F P Q fr, e = .returned (.tuple #[.pointer (some ⟨P, 0, none⟩), .int .i64 0]) ∧ PgR w' P (pgC D 1 fr (.map (some F)) 0 (.map (some Q)) 1) ∧ w'.heap[F]? = some (.map #[] 0) ∧ w'.heap[Q]? = some (.map #[] 0) ∧ w.heap.size ≤ F ∧ F < P ∧ P < Q ∧ Below w.heap.size w w'
set_option maxHeartbeats 3200000 in
theorem popen (w : World) (D : Nat) (hd : NewD w D 10000) : Calls Tryz.prog 6 #[.pointer (some ⟨D, 0, none⟩), .int .i64 4] w (OpenPost w D) := by
  have HD := Lib.hid hd
  have hmm := @run_makeMap Tryz.prog
  clear hd
  go_enter Tryz.func6, Tryz.ntmps6
  go_wp2_with fail
  refine (psize D 10000 1 (.inr rfl) _ HD.out).mono ?_
  rintro e w1 ⟨rfl, hw⟩
  subst hw
  go_wp2_with fail
  refine (pread D 10000 _ HD.out).mono ?_
  rintro e w2 ⟨rfl, hw⟩
  subst hw
  obtain ⟨W1, hW1⟩ : ∃ W1, W1 = w2.alloc (.cells #[.pointer (some ⟨D, 0, none⟩), .int .u64 0, .int .i64 0, .slice none 0 0, .slice none 0 0, .bool false, .int .i64 0] 53) := ⟨_, rfl⟩
  have hb1 : Below w2.heap.size w2 W1 := by rw [hW1]; exact bel0 _ (Below.refl _ _)
  have HL1 := Lib.hid (show LeftC W1 w2.heap.size D by rw [hW1]; exact Go.heap_alloc_new w2 _)
  have HD1 := Lib.hid (HD.out.below hb1)
  have HB1 := Lib.hid hb1
  have HW1 := Lib.hid hW1
  clear hb1 hW1
  go_wp2_with fail
  rw [← HW1.out]
  refine (pjread _).mono ?_
  rintro e w3 ⟨rfl, hb3⟩
  have HL3 := Lib.hid (HL1.out.below hb3)
  have hlt3 : w2.heap.size < w3.heap.size := HL3.out.cells.2.2.2.2
  obtain ⟨l0, l5, l6, l7, l8⟩ := HL3.out.cells
  obtain ⟨l1, l2, l3, l4, lz⟩ := HL3.out.all
  obtain ⟨W4, hW4⟩ : ∃ W4, W4 = setL w3 w2.heap.size 1 [.int .u64 0, .int .i64 0, .slice none 0 0, .slice none 0 0, .bool false] := ⟨_, rfl⟩
  have HL4 := Lib.hid (show LeftC W4 w2.heap.size D by rw [hW4]; exact HL3.out.sets)
  have HB4 := Lib.hid (show Below w2.heap.size w2 W4 by rw [hW4]; exact setL_below (Nat.le_refl _) _ _ _ (bt HB1.out hb3))
  have HD4 := Lib.hid (show NewD W4 D 10000 from (HB4.out.block D (Array.getElem?_eq_some_iff.1 HD.out).1).trans HD.out)
  have HW4 := Lib.hid (show W4 = ((((w3.setCell ⟨w2.heap.size, 1, none⟩ (.int .u64 0)).setCell ⟨w2.heap.size, 2, none⟩ (.int .i64 0)).setCell ⟨w2.heap.size, 3, none⟩ (.slice none 0 0)).setCell ⟨w2.heap.size, 4, none⟩ (.slice none 0 0)).setCell ⟨w2.heap.size, 5, none⟩ (.bool false) from hW4)
  clear hb3 hW4 l8
  go_wp2_with fail
  rw [← HW4.out]
  clear l0 l1 l2 l3 l4 l5 l6 l7 lz hlt3
  refine (pstate W4 w2.heap.size D 10000 HL4.out HD4.out).mono ?_
  rintro e w5 ⟨rfl, hl5, hb5⟩
  have HL5 := Lib.hid hl5
  have hlt5 := hl5.cells.2.2.2.2
  have HB5 := Lib.hid (show Below w2.heap.size w2 w5 from HB4.out.trans hb5)
  clear hb5 hl5
  unfold stC
  obtain ⟨W6, hW6⟩ : ∃ W6, W6 = w5.alloc (.cells (stC 1) 58) := ⟨_, rfl⟩
  have HX6 := Lib.hid (show W6.heap[w5.heap.size]? = some (.cells (stC 1) 58 (0, 0)) by rw [hW6]; exact Go.heap_alloc_new w5 _)
  have hb6 : Below w5.heap.size w5 W6 := by rw [hW6]; exact bel0 _ (Below.refl _ _)
  have HL6 := Lib.hid (HL5.out.below hb6)
  have HB6 := Lib.hid (bt HB5.out hb6)
  have HD6 := Lib.hid (show NewD W6 D 10000 from (HB6.out.block D (Array.getElem?_eq_some_iff.1 HD.out).1).trans HD.out)
  have HW6 := Lib.hid (show W6 = w5.alloc (.cells #[.int .i64 1, .int .i64 0, .int .i64 0, .int .i64 0, .int .i64 0, .int .i64 0, .int .i64 0, .int .i64 0, .int .i64 0, .slice none 0 0, .int .u64 0] 58) from hW6)
  have hs6 : W6.heap.size = w5.heap.size + 1 := by rw [hW6]; simp
  have HS6 := Lib.hid hs6
  clear hb6 hW6 hs6
  go_wp2_with fail
  rw [← HW6.out]
  refine (prestore W6 w2.heap.size D 10000 HL6.out HD6.out).mono ?_
  rintro e w7 ⟨rfl, hw⟩
  subst hw
  obtain ⟨y0, y1, y2, y3, y4, y5, y6, y7, y8, y9, y10⟩ := st_cells HX6.out
  obtain ⟨l0, l5, l6, l7, l8⟩ := HL6.out.cells
  have hy8 := (Array.getElem?_eq_some_iff.1 HX6.out).1
  go_wp2_with fail
  obtain ⟨W8, hW8⟩ : ∃ W8, W8 = (w7.alloc (.map #[] 0)).alloc (.cells (pgC D 0 (.map none) (.map (some w7.heap.size)) 0 (.map none) 0) 66) := ⟨_, rfl⟩
  have h2 := two_allocs w7 (.map #[] 0) (.cells (pgC D 0 (.map none) (.map (some w7.heap.size)) 0 (.map none) 0) 66)
  rw [← hW8] at h2
  have hb8 : Below w7.heap.size w7 W8 := by rw [hW8]; exact bel0 _ (bel0 _ (Below.refl _ _))
  have HX8 := Lib.hid h2
  have HB8 := Lib.hid (bt HB6.out hb8)
  have hSz := HB6.out.size
  dsimp only [pgC] at hW8
  rw [← hW8]
  clear hW8 h2 hb8 y0 y1 y2 y3 y4 y5 y6 y7 y8 y9 y10 l0 l5 l6 l7 l8 hy8
  refine (pclone 1 W8).mono ?_
  rintro e w9 ⟨rfl, hb9⟩
  have HP9 := Lib.hid (show PgR w9 (w7.heap.size + 1) _ from PgR.below (w := W8) HX8.out.2 hb9)
  have HF9 := Lib.hid ((hb9.block w7.heap.size (Array.getElem?_eq_some_iff.1 HX8.out.1).1).trans HX8.out.1)
  have HB9 := Lib.hid (bt HB8.out hb9)
  clear hb9
  unfold stC
  go_wp2_with fail
  refine (pbecome w9 (w7.heap.size + 1) D _ HP9.out).mono ?_
  rintro e w10 ⟨rfl, ⟨fr, hp10⟩, hb10⟩
  have HP10 := Lib.hid hp10
  have HF10 := Lib.hid ((hb10.block w7.heap.size (by omega)).trans HF9.out)
  have HB10 := Lib.hid (show Below w2.heap.size w2 w10 from HB9.out.trans (hb10.mono (by omega)))
  clear hp10 hb10
  go_wp2_with fail
  refine (pforget w10 (w7.heap.size + 1) D 1 fr _ 0 HP10.out).mono ?_
  rintro e w11 ⟨rfl, hp11, hq11, hb11⟩
  have hlt := HP10.out.lt
  have HQ := Lib.hid (show OpenPost w2 D (.returned (.tuple #[.pointer (some ⟨w7.heap.size + 1, 0, none⟩), .int .i64 0])) w11 from
    ⟨w7.heap.size, w7.heap.size + 1, w10.heap.size, fr, rfl, hp11, (hb11.block w7.heap.size (by omega)).trans HF10.out, hq11, hSz, by omega, hlt, HB10.out.trans (hb11.mono (by omega))⟩)
  clear hp11 hq11 hb11
  go_wp2
  go_ret2
  exact HQ.out
end Go.Proofs.YtbcjhngpcodaoaaGreatDoor
