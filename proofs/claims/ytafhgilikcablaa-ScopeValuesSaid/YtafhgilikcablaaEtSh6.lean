/- The document's shape of an expression, a kind a theorem. -/
import Derived.Test.YtafhgilikcablaaEtIn
namespace Go.Proofs.Ytafhgilikcablaa
open Go.RowKit
set_option linter.unusedVariables false
set_option linter.unusedSimpArgs false
set_option maxRecDepth 100000
set_option maxHeartbeats 12800000 in
theorem shape4 
    (w : World) (op : ByteArray) (vk vn : Int) (vs tab col : ByteArray) (sa : Option Addr) (n sc : Nat) (hn : n ≤ 9223372036854775807) :
    Calls Try.prog 136 #[.agg #[.int .i64 4, .string op, .int .i64 vk, .int .i64 vn, .string vs, .string tab, .string col, .slice sa n sc]] w fun e' w' => e' = .returned (.bool (decide (n = 2) && decide (tab.toList = []) && decide (col.toList = []) && decide (vk = 0) && decide (vn = 0) && decide (vs.toList = []) && inB op [⟨#[79, 82]⟩, ⟨#[65, 78, 68]⟩, ⟨#[61]⟩, ⟨#[60, 62]⟩, ⟨#[60]⟩, ⟨#[60, 61]⟩, ⟨#[62]⟩, ⟨#[62, 61]⟩, ⟨#[43]⟩, ⟨#[45]⟩, ⟨#[42]⟩])) ∧ Below w.heap.size w w' := by
  have HB := Lib.hid (show Below w.heap.size w (w.alloc (.cells #[.int .i64 4, .string op, .int .i64 vk, .int .i64 vn, .string vs, .string tab, .string col, .slice sa n sc] 41)) from bel0 _ (Below.refl _ _))
  have HX := Lib.hid (show (w.alloc (.cells #[.int .i64 4, .string op, .int .i64 vk, .int .i64 vn, .string vs, .string tab, .string col, .slice sa n sc] 41)).heap[w.heap.size]? = some (.cells #[.int .i64 4, .string op, .int .i64 vk, .int .i64 vn, .string vs, .string tab, .string col, .slice sa n sc] 41 (0, 0)) from Go.heap_alloc_new w _)
  have HS := Lib.hid (show w.heap.size < (w.alloc (.cells #[.int .i64 4, .string op, .int .i64 vk, .int .i64 vn, .string vs, .string tab, .string col, .slice sa n sc] 41)).heap.size by simp)
  have HI := Lib.hid (show ∀ (W : World) (T : TypeId) (i : Nat) (h : i < ([⟨#[79, 82]⟩, ⟨#[65, 78, 68]⟩, ⟨#[61]⟩, ⟨#[60, 62]⟩, ⟨#[60]⟩, ⟨#[60, 61]⟩, ⟨#[62]⟩, ⟨#[62, 61]⟩, ⟨#[43]⟩, ⟨#[45]⟩, ⟨#[42]⟩] : List ByteArray).length), (W.alloc (.cells #[.string ⟨#[79, 82]⟩, .string ⟨#[65, 78, 68]⟩, .string ⟨#[61]⟩, .string ⟨#[60, 62]⟩, .string ⟨#[60]⟩, .string ⟨#[60, 61]⟩, .string ⟨#[62]⟩, .string ⟨#[62, 61]⟩, .string ⟨#[43]⟩, .string ⟨#[45]⟩, .string ⟨#[42]⟩] T)).cell? ⟨W.heap.size, i, none⟩ = some (.string ([⟨#[79, 82]⟩, ⟨#[65, 78, 68]⟩, ⟨#[61]⟩, ⟨#[60, 62]⟩, ⟨#[60]⟩, ⟨#[60, 61]⟩, ⟨#[62]⟩, ⟨#[62, 61]⟩, ⟨#[43]⟩, ⟨#[45]⟩, ⟨#[42]⟩] : List ByteArray)[i]) from fun W T i h => by
    have hb := Go.heap_alloc_new W (.cells #[.string ⟨#[79, 82]⟩, .string ⟨#[65, 78, 68]⟩, .string ⟨#[61]⟩, .string ⟨#[60, 62]⟩, .string ⟨#[60]⟩, .string ⟨#[60, 61]⟩, .string ⟨#[62]⟩, .string ⟨#[62, 61]⟩, .string ⟨#[43]⟩, .string ⟨#[45]⟩, .string ⟨#[42]⟩] T)
    match i, h with
    | 0, _ => exact cell_of_row _ _ 0 _ _ _ hb
    | 1, _ => exact cell_of_row _ _ 1 _ _ _ hb
    | 2, _ => exact cell_of_row _ _ 2 _ _ _ hb
    | 3, _ => exact cell_of_row _ _ 3 _ _ _ hb
    | 4, _ => exact cell_of_row _ _ 4 _ _ _ hb
    | 5, _ => exact cell_of_row _ _ 5 _ _ _ hb
    | 6, _ => exact cell_of_row _ _ 6 _ _ _ hb
    | 7, _ => exact cell_of_row _ _ 7 _ _ _ hb
    | 8, _ => exact cell_of_row _ _ 8 _ _ _ hb
    | 9, _ => exact cell_of_row _ _ 9 _ _ _ hb
    | 10, _ => exact cell_of_row _ _ 10 _ _ _ hb
    | k + 11, h => simp at h; omega)
  go_enter Try.func136, Try.ntmps136
  go_upto_region 1 with (fail)
  generalize (w.alloc (.cells #[.int .i64 4, .string op, .int .i64 vk, .int .i64 vn, .string vs, .string tab, .string col, .slice sa n sc] 41)) = w1 at *
  have HC := Lib.hid (show ∀ w2 : World, Below w1.heap.size w1 w2 → w2.cell? ⟨w.heap.size, 3, none⟩ = some (.int .i64 vn) ∧ w2.cell? ⟨w.heap.size, 1, none⟩ = some (.string op) ∧ w2.cell? ⟨w.heap.size, 5, none⟩ = some (.string tab) ∧ w2.cell? ⟨w.heap.size, 6, none⟩ = some (.string col) from fun w2 h =>
    ⟨(h.cell (p := ⟨w.heap.size, 3, none⟩) HS.out).trans (cell_of_row w1 w.heap.size 3 _ _ _ HX.out), (h.cell (p := ⟨w.heap.size, 1, none⟩) HS.out).trans (cell_of_row w1 w.heap.size 1 _ _ _ HX.out), (h.cell (p := ⟨w.heap.size, 5, none⟩) HS.out).trans (cell_of_row w1 w.heap.size 5 _ _ _ HX.out), (h.cell (p := ⟨w.heap.size, 6, none⟩) HS.out).trans (cell_of_row w1 w.heap.size 6 _ _ _ HX.out)⟩)
  have c0 : w1.cell? ⟨w.heap.size, 0, none⟩ = some (.int .i64 4) := cell_of_row w1 w.heap.size 0 _ _ _ HX.out
  have c1 : w1.cell? ⟨w.heap.size, 1, none⟩ = some (.string op) := cell_of_row w1 w.heap.size 1 _ _ _ HX.out
  have c2 : w1.cell? ⟨w.heap.size, 2, none⟩ = some (.int .i64 vk) := cell_of_row w1 w.heap.size 2 _ _ _ HX.out
  have c3 : w1.cell? ⟨w.heap.size, 3, none⟩ = some (.int .i64 vn) := cell_of_row w1 w.heap.size 3 _ _ _ HX.out
  have c4 : w1.cell? ⟨w.heap.size, 4, none⟩ = some (.string vs) := cell_of_row w1 w.heap.size 4 _ _ _ HX.out
  have c5 : w1.cell? ⟨w.heap.size, 5, none⟩ = some (.string tab) := cell_of_row w1 w.heap.size 5 _ _ _ HX.out
  have c6 : w1.cell? ⟨w.heap.size, 6, none⟩ = some (.string col) := cell_of_row w1 w.heap.size 6 _ _ _ HX.out
  have c7 : w1.cell? ⟨w.heap.size, 7, none⟩ = some (.slice sa n sc) := cell_of_row w1 w.heap.size 7 _ _ _ HX.out
  go_wp2_with (go_at_call 168; refine (in_any _ op w1.heap.size [⟨#[79, 82]⟩, ⟨#[65, 78, 68]⟩, ⟨#[61]⟩, ⟨#[60, 62]⟩, ⟨#[60]⟩, ⟨#[60, 61]⟩, ⟨#[62]⟩, ⟨#[62, 61]⟩, ⟨#[43]⟩, ⟨#[45]⟩, ⟨#[42]⟩] 11 rfl (by omega) (by simp) (by exact HI.out _ _)).mono ?_; rintro e' w2 ⟨rfl, hb2'⟩; have hb2 := bt (bel0 _ (Below.refl _ w1)) hb2'; clear hb2'; obtain ⟨_, g1, _, _⟩ := HC.out w2 hb2)
  all_goals
    go_ret
    refine ⟨by first | (simp [*]; done) | (simp [*]; intros; omega) | (simp [*]; rw [Bool.eq_iff_iff]; simp only [beq_iff_eq, decide_eq_true_eq]; try omega), ?_⟩
    first | exact HB.out | exact bt HB.out hb2 | exact bt HB.out (bt hb2 hb3)
end Go.Proofs.Ytafhgilikcablaa
namespace Go.Proofs.Ytafhgilikcablaa
open Go.RowKit
set_option linter.unusedVariables false
set_option linter.unusedSimpArgs false
set_option maxRecDepth 100000
set_option maxHeartbeats 12800000 in
theorem shape5 
    (w : World) (op : ByteArray) (vk vn : Int) (vs tab col : ByteArray) (sa : Option Addr) (n sc : Nat) (hn : n ≤ 9223372036854775807) :
    Calls Try.prog 136 #[.agg #[.int .i64 5, .string op, .int .i64 vk, .int .i64 vn, .string vs, .string tab, .string col, .slice sa n sc]] w fun e' w' => e' = .returned (.bool (decide (n = 1) && decide (tab.toList = []) && decide (col.toList = []) && decide (vk = 0) && decide (vn = 0) && decide (vs.toList = []) && inB op [⟨#[73, 83, 32, 78, 85, 76, 76]⟩, ⟨#[73, 83, 32, 78, 79, 84, 32, 78, 85, 76, 76]⟩])) ∧ Below w.heap.size w w' := by
  have HB := Lib.hid (show Below w.heap.size w (w.alloc (.cells #[.int .i64 5, .string op, .int .i64 vk, .int .i64 vn, .string vs, .string tab, .string col, .slice sa n sc] 41)) from bel0 _ (Below.refl _ _))
  have HX := Lib.hid (show (w.alloc (.cells #[.int .i64 5, .string op, .int .i64 vk, .int .i64 vn, .string vs, .string tab, .string col, .slice sa n sc] 41)).heap[w.heap.size]? = some (.cells #[.int .i64 5, .string op, .int .i64 vk, .int .i64 vn, .string vs, .string tab, .string col, .slice sa n sc] 41 (0, 0)) from Go.heap_alloc_new w _)
  have HS := Lib.hid (show w.heap.size < (w.alloc (.cells #[.int .i64 5, .string op, .int .i64 vk, .int .i64 vn, .string vs, .string tab, .string col, .slice sa n sc] 41)).heap.size by simp)
  have HI := Lib.hid (show ∀ (W : World) (T : TypeId) (i : Nat) (h : i < ([⟨#[73, 83, 32, 78, 85, 76, 76]⟩, ⟨#[73, 83, 32, 78, 79, 84, 32, 78, 85, 76, 76]⟩] : List ByteArray).length), (W.alloc (.cells #[.string ⟨#[73, 83, 32, 78, 85, 76, 76]⟩, .string ⟨#[73, 83, 32, 78, 79, 84, 32, 78, 85, 76, 76]⟩] T)).cell? ⟨W.heap.size, i, none⟩ = some (.string ([⟨#[73, 83, 32, 78, 85, 76, 76]⟩, ⟨#[73, 83, 32, 78, 79, 84, 32, 78, 85, 76, 76]⟩] : List ByteArray)[i]) from fun W T i h => by
    have hb := Go.heap_alloc_new W (.cells #[.string ⟨#[73, 83, 32, 78, 85, 76, 76]⟩, .string ⟨#[73, 83, 32, 78, 79, 84, 32, 78, 85, 76, 76]⟩] T)
    match i, h with
    | 0, _ => exact cell_of_row _ _ 0 _ _ _ hb
    | 1, _ => exact cell_of_row _ _ 1 _ _ _ hb
    | k + 2, h => simp at h; omega)
  go_enter Try.func136, Try.ntmps136
  go_upto_region 1 with (fail)
  generalize (w.alloc (.cells #[.int .i64 5, .string op, .int .i64 vk, .int .i64 vn, .string vs, .string tab, .string col, .slice sa n sc] 41)) = w1 at *
  have HC := Lib.hid (show ∀ w2 : World, Below w1.heap.size w1 w2 → w2.cell? ⟨w.heap.size, 3, none⟩ = some (.int .i64 vn) ∧ w2.cell? ⟨w.heap.size, 1, none⟩ = some (.string op) ∧ w2.cell? ⟨w.heap.size, 5, none⟩ = some (.string tab) ∧ w2.cell? ⟨w.heap.size, 6, none⟩ = some (.string col) from fun w2 h =>
    ⟨(h.cell (p := ⟨w.heap.size, 3, none⟩) HS.out).trans (cell_of_row w1 w.heap.size 3 _ _ _ HX.out), (h.cell (p := ⟨w.heap.size, 1, none⟩) HS.out).trans (cell_of_row w1 w.heap.size 1 _ _ _ HX.out), (h.cell (p := ⟨w.heap.size, 5, none⟩) HS.out).trans (cell_of_row w1 w.heap.size 5 _ _ _ HX.out), (h.cell (p := ⟨w.heap.size, 6, none⟩) HS.out).trans (cell_of_row w1 w.heap.size 6 _ _ _ HX.out)⟩)
  have c0 : w1.cell? ⟨w.heap.size, 0, none⟩ = some (.int .i64 5) := cell_of_row w1 w.heap.size 0 _ _ _ HX.out
  have c1 : w1.cell? ⟨w.heap.size, 1, none⟩ = some (.string op) := cell_of_row w1 w.heap.size 1 _ _ _ HX.out
  have c2 : w1.cell? ⟨w.heap.size, 2, none⟩ = some (.int .i64 vk) := cell_of_row w1 w.heap.size 2 _ _ _ HX.out
  have c3 : w1.cell? ⟨w.heap.size, 3, none⟩ = some (.int .i64 vn) := cell_of_row w1 w.heap.size 3 _ _ _ HX.out
  have c4 : w1.cell? ⟨w.heap.size, 4, none⟩ = some (.string vs) := cell_of_row w1 w.heap.size 4 _ _ _ HX.out
  have c5 : w1.cell? ⟨w.heap.size, 5, none⟩ = some (.string tab) := cell_of_row w1 w.heap.size 5 _ _ _ HX.out
  have c6 : w1.cell? ⟨w.heap.size, 6, none⟩ = some (.string col) := cell_of_row w1 w.heap.size 6 _ _ _ HX.out
  have c7 : w1.cell? ⟨w.heap.size, 7, none⟩ = some (.slice sa n sc) := cell_of_row w1 w.heap.size 7 _ _ _ HX.out
  go_wp2_with (go_at_call 168; refine (in_any _ op w1.heap.size [⟨#[73, 83, 32, 78, 85, 76, 76]⟩, ⟨#[73, 83, 32, 78, 79, 84, 32, 78, 85, 76, 76]⟩] 2 rfl (by omega) (by simp) (by exact HI.out _ _)).mono ?_; rintro e' w2 ⟨rfl, hb2'⟩; have hb2 := bt (bel0 _ (Below.refl _ w1)) hb2'; clear hb2'; obtain ⟨_, g1, _, _⟩ := HC.out w2 hb2)
  all_goals
    go_ret
    refine ⟨by first | (simp [*]; done) | (simp [*]; intros; omega) | (simp [*]; rw [Bool.eq_iff_iff]; simp only [beq_iff_eq, decide_eq_true_eq]; try omega), ?_⟩
    first | exact HB.out | exact bt HB.out hb2 | exact bt HB.out (bt hb2 hb3)
end Go.Proofs.Ytafhgilikcablaa
namespace Go.Proofs.Ytafhgilikcablaa
open Go.RowKit
set_option linter.unusedVariables false
set_option linter.unusedSimpArgs false
set_option maxRecDepth 100000
set_option maxHeartbeats 12800000 in
theorem shape6 
    (w : World) (op : ByteArray) (vk vn : Int) (vs tab col : ByteArray) (sa : Option Addr) (n sc : Nat) (hn : n ≤ 9223372036854775807) :
    Calls Try.prog 136 #[.agg #[.int .i64 6, .string op, .int .i64 vk, .int .i64 vn, .string vs, .string tab, .string col, .slice sa n sc]] w fun e' w' => e' = .returned (.bool (decide (tab.toList = []) && decide (col.toList = []) && decide (vk = 0) && decide (vn = 0) && decide (vs.toList = []) && inB op [⟨#[67, 79, 85, 78, 84]⟩, ⟨#[83, 85, 77]⟩, ⟨#[77, 73, 78]⟩, ⟨#[77, 65, 88]⟩] && (decide (n = 1) || decide (n = 0) && decide (op.toList = [67, 79, 85, 78, 84])))) ∧ Below w.heap.size w w' := by
  have HB := Lib.hid (show Below w.heap.size w (w.alloc (.cells #[.int .i64 6, .string op, .int .i64 vk, .int .i64 vn, .string vs, .string tab, .string col, .slice sa n sc] 41)) from bel0 _ (Below.refl _ _))
  have HX := Lib.hid (show (w.alloc (.cells #[.int .i64 6, .string op, .int .i64 vk, .int .i64 vn, .string vs, .string tab, .string col, .slice sa n sc] 41)).heap[w.heap.size]? = some (.cells #[.int .i64 6, .string op, .int .i64 vk, .int .i64 vn, .string vs, .string tab, .string col, .slice sa n sc] 41 (0, 0)) from Go.heap_alloc_new w _)
  have HS := Lib.hid (show w.heap.size < (w.alloc (.cells #[.int .i64 6, .string op, .int .i64 vk, .int .i64 vn, .string vs, .string tab, .string col, .slice sa n sc] 41)).heap.size by simp)
  have HI := Lib.hid (show ∀ (W : World) (T : TypeId) (i : Nat) (h : i < ([⟨#[67, 79, 85, 78, 84]⟩, ⟨#[83, 85, 77]⟩, ⟨#[77, 73, 78]⟩, ⟨#[77, 65, 88]⟩] : List ByteArray).length), (W.alloc (.cells #[.string ⟨#[67, 79, 85, 78, 84]⟩, .string ⟨#[83, 85, 77]⟩, .string ⟨#[77, 73, 78]⟩, .string ⟨#[77, 65, 88]⟩] T)).cell? ⟨W.heap.size, i, none⟩ = some (.string ([⟨#[67, 79, 85, 78, 84]⟩, ⟨#[83, 85, 77]⟩, ⟨#[77, 73, 78]⟩, ⟨#[77, 65, 88]⟩] : List ByteArray)[i]) from fun W T i h => by
    have hb := Go.heap_alloc_new W (.cells #[.string ⟨#[67, 79, 85, 78, 84]⟩, .string ⟨#[83, 85, 77]⟩, .string ⟨#[77, 73, 78]⟩, .string ⟨#[77, 65, 88]⟩] T)
    match i, h with
    | 0, _ => exact cell_of_row _ _ 0 _ _ _ hb
    | 1, _ => exact cell_of_row _ _ 1 _ _ _ hb
    | 2, _ => exact cell_of_row _ _ 2 _ _ _ hb
    | 3, _ => exact cell_of_row _ _ 3 _ _ _ hb
    | k + 4, h => simp at h; omega)
  go_enter Try.func136, Try.ntmps136
  go_upto_region 1 with (fail)
  generalize (w.alloc (.cells #[.int .i64 6, .string op, .int .i64 vk, .int .i64 vn, .string vs, .string tab, .string col, .slice sa n sc] 41)) = w1 at *
  have HC := Lib.hid (show ∀ w2 : World, Below w1.heap.size w1 w2 → w2.cell? ⟨w.heap.size, 3, none⟩ = some (.int .i64 vn) ∧ w2.cell? ⟨w.heap.size, 1, none⟩ = some (.string op) ∧ w2.cell? ⟨w.heap.size, 5, none⟩ = some (.string tab) ∧ w2.cell? ⟨w.heap.size, 6, none⟩ = some (.string col) from fun w2 h =>
    ⟨(h.cell (p := ⟨w.heap.size, 3, none⟩) HS.out).trans (cell_of_row w1 w.heap.size 3 _ _ _ HX.out), (h.cell (p := ⟨w.heap.size, 1, none⟩) HS.out).trans (cell_of_row w1 w.heap.size 1 _ _ _ HX.out), (h.cell (p := ⟨w.heap.size, 5, none⟩) HS.out).trans (cell_of_row w1 w.heap.size 5 _ _ _ HX.out), (h.cell (p := ⟨w.heap.size, 6, none⟩) HS.out).trans (cell_of_row w1 w.heap.size 6 _ _ _ HX.out)⟩)
  have c0 : w1.cell? ⟨w.heap.size, 0, none⟩ = some (.int .i64 6) := cell_of_row w1 w.heap.size 0 _ _ _ HX.out
  have c1 : w1.cell? ⟨w.heap.size, 1, none⟩ = some (.string op) := cell_of_row w1 w.heap.size 1 _ _ _ HX.out
  have c2 : w1.cell? ⟨w.heap.size, 2, none⟩ = some (.int .i64 vk) := cell_of_row w1 w.heap.size 2 _ _ _ HX.out
  have c3 : w1.cell? ⟨w.heap.size, 3, none⟩ = some (.int .i64 vn) := cell_of_row w1 w.heap.size 3 _ _ _ HX.out
  have c4 : w1.cell? ⟨w.heap.size, 4, none⟩ = some (.string vs) := cell_of_row w1 w.heap.size 4 _ _ _ HX.out
  have c5 : w1.cell? ⟨w.heap.size, 5, none⟩ = some (.string tab) := cell_of_row w1 w.heap.size 5 _ _ _ HX.out
  have c6 : w1.cell? ⟨w.heap.size, 6, none⟩ = some (.string col) := cell_of_row w1 w.heap.size 6 _ _ _ HX.out
  have c7 : w1.cell? ⟨w.heap.size, 7, none⟩ = some (.slice sa n sc) := cell_of_row w1 w.heap.size 7 _ _ _ HX.out
  go_wp2_with (go_at_call 168; refine (in_any _ op w1.heap.size [⟨#[67, 79, 85, 78, 84]⟩, ⟨#[83, 85, 77]⟩, ⟨#[77, 73, 78]⟩, ⟨#[77, 65, 88]⟩] 4 rfl (by omega) (by simp) (by exact HI.out _ _)).mono ?_; rintro e' w2 ⟨rfl, hb2'⟩; have hb2 := bt (bel0 _ (Below.refl _ w1)) hb2'; clear hb2'; obtain ⟨_, g1, _, _⟩ := HC.out w2 hb2)
  all_goals
    go_ret
    refine ⟨by first | (simp [*]; done) | (simp [*]; intros; omega) | (simp [*]; rw [Bool.eq_iff_iff]; simp only [beq_iff_eq, decide_eq_true_eq]; try omega), ?_⟩
    first | exact HB.out | exact bt HB.out hb2 | exact bt HB.out (bt hb2 hb3)
end Go.Proofs.Ytafhgilikcablaa
