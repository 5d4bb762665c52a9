/- The document's shape of an expression, a kind a theorem. -/
import Derived.Test.YtafhgilikcablaaEtIn
namespace Go.Proofs.Ytafhgilikcablaa
open Go.RowKit
set_option linter.unusedVariables false
set_option linter.unusedSimpArgs false
set_option maxRecDepth 100000
set_option maxHeartbeats 12800000 in
theorem shape0 (k : Int)
    (w : World) (op : ByteArray) (vk vn : Int) (vs tab col : ByteArray) (sa : Option Addr) (n sc : Nat) (hn : n ≤ 9223372036854775807) (h1 : k ≠ 1) (h2 : k ≠ 2) (h3 : k ≠ 3) (h4 : k ≠ 4) (h5 : k ≠ 5) (h6 : k ≠ 6) :
    Calls Try.prog 136 #[.agg #[.int .i64 k, .string op, .int .i64 vk, .int .i64 vn, .string vs, .string tab, .string col, .slice sa n sc]] w fun e' w' => e' = .returned (.bool (false)) ∧ Below w.heap.size w w' := by
  have HB := Lib.hid (show Below w.heap.size w (w.alloc (.cells #[.int .i64 k, .string op, .int .i64 vk, .int .i64 vn, .string vs, .string tab, .string col, .slice sa n sc] 41)) from bel0 _ (Below.refl _ _))
  have HX := Lib.hid (show (w.alloc (.cells #[.int .i64 k, .string op, .int .i64 vk, .int .i64 vn, .string vs, .string tab, .string col, .slice sa n sc] 41)).heap[w.heap.size]? = some (.cells #[.int .i64 k, .string op, .int .i64 vk, .int .i64 vn, .string vs, .string tab, .string col, .slice sa n sc] 41 (0, 0)) from Go.heap_alloc_new w _)
  have HS := Lib.hid (show w.heap.size < (w.alloc (.cells #[.int .i64 k, .string op, .int .i64 vk, .int .i64 vn, .string vs, .string tab, .string col, .slice sa n sc] 41)).heap.size by simp)
  go_enter Try.func136, Try.ntmps136
  go_upto_region 1 with (fail)
  generalize (w.alloc (.cells #[.int .i64 k, .string op, .int .i64 vk, .int .i64 vn, .string vs, .string tab, .string col, .slice sa n sc] 41)) = w1 at *
  have HC := Lib.hid (show ∀ w2 : World, Below w1.heap.size w1 w2 → w2.cell? ⟨w.heap.size, 3, none⟩ = some (.int .i64 vn) ∧ w2.cell? ⟨w.heap.size, 1, none⟩ = some (.string op) ∧ w2.cell? ⟨w.heap.size, 5, none⟩ = some (.string tab) ∧ w2.cell? ⟨w.heap.size, 6, none⟩ = some (.string col) from fun w2 h =>
    ⟨(h.cell (p := ⟨w.heap.size, 3, none⟩) HS.out).trans (cell_of_row w1 w.heap.size 3 _ _ _ HX.out), (h.cell (p := ⟨w.heap.size, 1, none⟩) HS.out).trans (cell_of_row w1 w.heap.size 1 _ _ _ HX.out), (h.cell (p := ⟨w.heap.size, 5, none⟩) HS.out).trans (cell_of_row w1 w.heap.size 5 _ _ _ HX.out), (h.cell (p := ⟨w.heap.size, 6, none⟩) HS.out).trans (cell_of_row w1 w.heap.size 6 _ _ _ HX.out)⟩)
  have c0 : w1.cell? ⟨w.heap.size, 0, none⟩ = some (.int .i64 k) := cell_of_row w1 w.heap.size 0 _ _ _ HX.out
  have c1 : w1.cell? ⟨w.heap.size, 1, none⟩ = some (.string op) := cell_of_row w1 w.heap.size 1 _ _ _ HX.out
  have c2 : w1.cell? ⟨w.heap.size, 2, none⟩ = some (.int .i64 vk) := cell_of_row w1 w.heap.size 2 _ _ _ HX.out
  have c3 : w1.cell? ⟨w.heap.size, 3, none⟩ = some (.int .i64 vn) := cell_of_row w1 w.heap.size 3 _ _ _ HX.out
  have c4 : w1.cell? ⟨w.heap.size, 4, none⟩ = some (.string vs) := cell_of_row w1 w.heap.size 4 _ _ _ HX.out
  have c5 : w1.cell? ⟨w.heap.size, 5, none⟩ = some (.string tab) := cell_of_row w1 w.heap.size 5 _ _ _ HX.out
  have c6 : w1.cell? ⟨w.heap.size, 6, none⟩ = some (.string col) := cell_of_row w1 w.heap.size 6 _ _ _ HX.out
  have c7 : w1.cell? ⟨w.heap.size, 7, none⟩ = some (.slice sa n sc) := cell_of_row w1 w.heap.size 7 _ _ _ HX.out
  go_wp2_with (fail)
  all_goals
    go_ret
    refine ⟨by first | (simp [*]; done) | (simp [*]; intros; omega) | (simp [*]; rw [Bool.eq_iff_iff]; simp only [beq_iff_eq, decide_eq_true_eq]; try omega), ?_⟩
    first | exact HB.out | exact bt HB.out hb2 | exact bt HB.out (bt hb2 hb3)
end Go.Proofs.Ytafhgilikcablaa
namespace Go.Proofs.Ytafhgilikcablaa
open Go.RowKit
set_option linter.unusedVariables false
set_option linter.unusedSimpArgs false
set_option maxRecDepth 100000
set_option maxHeartbeats 12800000 in
theorem shape1 (fm : Int → Int → ByteArray → Bool) (hfm : ∀ (w : World) (a n : Int) (s : ByteArray), Calls Try.prog 139 #[.agg #[.int .i64 a, .int .i64 n, .string s]] w fun e' w' => e' = .returned (.bool (fm a n s)) ∧ Below w.heap.size w w')
    (w : World) (op : ByteArray) (vk vn : Int) (vs tab col : ByteArray) (sa : Option Addr) (n sc : Nat) (hn : n ≤ 9223372036854775807) :
    Calls Try.prog 136 #[.agg #[.int .i64 1, .string op, .int .i64 vk, .int .i64 vn, .string vs, .string tab, .string col, .slice sa n sc]] w fun e' w' => e' = .returned (.bool (decide (n = 0) && decide (tab.toList = []) && decide (col.toList = []) && decide (op.toList = []) && fm vk vn vs && decide (0 ≤ vn))) ∧ Below w.heap.size w w' := by
  have HB := Lib.hid (show Below w.heap.size w (w.alloc (.cells #[.int .i64 1, .string op, .int .i64 vk, .int .i64 vn, .string vs, .string tab, .string col, .slice sa n sc] 41)) from bel0 _ (Below.refl _ _))
  have HX := Lib.hid (show (w.alloc (.cells #[.int .i64 1, .string op, .int .i64 vk, .int .i64 vn, .string vs, .string tab, .string col, .slice sa n sc] 41)).heap[w.heap.size]? = some (.cells #[.int .i64 1, .string op, .int .i64 vk, .int .i64 vn, .string vs, .string tab, .string col, .slice sa n sc] 41 (0, 0)) from Go.heap_alloc_new w _)
  have HS := Lib.hid (show w.heap.size < (w.alloc (.cells #[.int .i64 1, .string op, .int .i64 vk, .int .i64 vn, .string vs, .string tab, .string col, .slice sa n sc] 41)).heap.size by simp)
  have HFM := Lib.hid hfm
  clear hfm
  go_enter Try.func136, Try.ntmps136
  go_upto_region 1 with (fail)
  generalize (w.alloc (.cells #[.int .i64 1, .string op, .int .i64 vk, .int .i64 vn, .string vs, .string tab, .string col, .slice sa n sc] 41)) = w1 at *
  have HC := Lib.hid (show ∀ w2 : World, Below w1.heap.size w1 w2 → w2.cell? ⟨w.heap.size, 3, none⟩ = some (.int .i64 vn) ∧ w2.cell? ⟨w.heap.size, 1, none⟩ = some (.string op) ∧ w2.cell? ⟨w.heap.size, 5, none⟩ = some (.string tab) ∧ w2.cell? ⟨w.heap.size, 6, none⟩ = some (.string col) from fun w2 h =>
    ⟨(h.cell (p := ⟨w.heap.size, 3, none⟩) HS.out).trans (cell_of_row w1 w.heap.size 3 _ _ _ HX.out), (h.cell (p := ⟨w.heap.size, 1, none⟩) HS.out).trans (cell_of_row w1 w.heap.size 1 _ _ _ HX.out), (h.cell (p := ⟨w.heap.size, 5, none⟩) HS.out).trans (cell_of_row w1 w.heap.size 5 _ _ _ HX.out), (h.cell (p := ⟨w.heap.size, 6, none⟩) HS.out).trans (cell_of_row w1 w.heap.size 6 _ _ _ HX.out)⟩)
  have c0 : w1.cell? ⟨w.heap.size, 0, none⟩ = some (.int .i64 1) := cell_of_row w1 w.heap.size 0 _ _ _ HX.out
  have c1 : w1.cell? ⟨w.heap.size, 1, none⟩ = some (.string op) := cell_of_row w1 w.heap.size 1 _ _ _ HX.out
  have c2 : w1.cell? ⟨w.heap.size, 2, none⟩ = some (.int .i64 vk) := cell_of_row w1 w.heap.size 2 _ _ _ HX.out
  have c3 : w1.cell? ⟨w.heap.size, 3, none⟩ = some (.int .i64 vn) := cell_of_row w1 w.heap.size 3 _ _ _ HX.out
  have c4 : w1.cell? ⟨w.heap.size, 4, none⟩ = some (.string vs) := cell_of_row w1 w.heap.size 4 _ _ _ HX.out
  have c5 : w1.cell? ⟨w.heap.size, 5, none⟩ = some (.string tab) := cell_of_row w1 w.heap.size 5 _ _ _ HX.out
  have c6 : w1.cell? ⟨w.heap.size, 6, none⟩ = some (.string col) := cell_of_row w1 w.heap.size 6 _ _ _ HX.out
  have c7 : w1.cell? ⟨w.heap.size, 7, none⟩ = some (.slice sa n sc) := cell_of_row w1 w.heap.size 7 _ _ _ HX.out
  go_wp2_with (go_at_call 139; refine (HFM.out _ _ _ _).mono ?_; rintro e' w2 ⟨rfl, hb2⟩; obtain ⟨g3, _⟩ := HC.out w2 hb2)
  all_goals
    go_ret
    refine ⟨by first | (simp [*]; done) | (simp [*]; intros; omega) | (simp [*]; rw [Bool.eq_iff_iff]; simp only [beq_iff_eq, decide_eq_true_eq]; try omega), ?_⟩
    first | exact HB.out | exact bt HB.out hb2 | exact bt HB.out (bt hb2 hb3)
end Go.Proofs.Ytafhgilikcablaa
namespace Go.Proofs.Ytafhgilikcablaa
open Go.RowKit
set_option linter.unusedVariables false
set_option linter.unusedSimpArgs false
set_option maxRecDepth 100000
set_option maxHeartbeats 12800000 in
theorem shape2 (nm : ByteArray → Bool) (hnm : ∀ (w : World) (s : ByteArray), s.size ≤ maxLen → Calls Try.prog 167 #[.string s] w fun e' w' => e' = .returned (.bool (nm s)) ∧ Below w.heap.size w w')
    (w : World) (op : ByteArray) (vk vn : Int) (vs tab col : ByteArray) (sa : Option Addr) (n sc : Nat) (hn : n ≤ 9223372036854775807) (htb : tab.size ≤ maxLen) (hcl : col.size ≤ maxLen) :
    Calls Try.prog 136 #[.agg #[.int .i64 2, .string op, .int .i64 vk, .int .i64 vn, .string vs, .string tab, .string col, .slice sa n sc]] w fun e' w' => e' = .returned (.bool (decide (n = 0) && decide (vk = 0) && decide (vn = 0) && decide (vs.toList = []) && decide (op.toList = []) && nm col && (decide (tab.toList = []) || nm tab))) ∧ Below w.heap.size w w' := by
  have HB := Lib.hid (show Below w.heap.size w (w.alloc (.cells #[.int .i64 2, .string op, .int .i64 vk, .int .i64 vn, .string vs, .string tab, .string col, .slice sa n sc] 41)) from bel0 _ (Below.refl _ _))
  have HX := Lib.hid (show (w.alloc (.cells #[.int .i64 2, .string op, .int .i64 vk, .int .i64 vn, .string vs, .string tab, .string col, .slice sa n sc] 41)).heap[w.heap.size]? = some (.cells #[.int .i64 2, .string op, .int .i64 vk, .int .i64 vn, .string vs, .string tab, .string col, .slice sa n sc] 41 (0, 0)) from Go.heap_alloc_new w _)
  have HS := Lib.hid (show w.heap.size < (w.alloc (.cells #[.int .i64 2, .string op, .int .i64 vk, .int .i64 vn, .string vs, .string tab, .string col, .slice sa n sc] 41)).heap.size by simp)
  have HNM := Lib.hid hnm
  have HTb := Lib.hid htb
  have HCl := Lib.hid hcl
  clear hnm htb hcl
  go_enter Try.func136, Try.ntmps136
  go_upto_region 1 with (fail)
  generalize (w.alloc (.cells #[.int .i64 2, .string op, .int .i64 vk, .int .i64 vn, .string vs, .string tab, .string col, .slice sa n sc] 41)) = w1 at *
  have HC := Lib.hid (show ∀ w2 : World, Below w1.heap.size w1 w2 → w2.cell? ⟨w.heap.size, 3, none⟩ = some (.int .i64 vn) ∧ w2.cell? ⟨w.heap.size, 1, none⟩ = some (.string op) ∧ w2.cell? ⟨w.heap.size, 5, none⟩ = some (.string tab) ∧ w2.cell? ⟨w.heap.size, 6, none⟩ = some (.string col) from fun w2 h =>
    ⟨(h.cell (p := ⟨w.heap.size, 3, none⟩) HS.out).trans (cell_of_row w1 w.heap.size 3 _ _ _ HX.out), (h.cell (p := ⟨w.heap.size, 1, none⟩) HS.out).trans (cell_of_row w1 w.heap.size 1 _ _ _ HX.out), (h.cell (p := ⟨w.heap.size, 5, none⟩) HS.out).trans (cell_of_row w1 w.heap.size 5 _ _ _ HX.out), (h.cell (p := ⟨w.heap.size, 6, none⟩) HS.out).trans (cell_of_row w1 w.heap.size 6 _ _ _ HX.out)⟩)
  have c0 : w1.cell? ⟨w.heap.size, 0, none⟩ = some (.int .i64 2) := cell_of_row w1 w.heap.size 0 _ _ _ HX.out
  have c1 : w1.cell? ⟨w.heap.size, 1, none⟩ = some (.string op) := cell_of_row w1 w.heap.size 1 _ _ _ HX.out
  have c2 : w1.cell? ⟨w.heap.size, 2, none⟩ = some (.int .i64 vk) := cell_of_row w1 w.heap.size 2 _ _ _ HX.out
  have c3 : w1.cell? ⟨w.heap.size, 3, none⟩ = some (.int .i64 vn) := cell_of_row w1 w.heap.size 3 _ _ _ HX.out
  have c4 : w1.cell? ⟨w.heap.size, 4, none⟩ = some (.string vs) := cell_of_row w1 w.heap.size 4 _ _ _ HX.out
  have c5 : w1.cell? ⟨w.heap.size, 5, none⟩ = some (.string tab) := cell_of_row w1 w.heap.size 5 _ _ _ HX.out
  have c6 : w1.cell? ⟨w.heap.size, 6, none⟩ = some (.string col) := cell_of_row w1 w.heap.size 6 _ _ _ HX.out
  have c7 : w1.cell? ⟨w.heap.size, 7, none⟩ = some (.slice sa n sc) := cell_of_row w1 w.heap.size 7 _ _ _ HX.out
  go_wp2_with (go_at_call 167; first | (refine (HNM.out w2 _ (by first | exact HTb.out | exact HCl.out)).mono ?_; rintro e' w3 ⟨rfl, hb3⟩) | (refine (HNM.out _ _ (by first | exact HTb.out | exact HCl.out)).mono ?_; rintro e' w2 ⟨rfl, hb2⟩; obtain ⟨_, _, g5, _⟩ := HC.out w2 hb2))
  all_goals
    go_ret
    refine ⟨by first | (simp [*]; done) | (simp [*]; intros; omega) | (simp [*]; rw [Bool.eq_iff_iff]; simp only [beq_iff_eq, decide_eq_true_eq]; try omega), ?_⟩
    first | exact HB.out | exact bt HB.out hb2 | exact bt HB.out (bt hb2 hb3)
end Go.Proofs.Ytafhgilikcablaa
namespace Go.Proofs.Ytafhgilikcablaa
open Go.RowKit
set_option linter.unusedVariables false
set_option linter.unusedSimpArgs false
set_option maxRecDepth 100000
set_option maxHeartbeats 12800000 in
theorem shape3 
    (w : World) (op : ByteArray) (vk vn : Int) (vs tab col : ByteArray) (sa : Option Addr) (n sc : Nat) (hn : n ≤ 9223372036854775807) :
    Calls Try.prog 136 #[.agg #[.int .i64 3, .string op, .int .i64 vk, .int .i64 vn, .string vs, .string tab, .string col, .slice sa n sc]] w fun e' w' => e' = .returned (.bool (decide (n = 1) && decide (tab.toList = []) && decide (col.toList = []) && decide (vk = 0) && decide (vn = 0) && decide (vs.toList = []) && inB op [⟨#[78, 79, 84]⟩, ⟨#[45]⟩])) ∧ Below w.heap.size w w' := by
  have HB := Lib.hid (show Below w.heap.size w (w.alloc (.cells #[.int .i64 3, .string op, .int .i64 vk, .int .i64 vn, .string vs, .string tab, .string col, .slice sa n sc] 41)) from bel0 _ (Below.refl _ _))
  have HX := Lib.hid (show (w.alloc (.cells #[.int .i64 3, .string op, .int .i64 vk, .int .i64 vn, .string vs, .string tab, .string col, .slice sa n sc] 41)).heap[w.heap.size]? = some (.cells #[.int .i64 3, .string op, .int .i64 vk, .int .i64 vn, .string vs, .string tab, .string col, .slice sa n sc] 41 (0, 0)) from Go.heap_alloc_new w _)
  have HS := Lib.hid (show w.heap.size < (w.alloc (.cells #[.int .i64 3, .string op, .int .i64 vk, .int .i64 vn, .string vs, .string tab, .string col, .slice sa n sc] 41)).heap.size by simp)
  have HI := Lib.hid (show ∀ (W : World) (T : TypeId) (i : Nat) (h : i < ([⟨#[78, 79, 84]⟩, ⟨#[45]⟩] : List ByteArray).length), (W.alloc (.cells #[.string ⟨#[78, 79, 84]⟩, .string ⟨#[45]⟩] T)).cell? ⟨W.heap.size, i, none⟩ = some (.string ([⟨#[78, 79, 84]⟩, ⟨#[45]⟩] : List ByteArray)[i]) from fun W T i h => by
    have hb := Go.heap_alloc_new W (.cells #[.string ⟨#[78, 79, 84]⟩, .string ⟨#[45]⟩] T)
    match i, h with
    | 0, _ => exact cell_of_row _ _ 0 _ _ _ hb
    | 1, _ => exact cell_of_row _ _ 1 _ _ _ hb
    | k + 2, h => simp at h; omega)
  go_enter Try.func136, Try.ntmps136
  go_upto_region 1 with (fail)
  generalize (w.alloc (.cells #[.int .i64 3, .string op, .int .i64 vk, .int .i64 vn, .string vs, .string tab, .string col, .slice sa n sc] 41)) = w1 at *
  have HC := Lib.hid (show ∀ w2 : World, Below w1.heap.size w1 w2 → w2.cell? ⟨w.heap.size, 3, none⟩ = some (.int .i64 vn) ∧ w2.cell? ⟨w.heap.size, 1, none⟩ = some (.string op) ∧ w2.cell? ⟨w.heap.size, 5, none⟩ = some (.string tab) ∧ w2.cell? ⟨w.heap.size, 6, none⟩ = some (.string col) from fun w2 h =>
    ⟨(h.cell (p := ⟨w.heap.size, 3, none⟩) HS.out).trans (cell_of_row w1 w.heap.size 3 _ _ _ HX.out), (h.cell (p := ⟨w.heap.size, 1, none⟩) HS.out).trans (cell_of_row w1 w.heap.size 1 _ _ _ HX.out), (h.cell (p := ⟨w.heap.size, 5, none⟩) HS.out).trans (cell_of_row w1 w.heap.size 5 _ _ _ HX.out), (h.cell (p := ⟨w.heap.size, 6, none⟩) HS.out).trans (cell_of_row w1 w.heap.size 6 _ _ _ HX.out)⟩)
  have c0 : w1.cell? ⟨w.heap.size, 0, none⟩ = some (.int .i64 3) := cell_of_row w1 w.heap.size 0 _ _ _ HX.out
  have c1 : w1.cell? ⟨w.heap.size, 1, none⟩ = some (.string op) := cell_of_row w1 w.heap.size 1 _ _ _ HX.out
  have c2 : w1.cell? ⟨w.heap.size, 2, none⟩ = some (.int .i64 vk) := cell_of_row w1 w.heap.size 2 _ _ _ HX.out
  have c3 : w1.cell? ⟨w.heap.size, 3, none⟩ = some (.int .i64 vn) := cell_of_row w1 w.heap.size 3 _ _ _ HX.out
  have c4 : w1.cell? ⟨w.heap.size, 4, none⟩ = some (.string vs) := cell_of_row w1 w.heap.size 4 _ _ _ HX.out
  have c5 : w1.cell? ⟨w.heap.size, 5, none⟩ = some (.string tab) := cell_of_row w1 w.heap.size 5 _ _ _ HX.out
  have c6 : w1.cell? ⟨w.heap.size, 6, none⟩ = some (.string col) := cell_of_row w1 w.heap.size 6 _ _ _ HX.out
  have c7 : w1.cell? ⟨w.heap.size, 7, none⟩ = some (.slice sa n sc) := cell_of_row w1 w.heap.size 7 _ _ _ HX.out
  go_wp2_with (go_at_call 168; refine (in_any _ op w1.heap.size [⟨#[78, 79, 84]⟩, ⟨#[45]⟩] 2 rfl (by omega) (by simp) (by exact HI.out _ _)).mono ?_; rintro e' w2 ⟨rfl, hb2'⟩; have hb2 := bt (bel0 _ (Below.refl _ w1)) hb2'; clear hb2'; obtain ⟨_, g1, _, _⟩ := HC.out w2 hb2)
  all_goals
    go_ret
    refine ⟨by first | (simp [*]; done) | (simp [*]; intros; omega) | (simp [*]; rw [Bool.eq_iff_iff]; simp only [beq_iff_eq, decide_eq_true_eq]; try omega), ?_⟩
    first | exact HB.out | exact bt HB.out hb2 | exact bt HB.out (bt hb2 hb3)
end Go.Proofs.Ytafhgilikcablaa
