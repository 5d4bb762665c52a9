/- Both shapes are one. -/
import Derived.Test.YtafhgilikcablaaGreatDoorEtIn
import Derived.Test.YtafhgilikcablaaGreatDoorEtSpA
import Derived.Test.YtafhgilikcablaaGreatDoorEtFd
namespace Go.Proofs.YtafhgilikcablaaGreatDoor
open Go.RowKit
set_option linter.unusedVariables false
set_option linter.unusedSimpArgs false
set_option maxRecDepth 100000
set_option maxHeartbeats 12800000 in
theorem shape0 (k : Int)
    (w : World) (op : ByteArray) (vk vn : Int) (vs tab col : ByteArray) (sa : Option Addr) (n sc : Nat) (hn : n ≤ 9223372036854775807) (h1 : k ≠ 1) (h2 : k ≠ 2) (h3 : k ≠ 3) (h4 : k ≠ 4) (h5 : k ≠ 5) (h6 : k ≠ 6) :
    Calls Tryz.prog 23 #[.agg #[.int .i64 k, .string op, .int .i64 vk, .int .i64 vn, .string vs, .string tab, .string col, .slice sa n sc]] w fun e' w' => e' = .returned (.bool (false)) ∧ Below w.heap.size w w' := by
  have HB := Lib.hid (show Below w.heap.size w (w.alloc (.cells #[.int .i64 k, .string op, .int .i64 vk, .int .i64 vn, .string vs, .string tab, .string col, .slice sa n sc] 26)) from bel0 _ (Below.refl _ _))
  have HX := Lib.hid (show (w.alloc (.cells #[.int .i64 k, .string op, .int .i64 vk, .int .i64 vn, .string vs, .string tab, .string col, .slice sa n sc] 26)).heap[w.heap.size]? = some (.cells #[.int .i64 k, .string op, .int .i64 vk, .int .i64 vn, .string vs, .string tab, .string col, .slice sa n sc] 26 (0, 0)) from Go.heap_alloc_new w _)
  have HS := Lib.hid (show w.heap.size < (w.alloc (.cells #[.int .i64 k, .string op, .int .i64 vk, .int .i64 vn, .string vs, .string tab, .string col, .slice sa n sc] 26)).heap.size by simp)
  go_enter Tryz.func23, Tryz.ntmps23
  go_upto_region 1 with (fail)
  generalize (w.alloc (.cells #[.int .i64 k, .string op, .int .i64 vk, .int .i64 vn, .string vs, .string tab, .string col, .slice sa n sc] 26)) = w1 at *
  have HC := Lib.hid (show ∀ w2 : World, Below w1.heap.size w1 w2 → w2.cell? ⟨w.heap.size, 3, none⟩ = some (.int .i64 vn) ∧ w2.cell? ⟨w.heap.size, 1, none⟩ = some (.string op) ∧ w2.cell? ⟨w.heap.size, 5, none⟩ = some (.string tab) ∧ w2.cell? ⟨w.heap.size, 6, none⟩ = some (.string col) from fun w2 h =>
    ⟨(h.cell (p := ⟨w.heap.size, 3, none⟩) HS.out).trans (cell_of_row w1 w.heap.size 3 _ _ _ HX.out), (h.cell (p := ⟨w.heap.size, 1, none⟩) HS.out).trans (cell_of_row w1 w.heap.size 1 _ _ _ HX.out), (h.cell (p := ⟨w.heap.size, 5, none⟩) HS.out).trans (cell_of_row w1 w.heap.size 5 _ _ _ HX.out), (h.cell (p := ⟨w.heap.size, 6, none⟩) HS.out).trans (cell_of_row w1 w.heap.size 6 _ _ _ HX.out)⟩)
  have c0 : w1.cell? ⟨w.heap.size, 0, none⟩ = some (.int .i64 k) := cell_of_row w1 w.heap.size 0 _ _ _ HX.out
  have c1 : w1.cell? ⟨w.heap.size, 1, none⟩ = some (.string op) := cell_of_row w1 w.heap.size 1 _ _ _ HX.out
  have c2 : w1.cell? ⟨w.heap.size, 2, none⟩ = some (.int .i64 vk) := cell_of_row w1 w.heap.size 2 _ _ _ HX.out
  have c3 : w1.cell? ⟨w.heap.size, 3, none⟩ = some (.int .i64 vn) := cell_of_row w1 w.heap.size 3 _ _ _ HX.out
  have c4 : w1.cell? ⟨w.heap.size, 4, none⟩ = some (.string vs) := cell_of_row w1 w.heap.size 4 _ _ _ HX.out
  have c5 : w1.cell? ⟨w.heap.size, 5, none⟩ = some (.string tab) := cell_of_row w1 w.heap.size 5 _ _ _ HX.out
  have c6 : w1.cell? ⟨w.heap.size, 6, none⟩ = some (.string col) := cell_of_row w1 w.heap.size 6 _ _ _ HX.out
  have c7 : w1.cell? ⟨w.heap.size, 7, none⟩ = some (.slice sa n sc) := cell_of_row w1 w.heap.size 7 _ _ _ HX.out
  go_wp2_with (fail)
  all_goals
    go_ret
    refine ⟨by first | (simp [*]; done) | (simp [*]; intros; omega) | (simp [*]; rw [Bool.eq_iff_iff]; simp only [beq_iff_eq, decide_eq_true_eq]; try omega), ?_⟩
    first | exact HB.out | exact bt HB.out hb2 | exact bt HB.out (bt hb2 hb3)
end Go.Proofs.YtafhgilikcablaaGreatDoor
namespace Go.Proofs.YtafhgilikcablaaGreatDoor
open Go.RowKit
set_option linter.unusedVariables false
set_option linter.unusedSimpArgs false
set_option maxRecDepth 100000
set_option maxHeartbeats 12800000 in
theorem shape1 (fm : Int → Int → ByteArray → Bool) (hfm : ∀ (w : World) (a n : Int) (s : ByteArray), Calls Tryz.prog 38 #[.agg #[.int .i64 a, .int .i64 n, .string s]] w fun e' w' => e' = .returned (.bool (fm a n s)) ∧ Below w.heap.size w w')
    (w : World) (op : ByteArray) (vk vn : Int) (vs tab col : ByteArray) (sa : Option Addr) (n sc : Nat) (hn : n ≤ 9223372036854775807) :
    Calls Tryz.prog 23 #[.agg #[.int .i64 1, .string op, .int .i64 vk, .int .i64 vn, .string vs, .string tab, .string col, .slice sa n sc]] w fun e' w' => e' = .returned (.bool (decide (n = 0) && decide (tab.toList = []) && decide (col.toList = []) && decide (op.toList = []) && fm vk vn vs && decide (0 ≤ vn))) ∧ Below w.heap.size w w' := by
  have HB := Lib.hid (show Below w.heap.size w (w.alloc (.cells #[.int .i64 1, .string op, .int .i64 vk, .int .i64 vn, .string vs, .string tab, .string col, .slice sa n sc] 26)) from bel0 _ (Below.refl _ _))
  have HX := Lib.hid (show (w.alloc (.cells #[.int .i64 1, .string op, .int .i64 vk, .int .i64 vn, .string vs, .string tab, .string col, .slice sa n sc] 26)).heap[w.heap.size]? = some (.cells #[.int .i64 1, .string op, .int .i64 vk, .int .i64 vn, .string vs, .string tab, .string col, .slice sa n sc] 26 (0, 0)) from Go.heap_alloc_new w _)
  have HS := Lib.hid (show w.heap.size < (w.alloc (.cells #[.int .i64 1, .string op, .int .i64 vk, .int .i64 vn, .string vs, .string tab, .string col, .slice sa n sc] 26)).heap.size by simp)
  have HFM := Lib.hid hfm
  clear hfm
  go_enter Tryz.func23, Tryz.ntmps23
  go_upto_region 1 with (fail)
  generalize (w.alloc (.cells #[.int .i64 1, .string op, .int .i64 vk, .int .i64 vn, .string vs, .string tab, .string col, .slice sa n sc] 26)) = w1 at *
  have HC := Lib.hid (show ∀ w2 : World, Below w1.heap.size w1 w2 → w2.cell? ⟨w.heap.size, 3, none⟩ = some (.int .i64 vn) ∧ w2.cell? ⟨w.heap.size, 1, none⟩ = some (.string op) ∧ w2.cell? ⟨w.heap.size, 5, none⟩ = some (.string tab) ∧ w2.cell? ⟨w.heap.size, 6, none⟩ = some (.string col) from fun w2 h =>
    ⟨(h.cell (p := ⟨w.heap.size, 3, none⟩) HS.out).trans (cell_of_row w1 w.heap.size 3 _ _ _ HX.out), (h.cell (p := ⟨w.heap.size, 1, none⟩) HS.out).trans (cell_of_row w1 w.heap.size 1 _ _ _ HX.out), (h.cell (p := ⟨w.heap.size, 5, none⟩) HS.out).trans (cell_of_row w1 w.heap.size 5 _ _ _ HX.out), (h.cell (p := ⟨w.heap.size, 6, none⟩) HS.out).trans (cell_of_row w1 w.heap.size 6 _ _ _ HX.out)⟩)
  have c0 : w1.cell? ⟨w.heap.size, 0, none⟩ = some (.int .i64 1) := cell_of_row w1 w.heap.size 0 _ _ _ HX.out
  have c1 : w1.cell? ⟨w.heap.size, 1, none⟩ = some (.string op) := cell_of_row w1 w.heap.size 1 _ _ _ HX.out
  have c2 : w1.cell? ⟨w.heap.size, 2, none⟩ = some (.int .i64 vk) := cell_of_row w1 w.heap.size 2 _ _ _ HX.out
  have c3 : w1.cell? ⟨w.heap.size, 3, none⟩ = some (.int .i64 vn) := cell_of_row w1 w.heap.size 3 _ _ _ HX.out
  have c4 : w1.cell? ⟨w.heap.size, 4, none⟩ = some (.string vs) := cell_of_row w1 w.heap.size 4 _ _ _ HX.out
  have c5 : w1.cell? ⟨w.heap.size, 5, none⟩ = some (.string tab) := cell_of_row w1 w.heap.size 5 _ _ _ HX.out
  have c6 : w1.cell? ⟨w.heap.size, 6, none⟩ = some (.string col) := cell_of_row w1 w.heap.size 6 _ _ _ HX.out
  have c7 : w1.cell? ⟨w.heap.size, 7, none⟩ = some (.slice sa n sc) := cell_of_row w1 w.heap.size 7 _ _ _ HX.out
  go_wp2_with (go_at_call 38; refine (HFM.out _ _ _ _).mono ?_; rintro e' w2 ⟨rfl, hb2⟩; obtain ⟨g3, _⟩ := HC.out w2 hb2)
  all_goals
    go_ret
    refine ⟨by first | (simp [*]; done) | (simp [*]; intros; omega) | (simp [*]; rw [Bool.eq_iff_iff]; simp only [beq_iff_eq, decide_eq_true_eq]; try omega), ?_⟩
    first | exact HB.out | exact bt HB.out hb2 | exact bt HB.out (bt hb2 hb3)
end Go.Proofs.YtafhgilikcablaaGreatDoor
namespace Go.Proofs.YtafhgilikcablaaGreatDoor
open Go.RowKit
set_option linter.unusedVariables false
set_option linter.unusedSimpArgs false
set_option maxRecDepth 100000
set_option maxHeartbeats 12800000 in
theorem shape2 (nm : ByteArray → Bool) (hnm : ∀ (w : World) (s : ByteArray), s.size ≤ maxLen → Calls Tryz.prog 39 #[.string s] w fun e' w' => e' = .returned (.bool (nm s)) ∧ Below w.heap.size w w')
    (w : World) (op : ByteArray) (vk vn : Int) (vs tab col : ByteArray) (sa : Option Addr) (n sc : Nat) (hn : n ≤ 9223372036854775807) (htb : tab.size ≤ maxLen) (hcl : col.size ≤ maxLen) :
    Calls Tryz.prog 23 #[.agg #[.int .i64 2, .string op, .int .i64 vk, .int .i64 vn, .string vs, .string tab, .string col, .slice sa n sc]] w fun e' w' => e' = .returned (.bool (decide (n = 0) && decide (vk = 0) && decide (vn = 0) && decide (vs.toList = []) && decide (op.toList = []) && nm col && (decide (tab.toList = []) || nm tab))) ∧ Below w.heap.size w w' := by
  have HB := Lib.hid (show Below w.heap.size w (w.alloc (.cells #[.int .i64 2, .string op, .int .i64 vk, .int .i64 vn, .string vs, .string tab, .string col, .slice sa n sc] 26)) from bel0 _ (Below.refl _ _))
  have HX := Lib.hid (show (w.alloc (.cells #[.int .i64 2, .string op, .int .i64 vk, .int .i64 vn, .string vs, .string tab, .string col, .slice sa n sc] 26)).heap[w.heap.size]? = some (.cells #[.int .i64 2, .string op, .int .i64 vk, .int .i64 vn, .string vs, .string tab, .string col, .slice sa n sc] 26 (0, 0)) from Go.heap_alloc_new w _)
  have HS := Lib.hid (show w.heap.size < (w.alloc (.cells #[.int .i64 2, .string op, .int .i64 vk, .int .i64 vn, .string vs, .string tab, .string col, .slice sa n sc] 26)).heap.size by simp)
  have HNM := Lib.hid hnm
  have HTb := Lib.hid htb
  have HCl := Lib.hid hcl
  clear hnm htb hcl
  go_enter Tryz.func23, Tryz.ntmps23
  go_upto_region 1 with (fail)
  generalize (w.alloc (.cells #[.int .i64 2, .string op, .int .i64 vk, .int .i64 vn, .string vs, .string tab, .string col, .slice sa n sc] 26)) = w1 at *
  have HC := Lib.hid (show ∀ w2 : World, Below w1.heap.size w1 w2 → w2.cell? ⟨w.heap.size, 3, none⟩ = some (.int .i64 vn) ∧ w2.cell? ⟨w.heap.size, 1, none⟩ = some (.string op) ∧ w2.cell? ⟨w.heap.size, 5, none⟩ = some (.string tab) ∧ w2.cell? ⟨w.heap.size, 6, none⟩ = some (.string col) from fun w2 h =>
    ⟨(h.cell (p := ⟨w.heap.size, 3, none⟩) HS.out).trans (cell_of_row w1 w.heap.size 3 _ _ _ HX.out), (h.cell (p := ⟨w.heap.size, 1, none⟩) HS.out).trans (cell_of_row w1 w.heap.size 1 _ _ _ HX.out), (h.cell (p := ⟨w.heap.size, 5, none⟩) HS.out).trans (cell_of_row w1 w.heap.size 5 _ _ _ HX.out), (h.cell (p := ⟨w.heap.size, 6, none⟩) HS.out).trans (cell_of_row w1 w.heap.size 6 _ _ _ HX.out)⟩)
  have c0 : w1.cell? ⟨w.heap.size, 0, none⟩ = some (.int .i64 2) := cell_of_row w1 w.heap.size 0 _ _ _ HX.out
  have c1 : w1.cell? ⟨w.heap.size, 1, none⟩ = some (.string op) := cell_of_row w1 w.heap.size 1 _ _ _ HX.out
  have c2 : w1.cell? ⟨w.heap.size, 2, none⟩ = some (.int .i64 vk) := cell_of_row w1 w.heap.size 2 _ _ _ HX.out
  have c3 : w1.cell? ⟨w.heap.size, 3, none⟩ = some (.int .i64 vn) := cell_of_row w1 w.heap.size 3 _ _ _ HX.out
  have c4 : w1.cell? ⟨w.heap.size, 4, none⟩ = some (.string vs) := cell_of_row w1 w.heap.size 4 _ _ _ HX.out
  have c5 : w1.cell? ⟨w.heap.size, 5, none⟩ = some (.string tab) := cell_of_row w1 w.heap.size 5 _ _ _ HX.out
  have c6 : w1.cell? ⟨w.heap.size, 6, none⟩ = some (.string col) := cell_of_row w1 w.heap.size 6 _ _ _ HX.out
  have c7 : w1.cell? ⟨w.heap.size, 7, none⟩ = some (.slice sa n sc) := cell_of_row w1 w.heap.size 7 _ _ _ HX.out
  go_wp2_with (go_at_call 39; first | (refine (HNM.out w2 _ (by first | exact HTb.out | exact HCl.out)).mono ?_; rintro e' w3 ⟨rfl, hb3⟩) | (refine (HNM.out _ _ (by first | exact HTb.out | exact HCl.out)).mono ?_; rintro e' w2 ⟨rfl, hb2⟩; obtain ⟨_, _, g5, _⟩ := HC.out w2 hb2))
  all_goals
    go_ret
    refine ⟨by first | (simp [*]; done) | (simp [*]; intros; omega) | (simp [*]; rw [Bool.eq_iff_iff]; simp only [beq_iff_eq, decide_eq_true_eq]; try omega), ?_⟩
    first | exact HB.out | exact bt HB.out hb2 | exact bt HB.out (bt hb2 hb3)
end Go.Proofs.YtafhgilikcablaaGreatDoor
namespace Go.Proofs.YtafhgilikcablaaGreatDoor
open Go.RowKit
set_option linter.unusedVariables false
set_option linter.unusedSimpArgs false
set_option maxRecDepth 100000
set_option maxHeartbeats 12800000 in
theorem shape3 
    (w : World) (op : ByteArray) (vk vn : Int) (vs tab col : ByteArray) (sa : Option Addr) (n sc : Nat) (hn : n ≤ 9223372036854775807) :
    Calls Tryz.prog 23 #[.agg #[.int .i64 3, .string op, .int .i64 vk, .int .i64 vn, .string vs, .string tab, .string col, .slice sa n sc]] w fun e' w' => e' = .returned (.bool (decide (n = 1) && decide (tab.toList = []) && decide (col.toList = []) && decide (vk = 0) && decide (vn = 0) && decide (vs.toList = []) && inB op [⟨#[78, 79, 84]⟩, ⟨#[45]⟩])) ∧ Below w.heap.size w w' := by
  have HB := Lib.hid (show Below w.heap.size w (w.alloc (.cells #[.int .i64 3, .string op, .int .i64 vk, .int .i64 vn, .string vs, .string tab, .string col, .slice sa n sc] 26)) from bel0 _ (Below.refl _ _))
  have HX := Lib.hid (show (w.alloc (.cells #[.int .i64 3, .string op, .int .i64 vk, .int .i64 vn, .string vs, .string tab, .string col, .slice sa n sc] 26)).heap[w.heap.size]? = some (.cells #[.int .i64 3, .string op, .int .i64 vk, .int .i64 vn, .string vs, .string tab, .string col, .slice sa n sc] 26 (0, 0)) from Go.heap_alloc_new w _)
  have HS := Lib.hid (show w.heap.size < (w.alloc (.cells #[.int .i64 3, .string op, .int .i64 vk, .int .i64 vn, .string vs, .string tab, .string col, .slice sa n sc] 26)).heap.size by simp)
  have HI := Lib.hid (show ∀ (W : World) (T : TypeId) (i : Nat) (h : i < ([⟨#[78, 79, 84]⟩, ⟨#[45]⟩] : List ByteArray).length), (W.alloc (.cells #[.string ⟨#[78, 79, 84]⟩, .string ⟨#[45]⟩] T)).cell? ⟨W.heap.size, i, none⟩ = some (.string ([⟨#[78, 79, 84]⟩, ⟨#[45]⟩] : List ByteArray)[i]) from fun W T i h => by
    have hb := Go.heap_alloc_new W (.cells #[.string ⟨#[78, 79, 84]⟩, .string ⟨#[45]⟩] T)
    match i, h with
    | 0, _ => exact cell_of_row _ _ 0 _ _ _ hb
    | 1, _ => exact cell_of_row _ _ 1 _ _ _ hb
    | k + 2, h => simp at h; omega)
  go_enter Tryz.func23, Tryz.ntmps23
  go_upto_region 1 with (fail)
  generalize (w.alloc (.cells #[.int .i64 3, .string op, .int .i64 vk, .int .i64 vn, .string vs, .string tab, .string col, .slice sa n sc] 26)) = w1 at *
  have HC := Lib.hid (show ∀ w2 : World, Below w1.heap.size w1 w2 → w2.cell? ⟨w.heap.size, 3, none⟩ = some (.int .i64 vn) ∧ w2.cell? ⟨w.heap.size, 1, none⟩ = some (.string op) ∧ w2.cell? ⟨w.heap.size, 5, none⟩ = some (.string tab) ∧ w2.cell? ⟨w.heap.size, 6, none⟩ = some (.string col) from fun w2 h =>
    ⟨(h.cell (p := ⟨w.heap.size, 3, none⟩) HS.out).trans (cell_of_row w1 w.heap.size 3 _ _ _ HX.out), (h.cell (p := ⟨w.heap.size, 1, none⟩) HS.out).trans (cell_of_row w1 w.heap.size 1 _ _ _ HX.out), (h.cell (p := ⟨w.heap.size, 5, none⟩) HS.out).trans (cell_of_row w1 w.heap.size 5 _ _ _ HX.out), (h.cell (p := ⟨w.heap.size, 6, none⟩) HS.out).trans (cell_of_row w1 w.heap.size 6 _ _ _ HX.out)⟩)
  have c0 : w1.cell? ⟨w.heap.size, 0, none⟩ = some (.int .i64 3) := cell_of_row w1 w.heap.size 0 _ _ _ HX.out
  have c1 : w1.cell? ⟨w.heap.size, 1, none⟩ = some (.string op) := cell_of_row w1 w.heap.size 1 _ _ _ HX.out
  have c2 : w1.cell? ⟨w.heap.size, 2, none⟩ = some (.int .i64 vk) := cell_of_row w1 w.heap.size 2 _ _ _ HX.out
  have c3 : w1.cell? ⟨w.heap.size, 3, none⟩ = some (.int .i64 vn) := cell_of_row w1 w.heap.size 3 _ _ _ HX.out
  have c4 : w1.cell? ⟨w.heap.size, 4, none⟩ = some (.string vs) := cell_of_row w1 w.heap.size 4 _ _ _ HX.out
  have c5 : w1.cell? ⟨w.heap.size, 5, none⟩ = some (.string tab) := cell_of_row w1 w.heap.size 5 _ _ _ HX.out
  have c6 : w1.cell? ⟨w.heap.size, 6, none⟩ = some (.string col) := cell_of_row w1 w.heap.size 6 _ _ _ HX.out
  have c7 : w1.cell? ⟨w.heap.size, 7, none⟩ = some (.slice sa n sc) := cell_of_row w1 w.heap.size 7 _ _ _ HX.out
  go_wp2_with (go_at_call 40; refine (in_any _ op w1.heap.size [⟨#[78, 79, 84]⟩, ⟨#[45]⟩] 2 rfl (by omega) (by simp) (by exact HI.out _ _)).mono ?_; rintro e' w2 ⟨rfl, hb2'⟩; have hb2 := bt (bel0 _ (Below.refl _ w1)) hb2'; clear hb2'; obtain ⟨_, g1, _, _⟩ := HC.out w2 hb2)
  all_goals
    go_ret
    refine ⟨by first | (simp [*]; done) | (simp [*]; intros; omega) | (simp [*]; rw [Bool.eq_iff_iff]; simp only [beq_iff_eq, decide_eq_true_eq]; try omega), ?_⟩
    first | exact HB.out | exact bt HB.out hb2 | exact bt HB.out (bt hb2 hb3)
end Go.Proofs.YtafhgilikcablaaGreatDoor
namespace Go.Proofs.YtafhgilikcablaaGreatDoor
open Go.RowKit
set_option linter.unusedVariables false
set_option linter.unusedSimpArgs false
set_option maxRecDepth 100000
set_option maxHeartbeats 12800000 in
theorem shape4 
    (w : World) (op : ByteArray) (vk vn : Int) (vs tab col : ByteArray) (sa : Option Addr) (n sc : Nat) (hn : n ≤ 9223372036854775807) :
    Calls Tryz.prog 23 #[.agg #[.int .i64 4, .string op, .int .i64 vk, .int .i64 vn, .string vs, .string tab, .string col, .slice sa n sc]] w fun e' w' => e' = .returned (.bool (decide (n = 2) && decide (tab.toList = []) && decide (col.toList = []) && decide (vk = 0) && decide (vn = 0) && decide (vs.toList = []) && inB op [⟨#[79, 82]⟩, ⟨#[65, 78, 68]⟩, ⟨#[61]⟩, ⟨#[60, 62]⟩, ⟨#[60]⟩, ⟨#[60, 61]⟩, ⟨#[62]⟩, ⟨#[62, 61]⟩, ⟨#[43]⟩, ⟨#[45]⟩, ⟨#[42]⟩])) ∧ Below w.heap.size w w' := by
  have HB := Lib.hid (show Below w.heap.size w (w.alloc (.cells #[.int .i64 4, .string op, .int .i64 vk, .int .i64 vn, .string vs, .string tab, .string col, .slice sa n sc] 26)) from bel0 _ (Below.refl _ _))
  have HX := Lib.hid (show (w.alloc (.cells #[.int .i64 4, .string op, .int .i64 vk, .int .i64 vn, .string vs, .string tab, .string col, .slice sa n sc] 26)).heap[w.heap.size]? = some (.cells #[.int .i64 4, .string op, .int .i64 vk, .int .i64 vn, .string vs, .string tab, .string col, .slice sa n sc] 26 (0, 0)) from Go.heap_alloc_new w _)
  have HS := Lib.hid (show w.heap.size < (w.alloc (.cells #[.int .i64 4, .string op, .int .i64 vk, .int .i64 vn, .string vs, .string tab, .string col, .slice sa n sc] 26)).heap.size by simp)
  have HI := Lib.hid (show ∀ (W : World) (T : TypeId) (i : Nat) (h : i < ([⟨#[79, 82]⟩, ⟨#[65, 78, 68]⟩, ⟨#[61]⟩, ⟨#[60, 62]⟩, ⟨#[60]⟩, ⟨#[60, 61]⟩, ⟨#[62]⟩, ⟨#[62, 61]⟩, ⟨#[43]⟩, ⟨#[45]⟩, ⟨#[42]⟩] : List ByteArray).length), (W.alloc (.cells #[.string ⟨#[79, 82]⟩, .string ⟨#[65, 78, 68]⟩, .string ⟨#[61]⟩, .string ⟨#[60, 62]⟩, .string ⟨#[60]⟩, .string ⟨#[60, 61]⟩, .string ⟨#[62]⟩, .string ⟨#[62, 61]⟩, .string ⟨#[43]⟩, .string ⟨#[45]⟩, .string ⟨#[42]⟩] T)).cell? ⟨W.heap.size, i, none⟩ = some (.string ([⟨#[79, 82]⟩, ⟨#[65, 78, 68]⟩, ⟨#[61]⟩, ⟨#[60, 62]⟩, ⟨#[60]⟩, ⟨#[60, 61]⟩, ⟨#[62]⟩, ⟨#[62, 61]⟩, ⟨#[43]⟩, ⟨#[45]⟩, ⟨#[42]⟩] : List ByteArray)[i]) from fun W T i h => by
    have hb := Go.heap_alloc_new W (.cells #[.string ⟨#[79, 82]⟩, .string ⟨#[65, 78, 68]⟩, .string ⟨#[61]⟩, .string ⟨#[60, 62]⟩, .string ⟨#[60]⟩, .string ⟨#[60, 61]⟩, .string ⟨#[62]⟩, .string ⟨#[62, 61]⟩, .string ⟨#[43]⟩, .string ⟨#[45]⟩, .string ⟨#[42]⟩] T)
    match i, h with
    | 0, _ => exact cell_of_row _ _ 0 _ _ _ hb
    | 1, _ => exact cell_of_row _ _ 1 _ _ _ hb
    | 2, _ => exact cell_of_row _ _ 2 _ _ _ hb
    | 3, _ => exact cell_of_row _ _ 3 _ _ _ hb
    | 4, _ => exact cell_of_row _ _ 4 _ _ _ hb
    | 5, _ => exact cell_of_row _ _ 5 _ _ _ hb
    | 6, _ => exact cell_of_row _ _ 6 _ _ _ hb
    | 7, _ => exact cell_of_row _ _ 7 _ _ _ hb
    | 8, _ => exact cell_of_row _ _ 8 _ _ _ hb
    | 9, _ => exact cell_of_row _ _ 9 _ _ _ hb
    | 10, _ => exact cell_of_row _ _ 10 _ _ _ hb
    | k + 11, h => simp at h; omega)
  go_enter Tryz.func23, Tryz.ntmps23
  go_upto_region 1 with (fail)
  generalize (w.alloc (.cells #[.int .i64 4, .string op, .int .i64 vk, .int .i64 vn, .string vs, .string tab, .string col, .slice sa n sc] 26)) = w1 at *
  have HC := Lib.hid (show ∀ w2 : World, Below w1.heap.size w1 w2 → w2.cell? ⟨w.heap.size, 3, none⟩ = some (.int .i64 vn) ∧ w2.cell? ⟨w.heap.size, 1, none⟩ = some (.string op) ∧ w2.cell? ⟨w.heap.size, 5, none⟩ = some (.string tab) ∧ w2.cell? ⟨w.heap.size, 6, none⟩ = some (.string col) from fun w2 h =>
    ⟨(h.cell (p := ⟨w.heap.size, 3, none⟩) HS.out).trans (cell_of_row w1 w.heap.size 3 _ _ _ HX.out), (h.cell (p := ⟨w.heap.size, 1, none⟩) HS.out).trans (cell_of_row w1 w.heap.size 1 _ _ _ HX.out), (h.cell (p := ⟨w.heap.size, 5, none⟩) HS.out).trans (cell_of_row w1 w.heap.size 5 _ _ _ HX.out), (h.cell (p := ⟨w.heap.size, 6, none⟩) HS.out).trans (cell_of_row w1 w.heap.size 6 _ _ _ HX.out)⟩)
  have c0 : w1.cell? ⟨w.heap.size, 0, none⟩ = some (.int .i64 4) := cell_of_row w1 w.heap.size 0 _ _ _ HX.out
  have c1 : w1.cell? ⟨w.heap.size, 1, none⟩ = some (.string op) := cell_of_row w1 w.heap.size 1 _ _ _ HX.out
  have c2 : w1.cell? ⟨w.heap.size, 2, none⟩ = some (.int .i64 vk) := cell_of_row w1 w.heap.size 2 _ _ _ HX.out
  have c3 : w1.cell? ⟨w.heap.size, 3, none⟩ = some (.int .i64 vn) := cell_of_row w1 w.heap.size 3 _ _ _ HX.out
  have c4 : w1.cell? ⟨w.heap.size, 4, none⟩ = some (.string vs) := cell_of_row w1 w.heap.size 4 _ _ _ HX.out
  have c5 : w1.cell? ⟨w.heap.size, 5, none⟩ = some (.string tab) := cell_of_row w1 w.heap.size 5 _ _ _ HX.out
  have c6 : w1.cell? ⟨w.heap.size, 6, none⟩ = some (.string col) := cell_of_row w1 w.heap.size 6 _ _ _ HX.out
  have c7 : w1.cell? ⟨w.heap.size, 7, none⟩ = some (.slice sa n sc) := cell_of_row w1 w.heap.size 7 _ _ _ HX.out
  go_wp2_with (go_at_call 40; refine (in_any _ op w1.heap.size [⟨#[79, 82]⟩, ⟨#[65, 78, 68]⟩, ⟨#[61]⟩, ⟨#[60, 62]⟩, ⟨#[60]⟩, ⟨#[60, 61]⟩, ⟨#[62]⟩, ⟨#[62, 61]⟩, ⟨#[43]⟩, ⟨#[45]⟩, ⟨#[42]⟩] 11 rfl (by omega) (by simp) (by exact HI.out _ _)).mono ?_; rintro e' w2 ⟨rfl, hb2'⟩; have hb2 := bt (bel0 _ (Below.refl _ w1)) hb2'; clear hb2'; obtain ⟨_, g1, _, _⟩ := HC.out w2 hb2)
  all_goals
    go_ret
    refine ⟨by first | (simp [*]; done) | (simp [*]; intros; omega) | (simp [*]; rw [Bool.eq_iff_iff]; simp only [beq_iff_eq, decide_eq_true_eq]; try omega), ?_⟩
    first | exact HB.out | exact bt HB.out hb2 | exact bt HB.out (bt hb2 hb3)
end Go.Proofs.YtafhgilikcablaaGreatDoor
namespace Go.Proofs.YtafhgilikcablaaGreatDoor
open Go.RowKit
set_option linter.unusedVariables false
set_option linter.unusedSimpArgs false
set_option maxRecDepth 100000
set_option maxHeartbeats 12800000 in
theorem shape5 
    (w : World) (op : ByteArray) (vk vn : Int) (vs tab col : ByteArray) (sa : Option Addr) (n sc : Nat) (hn : n ≤ 9223372036854775807) :
    Calls Tryz.prog 23 #[.agg #[.int .i64 5, .string op, .int .i64 vk, .int .i64 vn, .string vs, .string tab, .string col, .slice sa n sc]] w fun e' w' => e' = .returned (.bool (decide (n = 1) && decide (tab.toList = []) && decide (col.toList = []) && decide (vk = 0) && decide (vn = 0) && decide (vs.toList = []) && inB op [⟨#[73, 83, 32, 78, 85, 76, 76]⟩, ⟨#[73, 83, 32, 78, 79, 84, 32, 78, 85, 76, 76]⟩])) ∧ Below w.heap.size w w' := by
  have HB := Lib.hid (show Below w.heap.size w (w.alloc (.cells #[.int .i64 5, .string op, .int .i64 vk, .int .i64 vn, .string vs, .string tab, .string col, .slice sa n sc] 26)) from bel0 _ (Below.refl _ _))
  have HX := Lib.hid (show (w.alloc (.cells #[.int .i64 5, .string op, .int .i64 vk, .int .i64 vn, .string vs, .string tab, .string col, .slice sa n sc] 26)).heap[w.heap.size]? = some (.cells #[.int .i64 5, .string op, .int .i64 vk, .int .i64 vn, .string vs, .string tab, .string col, .slice sa n sc] 26 (0, 0)) from Go.heap_alloc_new w _)
  have HS := Lib.hid (show w.heap.size < (w.alloc (.cells #[.int .i64 5, .string op, .int .i64 vk, .int .i64 vn, .string vs, .string tab, .string col, .slice sa n sc] 26)).heap.size by simp)
  have HI := Lib.hid (show ∀ (W : World) (T : TypeId) (i : Nat) (h : i < ([⟨#[73, 83, 32, 78, 85, 76, 76]⟩, ⟨#[73, 83, 32, 78, 79, 84, 32, 78, 85, 76, 76]⟩] : List ByteArray).length), (W.alloc (.cells #[.string ⟨#[73, 83, 32, 78, 85, 76, 76]⟩, .string ⟨#[73, 83, 32, 78, 79, 84, 32, 78, 85, 76, 76]⟩] T)).cell? ⟨W.heap.size, i, none⟩ = some (.string ([⟨#[73, 83, 32, 78, 85, 76, 76]⟩, ⟨#[73, 83, 32, 78, 79, 84, 32, 78, 85, 76, 76]⟩] : List ByteArray)[i]) from fun W T i h => by
    have hb := Go.heap_alloc_new W (.cells #[.string ⟨#[73, 83, 32, 78, 85, 76, 76]⟩, .string ⟨#[73, 83, 32, 78, 79, 84, 32, 78, 85, 76, 76]⟩] T)
    match i, h with
    | 0, _ => exact cell_of_row _ _ 0 _ _ _ hb
    | 1, _ => exact cell_of_row _ _ 1 _ _ _ hb
    | k + 2, h => simp at h; omega)
  go_enter Tryz.func23, Tryz.ntmps23
  go_upto_region 1 with (fail)
  generalize (w.alloc (.cells #[.int .i64 5, .string op, .int .i64 vk, .int .i64 vn, .string vs, .string tab, .string col, .slice sa n sc] 26)) = w1 at *
  have HC := Lib.hid (show ∀ w2 : World, Below w1.heap.size w1 w2 → w2.cell? ⟨w.heap.size, 3, none⟩ = some (.int .i64 vn) ∧ w2.cell? ⟨w.heap.size, 1, none⟩ = some (.string op) ∧ w2.cell? ⟨w.heap.size, 5, none⟩ = some (.string tab) ∧ w2.cell? ⟨w.heap.size, 6, none⟩ = some (.string col) from fun w2 h =>
    ⟨(h.cell (p := ⟨w.heap.size, 3, none⟩) HS.out).trans (cell_of_row w1 w.heap.size 3 _ _ _ HX.out), (h.cell (p := ⟨w.heap.size, 1, none⟩) HS.out).trans (cell_of_row w1 w.heap.size 1 _ _ _ HX.out), (h.cell (p := ⟨w.heap.size, 5, none⟩) HS.out).trans (cell_of_row w1 w.heap.size 5 _ _ _ HX.out), (h.cell (p := ⟨w.heap.size, 6, none⟩) HS.out).trans (cell_of_row w1 w.heap.size 6 _ _ _ HX.out)⟩)
  have c0 : w1.cell? ⟨w.heap.size, 0, none⟩ = some (.int .i64 5) := cell_of_row w1 w.heap.size 0 _ _ _ HX.out
  have c1 : w1.cell? ⟨w.heap.size, 1, none⟩ = some (.string op) := cell_of_row w1 w.heap.size 1 _ _ _ HX.out
  have c2 : w1.cell? ⟨w.heap.size, 2, none⟩ = some (.int .i64 vk) := cell_of_row w1 w.heap.size 2 _ _ _ HX.out
  have c3 : w1.cell? ⟨w.heap.size, 3, none⟩ = some (.int .i64 vn) := cell_of_row w1 w.heap.size 3 _ _ _ HX.out
  have c4 : w1.cell? ⟨w.heap.size, 4, none⟩ = some (.string vs) := cell_of_row w1 w.heap.size 4 _ _ _ HX.out
  have c5 : w1.cell? ⟨w.heap.size, 5, none⟩ = some (.string tab) := cell_of_row w1 w.heap.size 5 _ _ _ HX.out
  have c6 : w1.cell? ⟨w.heap.size, 6, none⟩ = some (.string col) := cell_of_row w1 w.heap.size 6 _ _ _ HX.out
  have c7 : w1.cell? ⟨w.heap.size, 7, none⟩ = some (.slice sa n sc) := cell_of_row w1 w.heap.size 7 _ _ _ HX.out
  go_wp2_with (go_at_call 40; refine (in_any _ op w1.heap.size [⟨#[73, 83, 32, 78, 85, 76, 76]⟩, ⟨#[73, 83, 32, 78, 79, 84, 32, 78, 85, 76, 76]⟩] 2 rfl (by omega) (by simp) (by exact HI.out _ _)).mono ?_; rintro e' w2 ⟨rfl, hb2'⟩; have hb2 := bt (bel0 _ (Below.refl _ w1)) hb2'; clear hb2'; obtain ⟨_, g1, _, _⟩ := HC.out w2 hb2)
  all_goals
    go_ret
    refine ⟨by first | (simp [*]; done) | (simp [*]; intros; omega) | (simp [*]; rw [Bool.eq_iff_iff]; simp only [beq_iff_eq, decide_eq_true_eq]; try omega), ?_⟩
    first | exact HB.out | exact bt HB.out hb2 | exact bt HB.out (bt hb2 hb3)
end Go.Proofs.YtafhgilikcablaaGreatDoor
namespace Go.Proofs.YtafhgilikcablaaGreatDoor
open Go.RowKit
set_option linter.unusedVariables false
set_option linter.unusedSimpArgs false
set_option maxRecDepth 100000
set_option maxHeartbeats 12800000 in
theorem shape6 
    (w : World) (op : ByteArray) (vk vn : Int) (vs tab col : ByteArray) (sa : Option Addr) (n sc : Nat) (hn : n ≤ 9223372036854775807) :
    Calls Tryz.prog 23 #[.agg #[.int .i64 6, .string op, .int .i64 vk, .int .i64 vn, .string vs, .string tab, .string col, .slice sa n sc]] w fun e' w' => e' = .returned (.bool (decide (tab.toList = []) && decide (col.toList = []) && decide (vk = 0) && decide (vn = 0) && decide (vs.toList = []) && inB op [⟨#[67, 79, 85, 78, 84]⟩, ⟨#[83, 85, 77]⟩, ⟨#[77, 73, 78]⟩, ⟨#[77, 65, 88]⟩] && (decide (n = 1) || decide (n = 0) && decide (op.toList = [67, 79, 85, 78, 84])))) ∧ Below w.heap.size w w' := by
  have HB := Lib.hid (show Below w.heap.size w (w.alloc (.cells #[.int .i64 6, .string op, .int .i64 vk, .int .i64 vn, .string vs, .string tab, .string col, .slice sa n sc] 26)) from bel0 _ (Below.refl _ _))
  have HX := Lib.hid (show (w.alloc (.cells #[.int .i64 6, .string op, .int .i64 vk, .int .i64 vn, .string vs, .string tab, .string col, .slice sa n sc] 26)).heap[w.heap.size]? = some (.cells #[.int .i64 6, .string op, .int .i64 vk, .int .i64 vn, .string vs, .string tab, .string col, .slice sa n sc] 26 (0, 0)) from Go.heap_alloc_new w _)
  have HS := Lib.hid (show w.heap.size < (w.alloc (.cells #[.int .i64 6, .string op, .int .i64 vk, .int .i64 vn, .string vs, .string tab, .string col, .slice sa n sc] 26)).heap.size by simp)
  have HI := Lib.hid (show ∀ (W : World) (T : TypeId) (i : Nat) (h : i < ([⟨#[67, 79, 85, 78, 84]⟩, ⟨#[83, 85, 77]⟩, ⟨#[77, 73, 78]⟩, ⟨#[77, 65, 88]⟩] : List ByteArray).length), (W.alloc (.cells #[.string ⟨#[67, 79, 85, 78, 84]⟩, .string ⟨#[83, 85, 77]⟩, .string ⟨#[77, 73, 78]⟩, .string ⟨#[77, 65, 88]⟩] T)).cell? ⟨W.heap.size, i, none⟩ = some (.string ([⟨#[67, 79, 85, 78, 84]⟩, ⟨#[83, 85, 77]⟩, ⟨#[77, 73, 78]⟩, ⟨#[77, 65, 88]⟩] : List ByteArray)[i]) from fun W T i h => by
    have hb := Go.heap_alloc_new W (.cells #[.string ⟨#[67, 79, 85, 78, 84]⟩, .string ⟨#[83, 85, 77]⟩, .string ⟨#[77, 73, 78]⟩, .string ⟨#[77, 65, 88]⟩] T)
    match i, h with
    | 0, _ => exact cell_of_row _ _ 0 _ _ _ hb
    | 1, _ => exact cell_of_row _ _ 1 _ _ _ hb
    | 2, _ => exact cell_of_row _ _ 2 _ _ _ hb
    | 3, _ => exact cell_of_row _ _ 3 _ _ _ hb
    | k + 4, h => simp at h; omega)
  go_enter Tryz.func23, Tryz.ntmps23
  go_upto_region 1 with (fail)
  generalize (w.alloc (.cells #[.int .i64 6, .string op, .int .i64 vk, .int .i64 vn, .string vs, .string tab, .string col, .slice sa n sc] 26)) = w1 at *
  have HC := Lib.hid (show ∀ w2 : World, Below w1.heap.size w1 w2 → w2.cell? ⟨w.heap.size, 3, none⟩ = some (.int .i64 vn) ∧ w2.cell? ⟨w.heap.size, 1, none⟩ = some (.string op) ∧ w2.cell? ⟨w.heap.size, 5, none⟩ = some (.string tab) ∧ w2.cell? ⟨w.heap.size, 6, none⟩ = some (.string col) from fun w2 h =>
    ⟨(h.cell (p := ⟨w.heap.size, 3, none⟩) HS.out).trans (cell_of_row w1 w.heap.size 3 _ _ _ HX.out), (h.cell (p := ⟨w.heap.size, 1, none⟩) HS.out).trans (cell_of_row w1 w.heap.size 1 _ _ _ HX.out), (h.cell (p := ⟨w.heap.size, 5, none⟩) HS.out).trans (cell_of_row w1 w.heap.size 5 _ _ _ HX.out), (h.cell (p := ⟨w.heap.size, 6, none⟩) HS.out).trans (cell_of_row w1 w.heap.size 6 _ _ _ HX.out)⟩)
  have c0 : w1.cell? ⟨w.heap.size, 0, none⟩ = some (.int .i64 6) := cell_of_row w1 w.heap.size 0 _ _ _ HX.out
  have c1 : w1.cell? ⟨w.heap.size, 1, none⟩ = some (.string op) := cell_of_row w1 w.heap.size 1 _ _ _ HX.out
  have c2 : w1.cell? ⟨w.heap.size, 2, none⟩ = some (.int .i64 vk) := cell_of_row w1 w.heap.size 2 _ _ _ HX.out
  have c3 : w1.cell? ⟨w.heap.size, 3, none⟩ = some (.int .i64 vn) := cell_of_row w1 w.heap.size 3 _ _ _ HX.out
  have c4 : w1.cell? ⟨w.heap.size, 4, none⟩ = some (.string vs) := cell_of_row w1 w.heap.size 4 _ _ _ HX.out
  have c5 : w1.cell? ⟨w.heap.size, 5, none⟩ = some (.string tab) := cell_of_row w1 w.heap.size 5 _ _ _ HX.out
  have c6 : w1.cell? ⟨w.heap.size, 6, none⟩ = some (.string col) := cell_of_row w1 w.heap.size 6 _ _ _ HX.out
  have c7 : w1.cell? ⟨w.heap.size, 7, none⟩ = some (.slice sa n sc) := cell_of_row w1 w.heap.size 7 _ _ _ HX.out
  go_wp2_with (go_at_call 40; refine (in_any _ op w1.heap.size [⟨#[67, 79, 85, 78, 84]⟩, ⟨#[83, 85, 77]⟩, ⟨#[77, 73, 78]⟩, ⟨#[77, 65, 88]⟩] 4 rfl (by omega) (by simp) (by exact HI.out _ _)).mono ?_; rintro e' w2 ⟨rfl, hb2'⟩; have hb2 := bt (bel0 _ (Below.refl _ w1)) hb2'; clear hb2'; obtain ⟨_, g1, _, _⟩ := HC.out w2 hb2)
  all_goals
    go_ret
    refine ⟨by first | (simp [*]; done) | (simp [*]; intros; omega) | (simp [*]; rw [Bool.eq_iff_iff]; simp only [beq_iff_eq, decide_eq_true_eq]; try omega), ?_⟩
    first | exact HB.out | exact bt HB.out hb2 | exact bt HB.out (bt hb2 hb3)
end Go.Proofs.YtafhgilikcablaaGreatDoor
namespace Go.Proofs.YtafhgilikcablaaGreatDoor
open Go.RowKit
set_option linter.unusedVariables false
set_option linter.unusedSimpArgs false
set_option maxRecDepth 100000
def shD (nm : ByteArray → Bool) (fm : Int → Int → ByteArray → Bool) (e : ET) : Bool :=
  if e.kind = 1 then decide (e.parts.length = 0) && decide (e.tab.toList = []) && decide (e.col.toList = []) && decide (e.op.toList = []) && fm e.vk e.vn e.vs && decide (0 ≤ e.vn)
  else if e.kind = 2 then decide (e.parts.length = 0) && decide (e.vk = 0) && decide (e.vn = 0) && decide (e.vs.toList = []) && decide (e.op.toList = []) && nm e.col && (decide (e.tab.toList = []) || nm e.tab)
  else if e.kind = 3 then decide (e.parts.length = 1) && decide (e.tab.toList = []) && decide (e.col.toList = []) && decide (e.vk = 0) && decide (e.vn = 0) && decide (e.vs.toList = []) && inB e.op [⟨#[78, 79, 84]⟩, ⟨#[45]⟩]
  else if e.kind = 4 then decide (e.parts.length = 2) && decide (e.tab.toList = []) && decide (e.col.toList = []) && decide (e.vk = 0) && decide (e.vn = 0) && decide (e.vs.toList = []) && inB e.op [⟨#[79, 82]⟩, ⟨#[65, 78, 68]⟩, ⟨#[61]⟩, ⟨#[60, 62]⟩, ⟨#[60]⟩, ⟨#[60, 61]⟩, ⟨#[62]⟩, ⟨#[62, 61]⟩, ⟨#[43]⟩, ⟨#[45]⟩, ⟨#[42]⟩]
  else if e.kind = 5 then decide (e.parts.length = 1) && decide (e.tab.toList = []) && decide (e.col.toList = []) && decide (e.vk = 0) && decide (e.vn = 0) && decide (e.vs.toList = []) && inB e.op [⟨#[73, 83, 32, 78, 85, 76, 76]⟩, ⟨#[73, 83, 32, 78, 79, 84, 32, 78, 85, 76, 76]⟩]
  else if e.kind = 6 then decide (e.tab.toList = []) && decide (e.col.toList = []) && decide (e.vk = 0) && decide (e.vn = 0) && decide (e.vs.toList = []) && inB e.op [⟨#[67, 79, 85, 78, 84]⟩, ⟨#[83, 85, 77]⟩, ⟨#[77, 73, 78]⟩, ⟨#[77, 65, 88]⟩] && (decide (e.parts.length = 1) || decide (e.parts.length = 0) && decide (e.op.toList = [67, 79, 85, 78, 84]))
  else false
theorem shape_any (nm : ByteArray → Bool) (hnm : ∀ (w : World) (s : ByteArray), s.size ≤ maxLen → Calls Tryz.prog 39 #[.string s] w fun e' w' => e' = .returned (.bool (nm s)) ∧ Below w.heap.size w w')
    (fm : Int → Int → ByteArray → Bool) (hfm : ∀ (w : World) (a n : Int) (s : ByteArray), Calls Tryz.prog 38 #[.agg #[.int .i64 a, .int .i64 n, .string s]] w fun e' w' => e' = .returned (.bool (fm a n s)) ∧ Below w.heap.size w w')
    (w : World) (Q : Nat → Prop) (v : Value) (e : ET) (hv : EV w Q v e) : Calls Tryz.prog 23 #[v] w fun e' w' => e' = .returned (.bool (shD nm fm e)) ∧ Below w.heap.size w w' := by
  obtain ⟨sa, sc, rfl, hrg, hel⟩ := hv
  have hn : e.parts.length ≤ 9223372036854775807 := by have := hrg.le; have := hrg.cap; unfold maxLen at this; omega
  have h : (etX e sa sc).toArray = #[.int .i64 e.kind, .string e.op, .int .i64 e.vk, .int .i64 e.vn, .string e.vs, .string e.tab, .string e.col, .slice sa e.parts.length sc] := rfl
  rw [h]
  unfold shD
  by_cases h1 : e.kind = 1
  · rw [if_pos h1, h1]; exact shape1 fm hfm w _ _ _ _ _ _ _ _ _ hn
  by_cases h2 : e.kind = 2
  · rw [if_neg h1, if_pos h2, h2]; exact shape2 nm hnm w _ _ _ _ _ _ _ _ _ hn hrg.t hrg.c
  by_cases h3 : e.kind = 3
  · rw [if_neg h1, if_neg h2, if_pos h3, h3]; exact shape3 w _ _ _ _ _ _ _ _ _ hn
  by_cases h4 : e.kind = 4
  · rw [if_neg h1, if_neg h2, if_neg h3, if_pos h4, h4]; exact shape4 w _ _ _ _ _ _ _ _ _ hn
  by_cases h5 : e.kind = 5
  · rw [if_neg h1, if_neg h2, if_neg h3, if_neg h4, if_pos h5, h5]; exact shape5 w _ _ _ _ _ _ _ _ _ hn
  by_cases h6 : e.kind = 6
  · rw [if_neg h1, if_neg h2, if_neg h3, if_neg h4, if_neg h5, if_pos h6, h6]; exact shape6 w _ _ _ _ _ _ _ _ _ hn
  rw [if_neg h1, if_neg h2, if_neg h3, if_neg h4, if_neg h5, if_neg h6]
  exact shape0 e.kind w _ _ _ _ _ _ _ _ _ hn h1 h2 h3 h4 h5 h6
end Go.Proofs.YtafhgilikcablaaGreatDoor
namespace Go.Proofs.YtafhgilikcablaaGreatDoor
open Go.RowKit
set_option linter.unusedVariables false
set_option linter.unusedSimpArgs false
theorem inB_is (s : ByteArray) : ∀ l : List ByteArray, inB s l = l.any (fun x => decide (s.toList = x.toList))
  | [] => rfl
  | x :: l => by
    show (if (x.toList == s.toList) = true then true else inB s l) = _
    rw [inB_is s l, List.any_cons]
    by_cases h : s.toList = x.toList
    · simp [h]
    · have h' : ¬ x.toList = s.toList := fun e => h e.symm
      simp [h, h']
set_option maxHeartbeats 3200000 in
theorem shP_is (nm : ByteArray → Bool) (fm : Int → Int → ByteArray → Bool) (e : ET) : shP nm fm e = shD nm fm e := by
  have t1 : (⟨#[78, 79, 84]⟩ : ByteArray).toList = [78, 79, 84] := by decide +kernel
  have t2 : (⟨#[45]⟩ : ByteArray).toList = [45] := by decide +kernel
  have t3 : (⟨#[79, 82]⟩ : ByteArray).toList = [79, 82] := by decide +kernel
  have t4 : (⟨#[65, 78, 68]⟩ : ByteArray).toList = [65, 78, 68] := by decide +kernel
  have t5 : (⟨#[61]⟩ : ByteArray).toList = [61] := by decide +kernel
  have t6 : (⟨#[60, 62]⟩ : ByteArray).toList = [60, 62] := by decide +kernel
  have t7 : (⟨#[60]⟩ : ByteArray).toList = [60] := by decide +kernel
  have t8 : (⟨#[60, 61]⟩ : ByteArray).toList = [60, 61] := by decide +kernel
  have t9 : (⟨#[62]⟩ : ByteArray).toList = [62] := by decide +kernel
  have ta : (⟨#[62, 61]⟩ : ByteArray).toList = [62, 61] := by decide +kernel
  have tb : (⟨#[43]⟩ : ByteArray).toList = [43] := by decide +kernel
  have tc : (⟨#[42]⟩ : ByteArray).toList = [42] := by decide +kernel
  have td : (⟨#[73, 83, 32, 78, 85, 76, 76]⟩ : ByteArray).toList = [73, 83, 32, 78, 85, 76, 76] := by decide +kernel
  have te : (⟨#[73, 83, 32, 78, 79, 84, 32, 78, 85, 76, 76]⟩ : ByteArray).toList = [73, 83, 32, 78, 79, 84, 32, 78, 85, 76, 76] := by decide +kernel
  have tf : (⟨#[67, 79, 85, 78, 84]⟩ : ByteArray).toList = [67, 79, 85, 78, 84] := by decide +kernel
  have tg : (⟨#[83, 85, 77]⟩ : ByteArray).toList = [83, 85, 77] := by decide +kernel
  have th : (⟨#[77, 73, 78]⟩ : ByteArray).toList = [77, 73, 78] := by decide +kernel
  have ti : (⟨#[77, 65, 88]⟩ : ByteArray).toList = [77, 65, 88] := by decide +kernel
  unfold shP shD
  simp only [inB_is, List.any_cons, List.any_nil, t1, t2, t3, t4, t5, t6, t7, t8, t9, ta, tb, tc, td, te, tf, tg, th, ti]
  have hl : decide (levelB e.op ≠ 0) = (decide (e.op.toList = [79, 82]) || (decide (e.op.toList = [65, 78, 68]) || (decide (e.op.toList = [61]) || (decide (e.op.toList = [60, 62]) || (decide (e.op.toList = [60]) || (decide (e.op.toList = [60, 61]) || (decide (e.op.toList = [62]) || (decide (e.op.toList = [62, 61]) || (decide (e.op.toList = [43]) || (decide (e.op.toList = [45]) || (decide (e.op.toList = [42]) || false))))))))))) := by
    unfold levelB
    simp only [beq_iff_eq]
    repeat' split
    all_goals simp [*]
  have ha : aggrB e.op = (decide (e.op.toList = [67, 79, 85, 78, 84]) || (decide (e.op.toList = [83, 85, 77]) || (decide (e.op.toList = [77, 73, 78]) || (decide (e.op.toList = [77, 65, 88]) || false)))) := by
    unfold aggrB
    simp only [beq_iff_eq]
    repeat' split
    all_goals simp [*]
  rw [hl, ha]
  by_cases hc : e.op.toList = [67, 79, 85, 78, 84]
  all_goals
    repeat' split
    all_goals
      first | rfl | (rw [Bool.eq_iff_iff]; simp only [Bool.and_eq_true, Bool.or_eq_true, decide_eq_true_eq, hc] <;> grind)
end Go.Proofs.YtafhgilikcablaaGreatDoor
