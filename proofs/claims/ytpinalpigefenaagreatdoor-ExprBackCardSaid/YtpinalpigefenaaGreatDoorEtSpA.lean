/- The program's shaped of any expression. -/
import Derived.Test.YtpinalpigefenaaGreatDoorEtIn
namespace Go.Proofs.YtpinalpigefenaaGreatDoor
open Go.RowKit
set_option linter.unusedVariables false
set_option linter.unusedSimpArgs false
set_option maxRecDepth 100000
set_option maxHeartbeats 12800000 in
theorem shaped0 (k : Int)
    (w : World) (op : ByteArray) (vk vn : Int) (vs tab col : ByteArray) (sa : Option Addr) (n sc : Nat) (hn : n ≤ 9223372036854775807) (h1 : k ≠ 1) (h2 : k ≠ 2) (h3 : k ≠ 3) (h4 : k ≠ 4) (h5 : k ≠ 5) (h6 : k ≠ 6) :
    Calls Tryz.prog 164 #[.agg #[.int .i64 k, .string op, .int .i64 vk, .int .i64 vn, .string vs, .string tab, .string col, .slice sa n sc]] w fun e' w' => e' = .returned (.bool (false)) ∧ Below w.heap.size w w' := by
  have HB := Lib.hid (show Below w.heap.size w (w.alloc (.cells #[.int .i64 k, .string op, .int .i64 vk, .int .i64 vn, .string vs, .string tab, .string col, .slice sa n sc] 34)) from bel0 _ (Below.refl _ _))
  have HX := Lib.hid (show (w.alloc (.cells #[.int .i64 k, .string op, .int .i64 vk, .int .i64 vn, .string vs, .string tab, .string col, .slice sa n sc] 34)).heap[w.heap.size]? = some (.cells #[.int .i64 k, .string op, .int .i64 vk, .int .i64 vn, .string vs, .string tab, .string col, .slice sa n sc] 34 (0, 0)) from Go.heap_alloc_new w _)
  have HS := Lib.hid (show w.heap.size < (w.alloc (.cells #[.int .i64 k, .string op, .int .i64 vk, .int .i64 vn, .string vs, .string tab, .string col, .slice sa n sc] 34)).heap.size by simp)
  go_enter Tryz.func164, Tryz.ntmps164
  go_upto_region 1 with (fail)
  generalize (w.alloc (.cells #[.int .i64 k, .string op, .int .i64 vk, .int .i64 vn, .string vs, .string tab, .string col, .slice sa n sc] 34)) = w1 at *
  have HC := Lib.hid (show ∀ w2 : World, Below w1.heap.size w1 w2 → w2.cell? ⟨w.heap.size, 3, none⟩ = some (.int .i64 vn) ∧ w2.cell? ⟨w.heap.size, 1, none⟩ = some (.string op) ∧ w2.cell? ⟨w.heap.size, 5, none⟩ = some (.string tab) ∧ w2.cell? ⟨w.heap.size, 6, none⟩ = some (.string col) ∧ w2.cell? ⟨w.heap.size, 7, none⟩ = some (.slice sa n sc) from fun w2 h =>
    ⟨(h.cell (p := ⟨w.heap.size, 3, none⟩) HS.out).trans (cell_of_row w1 w.heap.size 3 _ _ _ HX.out), (h.cell (p := ⟨w.heap.size, 1, none⟩) HS.out).trans (cell_of_row w1 w.heap.size 1 _ _ _ HX.out), (h.cell (p := ⟨w.heap.size, 5, none⟩) HS.out).trans (cell_of_row w1 w.heap.size 5 _ _ _ HX.out), (h.cell (p := ⟨w.heap.size, 6, none⟩) HS.out).trans (cell_of_row w1 w.heap.size 6 _ _ _ HX.out), (h.cell (p := ⟨w.heap.size, 7, none⟩) HS.out).trans (cell_of_row w1 w.heap.size 7 _ _ _ HX.out)⟩)
  have c0 : w1.cell? ⟨w.heap.size, 0, none⟩ = some (.int .i64 k) := cell_of_row w1 w.heap.size 0 _ _ _ HX.out
  have c1 : w1.cell? ⟨w.heap.size, 1, none⟩ = some (.string op) := cell_of_row w1 w.heap.size 1 _ _ _ HX.out
  have c2 : w1.cell? ⟨w.heap.size, 2, none⟩ = some (.int .i64 vk) := cell_of_row w1 w.heap.size 2 _ _ _ HX.out
  have c3 : w1.cell? ⟨w.heap.size, 3, none⟩ = some (.int .i64 vn) := cell_of_row w1 w.heap.size 3 _ _ _ HX.out
  have c4 : w1.cell? ⟨w.heap.size, 4, none⟩ = some (.string vs) := cell_of_row w1 w.heap.size 4 _ _ _ HX.out
  have c5 : w1.cell? ⟨w.heap.size, 5, none⟩ = some (.string tab) := cell_of_row w1 w.heap.size 5 _ _ _ HX.out
  have c6 : w1.cell? ⟨w.heap.size, 6, none⟩ = some (.string col) := cell_of_row w1 w.heap.size 6 _ _ _ HX.out
  have c7 : w1.cell? ⟨w.heap.size, 7, none⟩ = some (.slice sa n sc) := cell_of_row w1 w.heap.size 7 _ _ _ HX.out
  go_wp2_with (fail)
  all_goals
    go_ret
    refine ⟨by first | (simp [*]; done) | (simp [*]; intros; omega) | (simp [*]; rw [Bool.eq_iff_iff]; simp only [beq_iff_eq, decide_eq_true_eq]; try omega), ?_⟩
    first | exact HB.out | exact bt HB.out hb2 | exact bt HB.out (bt hb2 hb3)
end Go.Proofs.YtpinalpigefenaaGreatDoor
namespace Go.Proofs.YtpinalpigefenaaGreatDoor
open Go.RowKit
set_option linter.unusedVariables false
set_option linter.unusedSimpArgs false
set_option maxRecDepth 100000
set_option maxHeartbeats 12800000 in
theorem shaped1 (fm : Int → Int → ByteArray → Bool) (hfm : ∀ (w : World) (a n : Int) (s : ByteArray), Calls Tryz.prog 259 #[.agg #[.int .i64 a, .int .i64 n, .string s]] w fun e' w' => e' = .returned (.bool (fm a n s)) ∧ Below w.heap.size w w')
    (w : World) (op : ByteArray) (vk vn : Int) (vs tab col : ByteArray) (sa : Option Addr) (n sc : Nat) (hn : n ≤ 9223372036854775807) :
    Calls Tryz.prog 164 #[.agg #[.int .i64 1, .string op, .int .i64 vk, .int .i64 vn, .string vs, .string tab, .string col, .slice sa n sc]] w fun e' w' => e' = .returned (.bool (decide (tab.toList = []) && decide (col.toList = []) && decide (op.toList = []) && fm vk vn vs && decide (0 ≤ vn) && decide (n = 0))) ∧ Below w.heap.size w w' := by
  have HB := Lib.hid (show Below w.heap.size w (w.alloc (.cells #[.int .i64 1, .string op, .int .i64 vk, .int .i64 vn, .string vs, .string tab, .string col, .slice sa n sc] 34)) from bel0 _ (Below.refl _ _))
  have HX := Lib.hid (show (w.alloc (.cells #[.int .i64 1, .string op, .int .i64 vk, .int .i64 vn, .string vs, .string tab, .string col, .slice sa n sc] 34)).heap[w.heap.size]? = some (.cells #[.int .i64 1, .string op, .int .i64 vk, .int .i64 vn, .string vs, .string tab, .string col, .slice sa n sc] 34 (0, 0)) from Go.heap_alloc_new w _)
  have HS := Lib.hid (show w.heap.size < (w.alloc (.cells #[.int .i64 1, .string op, .int .i64 vk, .int .i64 vn, .string vs, .string tab, .string col, .slice sa n sc] 34)).heap.size by simp)
  have HFM := Lib.hid hfm
  clear hfm
  go_enter Tryz.func164, Tryz.ntmps164
  go_upto_region 1 with (fail)
  generalize (w.alloc (.cells #[.int .i64 1, .string op, .int .i64 vk, .int .i64 vn, .string vs, .string tab, .string col, .slice sa n sc] 34)) = w1 at *
  have HC := Lib.hid (show ∀ w2 : World, Below w1.heap.size w1 w2 → w2.cell? ⟨w.heap.size, 3, none⟩ = some (.int .i64 vn) ∧ w2.cell? ⟨w.heap.size, 1, none⟩ = some (.string op) ∧ w2.cell? ⟨w.heap.size, 5, none⟩ = some (.string tab) ∧ w2.cell? ⟨w.heap.size, 6, none⟩ = some (.string col) ∧ w2.cell? ⟨w.heap.size, 7, none⟩ = some (.slice sa n sc) from fun w2 h =>
    ⟨(h.cell (p := ⟨w.heap.size, 3, none⟩) HS.out).trans (cell_of_row w1 w.heap.size 3 _ _ _ HX.out), (h.cell (p := ⟨w.heap.size, 1, none⟩) HS.out).trans (cell_of_row w1 w.heap.size 1 _ _ _ HX.out), (h.cell (p := ⟨w.heap.size, 5, none⟩) HS.out).trans (cell_of_row w1 w.heap.size 5 _ _ _ HX.out), (h.cell (p := ⟨w.heap.size, 6, none⟩) HS.out).trans (cell_of_row w1 w.heap.size 6 _ _ _ HX.out), (h.cell (p := ⟨w.heap.size, 7, none⟩) HS.out).trans (cell_of_row w1 w.heap.size 7 _ _ _ HX.out)⟩)
  have c0 : w1.cell? ⟨w.heap.size, 0, none⟩ = some (.int .i64 1) := cell_of_row w1 w.heap.size 0 _ _ _ HX.out
  have c1 : w1.cell? ⟨w.heap.size, 1, none⟩ = some (.string op) := cell_of_row w1 w.heap.size 1 _ _ _ HX.out
  have c2 : w1.cell? ⟨w.heap.size, 2, none⟩ = some (.int .i64 vk) := cell_of_row w1 w.heap.size 2 _ _ _ HX.out
  have c3 : w1.cell? ⟨w.heap.size, 3, none⟩ = some (.int .i64 vn) := cell_of_row w1 w.heap.size 3 _ _ _ HX.out
  have c4 : w1.cell? ⟨w.heap.size, 4, none⟩ = some (.string vs) := cell_of_row w1 w.heap.size 4 _ _ _ HX.out
  have c5 : w1.cell? ⟨w.heap.size, 5, none⟩ = some (.string tab) := cell_of_row w1 w.heap.size 5 _ _ _ HX.out
  have c6 : w1.cell? ⟨w.heap.size, 6, none⟩ = some (.string col) := cell_of_row w1 w.heap.size 6 _ _ _ HX.out
  have c7 : w1.cell? ⟨w.heap.size, 7, none⟩ = some (.slice sa n sc) := cell_of_row w1 w.heap.size 7 _ _ _ HX.out
  go_wp2_with (go_at_call 259; refine (HFM.out _ _ _ _).mono ?_; rintro e' w2 ⟨rfl, hb2⟩; obtain ⟨g3, _, _, _, g7⟩ := HC.out w2 hb2)
  all_goals
    go_ret
    refine ⟨by first | (have hx : col.toList = [] := (by have h := ‹(!col.toList.isEmpty) = false›; simpa using h); first | (simp [*]; done) | (simp [*]; intros; omega) | (simp [*]; rw [Bool.eq_iff_iff]; (try simp [*]); (try omega); done)) | (have hx : ¬ col.toList = [] := (by have h := ‹(!col.toList.isEmpty) = true›; simpa using h); first | (simp [*]; done) | (simp [*]; intros; omega) | (simp [*]; rw [Bool.eq_iff_iff]; simp only [beq_iff_eq, decide_eq_true_eq]; try omega)) | (first | (simp [*]; done) | (simp [*]; intros; omega) | (simp [*]; rw [Bool.eq_iff_iff]; simp only [beq_iff_eq, decide_eq_true_eq]; try omega)), ?_⟩
    first | exact HB.out | exact bt HB.out hb2 | exact bt HB.out (bt hb2 hb3)
end Go.Proofs.YtpinalpigefenaaGreatDoor
namespace Go.Proofs.YtpinalpigefenaaGreatDoor
open Go.RowKit
set_option linter.unusedVariables false
set_option linter.unusedSimpArgs false
set_option maxRecDepth 100000
set_option maxHeartbeats 12800000 in
theorem shaped2 (nm : ByteArray → Bool) (hnm : ∀ (w : World) (s : ByteArray), s.size ≤ maxLen → Calls Tryz.prog 109 #[.string s] w fun e' w' => e' = .returned (.bool (nm s)) ∧ Below w.heap.size w w')
    (w : World) (op : ByteArray) (vk vn : Int) (vs tab col : ByteArray) (sa : Option Addr) (n sc : Nat) (hn : n ≤ 9223372036854775807) (htb : tab.size ≤ maxLen) (hcl : col.size ≤ maxLen) :
    Calls Tryz.prog 164 #[.agg #[.int .i64 2, .string op, .int .i64 vk, .int .i64 vn, .string vs, .string tab, .string col, .slice sa n sc]] w fun e' w' => e' = .returned (.bool (decide (vk = 0) && decide (vn = 0) && decide (vs.toList = []) && decide (op.toList = []) && (decide (tab.toList = []) || nm tab) && nm col && decide (n = 0))) ∧ Below w.heap.size w w' := by
  have HB := Lib.hid (show Below w.heap.size w (w.alloc (.cells #[.int .i64 2, .string op, .int .i64 vk, .int .i64 vn, .string vs, .string tab, .string col, .slice sa n sc] 34)) from bel0 _ (Below.refl _ _))
  have HX := Lib.hid (show (w.alloc (.cells #[.int .i64 2, .string op, .int .i64 vk, .int .i64 vn, .string vs, .string tab, .string col, .slice sa n sc] 34)).heap[w.heap.size]? = some (.cells #[.int .i64 2, .string op, .int .i64 vk, .int .i64 vn, .string vs, .string tab, .string col, .slice sa n sc] 34 (0, 0)) from Go.heap_alloc_new w _)
  have HS := Lib.hid (show w.heap.size < (w.alloc (.cells #[.int .i64 2, .string op, .int .i64 vk, .int .i64 vn, .string vs, .string tab, .string col, .slice sa n sc] 34)).heap.size by simp)
  have HNM := Lib.hid hnm
  have HTb := Lib.hid htb
  have HCl := Lib.hid hcl
  clear hnm htb hcl
  go_enter Tryz.func164, Tryz.ntmps164
  go_upto_region 1 with (fail)
  generalize (w.alloc (.cells #[.int .i64 2, .string op, .int .i64 vk, .int .i64 vn, .string vs, .string tab, .string col, .slice sa n sc] 34)) = w1 at *
  have HC := Lib.hid (show ∀ w2 : World, Below w1.heap.size w1 w2 → w2.cell? ⟨w.heap.size, 3, none⟩ = some (.int .i64 vn) ∧ w2.cell? ⟨w.heap.size, 1, none⟩ = some (.string op) ∧ w2.cell? ⟨w.heap.size, 5, none⟩ = some (.string tab) ∧ w2.cell? ⟨w.heap.size, 6, none⟩ = some (.string col) ∧ w2.cell? ⟨w.heap.size, 7, none⟩ = some (.slice sa n sc) from fun w2 h =>
    ⟨(h.cell (p := ⟨w.heap.size, 3, none⟩) HS.out).trans (cell_of_row w1 w.heap.size 3 _ _ _ HX.out), (h.cell (p := ⟨w.heap.size, 1, none⟩) HS.out).trans (cell_of_row w1 w.heap.size 1 _ _ _ HX.out), (h.cell (p := ⟨w.heap.size, 5, none⟩) HS.out).trans (cell_of_row w1 w.heap.size 5 _ _ _ HX.out), (h.cell (p := ⟨w.heap.size, 6, none⟩) HS.out).trans (cell_of_row w1 w.heap.size 6 _ _ _ HX.out), (h.cell (p := ⟨w.heap.size, 7, none⟩) HS.out).trans (cell_of_row w1 w.heap.size 7 _ _ _ HX.out)⟩)
  have c0 : w1.cell? ⟨w.heap.size, 0, none⟩ = some (.int .i64 2) := cell_of_row w1 w.heap.size 0 _ _ _ HX.out
  have c1 : w1.cell? ⟨w.heap.size, 1, none⟩ = some (.string op) := cell_of_row w1 w.heap.size 1 _ _ _ HX.out
  have c2 : w1.cell? ⟨w.heap.size, 2, none⟩ = some (.int .i64 vk) := cell_of_row w1 w.heap.size 2 _ _ _ HX.out
  have c3 : w1.cell? ⟨w.heap.size, 3, none⟩ = some (.int .i64 vn) := cell_of_row w1 w.heap.size 3 _ _ _ HX.out
  have c4 : w1.cell? ⟨w.heap.size, 4, none⟩ = some (.string vs) := cell_of_row w1 w.heap.size 4 _ _ _ HX.out
  have c5 : w1.cell? ⟨w.heap.size, 5, none⟩ = some (.string tab) := cell_of_row w1 w.heap.size 5 _ _ _ HX.out
  have c6 : w1.cell? ⟨w.heap.size, 6, none⟩ = some (.string col) := cell_of_row w1 w.heap.size 6 _ _ _ HX.out
  have c7 : w1.cell? ⟨w.heap.size, 7, none⟩ = some (.slice sa n sc) := cell_of_row w1 w.heap.size 7 _ _ _ HX.out
  go_wp2_with (go_at_call 109; first | (refine (HNM.out w2 _ (by first | exact HTb.out | exact HCl.out)).mono ?_; rintro e' w3 ⟨rfl, hb3⟩; obtain ⟨_, _, _, _, k7⟩ := HC.out w3 (bt hb2 hb3)) | (refine (HNM.out _ _ (by first | exact HTb.out | exact HCl.out)).mono ?_; rintro e' w2 ⟨rfl, hb2⟩; obtain ⟨_, _, g5, g6, g7⟩ := HC.out w2 hb2))
  all_goals
    go_ret
    refine ⟨by first | (have hx : col.toList = [] := (by have h := ‹(!col.toList.isEmpty) = false›; simpa using h); first | (simp [*]; done) | (simp [*]; intros; omega) | (simp [*]; rw [Bool.eq_iff_iff]; (try simp [*]); (try omega); done)) | (have hx : ¬ col.toList = [] := (by have h := ‹(!col.toList.isEmpty) = true›; simpa using h); first | (simp [*]; done) | (simp [*]; intros; omega) | (simp [*]; rw [Bool.eq_iff_iff]; simp only [beq_iff_eq, decide_eq_true_eq]; try omega)) | (first | (simp [*]; done) | (simp [*]; intros; omega) | (simp [*]; rw [Bool.eq_iff_iff]; simp only [beq_iff_eq, decide_eq_true_eq]; try omega)), ?_⟩
    first | exact HB.out | exact bt HB.out hb2 | exact bt HB.out (bt hb2 hb3)
end Go.Proofs.YtpinalpigefenaaGreatDoor
namespace Go.Proofs.YtpinalpigefenaaGreatDoor
open Go.RowKit
set_option linter.unusedVariables false
set_option linter.unusedSimpArgs false
set_option maxRecDepth 100000
set_option maxHeartbeats 12800000 in
theorem shaped3 
    (w : World) (op : ByteArray) (vk vn : Int) (vs tab col : ByteArray) (sa : Option Addr) (n sc : Nat) (hn : n ≤ 9223372036854775807) :
    Calls Tryz.prog 164 #[.agg #[.int .i64 3, .string op, .int .i64 vk, .int .i64 vn, .string vs, .string tab, .string col, .slice sa n sc]] w fun e' w' => e' = .returned (.bool (decide (tab.toList = []) && decide (col.toList = []) && decide (vk = 0) && decide (vn = 0) && decide (vs.toList = []) && (decide (op.toList = [78, 79, 84]) || decide (op.toList = [45])) && decide (n = 1))) ∧ Below w.heap.size w w' := by
  have HB := Lib.hid (show Below w.heap.size w (w.alloc (.cells #[.int .i64 3, .string op, .int .i64 vk, .int .i64 vn, .string vs, .string tab, .string col, .slice sa n sc] 34)) from bel0 _ (Below.refl _ _))
  have HX := Lib.hid (show (w.alloc (.cells #[.int .i64 3, .string op, .int .i64 vk, .int .i64 vn, .string vs, .string tab, .string col, .slice sa n sc] 34)).heap[w.heap.size]? = some (.cells #[.int .i64 3, .string op, .int .i64 vk, .int .i64 vn, .string vs, .string tab, .string col, .slice sa n sc] 34 (0, 0)) from Go.heap_alloc_new w _)
  have HS := Lib.hid (show w.heap.size < (w.alloc (.cells #[.int .i64 3, .string op, .int .i64 vk, .int .i64 vn, .string vs, .string tab, .string col, .slice sa n sc] 34)).heap.size by simp)
  go_enter Tryz.func164, Tryz.ntmps164
  go_upto_region 1 with (fail)
  generalize (w.alloc (.cells #[.int .i64 3, .string op, .int .i64 vk, .int .i64 vn, .string vs, .string tab, .string col, .slice sa n sc] 34)) = w1 at *
  have HC := Lib.hid (show ∀ w2 : World, Below w1.heap.size w1 w2 → w2.cell? ⟨w.heap.size, 3, none⟩ = some (.int .i64 vn) ∧ w2.cell? ⟨w.heap.size, 1, none⟩ = some (.string op) ∧ w2.cell? ⟨w.heap.size, 5, none⟩ = some (.string tab) ∧ w2.cell? ⟨w.heap.size, 6, none⟩ = some (.string col) ∧ w2.cell? ⟨w.heap.size, 7, none⟩ = some (.slice sa n sc) from fun w2 h =>
    ⟨(h.cell (p := ⟨w.heap.size, 3, none⟩) HS.out).trans (cell_of_row w1 w.heap.size 3 _ _ _ HX.out), (h.cell (p := ⟨w.heap.size, 1, none⟩) HS.out).trans (cell_of_row w1 w.heap.size 1 _ _ _ HX.out), (h.cell (p := ⟨w.heap.size, 5, none⟩) HS.out).trans (cell_of_row w1 w.heap.size 5 _ _ _ HX.out), (h.cell (p := ⟨w.heap.size, 6, none⟩) HS.out).trans (cell_of_row w1 w.heap.size 6 _ _ _ HX.out), (h.cell (p := ⟨w.heap.size, 7, none⟩) HS.out).trans (cell_of_row w1 w.heap.size 7 _ _ _ HX.out)⟩)
  have c0 : w1.cell? ⟨w.heap.size, 0, none⟩ = some (.int .i64 3) := cell_of_row w1 w.heap.size 0 _ _ _ HX.out
  have c1 : w1.cell? ⟨w.heap.size, 1, none⟩ = some (.string op) := cell_of_row w1 w.heap.size 1 _ _ _ HX.out
  have c2 : w1.cell? ⟨w.heap.size, 2, none⟩ = some (.int .i64 vk) := cell_of_row w1 w.heap.size 2 _ _ _ HX.out
  have c3 : w1.cell? ⟨w.heap.size, 3, none⟩ = some (.int .i64 vn) := cell_of_row w1 w.heap.size 3 _ _ _ HX.out
  have c4 : w1.cell? ⟨w.heap.size, 4, none⟩ = some (.string vs) := cell_of_row w1 w.heap.size 4 _ _ _ HX.out
  have c5 : w1.cell? ⟨w.heap.size, 5, none⟩ = some (.string tab) := cell_of_row w1 w.heap.size 5 _ _ _ HX.out
  have c6 : w1.cell? ⟨w.heap.size, 6, none⟩ = some (.string col) := cell_of_row w1 w.heap.size 6 _ _ _ HX.out
  have c7 : w1.cell? ⟨w.heap.size, 7, none⟩ = some (.slice sa n sc) := cell_of_row w1 w.heap.size 7 _ _ _ HX.out
  go_wp2_with (fail)
  all_goals
    go_ret
    refine ⟨by first | (have hx : col.toList = [] := (by have h := ‹(!col.toList.isEmpty) = false›; simpa using h); first | (simp [*]; done) | (simp [*]; intros; omega) | (simp [*]; rw [Bool.eq_iff_iff]; simp only [beq_iff_eq, decide_eq_true_eq]; try omega)) | (have hx : ¬ col.toList = [] := (by have h := ‹(!col.toList.isEmpty) = true›; simpa using h); first | (simp [*]; done) | (simp [*]; intros; omega) | (simp [*]; rw [Bool.eq_iff_iff]; simp only [beq_iff_eq, decide_eq_true_eq]; try omega)) | (first | (simp [*]; done) | (simp [*]; intros; omega) | (simp [*]; rw [Bool.eq_iff_iff]; simp only [beq_iff_eq, decide_eq_true_eq]; try omega)), ?_⟩
    first | exact HB.out | exact bt HB.out hb2 | exact bt HB.out (bt hb2 hb3)
end Go.Proofs.YtpinalpigefenaaGreatDoor
namespace Go.Proofs.YtpinalpigefenaaGreatDoor
open Go.RowKit
set_option linter.unusedVariables false
set_option linter.unusedSimpArgs false
set_option maxRecDepth 100000
set_option maxHeartbeats 12800000 in
theorem shaped4 
    (w : World) (op : ByteArray) (vk vn : Int) (vs tab col : ByteArray) (sa : Option Addr) (n sc : Nat) (hn : n ≤ 9223372036854775807) :
    Calls Tryz.prog 164 #[.agg #[.int .i64 4, .string op, .int .i64 vk, .int .i64 vn, .string vs, .string tab, .string col, .slice sa n sc]] w fun e' w' => e' = .returned (.bool (decide (tab.toList = []) && decide (col.toList = []) && decide (vk = 0) && decide (vn = 0) && decide (vs.toList = []) && decide (levelB op ≠ 0) && decide (n = 2))) ∧ Below w.heap.size w w' := by
  have HB := Lib.hid (show Below w.heap.size w (w.alloc (.cells #[.int .i64 4, .string op, .int .i64 vk, .int .i64 vn, .string vs, .string tab, .string col, .slice sa n sc] 34)) from bel0 _ (Below.refl _ _))
  have HX := Lib.hid (show (w.alloc (.cells #[.int .i64 4, .string op, .int .i64 vk, .int .i64 vn, .string vs, .string tab, .string col, .slice sa n sc] 34)).heap[w.heap.size]? = some (.cells #[.int .i64 4, .string op, .int .i64 vk, .int .i64 vn, .string vs, .string tab, .string col, .slice sa n sc] 34 (0, 0)) from Go.heap_alloc_new w _)
  have HS := Lib.hid (show w.heap.size < (w.alloc (.cells #[.int .i64 4, .string op, .int .i64 vk, .int .i64 vn, .string vs, .string tab, .string col, .slice sa n sc] 34)).heap.size by simp)
  go_enter Tryz.func164, Tryz.ntmps164
  go_upto_region 1 with (fail)
  generalize (w.alloc (.cells #[.int .i64 4, .string op, .int .i64 vk, .int .i64 vn, .string vs, .string tab, .string col, .slice sa n sc] 34)) = w1 at *
  have HC := Lib.hid (show ∀ w2 : World, Below w1.heap.size w1 w2 → w2.cell? ⟨w.heap.size, 3, none⟩ = some (.int .i64 vn) ∧ w2.cell? ⟨w.heap.size, 1, none⟩ = some (.string op) ∧ w2.cell? ⟨w.heap.size, 5, none⟩ = some (.string tab) ∧ w2.cell? ⟨w.heap.size, 6, none⟩ = some (.string col) ∧ w2.cell? ⟨w.heap.size, 7, none⟩ = some (.slice sa n sc) from fun w2 h =>
    ⟨(h.cell (p := ⟨w.heap.size, 3, none⟩) HS.out).trans (cell_of_row w1 w.heap.size 3 _ _ _ HX.out), (h.cell (p := ⟨w.heap.size, 1, none⟩) HS.out).trans (cell_of_row w1 w.heap.size 1 _ _ _ HX.out), (h.cell (p := ⟨w.heap.size, 5, none⟩) HS.out).trans (cell_of_row w1 w.heap.size 5 _ _ _ HX.out), (h.cell (p := ⟨w.heap.size, 6, none⟩) HS.out).trans (cell_of_row w1 w.heap.size 6 _ _ _ HX.out), (h.cell (p := ⟨w.heap.size, 7, none⟩) HS.out).trans (cell_of_row w1 w.heap.size 7 _ _ _ HX.out)⟩)
  have c0 : w1.cell? ⟨w.heap.size, 0, none⟩ = some (.int .i64 4) := cell_of_row w1 w.heap.size 0 _ _ _ HX.out
  have c1 : w1.cell? ⟨w.heap.size, 1, none⟩ = some (.string op) := cell_of_row w1 w.heap.size 1 _ _ _ HX.out
  have c2 : w1.cell? ⟨w.heap.size, 2, none⟩ = some (.int .i64 vk) := cell_of_row w1 w.heap.size 2 _ _ _ HX.out
  have c3 : w1.cell? ⟨w.heap.size, 3, none⟩ = some (.int .i64 vn) := cell_of_row w1 w.heap.size 3 _ _ _ HX.out
  have c4 : w1.cell? ⟨w.heap.size, 4, none⟩ = some (.string vs) := cell_of_row w1 w.heap.size 4 _ _ _ HX.out
  have c5 : w1.cell? ⟨w.heap.size, 5, none⟩ = some (.string tab) := cell_of_row w1 w.heap.size 5 _ _ _ HX.out
  have c6 : w1.cell? ⟨w.heap.size, 6, none⟩ = some (.string col) := cell_of_row w1 w.heap.size 6 _ _ _ HX.out
  have c7 : w1.cell? ⟨w.heap.size, 7, none⟩ = some (.slice sa n sc) := cell_of_row w1 w.heap.size 7 _ _ _ HX.out
  go_wp2_with (go_at_call 168; refine (level_any w1 op).mono ?_; rintro e' w2 ⟨rfl, hb2⟩; obtain ⟨_, g1, _, _, g7⟩ := HC.out w2 hb2)
  all_goals
    go_ret
    refine ⟨by first | (have hx : col.toList = [] := (by have h := ‹(!col.toList.isEmpty) = false›; simpa using h); first | (simp [*]; done) | (simp [*]; intros; omega) | (simp [*]; rw [Bool.eq_iff_iff]; (try simp [*]); (try omega); done)) | (have hx : ¬ col.toList = [] := (by have h := ‹(!col.toList.isEmpty) = true›; simpa using h); first | (simp [*]; done) | (simp [*]; intros; omega) | (simp [*]; rw [Bool.eq_iff_iff]; simp only [beq_iff_eq, decide_eq_true_eq]; try omega)) | (first | (simp [*]; done) | (simp [*]; intros; omega) | (simp [*]; rw [Bool.eq_iff_iff]; simp only [beq_iff_eq, decide_eq_true_eq]; try omega)), ?_⟩
    first | exact HB.out | exact bt HB.out hb2 | exact bt HB.out (bt hb2 hb3)
end Go.Proofs.YtpinalpigefenaaGreatDoor
namespace Go.Proofs.YtpinalpigefenaaGreatDoor
open Go.RowKit
set_option linter.unusedVariables false
set_option linter.unusedSimpArgs false
set_option maxRecDepth 100000
set_option maxHeartbeats 12800000 in
theorem shaped5 
    (w : World) (op : ByteArray) (vk vn : Int) (vs tab col : ByteArray) (sa : Option Addr) (n sc : Nat) (hn : n ≤ 9223372036854775807) :
    Calls Tryz.prog 164 #[.agg #[.int .i64 5, .string op, .int .i64 vk, .int .i64 vn, .string vs, .string tab, .string col, .slice sa n sc]] w fun e' w' => e' = .returned (.bool (decide (tab.toList = []) && decide (col.toList = []) && decide (vk = 0) && decide (vn = 0) && decide (vs.toList = []) && (decide (op.toList = [73, 83, 32, 78, 85, 76, 76]) || decide (op.toList = [73, 83, 32, 78, 79, 84, 32, 78, 85, 76, 76])) && decide (n = 1))) ∧ Below w.heap.size w w' := by
  have HB := Lib.hid (show Below w.heap.size w (w.alloc (.cells #[.int .i64 5, .string op, .int .i64 vk, .int .i64 vn, .string vs, .string tab, .string col, .slice sa n sc] 34)) from bel0 _ (Below.refl _ _))
  have HX := Lib.hid (show (w.alloc (.cells #[.int .i64 5, .string op, .int .i64 vk, .int .i64 vn, .string vs, .string tab, .string col, .slice sa n sc] 34)).heap[w.heap.size]? = some (.cells #[.int .i64 5, .string op, .int .i64 vk, .int .i64 vn, .string vs, .string tab, .string col, .slice sa n sc] 34 (0, 0)) from Go.heap_alloc_new w _)
  have HS := Lib.hid (show w.heap.size < (w.alloc (.cells #[.int .i64 5, .string op, .int .i64 vk, .int .i64 vn, .string vs, .string tab, .string col, .slice sa n sc] 34)).heap.size by simp)
  go_enter Tryz.func164, Tryz.ntmps164
  go_upto_region 1 with (fail)
  generalize (w.alloc (.cells #[.int .i64 5, .string op, .int .i64 vk, .int .i64 vn, .string vs, .string tab, .string col, .slice sa n sc] 34)) = w1 at *
  have HC := Lib.hid (show ∀ w2 : World, Below w1.heap.size w1 w2 → w2.cell? ⟨w.heap.size, 3, none⟩ = some (.int .i64 vn) ∧ w2.cell? ⟨w.heap.size, 1, none⟩ = some (.string op) ∧ w2.cell? ⟨w.heap.size, 5, none⟩ = some (.string tab) ∧ w2.cell? ⟨w.heap.size, 6, none⟩ = some (.string col) ∧ w2.cell? ⟨w.heap.size, 7, none⟩ = some (.slice sa n sc) from fun w2 h =>
    ⟨(h.cell (p := ⟨w.heap.size, 3, none⟩) HS.out).trans (cell_of_row w1 w.heap.size 3 _ _ _ HX.out), (h.cell (p := ⟨w.heap.size, 1, none⟩) HS.out).trans (cell_of_row w1 w.heap.size 1 _ _ _ HX.out), (h.cell (p := ⟨w.heap.size, 5, none⟩) HS.out).trans (cell_of_row w1 w.heap.size 5 _ _ _ HX.out), (h.cell (p := ⟨w.heap.size, 6, none⟩) HS.out).trans (cell_of_row w1 w.heap.size 6 _ _ _ HX.out), (h.cell (p := ⟨w.heap.size, 7, none⟩) HS.out).trans (cell_of_row w1 w.heap.size 7 _ _ _ HX.out)⟩)
  have c0 : w1.cell? ⟨w.heap.size, 0, none⟩ = some (.int .i64 5) := cell_of_row w1 w.heap.size 0 _ _ _ HX.out
  have c1 : w1.cell? ⟨w.heap.size, 1, none⟩ = some (.string op) := cell_of_row w1 w.heap.size 1 _ _ _ HX.out
  have c2 : w1.cell? ⟨w.heap.size, 2, none⟩ = some (.int .i64 vk) := cell_of_row w1 w.heap.size 2 _ _ _ HX.out
  have c3 : w1.cell? ⟨w.heap.size, 3, none⟩ = some (.int .i64 vn) := cell_of_row w1 w.heap.size 3 _ _ _ HX.out
  have c4 : w1.cell? ⟨w.heap.size, 4, none⟩ = some (.string vs) := cell_of_row w1 w.heap.size 4 _ _ _ HX.out
  have c5 : w1.cell? ⟨w.heap.size, 5, none⟩ = some (.string tab) := cell_of_row w1 w.heap.size 5 _ _ _ HX.out
  have c6 : w1.cell? ⟨w.heap.size, 6, none⟩ = some (.string col) := cell_of_row w1 w.heap.size 6 _ _ _ HX.out
  have c7 : w1.cell? ⟨w.heap.size, 7, none⟩ = some (.slice sa n sc) := cell_of_row w1 w.heap.size 7 _ _ _ HX.out
  go_wp2_with (fail)
  all_goals
    go_ret
    refine ⟨by first | (have hx : col.toList = [] := (by have h := ‹(!col.toList.isEmpty) = false›; simpa using h); first | (simp [*]; done) | (simp [*]; intros; omega) | (simp [*]; rw [Bool.eq_iff_iff]; simp only [beq_iff_eq, decide_eq_true_eq]; try omega)) | (have hx : ¬ col.toList = [] := (by have h := ‹(!col.toList.isEmpty) = true›; simpa using h); first | (simp [*]; done) | (simp [*]; intros; omega) | (simp [*]; rw [Bool.eq_iff_iff]; simp only [beq_iff_eq, decide_eq_true_eq]; try omega)) | (first | (simp [*]; done) | (simp [*]; intros; omega) | (simp [*]; rw [Bool.eq_iff_iff]; simp only [beq_iff_eq, decide_eq_true_eq]; try omega)), ?_⟩
    first | exact HB.out | exact bt HB.out hb2 | exact bt HB.out (bt hb2 hb3)
end Go.Proofs.YtpinalpigefenaaGreatDoor
namespace Go.Proofs.YtpinalpigefenaaGreatDoor
open Go.RowKit
set_option linter.unusedVariables false
set_option linter.unusedSimpArgs false
set_option maxRecDepth 100000
set_option maxHeartbeats 12800000 in
theorem shaped6 
    (w : World) (op : ByteArray) (vk vn : Int) (vs tab col : ByteArray) (sa : Option Addr) (n sc : Nat) (hn : n ≤ 9223372036854775807) :
    Calls Tryz.prog 164 #[.agg #[.int .i64 6, .string op, .int .i64 vk, .int .i64 vn, .string vs, .string tab, .string col, .slice sa n sc]] w fun e' w' => e' = .returned (.bool (decide (tab.toList = []) && decide (col.toList = []) && decide (vk = 0) && decide (vn = 0) && decide (vs.toList = []) && (aggrB op && decide (n = 1) || decide (op.toList = [67, 79, 85, 78, 84]) && decide (n = 0)))) ∧ Below w.heap.size w w' := by
  have HB := Lib.hid (show Below w.heap.size w (w.alloc (.cells #[.int .i64 6, .string op, .int .i64 vk, .int .i64 vn, .string vs, .string tab, .string col, .slice sa n sc] 34)) from bel0 _ (Below.refl _ _))
  have HX := Lib.hid (show (w.alloc (.cells #[.int .i64 6, .string op, .int .i64 vk, .int .i64 vn, .string vs, .string tab, .string col, .slice sa n sc] 34)).heap[w.heap.size]? = some (.cells #[.int .i64 6, .string op, .int .i64 vk, .int .i64 vn, .string vs, .string tab, .string col, .slice sa n sc] 34 (0, 0)) from Go.heap_alloc_new w _)
  have HS := Lib.hid (show w.heap.size < (w.alloc (.cells #[.int .i64 6, .string op, .int .i64 vk, .int .i64 vn, .string vs, .string tab, .string col, .slice sa n sc] 34)).heap.size by simp)
  go_enter Tryz.func164, Tryz.ntmps164
  go_upto_region 1 with (fail)
  generalize (w.alloc (.cells #[.int .i64 6, .string op, .int .i64 vk, .int .i64 vn, .string vs, .string tab, .string col, .slice sa n sc] 34)) = w1 at *
  have HC := Lib.hid (show ∀ w2 : World, Below w1.heap.size w1 w2 → w2.cell? ⟨w.heap.size, 3, none⟩ = some (.int .i64 vn) ∧ w2.cell? ⟨w.heap.size, 1, none⟩ = some (.string op) ∧ w2.cell? ⟨w.heap.size, 5, none⟩ = some (.string tab) ∧ w2.cell? ⟨w.heap.size, 6, none⟩ = some (.string col) ∧ w2.cell? ⟨w.heap.size, 7, none⟩ = some (.slice sa n sc) from fun w2 h =>
    ⟨(h.cell (p := ⟨w.heap.size, 3, none⟩) HS.out).trans (cell_of_row w1 w.heap.size 3 _ _ _ HX.out), (h.cell (p := ⟨w.heap.size, 1, none⟩) HS.out).trans (cell_of_row w1 w.heap.size 1 _ _ _ HX.out), (h.cell (p := ⟨w.heap.size, 5, none⟩) HS.out).trans (cell_of_row w1 w.heap.size 5 _ _ _ HX.out), (h.cell (p := ⟨w.heap.size, 6, none⟩) HS.out).trans (cell_of_row w1 w.heap.size 6 _ _ _ HX.out), (h.cell (p := ⟨w.heap.size, 7, none⟩) HS.out).trans (cell_of_row w1 w.heap.size 7 _ _ _ HX.out)⟩)
  have c0 : w1.cell? ⟨w.heap.size, 0, none⟩ = some (.int .i64 6) := cell_of_row w1 w.heap.size 0 _ _ _ HX.out
  have c1 : w1.cell? ⟨w.heap.size, 1, none⟩ = some (.string op) := cell_of_row w1 w.heap.size 1 _ _ _ HX.out
  have c2 : w1.cell? ⟨w.heap.size, 2, none⟩ = some (.int .i64 vk) := cell_of_row w1 w.heap.size 2 _ _ _ HX.out
  have c3 : w1.cell? ⟨w.heap.size, 3, none⟩ = some (.int .i64 vn) := cell_of_row w1 w.heap.size 3 _ _ _ HX.out
  have c4 : w1.cell? ⟨w.heap.size, 4, none⟩ = some (.string vs) := cell_of_row w1 w.heap.size 4 _ _ _ HX.out
  have c5 : w1.cell? ⟨w.heap.size, 5, none⟩ = some (.string tab) := cell_of_row w1 w.heap.size 5 _ _ _ HX.out
  have c6 : w1.cell? ⟨w.heap.size, 6, none⟩ = some (.string col) := cell_of_row w1 w.heap.size 6 _ _ _ HX.out
  have c7 : w1.cell? ⟨w.heap.size, 7, none⟩ = some (.slice sa n sc) := cell_of_row w1 w.heap.size 7 _ _ _ HX.out
  go_wp2_with (go_at_call 260; refine (aggr_any w1 op).mono ?_; rintro e' w2 ⟨rfl, hb2⟩; obtain ⟨_, g1, _, _, g7⟩ := HC.out w2 hb2)
  all_goals
    go_ret
    refine ⟨by first | (have hx : col.toList = [] := (by have h := ‹(!col.toList.isEmpty) = false›; simpa using h); first | (simp [*]; done) | (simp [*]; intros; omega) | (simp [*]; rw [Bool.eq_iff_iff]; (try simp [*]); (try omega); done)) | (have hx : ¬ col.toList = [] := (by have h := ‹(!col.toList.isEmpty) = true›; simpa using h); first | (simp [*]; done) | (simp [*]; intros; omega) | (simp [*]; rw [Bool.eq_iff_iff]; simp only [beq_iff_eq, decide_eq_true_eq]; try omega)) | (first | (simp [*]; done) | (simp [*]; intros; omega) | (simp [*]; rw [Bool.eq_iff_iff]; simp only [beq_iff_eq, decide_eq_true_eq]; try omega)), ?_⟩
    first | exact HB.out | exact bt HB.out hb2 | exact bt HB.out (bt hb2 hb3)
end Go.Proofs.YtpinalpigefenaaGreatDoor
namespace Go.Proofs.YtpinalpigefenaaGreatDoor
open Go.RowKit
set_option linter.unusedVariables false
set_option linter.unusedSimpArgs false
set_option maxRecDepth 100000
def shP (nm : ByteArray → Bool) (fm : Int → Int → ByteArray → Bool) (e : ET) : Bool :=
  if e.kind = 1 then decide (e.tab.toList = []) && decide (e.col.toList = []) && decide (e.op.toList = []) && fm e.vk e.vn e.vs && decide (0 ≤ e.vn) && decide (e.parts.length = 0)
  else if e.kind = 2 then decide (e.vk = 0) && decide (e.vn = 0) && decide (e.vs.toList = []) && decide (e.op.toList = []) && (decide (e.tab.toList = []) || nm e.tab) && nm e.col && decide (e.parts.length = 0)
  else if e.kind = 3 then decide (e.tab.toList = []) && decide (e.col.toList = []) && decide (e.vk = 0) && decide (e.vn = 0) && decide (e.vs.toList = []) && (decide (e.op.toList = [78, 79, 84]) || decide (e.op.toList = [45])) && decide (e.parts.length = 1)
  else if e.kind = 4 then decide (e.tab.toList = []) && decide (e.col.toList = []) && decide (e.vk = 0) && decide (e.vn = 0) && decide (e.vs.toList = []) && decide (levelB e.op ≠ 0) && decide (e.parts.length = 2)
  else if e.kind = 5 then decide (e.tab.toList = []) && decide (e.col.toList = []) && decide (e.vk = 0) && decide (e.vn = 0) && decide (e.vs.toList = []) && (decide (e.op.toList = [73, 83, 32, 78, 85, 76, 76]) || decide (e.op.toList = [73, 83, 32, 78, 79, 84, 32, 78, 85, 76, 76])) && decide (e.parts.length = 1)
  else if e.kind = 6 then decide (e.tab.toList = []) && decide (e.col.toList = []) && decide (e.vk = 0) && decide (e.vn = 0) && decide (e.vs.toList = []) && (aggrB e.op && decide (e.parts.length = 1) || decide (e.op.toList = [67, 79, 85, 78, 84]) && decide (e.parts.length = 0))
  else false
theorem shaped_any (nm : ByteArray → Bool) (hnm : ∀ (w : World) (s : ByteArray), s.size ≤ maxLen → Calls Tryz.prog 109 #[.string s] w fun e' w' => e' = .returned (.bool (nm s)) ∧ Below w.heap.size w w')
    (fm : Int → Int → ByteArray → Bool) (hfm : ∀ (w : World) (a n : Int) (s : ByteArray), Calls Tryz.prog 259 #[.agg #[.int .i64 a, .int .i64 n, .string s]] w fun e' w' => e' = .returned (.bool (fm a n s)) ∧ Below w.heap.size w w')
    (w : World) (Q : Nat → Prop) (v : Value) (e : ET) (hv : EV w Q v e) : Calls Tryz.prog 164 #[v] w fun e' w' => e' = .returned (.bool (shP nm fm e)) ∧ Below w.heap.size w w' := by
  obtain ⟨sa, sc, rfl, hrg, hel⟩ := hv
  have hn : e.parts.length ≤ 9223372036854775807 := by have := hrg.le; have := hrg.cap; unfold maxLen at this; omega
  have h : (etX e sa sc).toArray = #[.int .i64 e.kind, .string e.op, .int .i64 e.vk, .int .i64 e.vn, .string e.vs, .string e.tab, .string e.col, .slice sa e.parts.length sc] := rfl
  rw [h]
  unfold shP
  by_cases h1 : e.kind = 1
  · rw [if_pos h1, h1]; exact shaped1 fm hfm w _ _ _ _ _ _ _ _ _ hn
  by_cases h2 : e.kind = 2
  · rw [if_neg h1, if_pos h2, h2]; exact shaped2 nm hnm w _ _ _ _ _ _ _ _ _ hn hrg.t hrg.c
  by_cases h3 : e.kind = 3
  · rw [if_neg h1, if_neg h2, if_pos h3, h3]; exact shaped3 w _ _ _ _ _ _ _ _ _ hn
  by_cases h4 : e.kind = 4
  · rw [if_neg h1, if_neg h2, if_neg h3, if_pos h4, h4]; exact shaped4 w _ _ _ _ _ _ _ _ _ hn
  by_cases h5 : e.kind = 5
  · rw [if_neg h1, if_neg h2, if_neg h3, if_neg h4, if_pos h5, h5]; exact shaped5 w _ _ _ _ _ _ _ _ _ hn
  by_cases h6 : e.kind = 6
  · rw [if_neg h1, if_neg h2, if_neg h3, if_neg h4, if_neg h5, if_pos h6, h6]; exact shaped6 w _ _ _ _ _ _ _ _ _ hn
  rw [if_neg h1, if_neg h2, if_neg h3, if_neg h4, if_neg h5, if_neg h6]
  exact shaped0 e.kind w _ _ _ _ _ _ _ _ _ hn h1 h2 h3 h4 h5 h6
end Go.Proofs.YtpinalpigefenaaGreatDoor
