/- PagerNil: the law's walk. -/
import Derived.Test.YtbcjhngpcodaoaaGreatDoorPg8
namespace Go.Proofs.YtbcjhngpcodaoaaGreatDoor
open Go.RowKit
set_option linter.unusedVariables false
set_option maxRecDepth 100000

theorem row_len {w : World} {a : Option Addr} {l c : Nat} {zs : List Int} (h : IsRow .u8 w a l c zs) : l ≤ 9223372036854775807 := by
  rcases h with ⟨_, rfl, _, _⟩ | ⟨_, _, h1, h2, _⟩
  · omega
  · unfold maxLen at h2
    omega
set_option maxHeartbeats 3200000 in
theorem pagerNil_walk (k n m : Int) (ba : Option Addr) (bl bc : Nat) (w : World) (hbl : bl ≤ 9223372036854775807) :
    Calls Tryz.prog 3 #[.agg #[.int .i64 k, .int .i64 n, .int .i64 m, .slice ba bl bc]] w fun e w' => e = .returned (.bool true) ∧ Below w.heap.size w w' := by
  obtain ⟨W0, hW0⟩ : ∃ W0, W0 = w.alloc (.cells #[.int .i64 k, .int .i64 n, .int .i64 m, .slice ba bl bc] 24) := ⟨_, rfl⟩
  have hx : W0.heap[w.heap.size]? = some (.cells #[.int .i64 k, .int .i64 n, .int .i64 m, .slice ba bl bc] 24 (0, 0)) := by rw [hW0]; exact Go.heap_alloc_new w _
  have hb0 : Below w.heap.size w W0 := by rw [hW0]; exact bel0 _ (Below.refl _ _)
  have HX := Lib.hid (show ∀ W, Below W0.heap.size W0 W → W.heap[w.heap.size]? = some (.cells #[.int .i64 k, .int .i64 n, .int .i64 m, .slice ba bl bc] 24 (0, 0)) from fun W hW => (hW.block w.heap.size (Array.getElem?_eq_some_iff.1 hx).1).trans hx)
  have HB0 := Lib.hid hb0
  have HW := Lib.hid hW0
  have HBl := Lib.hid hbl
  clear hx hb0 hW0 hbl
  go_enter Tryz.func3, Tryz.ntmps3
  go_wp2_with fail
  rw [← HW.out]
  refine (pawake_any _).mono ?_
  rintro e w1 ⟨rfl, hb1⟩
  have hx := HX.out w1 hb1
  have c0 := cell_of_row w1 w.heap.size 0 _ _ _ hx
  have c1 := cell_of_row w1 w.heap.size 1 _ _ _ hx
  have c2 := cell_of_row w1 w.heap.size 2 _ _ _ hx
  have c3 := cell_of_row w1 w.heap.size 3 _ _ _ hx
  simp only [List.getElem?_toArray, List.getElem?_cons_zero, List.getElem?_cons_succ] at c0 c1 c2 c3
  obtain ⟨W1, hW1⟩ : ∃ W1, W1 = w1.alloc (.cells #[.int .i64 k, .int .i64 n, .int .i64 m, .slice ba bl bc] 24) := ⟨_, rfl⟩
  have hxb : W1.heap[w1.heap.size]? = some (.cells #[.int .i64 k, .int .i64 n, .int .i64 m, .slice ba bl bc] 24 (0, 0)) := by rw [hW1]; exact Go.heap_alloc_new w1 _
  have H3 := Lib.hid (show W1.cell? ⟨w1.heap.size, 3, none⟩ = some (.slice ba bl bc) from cell_of_row W1 w1.heap.size 3 _ _ _ hxb)
  have hbb : Below w1.heap.size w1 W1 := by rw [hW1]; exact bel0 _ (Below.refl _ _)
  have HB1 := Lib.hid (bt hb1 hbb)
  have HW1 := Lib.hid hW1
  clear hx hxb hbb hW1 hb1
  go_wp2_with fail
  rw [← HW1.out]
  refine (pfew w1.heap.size ba bl bc W1 H3.out HBl.out).mono ?_
  rintro e w2 ⟨rfl, hw⟩
  subst hw
  clear c0 c1 c2 c3
  cases hfew : decide (bl ≤ 20000) with
  | false =>
    clear hfew
    go_wp2_with fail
    refine (pawake_any _).mono ?_
    rintro e w3 ⟨rfl, hb3⟩
    have HB3 := Lib.hid (bt HB0.out (bt HB1.out hb3))
    clear hb3
    go_wp2
    go_ret
    exact ⟨rfl, HB3.out⟩
  | true =>
    clear hfew
    go_wp2_with fail
    refine (qopen0 _).mono ?_
    rintro e w3 ⟨rfl, hw⟩
    subst hw
    go_wp2_with fail
    refine (pdnew 1000 (.inr rfl) _).mono ?_
    rintro e w4 ⟨rfl, hd4, hb4⟩
    have HB4 := Lib.hid (bt HB1.out hb4)
    clear hd4 hb4
    go_wp2_with fail
    refine (qopen3 _ _).mono ?_
    rintro e w5 ⟨rfl, hw⟩
    subst hw
    go_wp2_with fail
    refine (pdnew 1000 (.inr rfl) _).mono ?_
    rintro e w6 ⟨rfl, hd6, hb6⟩
    have HB6 := Lib.hid (bt HB4.out hb6)
    clear hd6 hb6
    go_wp2_with fail
    refine (qopen101 _ _).mono ?_
    rintro e w7 ⟨rfl, hw⟩
    subst hw
    have hx := HX.out w7 HB6.out
    have c1 := cell_of_row w7 w.heap.size 1 _ _ _ hx
    have c2 := cell_of_row w7 w.heap.size 2 _ _ _ hx
    have c3 := cell_of_row w7 w.heap.size 3 _ _ _ hx
    simp only [List.getElem?_toArray, List.getElem?_cons_zero, List.getElem?_cons_succ] at c1 c2 c3
    have HE := Lib.hid (bt HB0.out HB6.out)
    clear hx
    go_wp2_with fail
    refine (qget n _).mono ?_
    rintro e w8 ⟨rfl, hw⟩
    subst hw
    go_wp2_with fail
    refine (qtake _).mono ?_
    rintro e w9 ⟨rfl, hw⟩
    subst hw
    go_wp2_with fail
    refine (qput n ba bl bc _).mono ?_
    rintro e wa ⟨rfl, hw⟩
    subst hw
    go_wp2_with fail
    refine (qgive n _).mono ?_
    rintro e wa ⟨rfl, hw⟩
    subst hw
    go_wp2_with fail
    refine (qset n m _).mono ?_
    rintro e wa ⟨rfl, hw⟩
    subst hw
    go_wp2_with fail
    refine (qmark _).mono ?_
    rintro e wa ⟨rfl, hw⟩
    subst hw
    go_wp2_with fail
    refine (qundo _).mono ?_
    rintro e wa ⟨rfl, hw⟩
    subst hw
    go_wp2_with fail
    refine (qcommit _).mono ?_
    rintro e wa ⟨rfl, hw⟩
    subst hw
    go_wp2_with fail
    refine (qroll _).mono ?_
    rintro e wa ⟨rfl, hw⟩
    subst hw
    go_wp2_with fail
    refine (qpages _).mono ?_
    rintro e wa ⟨rfl, hw⟩
    subst hw
    go_wp2_with fail
    refine (qcached _).mono ?_
    rintro e wa ⟨rfl, hw⟩
    subst hw
    go_wp2_with fail
    refine (qfree _).mono ?_
    rintro e wa ⟨rfl, hw⟩
    subst hw
    go_wp2_with fail
    refine (qroot n _).mono ?_
    rintro e wa ⟨rfl, hw⟩
    subst hw
    go_wp2_with fail
    refine (qover _).mono ?_
    rintro e wa ⟨rfl, hw⟩
    subst hw
    go_wp2
    go_ret
    exact ⟨rfl, HE.out⟩
end Go.Proofs.YtbcjhngpcodaoaaGreatDoor
