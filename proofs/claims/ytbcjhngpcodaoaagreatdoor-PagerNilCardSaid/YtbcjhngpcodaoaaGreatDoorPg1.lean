/- PagerNil: a new disk's calls, a journal that is empty. -/
import Derived.Test.YtbcjhngpcodaoaaGreatDoorBytes
import Derived.Lib.MinMaxS
import Derived.Laws.CopyOwn
import Derived.WideMake
import Derived.Deep.RegionLawGrows
import Derived.StillTailTactics
import Derived.Deep.RegionHeld3
import Derived.Outline
namespace Go.Proofs.YtbcjhngpcodaoaaGreatDoor
open Go.RowKit
set_option linter.unusedVariables false
set_option maxRecDepth 100000

/-- a new disk -/
def NewD (w : World) (D : Nat) (r : Int) : Prop := w.heap[D]? = some (.cells #[.slice none 0 0, .slice none 0 0, .map none, .slice none 0 0, .slice none 0 0, .map none, .int .i64 r, .bool false, .int .i64 0, .bool false] 73 (0, 0))
theorem NewD.below {w w' : World} {D : Nat} {r : Int} (h : NewD w D r) (hb : Below w.heap.size w w') : NewD w' D r := (hb.block D (Array.getElem?_eq_some_iff.1 h).1).trans h
theorem pdnew (r : Int) (hr : r = 10000 ∨ r = 1000) (w : World) : Calls Tryz.prog 7 #[.int .i64 r] w fun e w' => e = .returned (.pointer (some ⟨w.heap.size, 0, none⟩)) ∧ NewD w' w.heap.size r ∧ Below w.heap.size w w' := by
  rcases hr with rfl | rfl
  · go_enter Tryz.func7, Tryz.ntmps7
    go_wp2
    go_ret
    exact ⟨rfl, Go.heap_alloc_new w _, bel0 _ (Below.refl _ _)⟩
  · go_enter Tryz.func7, Tryz.ntmps7
    go_wp2
    go_ret
    exact ⟨rfl, Go.heap_alloc_new w _, bel0 _ (Below.refl _ _)⟩
theorem phas (D : Nat) (f : Int) (hf : f = 0 ∨ f = 1) (w : World) : Calls Tryz.prog 58 #[.pointer (some ⟨D, 0, none⟩), .int .i64 f] w fun e w' => e = .returned (.bool true) ∧ w' = w := by
  rcases hf with rfl | rfl
  · go_enter Tryz.func58, Tryz.ntmps58
    go_wp2
    go_ret
    exact ⟨rfl, rfl⟩
  · go_enter Tryz.func58, Tryz.ntmps58
    go_wp2
    go_ret
    exact ⟨rfl, rfl⟩
theorem psize (D : Nat) (r f : Int) (hf : f = 0 ∨ f = 1) (w : World) (hd : NewD w D r) : Calls Tryz.prog 23 #[.pointer (some ⟨D, 0, none⟩), .int .i64 f] w fun e w' => e = .returned (.int .i64 0) ∧ w' = w := by
  have d0 : w.cell? ⟨D, 0, none⟩ = some (.slice none 0 0) := cell_of_row w D 0 _ _ _ hd
  have d3 : w.cell? ⟨D, 3, none⟩ = some (.slice none 0 0) := cell_of_row w D 3 _ _ _ hd
  clear hd
  rcases hf with rfl | rfl
  · go_enter Tryz.func23, Tryz.ntmps23
    go_wp2_with fail
    refine (phas D 0 (.inl rfl) _).mono ?_
    rintro e w1 ⟨rfl, hw⟩
    subst hw
    go_wp2
    go_ret
    exact ⟨rfl, rfl⟩
  · go_enter Tryz.func23, Tryz.ntmps23
    go_wp2_with fail
    refine (phas D 1 (.inr rfl) _).mono ?_
    rintro e w1 ⟨rfl, hw⟩
    subst hw
    go_wp2
    go_ret
    exact ⟨rfl, rfl⟩
theorem pdready (D : Nat) (r : Int) (w : World) (hd : NewD w D r) : Calls Tryz.prog 57 #[.pointer (some ⟨D, 0, none⟩), .int .i64 1] w fun e w' => e = .returned (.int .i64 0) ∧ w' = w := by
  have d9 : w.cell? ⟨D, 9, none⟩ = some (.bool false) := cell_of_row w D 9 _ _ _ hd
  clear hd
  go_enter Tryz.func57, Tryz.ntmps57
  go_wp2_with fail
  refine (phas D 1 (.inr rfl) _).mono ?_
  rintro e w1 ⟨rfl, hw⟩
  subst hw
  go_wp2
  go_ret
  exact ⟨rfl, rfl⟩
set_option maxHeartbeats 1600000 in
theorem pread (D : Nat) (r : Int) (w : World) (hd : NewD w D r) : Calls Tryz.prog 22 #[.pointer (some ⟨D, 0, none⟩), .int .i64 1, .int .i64 0, .int .i64 0] w fun e w' => e = .returned (.tuple #[.slice none 0 0, .int .i64 0]) ∧ w' = w := by
  have d3 : w.cell? ⟨D, 3, none⟩ = some (.slice none 0 0) := cell_of_row w D 3 _ _ _ hd
  have HD := Lib.hid hd
  clear hd
  go_enter Tryz.func22, Tryz.ntmps22
  go_wp2_with fail
  refine (pdready D r _ HD.out).mono ?_
  rintro e w1 ⟨rfl, hw⟩
  subst hw
  go_wp2_with fail
  go_ret2
  exact ⟨rfl, rfl⟩
theorem two_allocs (w : World) (o1 o2 : Obj) : ((w.alloc o1).alloc o2).heap[w.heap.size]? = some o1 ∧ ((w.alloc o1).alloc o2).heap[w.heap.size + 1]? = some o2 := by
  constructor
  · exact (Below.heap_alloc (w.alloc o1) o2 _ (by simp)).trans (Go.heap_alloc_new w o1)
  · have := Go.heap_alloc_new (w.alloc o1) o2
    rwa [show (w.alloc o1).heap.size = w.heap.size + 1 by simp] at this
/-- both boxes of best hold nothing -/
def BestIn (w wr : World) : Prop := wr.heap[w.heap.size]? = some (.cells #[.int .u64 0, .int .i64 0, .int .i64 0] 102 (0, 0)) ∧ wr.heap[w.heap.size + 1]? = some (.cells #[.int .u64 0, .int .i64 0, .int .i64 0] 102 (0, 0)) ∧ Below w.heap.size w wr
set_option maxHeartbeats 1600000 in
theorem pbest (w : World) : Calls Tryz.prog 59 #[.slice none 0 0] w fun e w' => e = .returned (.tuple #[.agg #[.int .u64 0, .int .i64 0, .int .i64 0], .bool false]) ∧ Below w.heap.size w w' := by
  go_enter Tryz.func59, Tryz.ntmps59
  go_wp2
  go_loopw [5, 6] (fun hv t wr => t = .int .i64 0 ∧ hv = .bool false ∧ Hid (BestIn w wr)) (fun _ _ _ => 0)
  case atStart =>
    have h2 := two_allocs w (.cells #[.int .u64 0, .int .i64 0, .int .i64 0] 102) (.cells #[.int .u64 0, .int .i64 0, .int .i64 0] 102)
    exact ⟨rfl, rfl, Lib.hid ⟨h2.1, h2.2, bel0 _ (bel0 _ (Below.refl _ _))⟩⟩
  case round =>
    obtain ⟨rfl, rfl, HB⟩ := hrel
    obtain ⟨b0, b1, b2⟩ := HB.out
    have x0 := cell_of_row wr (w.heap.size + 1) 0 _ _ _ b1
    have x1 := cell_of_row wr (w.heap.size + 1) 1 _ _ _ b1
    have x2 := cell_of_row wr (w.heap.size + 1) 2 _ _ _ b1
    have y0 := cell_of_row wr w.heap.size 0 _ _ _ b0
    have y1 := cell_of_row wr w.heap.size 1 _ _ _ b0
    have y2 := cell_of_row wr w.heap.size 2 _ _ _ b0
    have z0 := frozen_of_row wr w.heap.size 0 _ _ b0
    have z1 := frozen_of_row wr w.heap.size 1 _ _ b0
    have z2 := frozen_of_row wr w.heap.size 2 _ _ b0
    have hlt := (Array.getElem?_eq_some_iff.1 b0).1
    simp only [List.getElem?_toArray, List.getElem?_cons_zero, List.getElem?_cons_succ] at x0 x1 x2 y0 y1 y2
    have HB2 := Lib.hid b2
    clear b0 b1 b2
    go_wp2
    refine bodyPost_ret (v := .tuple #[.agg #[.int .u64 0, .int .i64 0, .int .i64 0], .bool false]) (by simp [results, Tryz.results59, go_sem, x0, x1, x2, y0, y1, y2]) rfl ⟨rfl, ?_⟩
    repeat (first | exact HB2.out | (refine Below.setCell ?_ (by simp) _))
set_option maxHeartbeats 1600000 in
theorem pjread (w : World) : Calls Tryz.prog 24 #[.slice none 0 0] w fun e w' => e = .returned (.tuple #[.agg #[.int .u64 0, .int .i64 0, .slice none 0 0, .slice none 0 0], .bool false]) ∧ Below w.heap.size w w' := by
  obtain ⟨W0, hW0⟩ : ∃ W0, W0 = w.alloc (.cells #[.int .u64 0, .int .i64 0, .slice none 0 0, .slice none 0 0] 51) := ⟨_, rfl⟩
  have HW := Lib.hid hW0
  have HB0 := Lib.hid (show Below w.heap.size w W0 by rw [hW0]; exact bel0 _ (Below.refl _ _))
  have HX := Lib.hid (show W0.heap[w.heap.size]? = some (.cells #[.int .u64 0, .int .i64 0, .slice none 0 0, .slice none 0 0] 51 (0, 0)) by rw [hW0]; exact Go.heap_alloc_new w _)
  clear hW0
  go_enter Tryz.func24, Tryz.ntmps24
  go_wp2_with fail
  rw [← HW.out]
  refine (pbest _).mono ?_
  rintro e w1 ⟨rfl, hb⟩
  have b0 := (hb.block w.heap.size (Array.getElem?_eq_some_iff.1 HX.out).1).trans HX.out
  have y0 := cell_of_row w1 w.heap.size 0 _ _ _ b0
  have y1 := cell_of_row w1 w.heap.size 1 _ _ _ b0
  have y2 := cell_of_row w1 w.heap.size 2 _ _ _ b0
  have y3 := cell_of_row w1 w.heap.size 3 _ _ _ b0
  have z0 := frozen_of_row w1 w.heap.size 0 _ _ b0
  have z1 := frozen_of_row w1 w.heap.size 1 _ _ b0
  have z2 := frozen_of_row w1 w.heap.size 2 _ _ b0
  have z3 := frozen_of_row w1 w.heap.size 3 _ _ b0
  have hlt := (Array.getElem?_eq_some_iff.1 b0).1
  simp only [List.getElem?_toArray, List.getElem?_cons_zero, List.getElem?_cons_succ] at y0 y1 y2 y3
  have HB1 := Lib.hid (bt HB0.out hb)
  clear hb b0
  have hsz := HB1.out.size
  go_wp2_with fail
  refine bodyPost_ret (v := .tuple #[.agg #[.int .u64 0, .int .i64 0, .slice none 0 0, .slice none 0 0], .bool false]) (by simp [results, Tryz.results24, go_sem, y0, y1, y2, y3, hlt, z0, z1, z2, z3]) rfl ⟨rfl, ?_⟩
  repeat (first | exact HB1.out | (refine Below.setCell ?_ (by simp) _) | (refine Below.alloc ?_ (by simp; omega) _))
end Go.Proofs.YtbcjhngpcodaoaaGreatDoor
