/- Contract of a disk's change and ready where a fuse burns or the power is gone. -/
import Derived.Test.YtafhgilikcablaaDkW
namespace Go.Proofs.Ytafhgilikcablaa
open Go.RowKit
set_option linter.unusedVariables false
set_option maxRecDepth 100000

set_option maxHeartbeats 1600000 in
theorem change_gone (D : Nat) (w : World) (cs : Array Value) (T : TypeId) (hb : w.heap[D]? = some (.cells cs T (0, 0))) (h7 : cs[7]? = some (.bool true)) (h8 : cs[8]? = some (.int .i64 0)) (g : Value) (h9 : cs[9]? = some g) :
    Calls Try.prog 85 #[.pointer (some ⟨D, 0, none⟩)] w fun e w' => e = .returned (.int .i64 16) ∧ w' = w.setCell ⟨D, 9, none⟩ (.bool true) := by
  have d7 := (cell_of_row w D 7 cs T _ hb).trans h7
  have d8 := (cell_of_row w D 8 cs T _ hb).trans h8
  have d9 := (cell_of_row w D 9 cs T _ hb).trans h9
  have f9 := frozen_of_row w D 9 cs T hb
  have hD : D < w.heap.size := (Array.getElem?_eq_some_iff.1 hb).1
  clear hb h7 h8 h9
  go_enter Try.func85, Try.ntmps85
  go_wp2
  go_ret
  exact ⟨rfl, rfl⟩
set_option maxHeartbeats 1600000 in
theorem change_less (D : Nat) (w : World) (cs : Array Value) (T : TypeId) (f : Int) (hf : 0 < f) (hf2 : f ≤ 9223372036854775807) (hb : w.heap[D]? = some (.cells cs T (0, 0))) (h7 : cs[7]? = some (.bool true)) (h8 : cs[8]? = some (.int .i64 f)) :
    Calls Try.prog 85 #[.pointer (some ⟨D, 0, none⟩)] w fun e w' => e = .returned (.int .i64 0) ∧ w' = w.setCell ⟨D, 8, none⟩ (.int .i64 (f - 1)) := by
  have d7 := (cell_of_row w D 7 cs T _ hb).trans h7
  have d8 := (cell_of_row w D 8 cs T _ hb).trans h8
  have f8 := frozen_of_row w D 8 cs T hb
  have hD : D < w.heap.size := (Array.getElem?_eq_some_iff.1 hb).1
  have hz : (f == 0) = false := by simp; omega
  have hz' : f ≠ 0 := by omega
  have hw : wrap64 (f - 1) = f - 1 := by unfold wrap64; omega
  have hi : f - 1 ≤ 9223372036854775807 := by omega
  have hj : 0 ≤ f - 1 := by omega
  clear hb h7 h8
  go_enter Try.func85, Try.ntmps85
  go_wp2
  go_ret
  exact ⟨rfl, rfl⟩
set_option maxHeartbeats 800000 in
theorem ready_down (D : Nat) (f : Int) (hf : f = 0 ∨ f = 1) (w : World) (hd : w.cell? ⟨D, 9, none⟩ = some (.bool true)) : Calls Try.prog 84 #[.pointer (some ⟨D, 0, none⟩), .int .i64 f] w fun e w' => e = .returned (.int .i64 16) ∧ w' = w := by
  have HF := Lib.hid hf
  clear hf
  go_enter Try.func84, Try.ntmps84
  go_wp2_with fail
  refine (has_some D f HF.out _).mono ?_
  rintro e w1 ⟨rfl, hw⟩
  subst hw
  go_wp2
  go_ret
  exact ⟨rfl, rfl⟩
/-- a change that is done, and what it leaves of the fuse -/
def Passes (armed : Bool) (f f' : Int) : Prop := (armed = false ∧ f' = f) ∨ (armed = true ∧ 0 < f ∧ f ≤ 9223372036854775807 ∧ f' = f - 1)
/-- behind it -/
def ChP (w : World) (D : Nat) (cs : Array Value) (T : TypeId) (f' : Int) (w' : World) : Prop :=
  w'.heap[D]? = some (.cells (cs.setIfInBounds 8 (.int .i64 f')) T (0, 0)) ∧ Only (fun i => i = D) w w'
theorem change_pass (D : Nat) (w : World) (cs : Array Value) (T : TypeId) (armed : Bool) (f f' : Int) (hp : Passes armed f f') (hb : w.heap[D]? = some (.cells cs T (0, 0))) (h7 : cs[7]? = some (.bool armed)) (h8 : cs[8]? = some (.int .i64 f)) :
    Calls Try.prog 85 #[.pointer (some ⟨D, 0, none⟩)] w fun e w' => e = .returned (.int .i64 0) ∧ ChP w D cs T f' w' := by
  rcases hp with ⟨rfl, rfl⟩ | ⟨rfl, h1, h2, rfl⟩
  · refine (change_ok D w ((cell_of_row w D 7 cs T _ hb).trans h7)).mono ?_
    rintro e w' ⟨rfl, hw⟩
    subst hw
    exact ⟨rfl, by rw [setIf_same h8]; exact hb, Only.refl _ _⟩
  · refine (change_less D w cs T f h1 h2 hb h7 h8).mono ?_
    rintro e w' ⟨rfl, hw⟩
    subst hw
    exact ⟨rfl, Go.heap_setCell_same w D 8 cs T _ hb, Only.set (S := fun i => i = D) (Only.refl _ w) rfl _⟩
end Go.Proofs.Ytafhgilikcablaa
