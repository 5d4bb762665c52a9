/- The law's Query on a query of nothing. -/
import Derived.Test.YtacifdfmipokoaaGreatDeA0
import Derived.Deep.QuietTactic
import Derived.BigQuiet
import Derived.Deep.RegionHeld3
import Derived.Deep.RegionLawGrows
import Derived.BigRegion
namespace Go.Proofs.YtacifdfmipokoaaGreat
open Go.RowKit
set_option linter.unusedVariables false
set_option maxRecDepth 100000

set_option maxHeartbeats 1600000 in
theorem theQuery0 (w : World) : Calls Tryz.prog 13 #[query0] w fun e w' => e = .returned query0 ∧ Below w.heap.size w w' := by
  have HU : Hid (query0 = .agg #[.slice none 0 0, .slice none 0 0, .bool false, .slice none 0 0, .slice none 0 0, .slice none 0 0, .slice none 0 0, .slice none 0 0, .bool false, .int .i64 0]) := Lib.hid rfl
  rw [HU.out]
  go_enter Tryz.func13, Tryz.ntmps13
  go_wp2
  obtain ⟨W0, hW0⟩ : ∃ W0, W0 = (w.alloc (.cells #[.slice none 0 0, .slice none 0 0, .bool false, .slice none 0 0, .slice none 0 0, .slice none 0 0, .slice none 0 0, .slice none 0 0, .bool false, .int .i64 0] 50)).alloc (.cells #[.slice none 0 0, .slice none 0 0, .bool false, .slice none 0 0, .slice none 0 0, .slice none 0 0, .slice none 0 0, .slice none 0 0, .bool false, .int .i64 0] 45) := ⟨_, rfl⟩
  have q : W0.cell? ⟨w.heap.size, 0, none⟩ = some (.slice none 0 0) ∧ W0.cell? ⟨w.heap.size, 1, none⟩ = some (.slice none 0 0) ∧ W0.cell? ⟨w.heap.size, 2, none⟩ = some (.bool false) ∧ W0.cell? ⟨w.heap.size, 3, none⟩ = some (.slice none 0 0) ∧ W0.cell? ⟨w.heap.size, 4, none⟩ = some (.slice none 0 0) ∧ W0.cell? ⟨w.heap.size, 5, none⟩ = some (.slice none 0 0) ∧ W0.cell? ⟨w.heap.size, 6, none⟩ = some (.slice none 0 0) ∧ W0.cell? ⟨w.heap.size, 7, none⟩ = some (.slice none 0 0) ∧ W0.cell? ⟨w.heap.size, 8, none⟩ = some (.bool false) ∧ W0.cell? ⟨w.heap.size, 9, none⟩ = some (.int .i64 0) := by
    rw [hW0]; refine ⟨?_, ?_, ?_, ?_, ?_, ?_, ?_, ?_, ?_, ?_⟩ <;> simp [go_sem]
  obtain ⟨q0, q1, q2, q3, q4, q5, q6, q7, q8, q9⟩ := q
  have HW := Lib.hid hW0
  have hz : w.heap.size < W0.heap.size := by rw [hW0]; simp; omega
  rw [← hW0]
  clear hW0
  refine wp_region_noPanic ?_
  go_region_held3 (fun w' => w'.cell? ⟨w.heap.size, 0, none⟩ = some (.slice none 0 0) ∧ w'.cell? ⟨w.heap.size, 1, none⟩ = some (.slice none 0 0) ∧ w'.cell? ⟨w.heap.size, 2, none⟩ = some (.bool false) ∧ w'.cell? ⟨w.heap.size, 3, none⟩ = some (.slice none 0 0) ∧ w'.cell? ⟨w.heap.size, 4, none⟩ = some (.slice none 0 0) ∧ w'.cell? ⟨w.heap.size, 5, none⟩ = some (.slice none 0 0) ∧ w'.cell? ⟨w.heap.size, 6, none⟩ = some (.slice none 0 0) ∧ w'.cell? ⟨w.heap.size, 8, none⟩ = some (.bool false) ∧ w'.cell? ⟨w.heap.size, 9, none⟩ = some (.int .i64 0))
    (first | exact ⟨q0, q1, q2, q3, q4, q5, q6, q8, q9⟩ | (refine ⟨?_, ?_, ?_, ?_, ?_, ?_, ?_, ?_, ?_⟩ <;> simp [go_sem, *]))
    (first
      | (go_at_call 31; refine (theirs_nil _).mono ?_; rintro e w' ⟨rfl, hw⟩; subst hw))
  all_goals refine NoPanic.normal ?_
  all_goals
    have hW := HW.out
    clear HW q0 q1 q2 q3 q4 q5 q6 q7 q8 q9 hz
    subst hW
    go_wp2
    go_loop [30] (fun i => i = .int .i64 0) (fun _ => 0)
    case atStart => rfl
    case round =>
      obtain rfl := hrel
      go_wp2
      exact bodyPost_ret (v := query0) (by rw [HU.out]; simp [results, Tryz.results13, go_sem]) rfl ⟨rfl, by
        repeat (first | exact bel0 _ (bel0 _ (bel0 _ (Below.refl _ _))) | exact (bel0 _ (bel0 _ (bel0 _ (Below.refl _ _)))).drew | refine Below.drew ?_ | refine Below.setCell ?_ (by simp) _)⟩
end Go.Proofs.YtacifdfmipokoaaGreat
