/- Layer 19's awake: a query without sources is refused; the law's FewRows. -/
import Derived.Test.YtacifdfmipokoaaGreatDeN
import Derived.Deep.QuietTactic
import Derived.BigQuiet
import Derived.Deep.RegionHeld3
import Derived.Deep.RegionLawGrows
import Derived.BigRegion
namespace Go.Proofs.YtacifdfmipokoaaGreat
open Go.RowKit
set_option linter.unusedVariables false
set_option maxRecDepth 100000

set_option maxHeartbeats 1600000 in
theorem fewrows_any (a : Option Addr) (len cap : Nat) (m : Int) (m0 : 0 ≤ m) (m1 : m ≤ 1000) (w : World) (h : IsL3 w a len) :
    Calls Tryz.prog 5 #[.slice a len cap, .int .i64 m] w (SomeTruth w) := by
  have H := Lib.hid h
  have hmx := h.1
  clear h
  go_enter Tryz.func5, Tryz.ntmps5
  go_wp2
  go_loop [9] (fun i => ∃ k : Nat, k ≤ len ∧ i = .int .i64 (k : Int)) (fun i => len - (intOf i).toNat)
  case atStart => exact ⟨0, by omega, rfl⟩
  case round =>
    obtain ⟨k, hk, rfl⟩ := hrel
    by_cases hlt : k < len
    · obtain ⟨e0, hc⟩ := H.out
      clear e0
      rcases hc with hc | ⟨b, off, rfl, _, hc⟩
      · omega
      obtain ⟨ai, li, ci, c1, c2⟩ := hc k hlt
      have hki : (k : Int) < (len : Int) := by omega
      have hk0 : (0 : Int) ≤ (k : Int) := by omega
      have HC2 := Lib.hid c2
      have hlm := c2.1
      clear hc c2
      by_cases h5 : (5 : Int) ≤ (k : Int)
      · go_wp2
        go_ret
        exact ⟨_, rfl, rfl⟩
      have h5' : (k : Int) < 5 := by omega
      by_cases hb : m < (li : Int)
      · go_wp2
        go_ret
        exact ⟨_, rfl, rfl⟩
      have hb' : (li : Int) ≤ m := by omega
      clear h5 hb
      go_wp2
      go_loop [28] (fun i => ∃ j : Nat, j ≤ li ∧ i = .int .i64 (j : Int)) (fun i => li - (intOf i).toNat)
      case atStart => exact ⟨0, by omega, rfl⟩
      case round =>
        obtain ⟨j, hj, rfl⟩ := hrel
        by_cases hlt2 : j < li
        · obtain ⟨e0, hc⟩ := HC2.out
          clear e0
          rcases hc with hc | ⟨b2, off2, rfl, _, hc⟩
          · omega
          obtain ⟨aj, lj, cj, d1, d2⟩ := hc j hlt2
          have hji : (j : Int) < (li : Int) := by omega
          have hj0 : (0 : Int) ≤ (j : Int) := by omega
          clear hc
          by_cases hbig : 20 < (lj : Int)
          · go_wp2
            go_ret
            exact ⟨_, rfl, rfl⟩
          · have hbig' : (lj : Int) ≤ 20 := by omega
            go_wp2
            go_round
            case rel => exact ⟨j + 1, by omega, by go_num⟩
            case measure => simp [intOf]; omega
        · have hjj : (li : Int) ≤ (j : Int) := by omega
          go_wp2
          go_round
          case rel => exact ⟨k + 1, by omega, by go_num⟩
          case measure => simp [intOf]; omega
    · have hkk : (len : Int) ≤ (k : Int) := by omega
      go_wp2
      go_ret
      exact ⟨_, rfl, rfl⟩

set_option maxHeartbeats 1600000 in
theorem theirs_nil (w : World) : Calls Tryz.prog 31 #[.slice none 0 0] w fun e w' => e = .returned (.slice none 0 0) ∧ w' = w := by
  go_enter Tryz.func31, Tryz.ntmps31
  go_wp2
  go_loop [3, 7] (fun b i => b = .slice none 0 0 ∧ i = .int .i64 0) (fun _ _ => 0)
  case atStart => exact ⟨rfl, rfl⟩
  case round =>
    obtain ⟨rfl, rfl⟩ := hrel
    go_wp2
    go_ret
    exact ⟨rfl, rfl⟩

/-- a query of nothing -/
def query0 : Value := .agg #[.slice none 0 0, .slice none 0 0, .bool false, .slice none 0 0, .slice none 0 0, .slice none 0 0, .slice none 0 0, .slice none 0 0, .bool false, .int .i64 0]

set_option maxHeartbeats 1600000 in
theorem simple0 (w : World) : Calls Tryz.prog 24 #[query0] w fun e w' => e = .returned (.bool false) ∧ Below w.heap.size w w' := by
  have HU : Hid (query0 = .agg #[.slice none 0 0, .slice none 0 0, .bool false, .slice none 0 0, .slice none 0 0, .slice none 0 0, .slice none 0 0, .slice none 0 0, .bool false, .int .i64 0]) := Lib.hid rfl
  rw [HU.out]
  obtain ⟨W0, hW0⟩ : ∃ W0, W0 = w.alloc (.cells #[.slice none 0 0, .slice none 0 0, .bool false, .slice none 0 0, .slice none 0 0, .slice none 0 0, .slice none 0 0, .slice none 0 0, .bool false, .int .i64 0] 45) := ⟨_, rfl⟩
  have q : ∀ n, (W0.drewN n).cell? ⟨w.heap.size, 0, none⟩ = some (.slice none 0 0) ∧ (W0.drewN n).cell? ⟨w.heap.size, 2, none⟩ = some (.bool false) ∧ (W0.drewN n).cell? ⟨w.heap.size, 3, none⟩ = some (.slice none 0 0) ∧ (W0.drewN n).cell? ⟨w.heap.size, 7, none⟩ = some (.slice none 0 0) ∧ (W0.drewN n).cell? ⟨w.heap.size, 8, none⟩ = some (.bool false) ∧ (W0.drewN n).cell? ⟨w.heap.size, 9, none⟩ = some (.int .i64 0) := fun n => by
    show W0.cell? _ = _ ∧ W0.cell? _ = _ ∧ W0.cell? _ = _ ∧ W0.cell? _ = _ ∧ W0.cell? _ = _ ∧ W0.cell? _ = _
    rw [hW0]; refine ⟨?_, ?_, ?_, ?_, ?_, ?_⟩ <;> simp [go_sem]
  have q0 := fun n => (q n).1
  have q2 := fun n => (q n).2.1
  have q3 := fun n => (q n).2.2.1
  have q7 := fun n => (q n).2.2.2.1
  have q8 := fun n => (q n).2.2.2.2.1
  have q9 := fun n => (q n).2.2.2.2.2
  have HB := Lib.hid (show ∀ n, Below w.heap.size w (W0.drewN n) from fun n => by
    have : Below w.heap.size w W0 := by rw [hW0]; exact bel0 _ (Below.refl _ _)
    exact ⟨this.os, this.tape, this.output, this.size, this.block⟩)
  have HW := Lib.hid hW0
  clear q hW0
  go_enter Tryz.func24, Tryz.ntmps24
  go_wp2
  rw [← HW.out]
  go_quiet (fail)
  go_wp2
  go_ret
  exact ⟨rfl, HB.out _⟩

set_option maxHeartbeats 1600000 in
theorem new0 (w : World) : Calls Tryz.prog 12 #[query0] w fun e w' => e = .returned (.tuple #[.pointer none, .int .i64 12]) ∧ Below w.heap.size w w' := by
  have HU : Hid (query0 = .agg #[.slice none 0 0, .slice none 0 0, .bool false, .slice none 0 0, .slice none 0 0, .slice none 0 0, .slice none 0 0, .slice none 0 0, .bool false, .int .i64 0]) := Lib.hid rfl
  rw [HU.out]
  go_enter Tryz.func12, Tryz.ntmps12
  go_wp2_with fail
  rw [← HU.out]
  refine (simple0 _).mono ?_
  rintro e w1 ⟨rfl, hb⟩
  have HB := Lib.hid (bt (bel0 (.cells #[.slice none 0 0, .slice none 0 0, .bool false, .slice none 0 0, .slice none 0 0, .slice none 0 0, .slice none 0 0, .slice none 0 0, .bool false, .int .i64 0] 45) (Below.refl w.heap.size w)) hb)
  clear hb
  go_wp2
  go_ret2
  exact ⟨rfl, HB.out⟩

end Go.Proofs.YtacifdfmipokoaaGreat
