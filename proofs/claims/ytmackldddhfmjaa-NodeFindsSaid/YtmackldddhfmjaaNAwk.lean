/- Layer 12's awake: an empty leaf is encoded. -/
import Derived.Test.YtmackldddhfmjaaAppW
import Derived.Test.YtmackldddhfmjaaNFew
namespace Go.Proofs.Ytmackldddhfmjaa
open Go.RowKit
set_option linter.unusedVariables false
set_option maxRecDepth 100000

/-- an empty leaf -/
def leaf0 : Value := .agg #[.bool true, .slice none 0 0, .slice none 0 0, .slice none 0 0]

set_option maxHeartbeats 1600000 in
theorem cells0 (w : World) : Calls Try.prog 139 #[leaf0] w fun e w' => e = .returned (.bool true) ∧ Below w.heap.size w w' := by
  unfold leaf0
  go_enter Try.func139, Try.ntmps139
  go_wp2
  go_loop [15] (fun i => i = .int .i64 0) (fun _ => 0)
  case atStart => rfl
  case round =>
    obtain rfl := hrel
    go_wp2
    go_ret
    exact ⟨rfl, bel0 _ (Below.refl _ _)⟩

set_option maxHeartbeats 1600000 in
theorem formed0 (w : World) : Calls Try.prog 110 #[leaf0] w fun e w' => e = .returned (.bool true) ∧ Below w.heap.size w w' := by
  have HU : Hid (leaf0 = .agg #[.bool true, .slice none 0 0, .slice none 0 0, .slice none 0 0]) := Lib.hid rfl
  rw [HU.out]
  go_enter Try.func110, Try.ntmps110
  go_wp2
  go_loop [8] (fun i => i = .int .i64 0) (fun _ => 0)
  case atStart => rfl
  case round =>
    obtain rfl := hrel
    go_wp2_with fail
    refine (cells0 _).mono ?_
    rintro e w1 ⟨rfl, hb1⟩
    have HB := Lib.hid (bt (bel0 (.cells #[.bool true, .slice none 0 0, .slice none 0 0, .slice none 0 0] 31) (Below.refl w.heap.size w)) hb1)
    clear hb1
    go_wp2
    go_ret
    exact ⟨rfl, HB.out⟩

set_option maxHeartbeats 1600000 in
theorem write0 (w : World) : Calls Try.prog 111 #[leaf0] w fun e w' => ∃ g, e = .returned (.slice (some ⟨g, 0, none⟩) 2 2) ∧ IsB w' (some ⟨g, 0, none⟩) 2 [1, 0] ∧ Below w.heap.size w w' := by
  have HU : Hid (leaf0 = .agg #[.bool true, .slice none 0 0, .slice none 0 0, .slice none 0 0]) := Lib.hid rfl
  rw [HU.out]
  go_enter Try.func111, Try.ntmps111
  go_wp2_with fail
  refine (append_any (some ⟨w.heap.size + 1, 0, none⟩) 1 1 [1] 0 (by omega) (by omega) _ (isB_one _ _ 0 1 (by omega) (by simp [go_sem])) (by intro x _ hx; cases hx; simp) (by omega) (by intro h; cases h)).mono ?_
  rintro e w1 ⟨rfl, hown1, hb1⟩
  rw [show groups 0 = 1 from rfl, show ([1] ++ encG 0 1 : List Int) = [1, 0] from rfl] at hown1
  rw [show groups 0 = 1 from rfl]
  obtain ⟨hc1, _⟩ := bcell hb1
  have q0 := hc1 w.heap.size 0 (by simp; omega)
  have q1 := hc1 w.heap.size 1 (by simp; omega)
  simp [go_sem] at q0 q1
  have HB1 := Lib.hid (bt (bel0 (.cells #[.int .u8 1] 5) (bel0 (.cells #[.bool true, .slice none 0 0, .slice none 0 0, .slice none 0 0] 31) (Below.refl w.heap.size w))) hb1)
  have HI := Lib.hid (own_isB hown1 rfl (by decide))
  clear hc1 hown1 hb1
  go_wp2
  go_loop [4, 29] (fun b i => b = .slice (some ⟨w.heap.size + 1 + 1, 0, none⟩) 2 2 ∧ i = .int .i64 0) (fun _ _ => 0)
  case atStart => exact ⟨rfl, rfl⟩
  case round =>
    obtain ⟨rfl, rfl⟩ := hrel
    go_wp2
    go_ret
    exact ⟨w.heap.size + 1 + 1, rfl, by simpa using HI.out, HB1.out⟩

set_option maxHeartbeats 1600000 in
theorem encode0 (w : World) : Calls Try.prog 62 #[leaf0] w fun e w' => ∃ g, e = .returned (.tuple #[.slice (some ⟨g, 0, none⟩) 2 2, .int .i64 0]) ∧ IsB w' (some ⟨g, 0, none⟩) 2 [1, 0] ∧ Below w.heap.size w w' := by
  have HU : Hid (leaf0 = .agg #[.bool true, .slice none 0 0, .slice none 0 0, .slice none 0 0]) := Lib.hid rfl
  rw [HU.out]
  go_enter Try.func62, Try.ntmps62
  go_wp2_with fail
  refine (formed0 _).mono ?_
  rintro e w1 ⟨rfl, hb1⟩
  obtain ⟨hc1, _⟩ := bcell hb1
  have q0 := hc1 w.heap.size 0 (by simp)
  have q1 := hc1 w.heap.size 1 (by simp)
  have q2 := hc1 w.heap.size 2 (by simp)
  have q3 := hc1 w.heap.size 3 (by simp)
  simp [go_sem] at q0 q1 q2 q3
  have HB1 := Lib.hid (bt (bel0 (.cells #[.bool true, .slice none 0 0, .slice none 0 0, .slice none 0 0] 31) (Below.refl w.heap.size w)) hb1)
  clear hc1 hb1
  go_wp2_with fail
  refine (write0 _).mono ?_
  rintro e w2 ⟨g, rfl, hi, hb2⟩
  have HB2 := Lib.hid (bt HB1.out hb2)
  have HI := Lib.hid hi
  clear hb2 hi q0 q1 q2 q3
  go_wp2
  go_ret2
  exact ⟨_, rfl, HI.out, HB2.out⟩

set_option maxHeartbeats 1600000 in
theorem nawake_any (w : World) : Calls Try.prog 12 #[] w fun e w' => e = .returned (.bool true) ∧ Below w.heap.size w w' := by
  have HU : Hid (leaf0 = .agg #[.bool true, .slice none 0 0, .slice none 0 0, .slice none 0 0]) := Lib.hid rfl
  go_enter Try.func12, Try.ntmps12
  go_wp2_with fail
  rw [← HU.out]
  refine (encode0 _).mono ?_
  rintro e w2 ⟨g, rfl, hi, hb2⟩
  have hs := str_any (cb := 2) hi (by intro h; cases h)
  have HB2 := Lib.hid hb2
  clear hb2 hi
  rw [show strOfNums [1, 0] = ⟨#[1, 0]⟩ from rfl] at hs
  go_wp2
  go_ret
  exact ⟨rfl, HB2.out⟩
end Go.Proofs.Ytmackldddhfmjaa
