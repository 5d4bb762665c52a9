/- strconv.ParseInt at the text "1". -/
import Derived.Test.YtbcjhngpcodaoaaDoorLxAdd
import Derived.Lib.ConvBytes
namespace Go.Proofs.YtbcjhngpcodaoaaDoor
open Go.RowKit
set_option linter.unusedVariables false
set_option maxRecDepth 100000

set_option maxHeartbeats 3200000 in
theorem parseuint_1 (w : World) : Calls Tryd.prog 78 #[.string ⟨#[49]⟩, .int .i64 10, .int .i64 64] w fun e w' => e = .returned (.tuple #[.int .u64 1, .nilIface]) ∧ Below w.heap.size w w' := by
  obtain ⟨w1, hw1⟩ : ∃ w1, w1 = Lib.bytesWorld w 5 ⟨#[49]⟩ := ⟨_, rfl⟩
  have hcv := Lib.run_convert_string_bytes (P := Tryd.prog) w 9 29 5 ⟨#[49]⟩ Tryd.underlying9 Tryd.underlying29 Tryd.underlying5
  rw [← hw1] at hcv
  have hcell : w1.cell? ⟨w.heap.size, 0, none⟩ = some (.int .u8 49) := by rw [hw1]; exact Lib.bytesWorld_cell w 5 ⟨#[49]⟩ 0 (by decide)
  have hsz : w1.heap.size = w.heap.size + 1 := by rw [hw1]; exact Lib.bytesWorld_size w _ _
  have HB := Lib.hid (show Below w.heap.size w w1 from ⟨by rw [hw1]; rfl, by rw [hw1]; rfl, by rw [hw1]; rfl, by omega, fun k hk => by rw [hw1]; exact Lib.bytesWorld_at_old w _ _ k hk⟩)
  change _ = Result.ok (Value.slice (some ⟨w.heap.size, 0, none⟩) 1 _) w1 at hcv
  generalize grownCap w (ByteArray.mk #[49]).size 0 5 = c at hcv
  have hmx : IntKind.u64.wrap (IntKind.u64.wrap 18446744073709551616 - 1) = 18446744073709551615 := by decide +kernel
  clear hw1 hsz
  go_enter Tryd.func78, Tryd.ntmps78
  go_wp2
  go_loop [12, 13, 101] (fun u n i => u = .bool false ∧ ((i = .int .i64 0 ∧ n = .int .u64 0) ∨ (i = .int .i64 1 ∧ n = .int .u64 1))) (fun _ _ i => 2 - (intOf i).toNat)
  case atStart => exact ⟨rfl, .inl ⟨rfl, rfl⟩⟩
  case round =>
    obtain ⟨rfl, h⟩ := hrel
    rcases h with ⟨rfl, rfl⟩ | ⟨rfl, rfl⟩
    · go_wp2
      refine ⟨⟨rfl, .inr ⟨by go_num, by go_num⟩⟩, by simp [intOf]⟩
    · go_wp2
      go_ret2
      exact ⟨rfl, HB.out⟩

set_option maxHeartbeats 3200000 in
theorem iparseint_1 (w : World) : Calls Tryd.prog 71 #[.string ⟨#[49]⟩, .int .i64 10, .int .i64 64] w fun e w' => e = .returned (.tuple #[.int .i64 1, .nilIface]) ∧ Below w.heap.size w w' := by
  go_enter Tryd.func71, Tryd.ntmps71
  go_wp2_with fail
  refine (parseuint_1 _).mono ?_
  rintro e w1 ⟨rfl, hb⟩
  have HB := Lib.hid hb
  clear hb
  go_wp2
  go_ret2
  exact ⟨rfl, HB.out⟩
set_option maxHeartbeats 3200000 in
theorem parseint_1 (w : World) : Calls Tryd.prog 68 #[.string ⟨#[49]⟩, .int .i64 10, .int .i64 64] w fun e w' => e = .returned (.tuple #[.int .i64 1, .nilIface]) ∧ Below w.heap.size w w' := by
  go_enter Tryd.func68, Tryd.ntmps68
  go_wp2_with fail
  refine (iparseint_1 _).mono ?_
  rintro e w1 ⟨rfl, hb⟩
  have HB := Lib.hid hb
  clear hb
  go_wp2
  go_ret2
  exact ⟨rfl, HB.out⟩
end Go.Proofs.YtbcjhngpcodaoaaDoor
