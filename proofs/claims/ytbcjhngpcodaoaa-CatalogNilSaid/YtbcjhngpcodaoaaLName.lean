/- Contract of lexer's Name at a text of one small letter. -/
import Derived.Test.YtbcjhngpcodaoaaProg
import Derived.Test.YtbcjhngpcodaoaaBase
import Derived.Laws.RangeAny
import Derived.Laws.RangeString
import Derived.Outline
namespace Go.Proofs.Ytbcjhngpcodaoaa
open Go.RowKit
set_option linter.unusedVariables false
set_option maxRecDepth 100000

set_option maxHeartbeats 800000 in
theorem letter_small (r : Int) (h0 : 97 ≤ r) (h1 : r ≤ 122) (w : World) : Calls Try.prog 166 #[.int .i32 r] w fun e w' => e = .returned (.bool true) ∧ w' = w := by
  go_enter Try.func166, Try.ntmps166
  go_wp2
  go_ret
  exact ⟨rfl, rfl⟩

set_option maxHeartbeats 1600000 in
theorem keyword_a (w : World) : Calls Try.prog 169 #[.string ⟨#[97]⟩] w fun e w' => e = .returned (.bool false) ∧ w' = w := by
  go_enter Try.func169, Try.ntmps169
  go_wp2
  go_ret
  exact ⟨rfl, rfl⟩
set_option maxHeartbeats 1600000 in
theorem keyword_t (w : World) : Calls Try.prog 169 #[.string ⟨#[116]⟩] w fun e w' => e = .returned (.bool false) ∧ w' = w := by
  go_enter Try.func169, Try.ntmps169
  go_wp2
  go_ret
  exact ⟨rfl, rfl⟩

/-- one small letter is one rune -/
theorem runes_one (c : UInt8) (hc : c.toNat < 128) (w : World) : Calls Try.prog 168 #[.string ⟨#[c]⟩] w fun e w' => e = .returned (.int .i64 1) ∧ Below w.heap.size w w' := by
  have HB := Lib.hid (show ∀ p, Below w.heap.size w (w.iter ⟨#[c]⟩ p) from fun p => bel0 _ (Below.refl _ _))
  go_enter Try.func168, Try.ntmps168
  go_wp2
  go_loopw [2] (fun n wr => ∃ pos : Nat, pos ≤ 1 ∧ wr = w.iter ⟨#[c]⟩ pos ∧ n = .int .i64 (pos : Int)) (fun _ wr => 1 - wr.iterPos w.heap.size)
  case atStart => exact ⟨0, by omega, rfl, rfl⟩
  case round =>
    obtain ⟨pos, hp, rfl, rfl⟩ := hrel
    rcases Nat.lt_or_ge pos 1 with h | h
    · obtain rfl : pos = 0 := by omega
      have hnx : ∀ ty, (Instr.next (.pointer (some ⟨w.heap.size, 0, none⟩)) true ty).run Try.prog (w.iter ⟨#[c]⟩ 0) = .ok (.tuple #[.bool true, .int .i64 (0 : Nat), .int .i32 c.toNat]) (w.iter ⟨#[c]⟩ (0 + 1)) := fun ty => run_next_ascii w ⟨#[c]⟩ 0 ty (by show 0 < 1; omega) hc
      go_wp2
      go_roundw
      case rel => exact ⟨1, by omega, rfl, rfl⟩
      case measure => simp
    · obtain rfl : pos = 1 := by omega
      have hnx : ∀ ty, (Instr.next (.pointer (some ⟨w.heap.size, 0, none⟩)) true ty).run Try.prog (w.iter ⟨#[c]⟩ 1) = .ok (.tuple #[.bool false]) (w.iter ⟨#[c]⟩ 1) := fun ty => run_next_end w ⟨#[c]⟩ 1 ty (by show ¬ 1 < 1; omega)
      go_wp2
      go_ret
      exact ⟨rfl, HB.out 1⟩

set_option maxHeartbeats 1600000 in
theorem name_a (w : World) : Calls Try.prog 141 #[.string ⟨#[97]⟩] w fun e w' => e = .returned (.bool true) ∧ Below w.heap.size w w' := by
  have HB := Lib.hid (show ∀ p, Below w.heap.size w (w.iter ⟨#[97]⟩ p) from fun p => bel0 _ (Below.refl _ _))
  go_enter Try.func141, Try.ntmps141
  go_wp2
  go_loopw [2] (fun n wr => ∃ pos : Nat, pos ≤ 1 ∧ wr = w.iter ⟨#[97]⟩ pos ∧ n = .bool false) (fun _ wr => 1 - wr.iterPos w.heap.size)
  case atStart => exact ⟨0, by omega, rfl, rfl⟩
  case round =>
    obtain ⟨pos, hp, rfl, rfl⟩ := hrel
    rcases Nat.lt_or_ge pos 1 with h | h
    · obtain rfl : pos = 0 := by omega
      have hnx : ∀ ty, (Instr.next (.pointer (some ⟨w.heap.size, 0, none⟩)) true ty).run Try.prog (w.iter ⟨#[97]⟩ 0) = .ok (.tuple #[.bool true, .int .i64 0, .int .i32 97]) (w.iter ⟨#[97]⟩ 1) := fun ty => run_next_ascii w ⟨#[97]⟩ 0 ty (by decide) (by decide)
      go_wp2_with fail
      refine (letter_small 97 (by omega) (by omega) _).mono ?_
      rintro e w1 ⟨rfl, hw⟩
      subst hw
      go_wp2
      go_roundw
      case rel => exact ⟨1, by omega, rfl, rfl⟩
      case measure => simp
    · obtain rfl : pos = 1 := by omega
      have hnx : ∀ ty, (Instr.next (.pointer (some ⟨w.heap.size, 0, none⟩)) true ty).run Try.prog (w.iter ⟨#[97]⟩ 1) = .ok (.tuple #[.bool false]) (w.iter ⟨#[97]⟩ 1) := fun ty => run_next_end w ⟨#[97]⟩ 1 ty (by decide)
      go_wp2_with fail
      refine (runes_one 97 (by decide) _).mono ?_
      rintro e w1 ⟨rfl, hb⟩
      have HB1 := Lib.hid (bt (HB.out 1) hb)
      clear hb
      go_wp2_with fail
      refine (keyword_a _).mono ?_
      rintro e w2 ⟨rfl, hw⟩
      subst hw
      go_wp2
      go_ret
      exact ⟨rfl, HB1.out⟩

set_option maxHeartbeats 1600000 in
theorem name_t (w : World) : Calls Try.prog 141 #[.string ⟨#[116]⟩] w fun e w' => e = .returned (.bool true) ∧ Below w.heap.size w w' := by
  have HB := Lib.hid (show ∀ p, Below w.heap.size w (w.iter ⟨#[116]⟩ p) from fun p => bel0 _ (Below.refl _ _))
  go_enter Try.func141, Try.ntmps141
  go_wp2
  go_loopw [2] (fun n wr => ∃ pos : Nat, pos ≤ 1 ∧ wr = w.iter ⟨#[116]⟩ pos ∧ n = .bool false) (fun _ wr => 1 - wr.iterPos w.heap.size)
  case atStart => exact ⟨0, by omega, rfl, rfl⟩
  case round =>
    obtain ⟨pos, hp, rfl, rfl⟩ := hrel
    rcases Nat.lt_or_ge pos 1 with h | h
    · obtain rfl : pos = 0 := by omega
      have hnx : ∀ ty, (Instr.next (.pointer (some ⟨w.heap.size, 0, none⟩)) true ty).run Try.prog (w.iter ⟨#[116]⟩ 0) = .ok (.tuple #[.bool true, .int .i64 0, .int .i32 116]) (w.iter ⟨#[116]⟩ 1) := fun ty => run_next_ascii w ⟨#[116]⟩ 0 ty (by decide) (by decide)
      go_wp2_with fail
      refine (letter_small 116 (by omega) (by omega) _).mono ?_
      rintro e w1 ⟨rfl, hw⟩
      subst hw
      go_wp2
      go_roundw
      case rel => exact ⟨1, by omega, rfl, rfl⟩
      case measure => simp
    · obtain rfl : pos = 1 := by omega
      have hnx : ∀ ty, (Instr.next (.pointer (some ⟨w.heap.size, 0, none⟩)) true ty).run Try.prog (w.iter ⟨#[116]⟩ 1) = .ok (.tuple #[.bool false]) (w.iter ⟨#[116]⟩ 1) := fun ty => run_next_end w ⟨#[116]⟩ 1 ty (by decide)
      go_wp2_with fail
      refine (runes_one 116 (by decide) _).mono ?_
      rintro e w1 ⟨rfl, hb⟩
      have HB1 := Lib.hid (bt (HB.out 1) hb)
      clear hb
      go_wp2_with fail
      refine (keyword_t _).mono ?_
      rintro e w2 ⟨rfl, hw⟩
      subst hw
      go_wp2
      go_ret
      exact ⟨rfl, HB1.out⟩
end Go.Proofs.Ytbcjhngpcodaoaa
