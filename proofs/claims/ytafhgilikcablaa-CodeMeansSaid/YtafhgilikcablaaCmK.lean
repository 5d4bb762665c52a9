/- What the program asks of a cell's kind: code.binary, code.kindFits. Written by genck.py. -/
import Derived.Test.YtafhgilikcablaaAwD
namespace Go.Proofs.Ytafhgilikcablaa
open Go.RowKit
set_option linter.unusedVariables false
set_option linter.unusedSimpArgs false
set_option maxRecDepth 100000
theorem of_tl {s : ByteArray} {l : List UInt8} (h : s.toList = l) : s = ⟨l.toArray⟩ := by subst h; rw [ByteArray.toList_eq]
/-- the words of a cell with two parts -/
def TwoW (op : ByteArray) : Prop := op.toList = [79, 82] ∨ op.toList = [65, 78, 68] ∨ op.toList = [61] ∨ op.toList = [60, 62] ∨ op.toList = [60] ∨ op.toList = [60, 61] ∨ op.toList = [62] ∨ op.toList = [62, 61] ∨ op.toList = [43] ∨ op.toList = [45] ∨ op.toList = [42]
theorem binary_yes (op : ByteArray) (ho : TwoW op) (w : World) : Calls Try.prog 151 #[.string op] w fun e w' => e = .returned (.bool true) ∧ w' = w := by
  rcases ho with h | h | h | h | h | h | h | h | h | h | h <;> (
    obtain rfl := of_tl h
    clear h
    go_enter Try.func151, Try.ntmps151
    go_wp2
    go_ret
    exact ⟨rfl, rfl⟩)
set_option maxHeartbeats 3200000 in
theorem kind_lit (vk vn : Int) (vs : ByteArray) (hf : formedB vk vn vs = true) (sa : Option Addr) (sc : Nat) (w : World) : Calls Try.prog 117 #[.agg #[.int .i64 1, .string ⟨#[]⟩, .int .i64 vk, .int .i64 vn, .string vs, .int .i64 0, .int .i64 0, .slice sa 0 sc]] w fun e w' => e = .returned (.bool true) ∧ Below w.heap.size w w' := by
  have HB := Lib.hid (bel0 (.cells #[.int .i64 1, .string ⟨#[]⟩, .int .i64 vk, .int .i64 vn, .string vs, .int .i64 0, .int .i64 0, .slice sa 0 sc] 46) (Below.refl w.heap.size w))
  have HX := Lib.hid (Go.heap_alloc_new w (.cells #[.int .i64 1, .string ⟨#[]⟩, .int .i64 vk, .int .i64 vn, .string vs, .int .i64 0, .int .i64 0, .slice sa 0 sc] 46 (0, 0)))
  have hs : w.heap.size < (w.alloc (.cells #[.int .i64 1, .string ⟨#[]⟩, .int .i64 vk, .int .i64 vn, .string vs, .int .i64 0, .int .i64 0, .slice sa 0 sc] 46)).heap.size := by simp
  go_enter Try.func117, Try.ntmps117
  go_upto_region 1 with (fail)
  generalize (w.alloc (.cells #[.int .i64 1, .string ⟨#[]⟩, .int .i64 vk, .int .i64 vn, .string vs, .int .i64 0, .int .i64 0, .slice sa 0 sc] 46)) = w1 at *
  obtain ⟨e0, e1, e2, e3, e4, e5, e6, e7⟩ := cellsE HX.out
  go_wp2_with fail
  refine (formed_any vk vn vs _).mono ?_
  rintro e' w2 ⟨rfl, hw2⟩
  rw [hf]
  have HB2 := Lib.hid (bt HB.out (show Below w1.heap.size w1 w2 by rw [← hw2]; exact bel0 _ (Below.refl _ _)))
  clear hw2 e0 e1 e2 e3 e4 e5 e6 e7
  go_wp2
  go_ret
  exact ⟨rfl, HB2.out⟩
set_option maxHeartbeats 3200000 in
theorem kind_col (s c : Int) (sa : Option Addr) (sc : Nat) (w : World) : Calls Try.prog 117 #[.agg #[.int .i64 2, .string ⟨#[]⟩, .int .i64 0, .int .i64 0, .string ⟨#[]⟩, .int .i64 s, .int .i64 c, .slice sa 0 sc]] w fun e w' => e = .returned (.bool true) ∧ Below w.heap.size w w' := by
  have HB := Lib.hid (bel0 (.cells #[.int .i64 2, .string ⟨#[]⟩, .int .i64 0, .int .i64 0, .string ⟨#[]⟩, .int .i64 s, .int .i64 c, .slice sa 0 sc] 46) (Below.refl w.heap.size w))
  have HX := Lib.hid (Go.heap_alloc_new w (.cells #[.int .i64 2, .string ⟨#[]⟩, .int .i64 0, .int .i64 0, .string ⟨#[]⟩, .int .i64 s, .int .i64 c, .slice sa 0 sc] 46 (0, 0)))
  have hs : w.heap.size < (w.alloc (.cells #[.int .i64 2, .string ⟨#[]⟩, .int .i64 0, .int .i64 0, .string ⟨#[]⟩, .int .i64 s, .int .i64 c, .slice sa 0 sc] 46)).heap.size := by simp
  go_enter Try.func117, Try.ntmps117
  go_upto_region 1 with (fail)
  generalize (w.alloc (.cells #[.int .i64 2, .string ⟨#[]⟩, .int .i64 0, .int .i64 0, .string ⟨#[]⟩, .int .i64 s, .int .i64 c, .slice sa 0 sc] 46)) = w1 at *
  obtain ⟨e0, e1, e2, e3, e4, e5, e6, e7⟩ := cellsE HX.out
  go_wp2
  all_goals
    go_ret
    exact ⟨rfl, HB.out⟩
set_option maxHeartbeats 3200000 in
theorem kind_not  (sa : Option Addr) (sc : Nat) (w : World) : Calls Try.prog 117 #[.agg #[.int .i64 3, .string ⟨#[78, 79, 84]⟩, .int .i64 0, .int .i64 0, .string ⟨#[]⟩, .int .i64 0, .int .i64 0, .slice sa 1 sc]] w fun e w' => e = .returned (.bool true) ∧ Below w.heap.size w w' := by
  have HB := Lib.hid (bel0 (.cells #[.int .i64 3, .string ⟨#[78, 79, 84]⟩, .int .i64 0, .int .i64 0, .string ⟨#[]⟩, .int .i64 0, .int .i64 0, .slice sa 1 sc] 46) (Below.refl w.heap.size w))
  have HX := Lib.hid (Go.heap_alloc_new w (.cells #[.int .i64 3, .string ⟨#[78, 79, 84]⟩, .int .i64 0, .int .i64 0, .string ⟨#[]⟩, .int .i64 0, .int .i64 0, .slice sa 1 sc] 46 (0, 0)))
  have hs : w.heap.size < (w.alloc (.cells #[.int .i64 3, .string ⟨#[78, 79, 84]⟩, .int .i64 0, .int .i64 0, .string ⟨#[]⟩, .int .i64 0, .int .i64 0, .slice sa 1 sc] 46)).heap.size := by simp
  go_enter Try.func117, Try.ntmps117
  go_upto_region 1 with (fail)
  generalize (w.alloc (.cells #[.int .i64 3, .string ⟨#[78, 79, 84]⟩, .int .i64 0, .int .i64 0, .string ⟨#[]⟩, .int .i64 0, .int .i64 0, .slice sa 1 sc] 46)) = w1 at *
  obtain ⟨e0, e1, e2, e3, e4, e5, e6, e7⟩ := cellsE HX.out
  go_wp2
  all_goals
    go_ret
    exact ⟨rfl, HB.out⟩
set_option maxHeartbeats 3200000 in
theorem kind_neg  (sa : Option Addr) (sc : Nat) (w : World) : Calls Try.prog 117 #[.agg #[.int .i64 3, .string ⟨#[45]⟩, .int .i64 0, .int .i64 0, .string ⟨#[]⟩, .int .i64 0, .int .i64 0, .slice sa 1 sc]] w fun e w' => e = .returned (.bool true) ∧ Below w.heap.size w w' := by
  have HB := Lib.hid (bel0 (.cells #[.int .i64 3, .string ⟨#[45]⟩, .int .i64 0, .int .i64 0, .string ⟨#[]⟩, .int .i64 0, .int .i64 0, .slice sa 1 sc] 46) (Below.refl w.heap.size w))
  have HX := Lib.hid (Go.heap_alloc_new w (.cells #[.int .i64 3, .string ⟨#[45]⟩, .int .i64 0, .int .i64 0, .string ⟨#[]⟩, .int .i64 0, .int .i64 0, .slice sa 1 sc] 46 (0, 0)))
  have hs : w.heap.size < (w.alloc (.cells #[.int .i64 3, .string ⟨#[45]⟩, .int .i64 0, .int .i64 0, .string ⟨#[]⟩, .int .i64 0, .int .i64 0, .slice sa 1 sc] 46)).heap.size := by simp
  go_enter Try.func117, Try.ntmps117
  go_upto_region 1 with (fail)
  generalize (w.alloc (.cells #[.int .i64 3, .string ⟨#[45]⟩, .int .i64 0, .int .i64 0, .string ⟨#[]⟩, .int .i64 0, .int .i64 0, .slice sa 1 sc] 46)) = w1 at *
  obtain ⟨e0, e1, e2, e3, e4, e5, e6, e7⟩ := cellsE HX.out
  go_wp2
  all_goals
    go_ret
    exact ⟨rfl, HB.out⟩
set_option maxHeartbeats 3200000 in
theorem kind_null  (sa : Option Addr) (sc : Nat) (w : World) : Calls Try.prog 117 #[.agg #[.int .i64 5, .string ⟨#[73, 83, 32, 78, 85, 76, 76]⟩, .int .i64 0, .int .i64 0, .string ⟨#[]⟩, .int .i64 0, .int .i64 0, .slice sa 1 sc]] w fun e w' => e = .returned (.bool true) ∧ Below w.heap.size w w' := by
  have HB := Lib.hid (bel0 (.cells #[.int .i64 5, .string ⟨#[73, 83, 32, 78, 85, 76, 76]⟩, .int .i64 0, .int .i64 0, .string ⟨#[]⟩, .int .i64 0, .int .i64 0, .slice sa 1 sc] 46) (Below.refl w.heap.size w))
  have HX := Lib.hid (Go.heap_alloc_new w (.cells #[.int .i64 5, .string ⟨#[73, 83, 32, 78, 85, 76, 76]⟩, .int .i64 0, .int .i64 0, .string ⟨#[]⟩, .int .i64 0, .int .i64 0, .slice sa 1 sc] 46 (0, 0)))
  have hs : w.heap.size < (w.alloc (.cells #[.int .i64 5, .string ⟨#[73, 83, 32, 78, 85, 76, 76]⟩, .int .i64 0, .int .i64 0, .string ⟨#[]⟩, .int .i64 0, .int .i64 0, .slice sa 1 sc] 46)).heap.size := by simp
  go_enter Try.func117, Try.ntmps117
  go_upto_region 1 with (fail)
  generalize (w.alloc (.cells #[.int .i64 5, .string ⟨#[73, 83, 32, 78, 85, 76, 76]⟩, .int .i64 0, .int .i64 0, .string ⟨#[]⟩, .int .i64 0, .int .i64 0, .slice sa 1 sc] 46)) = w1 at *
  obtain ⟨e0, e1, e2, e3, e4, e5, e6, e7⟩ := cellsE HX.out
  go_wp2
  all_goals
    go_ret
    exact ⟨rfl, HB.out⟩
set_option maxHeartbeats 3200000 in
theorem kind_some  (sa : Option Addr) (sc : Nat) (w : World) : Calls Try.prog 117 #[.agg #[.int .i64 5, .string ⟨#[73, 83, 32, 78, 79, 84, 32, 78, 85, 76, 76]⟩, .int .i64 0, .int .i64 0, .string ⟨#[]⟩, .int .i64 0, .int .i64 0, .slice sa 1 sc]] w fun e w' => e = .returned (.bool true) ∧ Below w.heap.size w w' := by
  have HB := Lib.hid (bel0 (.cells #[.int .i64 5, .string ⟨#[73, 83, 32, 78, 79, 84, 32, 78, 85, 76, 76]⟩, .int .i64 0, .int .i64 0, .string ⟨#[]⟩, .int .i64 0, .int .i64 0, .slice sa 1 sc] 46) (Below.refl w.heap.size w))
  have HX := Lib.hid (Go.heap_alloc_new w (.cells #[.int .i64 5, .string ⟨#[73, 83, 32, 78, 79, 84, 32, 78, 85, 76, 76]⟩, .int .i64 0, .int .i64 0, .string ⟨#[]⟩, .int .i64 0, .int .i64 0, .slice sa 1 sc] 46 (0, 0)))
  have hs : w.heap.size < (w.alloc (.cells #[.int .i64 5, .string ⟨#[73, 83, 32, 78, 79, 84, 32, 78, 85, 76, 76]⟩, .int .i64 0, .int .i64 0, .string ⟨#[]⟩, .int .i64 0, .int .i64 0, .slice sa 1 sc] 46)).heap.size := by simp
  go_enter Try.func117, Try.ntmps117
  go_upto_region 1 with (fail)
  generalize (w.alloc (.cells #[.int .i64 5, .string ⟨#[73, 83, 32, 78, 79, 84, 32, 78, 85, 76, 76]⟩, .int .i64 0, .int .i64 0, .string ⟨#[]⟩, .int .i64 0, .int .i64 0, .slice sa 1 sc] 46)) = w1 at *
  obtain ⟨e0, e1, e2, e3, e4, e5, e6, e7⟩ := cellsE HX.out
  go_wp2
  all_goals
    go_ret
    exact ⟨rfl, HB.out⟩
set_option maxHeartbeats 3200000 in
theorem kind_two (op : ByteArray) (ho : TwoW op) (sa : Option Addr) (sc : Nat) (w : World) : Calls Try.prog 117 #[.agg #[.int .i64 4, .string op, .int .i64 0, .int .i64 0, .string ⟨#[]⟩, .int .i64 0, .int .i64 0, .slice sa 2 sc]] w fun e w' => e = .returned (.bool true) ∧ Below w.heap.size w w' := by
  have HB := Lib.hid (bel0 (.cells #[.int .i64 4, .string op, .int .i64 0, .int .i64 0, .string ⟨#[]⟩, .int .i64 0, .int .i64 0, .slice sa 2 sc] 46) (Below.refl w.heap.size w))
  have HX := Lib.hid (Go.heap_alloc_new w (.cells #[.int .i64 4, .string op, .int .i64 0, .int .i64 0, .string ⟨#[]⟩, .int .i64 0, .int .i64 0, .slice sa 2 sc] 46 (0, 0)))
  have hs : w.heap.size < (w.alloc (.cells #[.int .i64 4, .string op, .int .i64 0, .int .i64 0, .string ⟨#[]⟩, .int .i64 0, .int .i64 0, .slice sa 2 sc] 46)).heap.size := by simp
  go_enter Try.func117, Try.ntmps117
  go_upto_region 1 with (fail)
  generalize (w.alloc (.cells #[.int .i64 4, .string op, .int .i64 0, .int .i64 0, .string ⟨#[]⟩, .int .i64 0, .int .i64 0, .slice sa 2 sc] 46)) = w1 at *
  obtain ⟨e0, e1, e2, e3, e4, e5, e6, e7⟩ := cellsE HX.out
  go_wp2_with (go_at_call 151; refine (binary_yes op ho _).mono ?_; rintro e' w2 ⟨rfl, hw2⟩; obtain rfl := hw2.symm)
  all_goals
    go_ret
    exact ⟨rfl, HB.out⟩
theorem kind_any {c : CT} {k : Int} (h : Wk c k) (w : World) (Q : Nat → Prop) (v : Value) (hv : CV w Q v c) : Calls Try.prog 117 #[v] w fun e w' => e = .returned (.bool true) ∧ Below w.heap.size w w' := by
  obtain ⟨sa, sc, rfl, hrg, hel⟩ := hv
  cases h with
  | lit _ _ _ hf hn => exact kind_lit _ _ _ hf sa sc w
  | col s c k hk => exact kind_col s c sa sc w
  | not op p ho hp => obtain rfl := of_tl ho; exact kind_not sa sc w
  | neg op p k ho hk hp => obtain rfl := of_tl ho; exact kind_neg sa sc w
  | test op p k ho hk hp =>
    rcases ho with ho | ho
    · obtain rfl := of_tl ho; exact kind_null sa sc w
    · obtain rfl := of_tl ho; exact kind_some sa sc w
  | reck op p q k l ho hk hl hp hq => exact kind_two op (by unfold TwoW; rcases ho with h | h | h <;> simp [h]) sa sc w
  | and op p q ho hp hq => exact kind_two op (by unfold TwoW; simp [ho]) sa sc w
  | or op p q ho hp hq => exact kind_two op (by unfold TwoW; simp [ho]) sa sc w
  | cmp op p q k l ho hk hl hp hq => exact kind_two op (by unfold TwoW; rcases ho with h | h | h | h | h | h <;> simp [h]) sa sc w
end Go.Proofs.Ytafhgilikcablaa
