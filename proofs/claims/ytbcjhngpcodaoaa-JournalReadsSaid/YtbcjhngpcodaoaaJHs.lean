/- Head and Record of both sides in one contract each; layer 10's awake. -/
import Derived.Test.YtbcjhngpcodaoaaRefR
namespace Go.Proofs.Ytbcjhngpcodaoaa
open Go.RowKit
set_option linter.unusedVariables false
set_option maxRecDepth 100000

/-- what a writing function answers, right or wrong -/
def AnsPost (w : World) (zs : List Int) (c : Int) (e : Ending) (w' : World) : Prop :=
  ∃ v : Value, e = .returned (.tuple #[v, .int .i64 c]) ∧ w'.ownsRow w.heap.size 5 1 v zs.length (zs.map (Value.int .u8)) ∧ Below w.heap.size w w'
theorem ans_good {w : World} {zs : List Int} {e : Ending} {w' : World} (h : RowKPost w zs e w') : AnsPost w zs 0 e w' := h
theorem ans_none {w : World} {e : Ending} {w' : World} (h : NonePost w e w') : AnsPost w [] 1 e w' := ⟨_, h.1, World.ownsRow_nil _ _ _ _, h.2⟩

/-- Head of both: the same bytes, the same number -/
theorem heads (salt p r : Int) (s0 : 0 ≤ salt) (s1 : salt ≤ 18446744073709551615) (hp : -9223372036854775808 ≤ p ∧ p ≤ 9223372036854775807) (hr : -9223372036854775808 ≤ r ∧ r ≤ 9223372036854775807) :
    ∃ (zs : List Int) (c : Int), (∀ z ∈ zs, 0 ≤ z ∧ z ≤ 255) ∧ (∀ w, Calls Try.prog 16 #[.int .u64 salt, .int .i64 p, .int .i64 r] w (AnsPost w zs c)) ∧ (∀ w, Calls Try.prog 66 #[.int .u64 salt, .int .i64 p, .int .i64 r] w (AnsPost w zs c)) := by
  by_cases h : (0 ≤ p ∧ p ≤ 10000) ∧ (0 ≤ r ∧ r ≤ 10000)
  · exact ⟨headK salt p r, 0, headK_range _ _ _, fun w => (head_good salt p r w s0 s1 h.1 h.2).mono fun e w' h => ans_good h, fun w => (rhead_good salt p r w s0 s1 h.1 h.2).mono fun e w' h => ans_good h⟩
  · exact ⟨[], 1, by simp, fun w => (head_bad salt p r w hp hr h).mono fun e w' h => ans_none h, fun w => (rhead_bad salt p r w h).mono fun e w' h => ans_none h⟩

/-- Record of both: the same bytes, the same number -/
theorem records (salt n : Int) (a : Option Addr) (len cap : Nat) (data : List Int) (w0 : World) (s0 : 0 ≤ salt) (s1 : salt ≤ 18446744073709551615) (hn : -9223372036854775808 ≤ n ∧ n ≤ 9223372036854775807)
    (hI : IsB w0 a len data) (ha : ∀ x, len ≠ 0 → a = some x → x.block < w0.heap.size) (hnil : a = none → len = 0 ∧ cap = 0) :
    ∃ (zs : List Int) (c : Int), (∀ z ∈ zs, 0 ≤ z ∧ z ≤ 255) ∧ (∀ w, Below w0.heap.size w0 w → Calls Try.prog 17 #[.int .u64 salt, .int .i64 n, .slice a len cap] w (AnsPost w zs c)) ∧ (∀ w, Below w0.heap.size w0 w → Calls Try.prog 67 #[.int .u64 salt, .int .i64 n, .slice a len cap] w (AnsPost w zs c)) := by
  by_cases h : (0 ≤ n ∧ n ≤ 10000) ∧ len = 512
  · obtain ⟨h, rfl⟩ := h
    exact ⟨recK salt n data, 0, recK_range _ _ hI.mem,
      fun w hb => (record_good salt n a cap data w s0 s1 h (hI.below hb ha) (fun x hx hy => Nat.lt_of_lt_of_le (ha x hx hy) hb.size) hnil).mono fun e w' h => ans_good h,
      fun w hb => (rrecord_good salt n a cap data w s0 s1 h (hI.below hb ha) (fun x hx hy => Nat.lt_of_lt_of_le (ha x hx hy) hb.size) hnil).mono fun e w' h => ans_good h⟩
  · exact ⟨[], 1, by simp, fun w _ => (record_bad salt n a len cap w hn hI.2.1 h).mono fun e w' h => ans_none h, fun w _ => (rrecord_bad salt n a len cap w h).mono fun e w' h => ans_none h⟩

set_option maxHeartbeats 1600000 in
theorem jawake_any (w : World) : Calls Try.prog 11 #[] w fun e w' => e = .returned (.bool true) ∧ Below w.heap.size w w' := by
  go_enter Try.func11, Try.ntmps11
  go_wp2_with fail
  refine (head_good 1 2 0 _ (by omega) (by omega) (by omega) (by omega)).mono ?_
  rintro e w1 ⟨v1, rfl, hown1, hb1⟩
  rw [headK_length] at hown1
  obtain ⟨g1, c1, rfl⟩ := own_addr hown1 (by omega)
  have HB1 := Lib.hid hb1
  clear hown1 hb1
  go_wp2_with fail
  refine (sum_any none 0 0 [] _ (isB_nil _)).mono ?_
  rintro e w2 ⟨rfl, hw2⟩
  subst hw2
  rw [show sm 2166136261 [] = 2166136261 from rfl]
  go_wp2
  go_ret
  exact ⟨rfl, HB1.out⟩

/-- what an argument of bytes is -/
def BArg (w : World) (a : Option Addr) (len cap : Nat) (zs : List Int) : Prop :=
  IsB w a len zs ∧ (∀ x, len ≠ 0 → a = some x → x.block < w.heap.size) ∧ (a = none → len = 0 ∧ cap = 0)

end Go.Proofs.Ytbcjhngpcodaoaa
