/- What was written as a head or a record is one, and says what it was told. Plain mathematics. -/
import Derived.Test.YtbcjhngpcodaoaaJPure
namespace Go.Proofs.Ytbcjhngpcodaoaa
open Go.RowKit
set_option linter.unusedVariables false

theorem numN_from (l : List Int) : ∀ a : Int, l.foldl (fun n z => n * 256 + z) a = a * 256 ^ l.length + numN l := by
  induction l with
  | nil => intro a; simp [numN]
  | cons x l ih =>
    intro a
    have e : numN (x :: l) = l.foldl (fun n z => n * 256 + z) (0 * 256 + x) := rfl
    rw [List.foldl_cons, ih, e, ih, List.length_cons, Int.pow_succ]
    generalize (256 : Int) ^ l.length = q
    rw [Int.zero_mul, Int.zero_add, Int.add_mul, Int.mul_assoc, Int.mul_comm 256 q]
    omega
theorem numN_append (a b : List Int) : numN (a ++ b) = numN a * 256 ^ b.length + numN b := by
  unfold numN
  rw [List.foldl_append, numN_from]
  rfl
theorem numN_four (n : Int) (h0 : 0 ≤ n) (h1 : n ≤ 4294967295) : numN (beN n 4) = n := by
  have e : beN n 4 = [n / 16777216 % 256, n / 65536 % 256, n / 256 % 256, n / 1 % 256] := rfl
  rw [e]
  show (((0 * 256 + n / 16777216 % 256) * 256 + n / 65536 % 256) * 256 + n / 256 % 256) * 256 + n / 1 % 256 = n
  omega
theorem numN_eight_of (n : Int) (h0 : 0 ≤ n) (h1 : n ≤ 18446744073709551615) : numN (beN n 8) = n := by
  rw [← beN_join, numN_append, numN_four _ (by omega) (by omega), numN_four _ (by omega) (by omega), beN_length]
  omega
theorem headK_parts (s p r : Int) : headK s p r = markK ++ (beN s 8 ++ (beN p 4 ++ (beN r 4 ++ (beN (sm 2166136261 (headB s p r)) 4 ++ noughts 36)))) := by
  unfold headK
  conv => lhs; unfold headB
  simp only [List.append_assoc]
  rfl
theorem headK_S (s p r : Int) (h0 : 0 ≤ s) (h1 : s ≤ 18446744073709551615) : hS (headK s p r) = s := by
  unfold hS
  rw [headK_parts, drop_app (a := markK) (n := 8) rfl, take_app (a := beN s 8) (n := 8) (by rw [beN_length])]
  exact numN_eight_of s h0 h1
theorem headK_P (s p r : Int) (h0 : 0 ≤ p) (h1 : p ≤ 4294967295) : hP (headK s p r) = p := by
  unfold hP
  rw [headK_parts, show (16 : Nat) = 8 + 8 from rfl, ← List.drop_drop, drop_app (a := markK) (n := 8) rfl, drop_app (a := beN s 8) (n := 8) (by rw [beN_length]), take_app (a := beN p 4) (n := 4) (by rw [beN_length])]
  exact numN_four p h0 h1
theorem headK_R (s p r : Int) (h0 : 0 ≤ r) (h1 : r ≤ 4294967295) : hR (headK s p r) = r := by
  unfold hR
  rw [headK_parts, show (20 : Nat) = 8 + 8 + 4 from rfl, ← List.drop_drop, ← List.drop_drop, drop_app (a := markK) (n := 8) rfl, drop_app (a := beN s 8) (n := 8) (by rw [beN_length]), drop_app (a := beN p 4) (n := 4) (by rw [beN_length]), take_app (a := beN r 4) (n := 4) (by rw [beN_length])]
  exact numN_four r h0 h1
theorem headK_ok (s p r : Int) (hs : 0 ≤ s ∧ s ≤ 18446744073709551615) (hp : 0 ≤ p ∧ p ≤ 10000) (hr : 0 ≤ r ∧ r ≤ 10000) : hOk (headK s p r) = true := by
  unfold hOk
  rw [headK_S s p r hs.1 hs.2, headK_P s p r hp.1 (by omega), headK_R s p r hr.1 (by omega), decide_eq_true ⟨hp.2, hr.2⟩, decide_eq_true rfl]
  rfl
theorem recK_N (s n : Int) (d : List Int) (h0 : 0 ≤ n) (h1 : n ≤ 4294967295) : rN (recK s n d) = n := by
  unfold rN recK recB
  rw [List.append_assoc, List.append_assoc, take_app (a := beN n 4) (n := 4) (by rw [beN_length])]
  exact numN_four n h0 h1
theorem recK_D (s n : Int) {d : List Int} (hd : d.length = 512) : rD (recK s n d) = d := by
  unfold rD recK recB
  rw [List.append_assoc, List.append_assoc, drop_app (a := beN n 4) (n := 4) (by rw [beN_length]), take_app (a := d) (n := 512) hd.symm]
theorem recK_ok (s n : Int) {d : List Int} (hn : 0 ≤ n ∧ n ≤ 10000) (hd : d.length = 512) : rOk s (recK s n d) = true := by
  unfold rOk
  rw [recK_N s n d hn.1 (by omega), recK_D s n hd, decide_eq_true hn.2, decide_eq_true rfl]
  rfl
end Go.Proofs.Ytbcjhngpcodaoaa
