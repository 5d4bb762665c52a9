/- Plain lemmas on numbers' bytes. No program. -/
import Derived.Test.YtbcjhngpcodaoaaDoorEncPure
import Derived.ShutString
import Derived.OpenShut
import Derived.WalkKit
import Derived.Laws.IdiomStrings
namespace Go.Proofs.YtbcjhngpcodaoaaDoor
open Go.RowKit
set_option linter.unusedVariables false
theorem groups_eq (n : Int) (h0 : 0 ≤ n) (h1 : n ≤ 18446744073709551615) (r : Nat) (ha : n / 2 ^ (7 * (r + 1)) = 0) (hb : r = 0 ∨ 0 < n / 2 ^ (7 * r)) : groups n = r + 1 := by
  obtain ⟨g1, _⟩ := groups_bd n
  obtain ⟨s1, s2⟩ := groups_spec n h0 h1
  have hlt : n < 2 ^ (7 * (r + 1)) := by
    rcases Int.lt_or_le n (2 ^ (7 * (r + 1))) with h | h
    · exact h
    · have : 1 ≤ n / 2 ^ (7 * (r + 1)) := by rw [Int.le_ediv_iff_mul_le (pow_pos' _)]; simpa using h
      omega
  rcases Nat.lt_trichotomy (groups n) (r + 1) with h | h | h
  · rcases hb with rfl | hb
    · omega
    · have h3 : (2 : Int) ^ (7 * groups n) ≤ 2 ^ (7 * r) := by
        have : (2 : Nat) ^ (7 * groups n) ≤ 2 ^ (7 * r) := Nat.pow_le_pow_right (by omega) (by omega)
        exact_mod_cast this
      have : n / 2 ^ (7 * r) = 0 := Int.ediv_eq_zero_of_lt h0 (by omega)
      omega
  · exact h
  · have h4 := s2 (by omega)
    have h3 : (2 : Int) ^ (7 * (r + 1)) ≤ 2 ^ (7 * (groups n - 1)) := by
      have : (2 : Nat) ^ (7 * (r + 1)) ≤ 2 ^ (7 * (groups n - 1)) := Nat.pow_le_pow_right (by omega) (by omega)
      exact_mod_cast this
    omega
theorem enc_dl (n : Int) (r : Nat) (h : groups n = r + 1) : enc n = dl n r ++ [n % 128] := by
  unfold enc encG; rw [h, digs_all]; simp

def zz (s : Int) : Int := if s < 0 then -(s + 1) * 2 + 1 else s * 2
theorem zz_bd (s : Int) (h0 : -9223372036854775808 ≤ s) (h1 : s ≤ 9223372036854775807) : 0 ≤ zz s ∧ zz s ≤ 18446744073709551615 := by unfold zz; split <;> omega
theorem sgF_zz (s : Int) : sgF (zz s) = s := by unfold sgF zz; split <;> split <;> omega
end Go.Proofs.YtbcjhngpcodaoaaDoor
