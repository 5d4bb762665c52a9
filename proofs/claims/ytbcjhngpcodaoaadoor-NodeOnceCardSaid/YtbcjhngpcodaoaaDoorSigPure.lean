/- Plain lemmas on signed varints: bounds of what Take gives; the two spellings of a signed number. No program. -/
import Derived.Test.YtbcjhngpcodaoaaDoorTakPure
import Derived.RowKit
namespace Go.Proofs.YtbcjhngpcodaoaaDoor
open Go.RowKit

theorem tk_bd : ∀ (l : List Int) (i : Nat) (N : Int), 0 ≤ N → (∀ z ∈ l, 0 ≤ z ∧ z ≤ 255) →
    ((tk i N l).2.2 = 0 ∧ 0 ≤ (tk i N l).1 ∧ (tk i N l).1 ≤ 18446744073709551615 ∧ (i : Int) < (tk i N l).2.1 ∧ (tk i N l).2.1 ≤ 10 ∧ (tk i N l).2.1 ≤ i + l.length) ∨ tk i N l = (0, 0, 2) := by
  intro l
  induction l with
  | nil => intro i N _ _; exact .inr rfl
  | cons y l ih =>
    intro i N hN hb
    unfold tk
    by_cases h : 10 ≤ i ∨ 144115188075855872 ≤ N
    · rw [if_pos h]; exact .inr rfl
    · rw [if_neg h]
      have hy := hb y (by simp)
      have hs := stepN_eq N y hN (by omega) hy.1 hy.2
      by_cases h2 : y < 128
      · rw [if_pos h2]; left
        refine ⟨rfl, ?_, ?_, ?_, ?_, ?_⟩ <;> simp <;> omega
      · rw [if_neg h2]
        rcases ih (i + 1) (stepN N y) (by omega) (fun z hz => hb z (by simp [hz])) with ⟨h0, h1, h2, h3, h4, h5⟩ | h0
        · left; refine ⟨h0, h1, h2, ?_, h4, ?_⟩
          · omega
          · simp at h5 ⊢; omega
        · exact .inr h0

theorem takeR_bd {zs : List Int} (hb : ∀ z ∈ zs, 0 ≤ z ∧ z ≤ 255) :
    ((takeR zs).2.2 = 0 ∧ 0 ≤ (takeR zs).1 ∧ (takeR zs).1 ≤ 18446744073709551615 ∧ 0 < (takeR zs).2.1 ∧ (takeR zs).2.1 ≤ 10 ∧ (takeR zs).2.1 ≤ zs.length) ∨ takeR zs = (0, 0, 2) := by
  unfold takeR
  split
  · exact .inr rfl
  · rcases tk_bd zs 0 0 (by omega) hb with ⟨h0, h1, h2, h3, h4, h5⟩ | h
    · left; exact ⟨h0, h1, h2, by simpa using h3, h4, by simpa using h5⟩
    · exact .inr h

/-- the signed number of a number's twice -/
def sgF (n : Int) : Int := if n % 2 = 1 then -(n / 2) - 1 else n / 2
def sigR (zs : List Int) : Int × Int × Int := if (takeR zs).2.2 = 0 then (sgF (takeR zs).1, (takeR zs).2.1, 0) else (0, 0, 2)
def endS (r : Int × Int × Int) : Ending := .returned (.tuple #[.int .i64 r.1, .int .i64 r.2.1, .int .i64 r.2.2])

theorem bits_and_u64_nat (a b : Nat) (ha : a < 18446744073709551616) (hb : b < 18446744073709551616) :
    bits .and .u64 (a : Int) (b : Int) = ((a &&& b : Nat) : Int) := by
  have hx : a &&& b < 2 ^ 64 := Nat.and_lt_two_pow a (by omega)
  have h1 : (BitVec.ofInt 64 (a : Int)).toNat = a := by
    rw [BitVec.ofInt_natCast, BitVec.toNat_ofNat]; exact Nat.mod_eq_of_lt (by omega)
  have h2 : (BitVec.ofInt 64 (b : Int)).toNat = b := by
    rw [BitVec.ofInt_natCast, BitVec.toNat_ofNat]; exact Nat.mod_eq_of_lt (by omega)
  show IntKind.u64.wrap ((BitVec.ofInt 64 (a : Int) &&& BitVec.ofInt 64 (b : Int)).toNat : Int) = _
  rw [BitVec.toNat_and, h1, h2, IntKind.wrap_u64]
  omega
theorem and1 (n : Int) (h0 : 0 ≤ n) (h1 : n ≤ 18446744073709551615) : bits .and .u64 n 1 = n % 2 := by
  obtain ⟨m, rfl⟩ := Int.eq_ofNat_of_zero_le h0
  have := bits_and_u64_nat m 1 (by omega) (by omega)
  rw [show ((1 : Nat) : Int) = 1 from rfl] at this
  rw [this, show (1 : Nat) = 2 ^ 1 - 1 from rfl, Nat.and_two_pow_sub_one_eq_mod]
  simp
theorem xor_zero (x : Int) (h0 : 0 ≤ x) (h1 : x ≤ 9223372036854775807) : bits .xor .i64 x 0 = x := by
  obtain ⟨m, rfl⟩ := Int.eq_ofNat_of_zero_le h0
  show IntKind.i64.wrap ((BitVec.ofInt 64 (m : Int) ^^^ BitVec.ofInt 64 0).toNat : Int) = _
  have h2 : (BitVec.ofInt 64 (m : Int)).toNat = m := by
    rw [BitVec.ofInt_natCast, BitVec.toNat_ofNat]; exact Nat.mod_eq_of_lt (by omega)
  rw [BitVec.toNat_xor, h2, show (BitVec.ofInt 64 0).toNat = 0 from by decide, Nat.xor_zero, IntKind.wrap_i64]
  omega
theorem xor_ones (x : Int) (h0 : 0 ≤ x) (h1 : x ≤ 9223372036854775807) : bits .xor .i64 x (-1) = -x - 1 := by
  obtain ⟨m, rfl⟩ := Int.eq_ofNat_of_zero_le h0
  show IntKind.i64.wrap ((BitVec.ofInt 64 (m : Int) ^^^ BitVec.ofInt 64 (-1)).toNat : Int) = _
  have h2 : (BitVec.ofInt 64 (m : Int)).toNat = m := by
    rw [BitVec.ofInt_natCast, BitVec.toNat_ofNat]; exact Nat.mod_eq_of_lt (by omega)
  rw [show BitVec.ofInt 64 (-1) = BitVec.allOnes 64 from by decide, BitVec.xor_allOnes, BitVec.toNat_not, h2, IntKind.wrap_i64]
  omega
theorem zig (n : Int) (h0 : 0 ≤ n) (h1 : n ≤ 18446744073709551615) : bits .xor .i64 (n / 2) (wrap64 (-wrap64 (bits .and .u64 n 1))) = sgF n := by
  rw [and1 n h0 h1]
  unfold sgF
  by_cases h : n % 2 = 1
  · rw [if_pos h, h, show wrap64 (-wrap64 1) = -1 from by decide +kernel, xor_ones _ (by omega) (by omega)]
  · have h' : n % 2 = 0 := by omega
    rw [if_neg h, h', show wrap64 (-wrap64 0) = 0 from by decide +kernel, xor_zero _ (by omega) (by omega)]
end Go.Proofs.YtbcjhngpcodaoaaDoor
