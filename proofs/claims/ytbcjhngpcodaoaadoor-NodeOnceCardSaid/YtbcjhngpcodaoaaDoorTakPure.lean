/- Plain definitions on varints: what Take gives, and the arithmetic of a step. No program. -/
import Derived.Test.YtbcjhngpcodaoaaDoorBase
import Derived.Below
import Derived.Laws.Bits64
namespace Go.Proofs.YtbcjhngpcodaoaaDoor

/-- one step of Take, as both texts spell it -/
def stepN (N y : Int) : Int := bits .or .u64 (N * 128) (IntKind.u64.wrap (bits .and .u8 y 127))

theorem bits_or_u64_nat (a b : Nat) (ha : a < 18446744073709551616) (hb : b < 18446744073709551616) :
    bits .or .u64 (a : Int) (b : Int) = ((a ||| b : Nat) : Int) := by
  have hx : a ||| b < 2 ^ 64 := Nat.or_lt_two_pow (by omega) (by omega)
  have h1 : (BitVec.ofInt 64 (a : Int)).toNat = a := by
    rw [BitVec.ofInt_natCast, BitVec.toNat_ofNat]; exact Nat.mod_eq_of_lt (by omega)
  have h2 : (BitVec.ofInt 64 (b : Int)).toNat = b := by
    rw [BitVec.ofInt_natCast, BitVec.toNat_ofNat]; exact Nat.mod_eq_of_lt (by omega)
  show IntKind.u64.wrap ((BitVec.ofInt 64 (a : Int) ||| BitVec.ofInt 64 (b : Int)).toNat : Int) = _
  rw [BitVec.toNat_or, h1, h2, IntKind.wrap_u64]
  omega
theorem wrap_u8 (n : Int) : IntKind.u8.wrap n = n % 256 := by simp [IntKind.wrap, IntKind.bits, IntKind.signed]
theorem bits_and_u8_nat (a b : Nat) (ha : a < 256) (hb : b < 256) :
    bits .and .u8 (a : Int) (b : Int) = ((a &&& b : Nat) : Int) := by
  have hx : a &&& b < 2 ^ 8 := Nat.and_lt_two_pow a (by omega)
  have h1 : (BitVec.ofInt 8 (a : Int)).toNat = a := by
    rw [BitVec.ofInt_natCast, BitVec.toNat_ofNat]; exact Nat.mod_eq_of_lt (by omega)
  have h2 : (BitVec.ofInt 8 (b : Int)).toNat = b := by
    rw [BitVec.ofInt_natCast, BitVec.toNat_ofNat]; exact Nat.mod_eq_of_lt (by omega)
  show IntKind.u8.wrap ((BitVec.ofInt 8 (a : Int) &&& BitVec.ofInt 8 (b : Int)).toNat : Int) = _
  rw [BitVec.toNat_and, h1, h2, wrap_u8]
  omega
theorem and127 (y : Int) (h0 : 0 ≤ y) (h1 : y ≤ 255) : bits .and .u8 y 127 = y % 128 := by
  obtain ⟨m, rfl⟩ := Int.eq_ofNat_of_zero_le h0
  have := bits_and_u8_nat m 127 (by omega) (by omega)
  rw [show ((127 : Nat) : Int) = 127 from rfl] at this
  rw [this, show (127 : Nat) = 2 ^ 7 - 1 from rfl, Nat.and_two_pow_sub_one_eq_mod]
  simp
theorem stepN_eq (N y : Int) (hN0 : 0 ≤ N) (hN1 : N < 144115188075855872) (h0 : 0 ≤ y) (h1 : y ≤ 255) : stepN N y = N * 128 + y % 128 := by
  unfold stepN
  rw [and127 y h0 h1, IntKind.wrap_u64]
  obtain ⟨m, rfl⟩ := Int.eq_ofNat_of_zero_le hN0
  obtain ⟨k, rfl⟩ := Int.eq_ofNat_of_zero_le h0
  have e1 : (m : Int) * 128 = ((2 ^ 7 * m : Nat) : Int) := by omega
  have e2 : ((k : Int) % 128) % 18446744073709551616 = ((k % 128 : Nat) : Int) := by omega
  rw [e1, e2, bits_or_u64_nat _ _ (by omega) (by omega), ← Nat.two_pow_add_eq_or_of_lt (by omega)]
  omega

/-- Take from place i on, with N taken so far: number, how many bytes, error -/
def tk : Nat → Int → List Int → Int × Int × Int
  | _, _, [] => (0, 0, 2)
  | i, N, y :: l => if 10 ≤ i ∨ 144115188075855872 ≤ N then (0, 0, 2) else if y < 128 then (stepN N y, (i : Int) + 1, 0) else tk (i + 1) (stepN N y) l
def takeR (zs : List Int) : Int × Int × Int := if zs.getD 0 0 = 128 then (0, 0, 2) else tk 0 0 zs
def endT (r : Int × Int × Int) : Ending := .returned (.tuple #[.int .u64 r.1, .int .i64 r.2.1, .int .i64 r.2.2])

theorem tk_none {i : Nat} {N : Int} {l : List Int} (h : 10 ≤ i ∨ 144115188075855872 ≤ N ∨ l = []) : tk i N l = (0, 0, 2) := by
  cases l with
  | nil => rfl
  | cons y l =>
    unfold tk; rw [if_pos]
    rcases h with h | h | h
    · exact .inl h
    · exact .inr h
    · cases h
theorem drop_cons {zs : List Int} {k : Nat} (h : k < zs.length) : zs.drop k = zs.getD k 0 :: zs.drop (k + 1) := by
  rw [List.drop_eq_getElem_cons h]; simp [h]
theorem tk_end {zs : List Int} {k : Nat} {N : Int} (h : k < zs.length) (hk : k < 10) (hN : N < 144115188075855872) (hy : zs.getD k 0 < 128) : tk k N (zs.drop k) = (stepN N (zs.getD k 0), (k : Int) + 1, 0) := by
  rw [drop_cons h]; unfold tk; rw [if_neg (by omega), if_pos hy]
theorem tk_on {zs : List Int} {k : Nat} {N : Int} (h : k < zs.length) (hk : k < 10) (hN : N < 144115188075855872) (hy : ¬ zs.getD k 0 < 128) : tk k N (zs.drop k) = tk (k + 1) (stepN N (zs.getD k 0)) (zs.drop (k + 1)) := by
  rw [drop_cons h]; conv => lhs; unfold tk
  rw [if_neg (by omega), if_neg hy]

end Go.Proofs.YtbcjhngpcodaoaaDoor
