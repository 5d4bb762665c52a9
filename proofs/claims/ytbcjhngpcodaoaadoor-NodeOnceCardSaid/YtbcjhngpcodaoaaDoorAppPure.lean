/- Plain definitions and lemmas: a number's bytes. No program. -/
import Derived.Test.YtbcjhngpcodaoaaDoorSigPure
import Derived.Lib.BitFns
namespace Go.Proofs.YtbcjhngpcodaoaaDoor
open Go.RowKit
set_option linter.unusedVariables false

/-- how many groups of seven bits a number has -/
def groups (n : Int) : Nat := (max 1 (((Lib.bitLen n.toNat : Int) + 6) / 7)).toNat
/-- c groups, from the one of the number m downward, each with the highest bit set -/
def digs (n : Int) (m : Nat) : Nat → List Int
  | 0 => []
  | c + 1 => digs n m c ++ [128 + (n / 2 ^ (7 * (m - c))) % 128]
def encG (n : Int) (G : Nat) : List Int := digs n (G - 1) (G - 1) ++ [n % 128]
def enc (n : Int) : List Int := encG n (groups n)

theorem digs_length (n : Int) (m c : Nat) : (digs n m c).length = c := by
  induction c with
  | zero => rfl
  | succ c ih => simp [digs, ih]
theorem encG_length (n : Int) (G : Nat) (h : 1 ≤ G) : (encG n G).length = G := by simp [encG, digs_length]; omega

theorem bitLenAux_le (f x : Nat) : Lib.bitLenAux f x ≤ f := by
  induction f generalizing x with
  | zero => simp [Lib.bitLenAux]
  | succ f ih => unfold Lib.bitLenAux; split; omega; have := ih (x / 2); omega
theorem bitLen_le (x : Nat) : Lib.bitLen x ≤ 64 := bitLenAux_le 64 x
theorem groups_cast (n : Int) : max 1 (((Lib.bitLen n.toNat : Int) + 6) / 7) = (groups n : Int) := by unfold groups; omega
theorem groups_bd (n : Int) : 1 ≤ groups n ∧ groups n ≤ 10 := by
  have := bitLen_le n.toNat; unfold groups; omega

theorem bits_or_u8_nat (a b : Nat) (ha : a < 256) (hb : b < 256) : bits .or .u8 (a : Int) (b : Int) = ((a ||| b : Nat) : Int) := by
  have hx : a ||| b < 2 ^ 8 := Nat.or_lt_two_pow (by omega) (by omega)
  have h1 : (BitVec.ofInt 8 (a : Int)).toNat = a := by
    rw [BitVec.ofInt_natCast, BitVec.toNat_ofNat]; exact Nat.mod_eq_of_lt (by omega)
  have h2 : (BitVec.ofInt 8 (b : Int)).toNat = b := by
    rw [BitVec.ofInt_natCast, BitVec.toNat_ofNat]; exact Nat.mod_eq_of_lt (by omega)
  show IntKind.u8.wrap ((BitVec.ofInt 8 (a : Int) ||| BitVec.ofInt 8 (b : Int)).toNat : Int) = _
  rw [BitVec.toNat_or, h1, h2, wrap_u8]
  omega
theorem or128_nat : ∀ x : Fin 256, 128 ||| x.val = 128 + x.val % 128 := by decide +kernel
theorem or128 (y : Int) (h0 : 0 ≤ y) : bits .or .u8 128 (y % 256) = 128 + y % 128 := by
  obtain ⟨m, rfl⟩ := Int.eq_ofNat_of_zero_le h0
  have e : (m : Int) % 256 = ((m % 256 : Nat) : Int) := by omega
  have := bits_or_u8_nat 128 (m % 256) (by omega) (by omega)
  rw [e, show (128 : Int) = ((128 : Nat) : Int) from rfl, this, or128_nat ⟨m % 256, by omega⟩]
  simp
theorem digit (n : Int) (h0 : 0 ≤ n) (j : Nat) : bits .or .u8 128 (n / 2 ^ (7 * j) % 256) = 128 + (n / 2 ^ (7 * j)) % 128 := or128 _ (Int.ediv_nonneg h0 (Int.pow_nonneg (by omega)))
theorem low7 (n : Int) (h0 : 0 ≤ n) : bits .and .u8 (n % 256) 127 = n % 128 := by rw [and127 _ (by omega) (by omega)]; omega

theorem rel_dig {zs : List Int} {n : Int} (h0 : 0 ≤ n) {G c j : Nat} (h : c + j + 1 = G) : (zs.map (Value.int .u8) ++ ((digs n (G - 1) c).map (Value.int .u8) ++ [.int .u8 (bits .or .u8 128 (n / 2 ^ (7 * j) % 256))])) = (zs ++ digs n (G - 1) (c + 1)).map (Value.int .u8) := by
  rw [digit n h0, show j = G - 1 - c by omega]; simp [digs]
theorem rel_end {zs : List Int} {n : Int} (h0 : 0 ≤ n) {G c : Nat} (h : c + 1 = G) : (zs.map (Value.int .u8) ++ ((digs n (G - 1) c).map (Value.int .u8) ++ [.int .u8 (bits .and .u8 (n % 256) 127)])) = (zs ++ encG n G).map (Value.int .u8) := by
  rw [low7 n h0, show c = G - 1 by omega]; simp [encG]
end Go.Proofs.YtbcjhngpcodaoaaDoor
