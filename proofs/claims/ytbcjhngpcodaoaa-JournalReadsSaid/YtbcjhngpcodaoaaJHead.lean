/- Contracts of journal's readHead and the document's head: every sixty-four bytes. -/
import Derived.Test.YtbcjhngpcodaoaaJHs
import Derived.Test.YtbcjhngpcodaoaaJNum
import Derived.Test.YtbcjhngpcodaoaaEql
namespace Go.Proofs.Ytbcjhngpcodaoaa
open Go.RowKit
set_option linter.unusedVariables false
set_option maxRecDepth 100000

/-- what sixty-four bytes say as a head: the salt, how many pages, how many records; and whether they are one -/
def hS (z : List Int) : Int := numN ((z.drop 8).take 8)
def hP (z : List Int) : Int := numN ((z.drop 16).take 4)
def hR (z : List Int) : Int := numN ((z.drop 20).take 4)
def hOk (z : List Int) : Bool := decide (hP z ≤ 10000 ∧ hR z ≤ 10000) && decide (headK (hS z) (hP z) (hR z) = z)

theorem getD_part (z : List Int) (hz : ∀ x ∈ z, 0 ≤ x ∧ x ≤ 255) (i n : Nat) : ∀ j, 0 ≤ ((z.drop i).take n).getD j 0 ∧ ((z.drop i).take n).getD j 0 ≤ 255 := fun j => by
  rw [List.getD_eq_getElem?_getD]
  rcases Nat.lt_or_ge j ((z.drop i).take n).length with h | h
  · rw [List.getElem?_eq_getElem h]
    exact hz _ (List.mem_of_mem_drop (List.mem_of_mem_take (List.getElem_mem h)))
  · rw [List.getElem?_eq_none h]; simp
theorem part_len (z : List Int) (i n : Nat) (h : i + n ≤ z.length) : ((z.drop i).take n).length = n := by simp; omega
theorem hS_bd {z : List Int} (hz : ∀ x ∈ z, 0 ≤ x ∧ x ≤ 255) (hl : 64 ≤ z.length) : 0 ≤ hS z ∧ hS z ≤ 18446744073709551615 := by
  have := numN_bd (getD_part z hz 8 8) 8 (by rw [part_len z 8 8 (by omega)]; exact Nat.le_refl _)
  rw [List.take_of_length_le (by rw [part_len z 8 8 (by omega)]; exact Nat.le_refl _)] at this
  exact ⟨this.1, by have := this.2; unfold hS; omega⟩
theorem hP_bd {z : List Int} (hz : ∀ x ∈ z, 0 ≤ x ∧ x ≤ 255) (hl : 64 ≤ z.length) : 0 ≤ hP z ∧ hP z ≤ 4294967295 := by
  have := numN_bd (getD_part z hz 16 4) 4 (by rw [part_len z 16 4 (by omega)]; exact Nat.le_refl _)
  rw [List.take_of_length_le (by rw [part_len z 16 4 (by omega)]; exact Nat.le_refl _)] at this
  exact ⟨this.1, by have := this.2; unfold hP; omega⟩
theorem hR_bd {z : List Int} (hz : ∀ x ∈ z, 0 ≤ x ∧ x ≤ 255) (hl : 64 ≤ z.length) : 0 ≤ hR z ∧ hR z ≤ 4294967295 := by
  have := numN_bd (getD_part z hz 20 4) 4 (by rw [part_len z 20 4 (by omega)]; exact Nat.le_refl _)
  rw [List.take_of_length_le (by rw [part_len z 20 4 (by omega)]; exact Nat.le_refl _)] at this
  exact ⟨this.1, by have := this.2; unfold hR; omega⟩
/-- eight bytes are four and four -/
theorem numN_eight {z : List Int} (hl : 64 ≤ z.length) : hS z = numN ((z.drop 8).take 4) * 4294967296 + numN ((z.drop 12).take 4) := by
  have e : ∀ (i n : Nat), i + n ≤ z.length → numN ((z.drop i).take (n + 0)) = numN ((z.drop i).take n) := fun i n _ => rfl
  have g : ∀ i j, i + j < z.length → (z.drop i).getD j 0 = z.getD (i + j) 0 := fun i j h => by simp [List.getD]
  unfold hS
  have t : ∀ i k, i + k < z.length → numN ((z.drop i).take (k + 1)) = numN ((z.drop i).take k) * 256 + z.getD (i + k) 0 := fun i k h => by
    rw [numN_take (by rw [List.length_drop]; omega), g i k h]
  rw [t 8 7 (by omega), t 8 6 (by omega), t 8 5 (by omega), t 8 4 (by omega), t 12 3 (by omega), t 12 2 (by omega), t 12 1 (by omega), t 12 0 (by omega), show numN ((z.drop 12).take 0) = 0 from rfl]
  simp only [show 8 + 4 = 12 + 0 from rfl, show 8 + 5 = 12 + 1 from rfl, show 8 + 6 = 12 + 2 from rfl, show 8 + 7 = 12 + 3 from rfl]
  omega
/-- n bytes from place k -/
theorem isB_part {w : World} {a : Option Addr} {len cap k n : Nat} {z : List Int} (h : IsB w a len z) (hk : k + n ≤ len) (hc : len ≤ cap) : IsB w (offA a cap k) n ((z.drop k).take n) :=
  isB_take (isB_off h (by omega) hc) (by omega)
end Go.Proofs.Ytbcjhngpcodaoaa
