/- Plain lemmas: the order of values and rows the other way round. No program. -/
import Derived.Test.YtkicipjaefmahaaRowPure
import Derived.Lib.MinMaxS
namespace Go.Proofs.Ytkicipjaefmahaa

theorem ordS_neg (s t : ByteArray) : ordS t s = -ordS s t := by
  unfold ordS
  rw [Proofs.bytesLess_eq, Proofs.bytesLess_eq]
  by_cases h1 : s.toList < t.toList
  · have h2 : ¬ t.toList < s.toList := List.lt_asymm h1
    have h3 : ¬ t.toList = s.toList := fun h => by rw [h] at h1; exact List.lt_irrefl _ h1
    simp [h1, h2, h3]
  · by_cases h2 : t.toList < s.toList
    · have h3 : ¬ s.toList = t.toList := fun h => by rw [h] at h2; exact List.lt_irrefl _ h2
      simp [h1, h2, h3]
    · have h3 : s.toList = t.toList := List.le_antisymm (List.not_lt.1 h2) (List.not_lt.1 h1)
      simp [h3, List.lt_irrefl]
theorem ordS_bd (s t : ByteArray) : ordS s t = -1 ∨ ordS s t = 0 ∨ ordS s t = 1 := by unfold ordS; split; simp; split <;> simp
theorem ordV_neg (ka na : Int) (sa : ByteArray) (kb nb : Int) (sb : ByteArray) : ordV kb nb sb ka na sa = -ordV ka na sa kb nb sb := by
  unfold ordV
  rw [ordI_neg ka kb, ordI_neg na nb, ordS_neg sa sb]
  by_cases h : ordI ka kb = 0
  · by_cases h2 : ordI na nb = 0
    · simp [h, h2]
    · have : ¬ -ordI na nb = 0 := by omega
      simp [h, h2]
  · simp [h]
theorem ordV_bd (ka na : Int) (sa : ByteArray) (kb nb : Int) (sb : ByteArray) : ordV ka na sa kb nb sb = -1 ∨ ordV ka na sa kb nb sb = 0 ∨ ordV ka na sa kb nb sb = 1 := by
  unfold ordV; split
  · split
    · exact ordS_bd _ _
    · exact ordI_bd _ _
  · exact ordI_bd _ _
theorem ordV_self (k n : Int) (s : ByteArray) : ordV k n s k n s = 0 := by have := ordV_neg k n s k n s; omega
theorem rowsF_neg : ∀ xs ys : List Val, rowsF ys xs = -rowsF xs ys
  | [], [] => rfl
  | [], _ :: _ => rfl
  | _ :: _, [] => rfl
  | x :: xs, y :: ys => by
    unfold rowsF
    have h1 : ordX y x = -ordX x y := ordV_neg _ _ _ _ _ _
    rw [h1, rowsF_neg xs ys]
    by_cases h : ordX x y = 0
    · simp [h]
    · have : ¬ -ordX x y = 0 := by omega
      rw [if_neg this, if_neg h]
theorem rowsF_bd : ∀ xs ys : List Val, rowsF xs ys = -1 ∨ rowsF xs ys = 0 ∨ rowsF xs ys = 1
  | [], [] => by unfold rowsF; simp
  | [], _ :: _ => by unfold rowsF; simp
  | _ :: _, [] => by unfold rowsF; simp
  | x :: xs, y :: ys => by
    unfold rowsF; split
    · exact rowsF_bd xs ys
    · exact ordV_bd _ _ _ _ _ _
end Go.Proofs.Ytkicipjaefmahaa
