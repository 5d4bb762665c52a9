/- Plain lemmas: the order of texts, as lists of numbers; what is behind a key. No program. -/
import Derived.Test.YtplgkblahmndoaaBase
namespace Go.Proofs.Ytplgkblahmndoaa
open Go.RowKit
set_option linter.unusedVariables false

/-- one text below another -/
def lessI : List Int → List Int → Bool
  | _, [] => false
  | [], _ :: _ => true
  | x :: xs, y :: ys => if x < y then true else if y < x then false else lessI xs ys
theorem less_ofNums : ∀ (xs ys : List Int), (∀ z ∈ xs, 0 ≤ z ∧ z ≤ 255) → (∀ z ∈ ys, 0 ≤ z ∧ z ≤ 255) → Op.bytesLess (xs.map fun n => UInt8.ofNat n.toNat) (ys.map fun n => UInt8.ofNat n.toNat) = lessI xs ys
  | [], [], _, _ => rfl
  | [], _ :: _, _, _ => rfl
  | _ :: _, [], _, _ => rfl
  | x :: xs, y :: ys, hx, hy => by
    have ih := less_ofNums xs ys (fun z hz => hx z (by simp [hz])) (fun z hz => hy z (by simp [hz]))
    have bx := hx x (by simp)
    have by_ := hy y (by simp)
    obtain ⟨a, rfl⟩ := Int.eq_ofNat_of_zero_le bx.1
    obtain ⟨b, rfl⟩ := Int.eq_ofNat_of_zero_le by_.1
    have ha : a < 256 := by omega
    have hb : b < 256 := by omega
    have e1 : (UInt8.ofNat a < UInt8.ofNat b) = (a < b) := by
      rw [UInt8.lt_iff_toNat_lt, UInt8.toNat_ofNat', UInt8.toNat_ofNat', Nat.mod_eq_of_lt ha, Nat.mod_eq_of_lt hb]
    have e2 : (UInt8.ofNat a == UInt8.ofNat b) = decide (a = b) := by
      rw [Bool.eq_iff_iff, beq_iff_eq, decide_eq_true_iff]
      refine ⟨fun h => ?_, fun h => by rw [h]⟩
      have := congrArg UInt8.toNat h
      rwa [UInt8.toNat_ofNat', UInt8.toNat_ofNat', Nat.mod_eq_of_lt ha, Nat.mod_eq_of_lt hb] at this
    simp only [List.map_cons, Op.bytesLess, lessI, Int.toNat_natCast, ih, e1, e2]
    by_cases h1 : a < b
    · have : (a : Int) < (b : Int) := by omega
      simp [h1]
    · by_cases h2 : b < a
      · have h3 : ¬ (a = b) := by omega
        simp [h1, h2, h3]
      · have h3 : a = b := by omega
        simp [h3]
theorem less_str (xs ys : List Int) (hx : ∀ z ∈ xs, 0 ≤ z ∧ z ≤ 255) (hy : ∀ z ∈ ys, 0 ≤ z ∧ z ≤ 255) : Op.bytesLess (strOfNums xs).toList (strOfNums ys).toList = lessI xs ys := by
  rw [ByteArray.toList_eq, ByteArray.toList_eq, strOfNums_data, strOfNums_data]
  exact less_ofNums xs ys hx hy
theorem eq_str (xs ys : List Int) (hx : ∀ z ∈ xs, 0 ≤ z ∧ z ≤ 255) (hy : ∀ z ∈ ys, 0 ≤ z ∧ z ≤ 255) : ((strOfNums xs).toList == (strOfNums ys).toList) = decide (xs = ys) := by
  rw [Bool.eq_iff_iff, beq_iff_eq, decide_eq_true_iff]
  exact ⟨fun h => strOfNums_inj hx hy h, fun h => by rw [h]⟩
theorem lessI_self (l : List Int) : lessI l l = false := by induction l with | nil => rfl | cons x l ih => simp [lessI, ih]
theorem lessI_pre (p a b : List Int) : lessI (p ++ a) (p ++ b) = lessI a b := by induction p with | nil => rfl | cons x l ih => simp [lessI, ih]

/-- what ends with a greater byte is above -/
theorem above (p rest : List Int) (x : Int) : lessI (p ++ [x + 1]) (p ++ x :: rest) = false := by
  rw [lessI_pre]
  simp [lessI]; omega
theorem above_ne (p rest : List Int) (x : Int) : p ++ [x + 1] ≠ p ++ x :: rest := by
  intro h
  have := List.append_cancel_left h
  simp at this
  omega
theorem full (m : Nat) : ∀ o : List Int, (∀ z ∈ o, z ≤ 255) → lessI o (List.replicate m 255) = false → o.take m = List.replicate m 255 ∧ m ≤ o.length := by
  induction m with
  | zero => intro o _ _; simp
  | succ m ih =>
    intro o hb h
    cases o with
    | nil => simp [List.replicate, lessI] at h
    | cons y o =>
      have hy := hb y (by simp)
      simp only [List.replicate, lessI] at h
      by_cases h1 : y < 255
      · rw [if_pos h1] at h; cases h
      · rw [if_neg h1, if_neg (by omega)] at h
        obtain ⟨a, b⟩ := ih o (fun z hz => hb z (by simp [hz])) h
        obtain rfl : y = 255 := by omega
        simp [a, b, List.replicate]
theorem between : ∀ (p : List Int) (x : Int) (m : Nat) (o : List Int), (∀ z ∈ o, z ≤ 255) → lessI o (p ++ x :: List.replicate m 255) = false → lessI o (p ++ [x + 1]) = true →
    o.take (p ++ x :: List.replicate m 255).length = p ++ x :: List.replicate m 255 ∧ (p ++ x :: List.replicate m 255).length ≤ o.length
  | [], x, m, [], _, h, _ => by simp [lessI] at h
  | [], x, m, y :: o, hb, h, h2 => by
    simp only [List.nil_append, lessI] at h h2
    by_cases h1 : y < x
    · rw [if_pos h1] at h; cases h
    · rw [if_neg h1] at h
      by_cases h3 : y < x + 1
      · rw [if_neg (by omega)] at h
        obtain ⟨a, b⟩ := full m o (fun z hz => hb z (by simp [hz])) h
        obtain rfl : y = x := by omega
        simp [a, b]
      · rw [if_neg h3] at h2
        split at h2
        · cases h2
        · cases o <;> simp [lessI] at h2
  | c :: p, x, m, [], _, h, _ => by simp [lessI] at h
  | c :: p, x, m, y :: o, hb, h, h2 => by
    simp only [List.cons_append, lessI] at h h2
    by_cases h1 : y < c
    · rw [if_pos h1] at h; cases h
    · rw [if_neg h1] at h h2
      by_cases h3 : c < y
      · rw [if_pos h3] at h2; cases h2
      · rw [if_neg h3] at h h2
        obtain ⟨a, b⟩ := between p x m o (fun z hz => hb z (by simp [hz])) h h2
        obtain rfl : y = c := by omega
        simp only [List.length_append, List.length_cons, List.length_replicate, List.cons_append] at a b ⊢
        rw [List.take_succ_cons, a]
        exact ⟨rfl, by omega⟩
end Go.Proofs.Ytplgkblahmndoaa
