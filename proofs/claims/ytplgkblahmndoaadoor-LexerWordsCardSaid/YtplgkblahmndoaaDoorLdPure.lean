/- The document's way of reading words: plain mathematics. -/
import Derived.Test.YtplgkblahmndoaaDoorLwAgain
namespace Go.Proofs.YtplgkblahmndoaaDoor
open Go.Lib
set_option linter.unusedVariables false

theorem decN_bad (n b0 b1 b2 b3 : Nat) (h : (decodeN n b0 b1 b2 b3).1 = 65533) : (decodeN n b0 b1 b2 b3).2 = 1 ∨ 3 ≤ (decodeN n b0 b1 b2 b3).2 := by
  revert h
  unfold decodeN
  repeat' split
  all_goals (intro h; dsimp only at h ⊢; omega)
theorem dec_bad (l : Bs) (h : (decodeL l).1 = 65533) : (decodeL l).2 = 1 ∨ 3 ≤ (decodeL l).2 := by
  rw [decodeL_N] at h ⊢
  exact decN_bad _ _ _ _ _ h
theorem quo_two (t : Bs) : quo (39 :: 39 :: t) = (quo t).map fun x => (39 :: x.1, x.2) := by
  conv => lhs; unfold quo
  rw [if_neg (by simp), if_pos rfl]
theorem quo_end {c : UInt8} (h : c ≠ 39) (t : Bs) : quo (39 :: c :: t) = some ([], c :: t) := by
  conv => lhs; unfold quo
  rw [if_neg (by simp), if_neg h]
theorem quo_last : quo [39] = some ([], []) := rfl
theorem quo_nil : quo [] = none := rfl
theorem blank_step (ws : List Wd) (b : UInt8) (t : Bs) (h : b = 32 ∨ b = 9 ∨ b = 10) : run (0, [], ws) (b :: t) = run (0, [], ws) t := run_blank _ _ _ _ h
/-- a text ahead of which nothing can be passed over -/
def AtWd (l : Bs) : Prop := match l with
  | [] => True
  | b :: t => ¬ (b = 32 ∨ b = 9 ∨ b = 10) ∧ ¬ (b = 45 ∧ t.head? = some 45)
theorem drop_get {l : Bs} {k : Nat} (h : k < l.length) : l.drop k = l.getD k 0 :: l.drop (k + 1) := by
  rw [List.drop_eq_getElem_cons h, List.getD_eq_getElem?_getD, List.getElem?_eq_getElem h]
  rfl
theorem getD_drop {l : Bs} {k : Nat} (h : k + 1 < l.length) : (l.drop (k + 1)).head? = some (l.getD (k + 1) 0) := by
  rw [drop_get h]; rfl
theorem head_past {l : Bs} {k : Nat} (h : l.length ≤ k + 1) : (l.drop (k + 1)).head? = none := by
  rw [List.drop_of_length_le h]; rfl
end Go.Proofs.YtplgkblahmndoaaDoor
