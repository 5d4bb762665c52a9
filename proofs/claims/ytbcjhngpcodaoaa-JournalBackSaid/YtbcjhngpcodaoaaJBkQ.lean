/- What a journal that was written tells. Plain mathematics. -/
import Derived.Test.YtbcjhngpcodaoaaJBkP
namespace Go.Proofs.Ytbcjhngpcodaoaa
open Go.RowKit
set_option linter.unusedVariables false

/-- all bytes of a page alike -/
def pageB (y : Int) : List Int := List.replicate 512 y
theorem pageB_len (y : Int) : (pageB y).length = 512 := List.length_replicate
/-- the bytes of records: a number and a page's byte each -/
def recsB (s : Int) (rs : List (Int × Int)) : List Int := rs.flatMap fun x => recK s x.1 (pageB x.2)
theorem recsB_len (s : Int) (rs : List (Int × Int)) : (recsB s rs).length = 576 * rs.length := by
  induction rs with
  | nil => rfl
  | cons x l ih =>
    have e : recsB s (x :: l) = recK s x.1 (pageB x.2) ++ recsB s l := by simp [recsB]
    rw [e, List.length_append, ih, recK_length _ _ (pageB_len _), List.length_cons]; omega
theorem recsB_at (s : Int) : ∀ (rs : List (Int × Int)) (tail : List Int) (i : Nat) (h : i < rs.length), ((recsB s rs ++ tail).drop (576 * i)).take 576 = recK s (rs.getD i (0, 0)).1 (pageB (rs.getD i (0, 0)).2)
  | [], _, i, h => absurd h (Nat.not_lt_zero _)
  | x :: l, tail, 0, h => by
    have e : recsB s (x :: l) = recK s x.1 (pageB x.2) ++ recsB s l := by simp [recsB]
    rw [e, List.append_assoc, Nat.mul_zero, List.drop_zero, take_app (recK_length _ _ (pageB_len _)).symm]
    rfl
  | x :: l, tail, i + 1, h => by
    have e : recsB s (x :: l) = recK s x.1 (pageB x.2) ++ recsB s l := by simp [recsB]
    rw [e, List.append_assoc, show 576 * (i + 1) = 576 + 576 * i by omega, ← List.drop_drop, drop_app (recK_length _ _ (pageB_len _)).symm, recsB_at s l tail i (by simpa using h)]
    rfl
/-- bytes all alike are no head -/
theorem hOk_alike (t : Int) : hOk (List.replicate 64 t) = false := by
  unfold hOk
  rw [Bool.and_eq_false_iff]
  right
  rw [decide_eq_false_iff_not]
  intro h
  generalize hS (List.replicate 64 t) = s at h
  generalize hP (List.replicate 64 t) = p at h
  generalize hR (List.replicate 64 t) = r at h
  have h0 : (headK s p r).getD 0 0 = t := by rw [h]; rfl
  have h1 : (headK s p r).getD 63 0 = t := by rw [h]; rfl
  have e0 : (headK s p r).getD 0 0 = 119 := by rw [headK_parts]; rfl
  have e1 : (headK s p r).getD 63 0 = 0 := by
    have hl : (headB s p r ++ beN (sm 2166136261 (headB s p r)) 4).length = 28 := by rw [List.length_append, headB_length, beN_length]
    unfold headK
    rw [List.getD_eq_getElem?_getD, List.getElem?_append_right (by omega), hl]
    rfl
  omega
/-- the best of two heads that are there -/
theorem bK_two {z : List Int} (hl : 128 ≤ z.length) : bK z 2 =
    if hOk (hAt z 1) = true ∧ (hOk (hAt z 0) = false ∨ hR (hAt z 0) < hR (hAt z 1)) then (true, hS (hAt z 1), hP (hAt z 1), hR (hAt z 1))
    else if hOk (hAt z 0) = true then (true, hS (hAt z 0), hP (hAt z 0), hR (hAt z 0)) else (false, 0, 0, 0) := by
  by_cases h0 : hOk (hAt z 0) = true
  · have e1 : bK z 1 = (true, hS (hAt z 0), hP (hAt z 0), hR (hAt z 0)) := bK_some (by omega) h0 (.inl rfl)
    by_cases h1 : hOk (hAt z 1) = true ∧ (hOk (hAt z 0) = false ∨ hR (hAt z 0) < hR (hAt z 1))
    · rw [if_pos h1]
      exact bK_some (by omega) h1.1 (by
        rcases h1.2 with h | h
        · rw [h0] at h; cases h
        · right; rw [e1]; exact h)
    · rw [if_neg h1, if_pos h0]
      by_cases h2 : hOk (hAt z 1) = true
      · rw [bK_not (by rw [e1]) (by
          rw [e1]
          show hR (hAt z 1) ≤ hR (hAt z 0)
          by_cases h : hR (hAt z 0) < hR (hAt z 1)
          · exact absurd ⟨h2, .inr h⟩ h1
          · omega), e1]
      · rw [bK_bad (by simpa using h2), e1]
  · have h0' : hOk (hAt z 0) = false := by simpa using h0
    have e1 : bK z 1 = (false, 0, 0, 0) := bK_bad h0'
    rw [if_neg h0]
    by_cases h1 : hOk (hAt z 1) = true
    · rw [if_pos ⟨h1, .inl h0'⟩]
      exact bK_some (by omega) h1 (.inl (by rw [e1]))
    · rw [if_neg (fun h => h1 h.1), bK_bad (by simpa using h1), e1]
/-- a journal of two heads, records and more behind -/
theorem told {s p : Int} {m : Nat} {x y : List Int} {rs : List (Int × Int)} {tail : List Int} (hx : x.length = 64) (hy : y.length = 64) (hb : bK (x ++ (y ++ (recsB s rs ++ tail))) 2 = (true, s, p, (m : Int))) (hm : m ≤ rs.length) (hn : ∀ q ∈ rs, 0 ≤ q.1 ∧ q.1 ≤ 10000) :
    allR (x ++ (y ++ (recsB s rs ++ tail))) = true ∧ tS (x ++ (y ++ (recsB s rs ++ tail))) = s ∧ tP (x ++ (y ++ (recsB s rs ++ tail))) = p ∧ tN (x ++ (y ++ (recsB s rs ++ tail))) = (rs.take m).map (·.1) ∧ tD (x ++ (y ++ (recsB s rs ++ tail))) = (rs.take m).map fun q => pageB q.2 := by
  have hr : ∀ i, i < rs.length → rAt (x ++ (y ++ (recsB s rs ++ tail))) i = recK s (rs.getD i (0, 0)).1 (pageB (rs.getD i (0, 0)).2) := fun i hi => by
    unfold rAt
    rw [show 128 + 576 * i = 64 + (64 + 576 * i) by omega, ← List.drop_drop, drop_app hx.symm, ← List.drop_drop, drop_app hy.symm]
    exact recsB_at s rs tail i hi
  have hlen : (x ++ (y ++ (recsB s rs ++ tail))).length = 128 + 576 * rs.length + tail.length := by
    rw [List.length_append, List.length_append, List.length_append, recsB_len, hx, hy]; omega
  have hmem : ∀ i, i < rs.length → 0 ≤ (rs.getD i (0, 0)).1 ∧ (rs.getD i (0, 0)).1 ≤ 10000 := fun i hi => by
    rw [List.getD_eq_getElem?_getD, List.getElem?_eq_getElem hi]
    exact hn _ (List.getElem_mem hi)
  generalize hz : x ++ (y ++ (recsB s rs ++ tail)) = z at *
  have ha : allR z = true := allR_yes (by rw [hb]) m (by rw [hb]) (fun i hi => by
    rw [hb]
    unfold goodR
    rw [decide_eq_true (by omega), hr i (by omega), recK_ok s _ (hmem i (by omega)) (pageB_len _)]
    rfl)
  have ht : (bK z 2).2.2.2.toNat = m := by rw [hb]; simp
  refine ⟨ha, ?_, ?_, ?_, ?_⟩
  · unfold tS; rw [ha, hb]; rfl
  · unfold tP; rw [ha, hb]; rfl
  · unfold tN
    rw [ha, ht]
    simp only [if_true]
    unfold nsK
    apply List.ext_getElem
    · simp; omega
    · intro i h1 h2
      have hi : i < m := by simpa using h1
      simp only [List.getElem_map, List.getElem_range, List.getElem_take]
      rw [hr i (by omega), recK_N s _ _ (hmem i (by omega)).1 (by have := (hmem i (by omega)).2; omega), List.getD_eq_getElem?_getD, List.getElem?_eq_getElem (by omega)]
      rfl
  · unfold tD
    rw [ha, ht]
    simp only [if_true]
    unfold dsK
    apply List.ext_getElem
    · simp; omega
    · intro i h1 h2
      have hi : i < m := by simpa using h1
      simp only [List.getElem_map, List.getElem_range, List.getElem_take]
      rw [hr i (by omega), recK_D s _ (pageB_len _), List.getD_eq_getElem?_getD, List.getElem?_eq_getElem (by omega)]
      rfl
end Go.Proofs.Ytbcjhngpcodaoaa
