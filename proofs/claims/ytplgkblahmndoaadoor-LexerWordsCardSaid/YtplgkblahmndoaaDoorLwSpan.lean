/- Names, numbers and texts as they are written. Plain mathematics. -/
import Derived.Test.YtplgkblahmndoaaDoorLwWord
import Derived.Lib.Replace
import Derived.Lib.CountLaws
namespace Go.Proofs.YtplgkblahmndoaaDoor
open Go.Lib
set_option linter.unusedVariables false

theorem idx_cons (a b : UInt8) (t : Bs) (h : ¬ (a = 39 ∧ b = 39)) : index (a :: b :: t) [39, 39] = if index (b :: t) [39, 39] == -1 then -1 else index (b :: t) [39, 39] + 1 := by
  conv => lhs; unfold index
  rw [if_neg]
  intro e
  simp only [List.isPrefixOf, Bool.and_eq_true, beq_iff_eq, Bool.and_true] at e
  exact h ⟨e.1.symm, e.2.symm⟩
theorem rep_unq : ∀ (n : Nat) (l : Bs), l.length ≤ n → replaceK [39, 39] [39] (count l [39, 39]) l = unq l
  | n, [], _ => by
    rw [count_miss rfl]; rfl
  | n, [a], _ => by
    rw [count_miss (by simp [index, List.isPrefixOf])]
    rfl
  | 0, a :: b :: t, h => by simp at h
  | n + 1, a :: b :: t, h => by
    by_cases hab : a = 39 ∧ b = 39
    · obtain ⟨rfl, rfl⟩ := hab
      have hi : index (39 :: 39 :: t) [39, 39] = ((0 : Nat) : Int) := by
        unfold index
        rw [if_pos (by simp [List.isPrefixOf])]
        rfl
      have hc := count_hit (by simp) hi
      rw [hc, Nat.add_comm, replaceK_hit _ _ _ _ _ hi]
      have ih := rep_unq n t (by simp at h; omega)
      simp only [List.take_zero, List.nil_append, Nat.zero_add, List.length_cons, List.length_nil, Nat.reduceAdd, List.drop_succ_cons, List.drop_zero] at ih ⊢
      rw [ih]
      simp [unq]
    · have hc := idx_cons a b t hab
      have ih := rep_unq n (b :: t) (by simp at h ⊢; omega)
      have hu : unq (a :: b :: t) = a :: unq (b :: t) := by
        conv => lhs; unfold unq
        rw [if_neg hab]
      rw [hu, ← ih]
      have hge := index_ge (b :: t) [39, 39]
      by_cases hm : index (b :: t) [39, 39] = -1
      · rw [hm] at hc
        rw [count_miss hc, count_miss hm]
        rfl
      · obtain ⟨i, hi⟩ : ∃ i : Nat, index (b :: t) [39, 39] = i := ⟨(index (b :: t) [39, 39]).toNat, by omega⟩
        have hi1 : index (a :: b :: t) [39, 39] = ((i + 1 : Nat) : Int) := by
          rw [hc, if_neg (by simpa using hm), hi]
          omega
        have c1 := count_hit (by simp) hi1
        have c2 := count_hit (by simp) hi
        rw [c1, c2, Nat.add_comm, Nat.add_comm 1, replaceK_hit _ _ _ _ _ hi1, replaceK_hit _ _ _ _ _ hi]
        simp only [List.take_succ_cons, List.cons_append]
        rw [show i + 1 + ([39, 39] : Bs).length = (i + ([39, 39] : Bs).length) + 1 by omega, List.drop_succ_cons]
theorem repAll (l : Bs) : replaceAll l [39, 39] [39] = unq l := by
  unfold replaceAll replace
  rw [if_neg (by decide)]
  unfold replaceNum
  rw [if_pos (.inl (by decide))]
  exact rep_unq _ l (Nat.le_refl _)
theorem unq_len : ∀ (n : Nat) (l : Bs), l.length ≤ n → (unq l).length ≤ l.length
  | n, [], _ => by simp [unq]
  | n, [a], _ => by simp [unq]
  | 0, a :: b :: t, h => by simp at h
  | n + 1, a :: b :: t, h => by
    unfold unq
    split
    · have := unq_len n t (by simp at h; omega)
      simp only [List.length_cons]; omega
    · have := unq_len n (b :: t) (by simp at h ⊢; omega)
      simp only [List.length_cons] at this ⊢; omega

/-- a letter or digit that a text begins with is there whatever stands behind it -/
theorem decN_greek (n b0 b1 b2 b3 : Nat) (h0 : 128 ≤ b0) (h : 945 ≤ (decodeN n b0 b1 b2 b3).1 ∧ (decodeN n b0 b1 b2 b3).1 ≤ 969) : (decodeN n b0 b1 b2 b3).2 = 2 ∧ 1 < n ∧ ∀ n' b2' b3', 1 < n' → decodeN n' b0 b1 b2' b3' = decodeN n b0 b1 b2 b3 := by
  by_cases c1 : b0 / 32 = 6 ∧ (1 < n ∧ b1 / 64 = 2)
  · by_cases c2 : b0 % 32 * 64 + b1 % 64 ≥ 128
    · have e : ∀ n' b2' b3', 1 < n' → decodeN n' b0 b1 b2' b3' = (b0 % 32 * 64 + b1 % 64, 2) := fun n' b2' b3' hn => by
        unfold decodeN
        rw [if_neg (by omega), if_pos ⟨c1.1, hn, c1.2.2⟩, if_pos c2]
      rw [e n b2 b3 c1.2.1]
      exact ⟨rfl, c1.2.1, fun n' b2' b3' hn => e n' b2' b3' hn⟩
    · exfalso
      unfold decodeN at h
      rw [if_neg (by omega), if_pos c1, if_neg c2] at h
      simp only at h
      omega
  · exfalso
    unfold decodeN at h
    rw [if_neg (by omega), if_neg c1] at h
    revert h
    repeat' split
    all_goals (simp only; omega)
theorem nd_chunk (b : UInt8) (t t' : Bs) (h : ndL (decodeL (b :: t)).1 = true) : decodeL ((b :: t).take (decodeL (b :: t)).2 ++ t') = decodeL (b :: t) := by
  by_cases hb : b.toNat < 128
  · rw [dec_low b t hb, List.take_succ_cons, List.take_zero, List.cons_append, dec_low b _ hb]
  · have hh := dec_high b t (by omega)
    have hl : letL (decodeL (b :: t)).1 = true := by
      unfold ndL at h
      rw [Bool.or_eq_true] at h
      rcases h with h | h
      · exact h
      · have := dig_low h; omega
    have hg := let_high hh.1 hl
    rw [decodeL_N] at hg
    simp only [List.getD_cons_zero] at hg
    obtain ⟨h1, h2, h3⟩ := decN_greek _ _ _ _ _ (by omega) hg
    have e : decodeL (b :: t) = decodeN (b :: t).length b.toNat ((b :: t).getD 1 0).toNat ((b :: t).getD 2 0).toNat ((b :: t).getD 3 0).toNat := by rw [decodeL_N]; simp only [List.getD_cons_zero]
    match t, h2 with
    | [], h2 => simp at h2
    | c :: t, h2 =>
      rw [e, h1, decodeL_N]
      simp only [List.take_succ_cons, List.take_zero, List.cons_append, List.nil_append, List.getD_cons_zero, List.getD_cons_succ] at h3 ⊢
      exact h3 _ _ _ (by simp)
theorem dec_list (s : ByteArray) (pos : Nat) : Utf8.decode s pos = decodeL (s.data.toList.drop pos) := (decodeL_drop s pos).symm
/-- letters and digits, the first one a letter, are a name as long as it may be -/
theorem okFrom_span : ∀ (n : Nat) (l p : Bs) (b : Nat), l.length ≤ n → (p ≠ [] ∨ letL (decodeL l).1 = true ∨ l = []) → okFrom ⟨(p ++ (span l).1).toArray⟩ b p.length = true
  | n, [], p, b, _, _ => by
    rw [span_nil]
    exact okFrom_end _ _ _ (by simp [ByteArray.size])
  | 0, c :: t, p, b, h, _ => by simp at h
  | n + 1, c :: t, p, b, h, hp => by
    have hw := dec_wd (c :: t) (by simp)
    cases hn : ndL (decodeL (c :: t)).1 with
    | false =>
      rw [span_no hn]
      exact okFrom_end _ _ _ (by simp [ByteArray.size])
    | true =>
      rw [span_yes (by simp) hn]
      simp only
      cases b with
      | zero => rfl
      | succ b =>
        have hdec : Utf8.decode ⟨(p ++ ((c :: t).take (decodeL (c :: t)).2 ++ (span ((c :: t).drop (decodeL (c :: t)).2)).1)).toArray⟩ p.length = decodeL (c :: t) := by
          rw [dec_list]
          simp only [List.drop_left]
          exact nd_chunk c t _ hn
        rw [okFrom_good (by simp [ByteArray.size]; omega) (by
          rw [hdec]
          unfold ndL at hn
          rw [Bool.or_eq_true] at hn
          rcases hn with hn | hn
          · exact .inl hn
          · refine .inr ⟨fun e => ?_, hn⟩
            rcases hp with hp | hp | hp
            · exact hp (List.eq_nil_of_length_eq_zero e)
            · rw [let_dig hn] at hp; cases hp
            · cases hp), hdec]
        have hpl : (p ++ (c :: t).take (decodeL (c :: t)).2).length = p.length + (decodeL (c :: t)).2 := by rw [List.length_append, List.length_take]; omega
        have ih := okFrom_span n ((c :: t).drop (decodeL (c :: t)).2) (p ++ (c :: t).take (decodeL (c :: t)).2) b (by rw [List.length_drop]; simp at h ⊢; omega) (.inl (fun e => by rw [e] at hpl; simp at hpl; omega))
        rw [hpl, List.append_assoc] at ih
        exact ih
theorem okAll_span {l : Bs} (h : letL (decodeL l).1 = true) : okAll ⟨(span l).1.toArray⟩ = true := okFrom_span l.length l [] _ (Nat.le_refl _) (.inr (.inl h))
theorem span_pos {l : Bs} (hl : l ≠ []) (h : ndL (decodeL l).1 = true) : (span l).1 ≠ [] := by
  have hw := dec_wd l hl
  rw [span_yes hl h]
  intro e
  have := congrArg List.length e
  simp only [List.length_append, List.length_take, List.length_nil] at this
  omega

/-- digits -/
theorem decV_snoc (l : Bs) (b : UInt8) : decV (l ++ [b]) = 10 * decV l + (b.toNat - 48) := by
  unfold decV
  rw [List.foldl_append]
  rfl
theorem allD_byte {b : UInt8} (h : digL b.toNat = true) : 48 ≤ b.toNat ∧ b.toNat ≤ 57 := dig_low h
theorem decA (l : Bs) : ∀ (acc : Nat), l.foldl (fun n b => 10 * n + (b.toNat - 48)) acc = acc * 10 ^ l.length + decV l := by
  induction l with
  | nil => intro acc; simp [decV]
  | cons b t ih =>
    intro acc
    have e : decV (b :: t) = t.foldl (fun n b => 10 * n + (b.toNat - 48)) (10 * 0 + (b.toNat - 48)) := rfl
    rw [e, List.foldl_cons, ih, ih, List.length_cons, Nat.pow_succ]
    have h1 : (10 * acc + (b.toNat - 48)) * 10 ^ t.length = acc * (10 ^ t.length * 10) + (b.toNat - 48) * 10 ^ t.length := by
      rw [Nat.add_mul, Nat.mul_comm 10 acc, Nat.mul_assoc, Nat.mul_comm 10 (10 ^ t.length)]
    have h2 : (10 * 0 + (b.toNat - 48)) * 10 ^ t.length = (b.toNat - 48) * 10 ^ t.length := by rw [Nat.mul_zero, Nat.zero_add]
    omega
theorem decV_cons (b : UInt8) (t : Bs) : decV (b :: t) = (b.toNat - 48) * 10 ^ t.length + decV t := by
  have e : decV (b :: t) = t.foldl (fun n b => 10 * n + (b.toNat - 48)) (10 * 0 + (b.toNat - 48)) := rfl
  rw [e, decA]
  simp
theorem decV_lt : ∀ (l : Bs), allD l = true → decV l < 10 ^ l.length
  | [], _ => by simp [decV]
  | b :: t, h => by
    unfold allD at h
    rw [List.all_cons, Bool.and_eq_true] at h
    have ih := decV_lt t h.2
    have hb := allD_byte h.1
    rw [decV_cons, List.length_cons, Nat.pow_succ]
    have : (b.toNat - 48) * 10 ^ t.length ≤ 9 * 10 ^ t.length := Nat.mul_le_mul_right _ (by omega)
    omega
/-- a number of more than 19 digits is too great, if it begins with none -/
theorem long_big {l : Bs} (h : allD l = true) (hl : 19 < l.length) (h0 : l.head? ≠ some 48) : 9223372036854775807 < decV l := by
  cases l with
  | nil => simp at hl
  | cons b t =>
    unfold allD at h
    rw [List.all_cons, Bool.and_eq_true] at h
    have hb := allD_byte h.1
    have hb0 : b.toNat ≠ 48 := fun e => h0 (by rw [show b = 48 from UInt8.toNat_inj.1 (by simpa using e)]; rfl)
    rw [decV_cons]
    have h1 : 1 * 10 ^ t.length ≤ (b.toNat - 48) * 10 ^ t.length := Nat.mul_le_mul_right _ (by omega)
    have h2 : 10 ^ 19 ≤ 10 ^ t.length := Nat.pow_le_pow_right (by decide) (by simp at hl; omega)
    have h3 : (10 : Nat) ^ 19 = 10000000000000000000 := by decide
    omega
end Go.Proofs.YtplgkblahmndoaaDoor
