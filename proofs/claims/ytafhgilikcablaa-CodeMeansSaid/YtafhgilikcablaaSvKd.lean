/- The kind of an operation, by the program. -/
import Derived.Test.YtafhgilikcablaaSvFp
import Derived.Test.YtafhgilikcablaaEtEq
namespace Go.Proofs.Ytafhgilikcablaa
open Go.RowKit
set_option linter.unusedVariables false
set_option linter.unusedSimpArgs false
set_option maxRecDepth 100000

/-- an operation that is formed: its kind, its word, how many parts -/
def OpOk (k : Int) (s : ByteArray) (n : Nat) : Prop :=
  (k = 3 ∧ n = 1 ∧ (s.toList = [78, 79, 84] ∨ s.toList = [45])) ∨ (k = 4 ∧ n = 2 ∧ (s.toList = [79, 82] ∨ s.toList = [65, 78, 68] ∨ s.toList = [61] ∨ s.toList = [60, 62] ∨ s.toList = [60] ∨ s.toList = [60, 61] ∨ s.toList = [62] ∨ s.toList = [62, 61] ∨ s.toList = [43] ∨ s.toList = [45] ∨ s.toList = [42])) ∨ (k = 5 ∧ n = 1 ∧ (s.toList = [73, 83, 32, 78, 85, 76, 76] ∨ s.toList = [73, 83, 32, 78, 79, 84, 32, 78, 85, 76, 76])) ∨ (k = 6 ∧ n = 1 ∧ (s.toList = [67, 79, 85, 78, 84] ∨ s.toList = [83, 85, 77] ∨ s.toList = [77, 73, 78] ∨ s.toList = [77, 65, 88])) ∨ (k = 6 ∧ n = 0 ∧ s.toList = [67, 79, 85, 78, 84])
theorem len2 {α : Type} {l : List α} (h : l.length = 2) : ∃ a b, l = [a, b] := by
  match l, h with
  | [a, b], _ => exact ⟨a, b, rfl⟩
theorem shD_ok {nm : ByteArray → Bool} {fm : Int → Int → ByteArray → Bool} {e : ET} (h : shD nm fm e = true) (h1 : e.kind ≠ 1) (h2 : e.kind ≠ 2) : OpOk e.kind e.op e.parts.length := by
  have t1 : (⟨#[78, 79, 84]⟩ : ByteArray).toList = [78, 79, 84] := by decide +kernel
  have t2 : (⟨#[45]⟩ : ByteArray).toList = [45] := by decide +kernel
  have t3 : (⟨#[79, 82]⟩ : ByteArray).toList = [79, 82] := by decide +kernel
  have t4 : (⟨#[65, 78, 68]⟩ : ByteArray).toList = [65, 78, 68] := by decide +kernel
  have t5 : (⟨#[61]⟩ : ByteArray).toList = [61] := by decide +kernel
  have t6 : (⟨#[60, 62]⟩ : ByteArray).toList = [60, 62] := by decide +kernel
  have t7 : (⟨#[60]⟩ : ByteArray).toList = [60] := by decide +kernel
  have t8 : (⟨#[60, 61]⟩ : ByteArray).toList = [60, 61] := by decide +kernel
  have t9 : (⟨#[62]⟩ : ByteArray).toList = [62] := by decide +kernel
  have t10 : (⟨#[62, 61]⟩ : ByteArray).toList = [62, 61] := by decide +kernel
  have t11 : (⟨#[43]⟩ : ByteArray).toList = [43] := by decide +kernel
  have t12 : (⟨#[42]⟩ : ByteArray).toList = [42] := by decide +kernel
  have t13 : (⟨#[73, 83, 32, 78, 85, 76, 76]⟩ : ByteArray).toList = [73, 83, 32, 78, 85, 76, 76] := by decide +kernel
  have t14 : (⟨#[73, 83, 32, 78, 79, 84, 32, 78, 85, 76, 76]⟩ : ByteArray).toList = [73, 83, 32, 78, 79, 84, 32, 78, 85, 76, 76] := by decide +kernel
  have t15 : (⟨#[67, 79, 85, 78, 84]⟩ : ByteArray).toList = [67, 79, 85, 78, 84] := by decide +kernel
  have t16 : (⟨#[83, 85, 77]⟩ : ByteArray).toList = [83, 85, 77] := by decide +kernel
  have t17 : (⟨#[77, 73, 78]⟩ : ByteArray).toList = [77, 73, 78] := by decide +kernel
  have t18 : (⟨#[77, 65, 88]⟩ : ByteArray).toList = [77, 65, 88] := by decide +kernel
  unfold shD at h
  rw [if_neg h1, if_neg h2] at h
  unfold OpOk
  by_cases h3 : e.kind = 3
  · rw [if_pos h3] at h
    simp only [inB_is, List.any_cons, List.any_nil, t1, t2, t3, t4, t5, t6, t7, t8, t9, t10, t11, t12, t13, t14, t15, t16, t17, t18, Bool.and_eq_true, Bool.or_eq_true, decide_eq_true_eq] at h
    exact .inl ⟨h3, by simp at h; grind, by simp at h; grind⟩
  by_cases h4 : e.kind = 4
  · rw [if_neg h3, if_pos h4] at h
    simp only [inB_is, List.any_cons, List.any_nil, t1, t2, t3, t4, t5, t6, t7, t8, t9, t10, t11, t12, t13, t14, t15, t16, t17, t18, Bool.and_eq_true, Bool.or_eq_true, decide_eq_true_eq] at h
    exact .inr (.inl ⟨h4, by simp at h; grind, by simp at h; grind⟩)
  by_cases h5 : e.kind = 5
  · rw [if_neg h3, if_neg h4, if_pos h5] at h
    simp only [inB_is, List.any_cons, List.any_nil, t1, t2, t3, t4, t5, t6, t7, t8, t9, t10, t11, t12, t13, t14, t15, t16, t17, t18, Bool.and_eq_true, Bool.or_eq_true, decide_eq_true_eq] at h
    exact .inr (.inr (.inl ⟨h5, by simp at h; grind, by simp at h; grind⟩))
  by_cases h6 : e.kind = 6
  · rw [if_neg h3, if_neg h4, if_neg h5, if_pos h6] at h
    simp only [inB_is, List.any_cons, List.any_nil, t1, t2, t3, t4, t5, t6, t7, t8, t9, t10, t11, t12, t13, t14, t15, t16, t17, t18, Bool.and_eq_true, Bool.or_eq_true, decide_eq_true_eq] at h
    obtain ⟨⟨_, hi⟩, hc | ⟨hc, hd⟩⟩ := h
    · exact .inr (.inr (.inr (.inl ⟨h6, hc, by simp at hi; grind⟩)))
    · exact .inr (.inr (.inr (.inr ⟨h6, hc, hd⟩)))
  rw [if_neg h3, if_neg h4, if_neg h5, if_neg h6] at h
  cases h
theorem fits14_any (w : World) (k : Int) (op : ByteArray) (vk vn : Int) (vs tab col : ByteArray) (pa : Option Addr) (pn pc : Nat) (ka : Option Addr) (kc : Nat) (ks : List Int) (hk : IntsAt w ka ks) (hok : OpOk k op ks.length) :
    Calls Try.prog 98 #[.agg #[.int .i64 k, .string op, .int .i64 vk, .int .i64 vn, .string vs, .string tab, .string col, .slice pa pn pc], .slice ka ks.length kc] w (FitPost w (fitD k op ks)) := by
  rcases hok with ⟨rfl, hn, hL⟩ | ⟨rfl, hn, hL⟩ | ⟨rfl, hn, hL⟩ | ⟨rfl, hn, hL⟩ | ⟨rfl, hn, hL⟩
  · obtain ⟨a, rfl⟩ := List.length_eq_one_iff.1 hn
    rcases hL with hL | hL
    · (have h := fits14_3n w op vk vn vs tab col pa pn pc ka kc a hk (by rw [hL]; decide); have he : fitD 3 op [a] = _ := (by simp only [fitD, reckB, hL, List.getD_cons_zero, List.getD_cons_succ, List.length_cons, List.length_nil] <;> rfl); rw [he]; exact h)
    · (have h := fits14_3m w op vk vn vs tab col pa pn pc ka kc a hk (by rw [hL]; decide); have he : fitD 3 op [a] = _ := (by simp only [fitD, reckB, hL, List.getD_cons_zero, List.getD_cons_succ, List.length_cons, List.length_nil] <;> rfl); rw [he]; exact h)
  · obtain ⟨a, b, rfl⟩ := len2 hn
    rcases hL with hL | hL | hL | hL | hL | hL | hL | hL | hL | hL | hL
    · (have h := fits14_4o w op vk vn vs tab col pa pn pc ka kc a b hk (by unfold reckB; rw [hL]; decide) (by rw [hL]; decide) (by rw [hL]; decide); have he : fitD 4 op [a, b] = _ := (by simp only [fitD, reckB, hL, List.getD_cons_zero, List.getD_cons_succ, List.length_cons, List.length_nil] <;> rfl); rw [he]; exact h)
    · (have h := fits14_4a w op vk vn vs tab col pa pn pc ka kc a b hk (by unfold reckB; rw [hL]; decide) (by rw [hL]; decide); have he : fitD 4 op [a, b] = _ := (by simp only [fitD, reckB, hL, List.getD_cons_zero, List.getD_cons_succ, List.length_cons, List.length_nil] <;> rfl); rw [he]; exact h)
    · (have h := fits14_4c w op vk vn vs tab col pa pn pc ka kc a b hk (by unfold reckB; rw [hL]; decide) (by rw [hL]; decide) (by rw [hL]; decide); have he : fitD 4 op [a, b] = _ := (by simp only [fitD, reckB, hL, List.getD_cons_zero, List.getD_cons_succ, List.length_cons, List.length_nil] <;> rfl); rw [he]; exact h)
    · (have h := fits14_4c w op vk vn vs tab col pa pn pc ka kc a b hk (by unfold reckB; rw [hL]; decide) (by rw [hL]; decide) (by rw [hL]; decide); have he : fitD 4 op [a, b] = _ := (by simp only [fitD, reckB, hL, List.getD_cons_zero, List.getD_cons_succ, List.length_cons, List.length_nil] <;> rfl); rw [he]; exact h)
    · (have h := fits14_4c w op vk vn vs tab col pa pn pc ka kc a b hk (by unfold reckB; rw [hL]; decide) (by rw [hL]; decide) (by rw [hL]; decide); have he : fitD 4 op [a, b] = _ := (by simp only [fitD, reckB, hL, List.getD_cons_zero, List.getD_cons_succ, List.length_cons, List.length_nil] <;> rfl); rw [he]; exact h)
    · (have h := fits14_4c w op vk vn vs tab col pa pn pc ka kc a b hk (by unfold reckB; rw [hL]; decide) (by rw [hL]; decide) (by rw [hL]; decide); have he : fitD 4 op [a, b] = _ := (by simp only [fitD, reckB, hL, List.getD_cons_zero, List.getD_cons_succ, List.length_cons, List.length_nil] <;> rfl); rw [he]; exact h)
    · (have h := fits14_4c w op vk vn vs tab col pa pn pc ka kc a b hk (by unfold reckB; rw [hL]; decide) (by rw [hL]; decide) (by rw [hL]; decide); have he : fitD 4 op [a, b] = _ := (by simp only [fitD, reckB, hL, List.getD_cons_zero, List.getD_cons_succ, List.length_cons, List.length_nil] <;> rfl); rw [he]; exact h)
    · (have h := fits14_4c w op vk vn vs tab col pa pn pc ka kc a b hk (by unfold reckB; rw [hL]; decide) (by rw [hL]; decide) (by rw [hL]; decide); have he : fitD 4 op [a, b] = _ := (by simp only [fitD, reckB, hL, List.getD_cons_zero, List.getD_cons_succ, List.length_cons, List.length_nil] <;> rfl); rw [he]; exact h)
    · (have h := fits14_4r w op vk vn vs tab col pa pn pc ka kc a b hk (by unfold reckB; rw [hL]; decide); have he : fitD 4 op [a, b] = _ := (by simp only [fitD, reckB, hL, List.getD_cons_zero, List.getD_cons_succ, List.length_cons, List.length_nil] <;> rfl); rw [he]; exact h)
    · (have h := fits14_4r w op vk vn vs tab col pa pn pc ka kc a b hk (by unfold reckB; rw [hL]; decide); have he : fitD 4 op [a, b] = _ := (by simp only [fitD, reckB, hL, List.getD_cons_zero, List.getD_cons_succ, List.length_cons, List.length_nil] <;> rfl); rw [he]; exact h)
    · (have h := fits14_4r w op vk vn vs tab col pa pn pc ka kc a b hk (by unfold reckB; rw [hL]; decide); have he : fitD 4 op [a, b] = _ := (by simp only [fitD, reckB, hL, List.getD_cons_zero, List.getD_cons_succ, List.length_cons, List.length_nil] <;> rfl); rw [he]; exact h)
  · obtain ⟨a, rfl⟩ := List.length_eq_one_iff.1 hn
    rcases hL with hL | hL
    · (have h := fits14_5 w op vk vn vs tab col pa pn pc ka kc a hk ; have he : fitD 5 op [a] = _ := (by simp only [fitD, reckB, hL, List.getD_cons_zero, List.getD_cons_succ, List.length_cons, List.length_nil] <;> rfl); rw [he]; exact h)
    · (have h := fits14_5 w op vk vn vs tab col pa pn pc ka kc a hk ; have he : fitD 5 op [a] = _ := (by simp only [fitD, reckB, hL, List.getD_cons_zero, List.getD_cons_succ, List.length_cons, List.length_nil] <;> rfl); rw [he]; exact h)
  · obtain ⟨a, rfl⟩ := List.length_eq_one_iff.1 hn
    rcases hL with hL | hL | hL | hL
    · (have h := fits14_6c w op vk vn vs tab col pa pn pc ka kc a hk (by rw [hL]; decide); have he : fitD 6 op [a] = _ := (by simp only [fitD, reckB, hL, List.getD_cons_zero, List.getD_cons_succ, List.length_cons, List.length_nil] <;> rfl); rw [he]; exact h)
    · (have h := fits14_6s w op vk vn vs tab col pa pn pc ka kc a hk (by rw [hL]; decide) (by rw [hL]; decide); have he : fitD 6 op [a] = _ := (by simp only [fitD, reckB, hL, List.getD_cons_zero, List.getD_cons_succ, List.length_cons, List.length_nil] <;> rfl); rw [he]; exact h)
    · (have h := fits14_6m w op vk vn vs tab col pa pn pc ka kc a hk (by rw [hL]; decide) (by rw [hL]; decide); have he : fitD 6 op [a] = _ := (by simp only [fitD, reckB, hL, List.getD_cons_zero, List.getD_cons_succ, List.length_cons, List.length_nil] <;> rfl); rw [he]; exact h)
    · (have h := fits14_6m w op vk vn vs tab col pa pn pc ka kc a hk (by rw [hL]; decide) (by rw [hL]; decide); have he : fitD 6 op [a] = _ := (by simp only [fitD, reckB, hL, List.getD_cons_zero, List.getD_cons_succ, List.length_cons, List.length_nil] <;> rfl); rw [he]; exact h)
  · obtain rfl := List.eq_nil_of_length_eq_zero hn
    (have h := fits14_60 w op vk vn vs tab col pa pn pc ka kc hk ; have he : fitD 6 op [] = _ := (by simp only [fitD, reckB, hL, List.getD_cons_zero, List.getD_cons_succ, List.length_cons, List.length_nil] <;> rfl); rw [he]; exact h)
end Go.Proofs.Ytafhgilikcablaa
namespace Go.Proofs.Ytafhgilikcablaa
open Go.RowKit
set_option linter.unusedVariables false
set_option linter.unusedSimpArgs false
set_option maxRecDepth 100000
end Go.Proofs.Ytafhgilikcablaa
