/- The kind of an operation, by the program. -/
import Derived.Test.YtafhgilikcablaaSvFp
import Derived.Test.YtafhgilikcablaaEtEq
namespace Go.Proofs.Ytafhgilikcablaa
open Go.RowKit
set_option linter.unusedVariables false
set_option linter.unusedSimpArgs false
set_option maxRecDepth 100000

/-- an operation that is formed: its kind, its word, how many parts -/
def OpOk (k : Int) (s : ByteArray) (n : Nat) : Prop :=
  (k = 3 ∧ n = 1 ∧ (s.toList = [78, 79, 84] ∨ s.toList = [45])) ∨ (k = 4 ∧ n = 2 ∧ (s.toList = [79, 82] ∨ s.toList = [65, 78, 68] ∨ s.toList = [61] ∨ s.toList = [60, 62] ∨ s.toList = [60] ∨ s.toList = [60, 61] ∨ s.toList = [62] ∨ s.toList = [62, 61] ∨ s.toList = [43] ∨ s.toList = [45] ∨ s.toList = [42])) ∨ (k = 5 ∧ n = 1 ∧ (s.toList = [73, 83, 32, 78, 85, 76, 76] ∨ s.toList = [73, 83, 32, 78, 79, 84, 32, 78, 85, 76, 76])) ∨ (k = 6 ∧ n = 1 ∧ (s.toList = [67, 79, 85, 78, 84] ∨ s.toList = [83, 85, 77] ∨ s.toList = [77, 73, 78] ∨ s.toList = [77, 65, 88])) ∨ (k = 6 ∧ n = 0 ∧ s.toList = [67, 79, 85, 78, 84])
theorem len2 {α : Type} {l : List α} (h : l.length = 2) : ∃ a b, l = [a, b] := by
  match l, h with
  | [a, b], _ => exact ⟨a, b, rfl⟩
theorem shD_ok {nm : ByteArray → Bool} {fm : Int → Int → ByteArray → Bool} {e : ET} (h : shD nm fm e = true) (h1 : e.kind ≠ 1) (h2 : e.kind ≠ 2) : OpOk e.kind e.op e.parts.length := by
  have t1 : (⟨#[78, 79, 84]⟩ : ByteArray).toList = [78, 79, 84] := by decide +kernel
  have t2 : (⟨#[45]⟩ : ByteArray).toList = [45] := by decide +kernel
  have t3 : (⟨#[79, 82]⟩ : ByteArray).toList = [79, 82] := by decide +kernel
  have t4 : (⟨#[65, 78, 68]⟩ : ByteArray).toList = [65, 78, 68] := by decide +kernel
  have t5 : (⟨#[61]⟩ : ByteArray).toList = [61] := by decide +kernel
  have t6 : (⟨#[60, 62]⟩ : ByteArray).toList = [60, 62] := by decide +kernel
  have t7 : (⟨#[60]⟩ : ByteArray).toList = [60] := by decide +kernel
  have t8 : (⟨#[60, 61]⟩ : ByteArray).toList = [60, 61] := by decide +kernel
  have t9 : (⟨#[62]⟩ : ByteArray).toList = [62] := by decide +kernel
  have t10 : (⟨#[62, 61]⟩ : ByteArray).toList = [62, 61] := by decide +kernel
  have t11 : (⟨#[43]⟩ : ByteArray).toList = [43] := by decide +kernel
  have t12 : (⟨#[42]⟩ : ByteArray).toList = [42] := by decide +kernel
  have t13 : (⟨#[73, 83, 32, 78, 85, 76, 76]⟩ : ByteArray).toList = [73, 83, 32, 78, 85, 76, 76] := by decide +kernel
  have t14 : (⟨#[73, 83, 32, 78, 79, 84, 32, 78, 85, 76, 76]⟩ : ByteArray).toList = [73, 83, 32, 78, 79, 84, 32, 78, 85, 76, 76] := by decide +kernel
  have t15 : (⟨#[67, 79, 85, 78, 84]⟩ : ByteArray).toList = [67, 79, 85, 78, 84] := by decide +kernel
  have t16 : (⟨#[83, 85, 77]⟩ : ByteArray).toList = [83, 85, 77] := by decide +kernel
  have t17 : (⟨#[77, 73, 78]⟩ : ByteArray).toList = [77, 73, 78] := by decide +kernel
  have t18 : (⟨#[77, 65, 88]⟩ : ByteArray).toList = [77, 65, 88] := by decide +kernel
  unfold shD at h
  rw [if_neg h1, if_neg h2] at h
  unfold OpOk
  by_cases h3 : e.kind = 3
  · rw [if_pos h3] at h
    simp only [inB_is, List.any_cons, List.any_nil, t1, t2, t3, t4, t5, t6, t7, t8, t9, t10, t11, t12, t13, t14, t15, t16, t17, t18, Bool.and_eq_true, Bool.or_eq_true, decide_eq_true_eq] at h
    exact .inl ⟨h3, by simp at h; grind, by simp at h; grind⟩
  by_cases h4 : e.kind = 4
  · rw [if_neg h3, if_pos h4] at h
    simp only [inB_is, List.any_cons, List.any_nil, t1, t2, t3, t4, t5, t6, t7, t8, t9, t10, t11, t12, t13, t14, t15, t16, t17, t18, Bool.and_eq_true, Bool.or_eq_true, decide_eq_true_eq] at h
    exact .inr (.inl ⟨h4, by simp at h; grind, by simp at h; grind⟩)
  by_cases h5 : e.kind = 5
  · rw [if_neg h3, if_neg h4, if_pos h5] at h
    simp only [inB_is, List.any_cons, List.any_nil, t1, t2, t3, t4, t5, t6, t7, t8, t9, t10, t11, t12, t13, t14, t15, t16, t17, t18, Bool.and_eq_true, Bool.or_eq_true, decide_eq_true_eq] at h
    exact .inr (.inr (.inl ⟨h5, by simp at h; grind, by simp at h; grind⟩))
  by_cases h6 : e.kind = 6
  · rw [if_neg h3, if_neg h4, if_neg h5, if_pos h6] at h
    simp only [inB_is, List.any_cons, List.any_nil, t1, t2, t3, t4, t5, t6, t7, t8, t9, t10, t11, t12, t13, t14, t15, t16, t17, t18, Bool.and_eq_true, Bool.or_eq_true, decide_eq_true_eq] at h
    obtain ⟨⟨_, hi⟩, hc | ⟨hc, hd⟩⟩ := h
    · exact .inr (.inr (.inr (.inl ⟨h6, hc, by simp at hi; grind⟩)))
    · exact .inr (.inr (.inr (.inr ⟨h6, hc, hd⟩)))
  rw [if_neg h3, if_neg h4, if_neg h5, if_neg h6] at h
  cases h
theorem pfits_any (w : World) (k : Int) (op : ByteArray) (vk vn : Int) (vs tab col : ByteArray) (pa : Option Addr) (pn pc : Nat) (ka : Option Addr) (kc : Nat) (ks : List Int) (hk : IntsAt w ka ks) (hok : OpOk k op ks.length) :
    Calls Try.prog 134 #[.agg #[.int .i64 k, .string op, .int .i64 vk, .int .i64 vn, .string vs, .string tab, .string col, .slice pa pn pc], .slice ka ks.length kc] w fun e w' => e = .returned (.bool (fitD k op ks).2) ∧ Below w.heap.size w w' := by
  rcases hok with ⟨rfl, hn, hL⟩ | ⟨rfl, hn, hL⟩ | ⟨rfl, hn, hL⟩ | ⟨rfl, hn, hL⟩ | ⟨rfl, hn, hL⟩
  · obtain ⟨a, rfl⟩ := List.length_eq_one_iff.1 hn
    rcases hL with hL | hL
    · exact (pfits_n w 3 op vk vn vs tab col pa pn pc ka kc 1 [a] rfl (by simp) hk (by unfold reckP; rw [hL]; rfl) (.inl (by decide)) (by rw [hL]; decide)).mono fun e w' ⟨h1, h2⟩ => ⟨by rw [h1]; first | rfl | (congr 2; simp [fitD, reckB, hL, numB, notNum, notTr, eqP] <;> grind), h2⟩
    · exact (pfits_r w 3 op vk vn vs tab col pa pn pc ka kc 1 [a] rfl (by simp) hk (by unfold reckP; rw [hL]; rfl)).mono fun e w' ⟨h1, h2⟩ => ⟨by rw [h1]; first | rfl | (congr 2; simp [fitD, reckB, hL, numB, notNum, notTr, eqP] <;> grind), h2⟩
  · obtain ⟨a, b, rfl⟩ := len2 hn
    rcases hL with hL | hL | hL | hL | hL | hL | hL | hL | hL | hL | hL
    · exact (pfits_o w 4 op vk vn vs tab col pa pn pc ka kc 2 [a, b] rfl (by simp) hk (by unfold reckP; rw [hL]; rfl) (.inl (by decide)) (by rw [hL]; decide) (by rw [hL]; decide) (by rw [hL]; decide)).mono fun e w' ⟨h1, h2⟩ => ⟨by rw [h1]; first | rfl | (congr 2; simp [fitD, reckB, hL, numB, notNum, notTr, eqP] <;> grind), h2⟩
    · exact (pfits_a w 4 op vk vn vs tab col pa pn pc ka kc 2 [a, b] rfl (by simp) hk (by unfold reckP; rw [hL]; rfl) (.inl (by decide)) (by rw [hL]; decide) (by rw [hL]; decide)).mono fun e w' ⟨h1, h2⟩ => ⟨by rw [h1]; first | rfl | (congr 2; simp [fitD, reckB, hL, numB, notNum, notTr, eqP] <;> grind), h2⟩
    · exact (pfits_b w 4 op vk vn vs tab col pa pn pc ka kc 2 [a, b] rfl (by simp) hk a b rfl (by unfold reckP; rw [hL]; rfl) (by decide) (by decide) (by rw [hL]; decide) (by rw [hL]; decide) (by rw [hL]; decide)).mono fun e w' ⟨h1, h2⟩ => ⟨by rw [h1]; first | rfl | (congr 2; simp [fitD, reckB, hL, numB, notNum, notTr, eqP] <;> grind), h2⟩
    · exact (pfits_b w 4 op vk vn vs tab col pa pn pc ka kc 2 [a, b] rfl (by simp) hk a b rfl (by unfold reckP; rw [hL]; rfl) (by decide) (by decide) (by rw [hL]; decide) (by rw [hL]; decide) (by rw [hL]; decide)).mono fun e w' ⟨h1, h2⟩ => ⟨by rw [h1]; first | rfl | (congr 2; simp [fitD, reckB, hL, numB, notNum, notTr, eqP] <;> grind), h2⟩
    · exact (pfits_b w 4 op vk vn vs tab col pa pn pc ka kc 2 [a, b] rfl (by simp) hk a b rfl (by unfold reckP; rw [hL]; rfl) (by decide) (by decide) (by rw [hL]; decide) (by rw [hL]; decide) (by rw [hL]; decide)).mono fun e w' ⟨h1, h2⟩ => ⟨by rw [h1]; first | rfl | (congr 2; simp [fitD, reckB, hL, numB, notNum, notTr, eqP] <;> grind), h2⟩
    · exact (pfits_b w 4 op vk vn vs tab col pa pn pc ka kc 2 [a, b] rfl (by simp) hk a b rfl (by unfold reckP; rw [hL]; rfl) (by decide) (by decide) (by rw [hL]; decide) (by rw [hL]; decide) (by rw [hL]; decide)).mono fun e w' ⟨h1, h2⟩ => ⟨by rw [h1]; first | rfl | (congr 2; simp [fitD, reckB, hL, numB, notNum, notTr, eqP] <;> grind), h2⟩
    · exact (pfits_b w 4 op vk vn vs tab col pa pn pc ka kc 2 [a, b] rfl (by simp) hk a b rfl (by unfold reckP; rw [hL]; rfl) (by decide) (by decide) (by rw [hL]; decide) (by rw [hL]; decide) (by rw [hL]; decide)).mono fun e w' ⟨h1, h2⟩ => ⟨by rw [h1]; first | rfl | (congr 2; simp [fitD, reckB, hL, numB, notNum, notTr, eqP] <;> grind), h2⟩
    · exact (pfits_b w 4 op vk vn vs tab col pa pn pc ka kc 2 [a, b] rfl (by simp) hk a b rfl (by unfold reckP; rw [hL]; rfl) (by decide) (by decide) (by rw [hL]; decide) (by rw [hL]; decide) (by rw [hL]; decide)).mono fun e w' ⟨h1, h2⟩ => ⟨by rw [h1]; first | rfl | (congr 2; simp [fitD, reckB, hL, numB, notNum, notTr, eqP] <;> grind), h2⟩
    · exact (pfits_r w 4 op vk vn vs tab col pa pn pc ka kc 2 [a, b] rfl (by simp) hk (by unfold reckP; rw [hL]; rfl)).mono fun e w' ⟨h1, h2⟩ => ⟨by rw [h1]; first | rfl | (congr 2; simp [fitD, reckB, hL, numB, notNum, notTr, eqP] <;> grind), h2⟩
    · exact (pfits_r w 4 op vk vn vs tab col pa pn pc ka kc 2 [a, b] rfl (by simp) hk (by unfold reckP; rw [hL]; rfl)).mono fun e w' ⟨h1, h2⟩ => ⟨by rw [h1]; first | rfl | (congr 2; simp [fitD, reckB, hL, numB, notNum, notTr, eqP] <;> grind), h2⟩
    · exact (pfits_r w 4 op vk vn vs tab col pa pn pc ka kc 2 [a, b] rfl (by simp) hk (by unfold reckP; rw [hL]; rfl)).mono fun e w' ⟨h1, h2⟩ => ⟨by rw [h1]; first | rfl | (congr 2; simp [fitD, reckB, hL, numB, notNum, notTr, eqP] <;> grind), h2⟩
  · obtain ⟨a, rfl⟩ := List.length_eq_one_iff.1 hn
    rcases hL with hL | hL
    · exact (pfits_c w 5 op vk vn vs tab col pa pn pc ka kc 1 [a] rfl (by simp) hk (by unfold reckP; rw [hL]; rfl) (.inl (by decide)) (by rw [hL]; decide) (by rw [hL]; decide) (by rw [hL]; decide) (by decide)).mono fun e w' ⟨h1, h2⟩ => ⟨by rw [h1]; first | rfl | (congr 2; simp [fitD, reckB, hL, numB, notNum, notTr, eqP] <;> grind), h2⟩
    · exact (pfits_c w 5 op vk vn vs tab col pa pn pc ka kc 1 [a] rfl (by simp) hk (by unfold reckP; rw [hL]; rfl) (.inl (by decide)) (by rw [hL]; decide) (by rw [hL]; decide) (by rw [hL]; decide) (by decide)).mono fun e w' ⟨h1, h2⟩ => ⟨by rw [h1]; first | rfl | (congr 2; simp [fitD, reckB, hL, numB, notNum, notTr, eqP] <;> grind), h2⟩
  · obtain ⟨a, rfl⟩ := List.length_eq_one_iff.1 hn
    rcases hL with hL | hL | hL | hL
    · exact (pfits_c w 6 op vk vn vs tab col pa pn pc ka kc 1 [a] rfl (by simp) hk (by unfold reckP; rw [hL]; rfl) (.inr ⟨by decide, by rw [hL]; decide⟩) (by rw [hL]; decide) (by rw [hL]; decide) (by rw [hL]; decide) (by decide)).mono fun e w' ⟨h1, h2⟩ => ⟨by rw [h1]; first | rfl | (congr 2; simp [fitD, reckB, hL, numB, notNum, notTr, eqP] <;> grind), h2⟩
    · exact (pfits_s w 6 op vk vn vs tab col pa pn pc ka kc 1 [a] rfl (by simp) hk (by unfold reckP; rw [hL]; rfl) (by decide) (by rw [hL]; decide)).mono fun e w' ⟨h1, h2⟩ => ⟨by rw [h1]; first | rfl | (congr 2; simp [fitD, reckB, hL, numB, notNum, notTr, eqP] <;> grind), h2⟩
    · exact (pfits_c w 6 op vk vn vs tab col pa pn pc ka kc 1 [a] rfl (by simp) hk (by unfold reckP; rw [hL]; rfl) (.inr ⟨by decide, by rw [hL]; decide⟩) (by rw [hL]; decide) (by rw [hL]; decide) (by rw [hL]; decide) (by decide)).mono fun e w' ⟨h1, h2⟩ => ⟨by rw [h1]; first | rfl | (congr 2; simp [fitD, reckB, hL, numB, notNum, notTr, eqP] <;> grind), h2⟩
    · exact (pfits_c w 6 op vk vn vs tab col pa pn pc ka kc 1 [a] rfl (by simp) hk (by unfold reckP; rw [hL]; rfl) (.inr ⟨by decide, by rw [hL]; decide⟩) (by rw [hL]; decide) (by rw [hL]; decide) (by rw [hL]; decide) (by decide)).mono fun e w' ⟨h1, h2⟩ => ⟨by rw [h1]; first | rfl | (congr 2; simp [fitD, reckB, hL, numB, notNum, notTr, eqP] <;> grind), h2⟩
  · obtain rfl := List.eq_nil_of_length_eq_zero hn
    exact (pfits_c w 6 op vk vn vs tab col pa pn pc ka kc 0 [] rfl (by simp) hk (by unfold reckP; rw [hL]; rfl) (.inr ⟨by decide, by rw [hL]; decide⟩) (by rw [hL]; decide) (by rw [hL]; decide) (by rw [hL]; decide) (by decide)).mono fun e w' ⟨h1, h2⟩ => ⟨by rw [h1]; first | rfl | (congr 2; simp [fitD, reckB, hL, numB, notNum, notTr, eqP] <;> grind), h2⟩
theorem fits14_any (w : World) (k : Int) (op : ByteArray) (vk vn : Int) (vs tab col : ByteArray) (pa : Option Addr) (pn pc : Nat) (ka : Option Addr) (kc : Nat) (ks : List Int) (hk : IntsAt w ka ks) (hok : OpOk k op ks.length) :
    Calls Try.prog 98 #[.agg #[.int .i64 k, .string op, .int .i64 vk, .int .i64 vn, .string vs, .string tab, .string col, .slice pa pn pc], .slice ka ks.length kc] w (FitPost w (fitD k op ks)) := by
  rcases hok with ⟨rfl, hn, hL⟩ | ⟨rfl, hn, hL⟩ | ⟨rfl, hn, hL⟩ | ⟨rfl, hn, hL⟩ | ⟨rfl, hn, hL⟩
  · obtain ⟨a, rfl⟩ := List.length_eq_one_iff.1 hn
    rcases hL with hL | hL
    · (have h := fits14_3n w op vk vn vs tab col pa pn pc ka kc a hk (by rw [hL]; decide); have he : fitD 3 op [a] = _ := (by simp only [fitD, reckB, hL, List.getD_cons_zero, List.getD_cons_succ, List.length_cons, List.length_nil] <;> rfl); rw [he]; exact h)
    · (have h := fits14_3m w op vk vn vs tab col pa pn pc ka kc a hk (by rw [hL]; decide); have he : fitD 3 op [a] = _ := (by simp only [fitD, reckB, hL, List.getD_cons_zero, List.getD_cons_succ, List.length_cons, List.length_nil] <;> rfl); rw [he]; exact h)
  · obtain ⟨a, b, rfl⟩ := len2 hn
    rcases hL with hL | hL | hL | hL | hL | hL | hL | hL | hL | hL | hL
    · (have h := fits14_4o w op vk vn vs tab col pa pn pc ka kc a b hk (by unfold reckB; rw [hL]; decide) (by rw [hL]; decide) (by rw [hL]; decide); have he : fitD 4 op [a, b] = _ := (by simp only [fitD, reckB, hL, List.getD_cons_zero, List.getD_cons_succ, List.length_cons, List.length_nil] <;> rfl); rw [he]; exact h)
    · (have h := fits14_4a w op vk vn vs tab col pa pn pc ka kc a b hk (by unfold reckB; rw [hL]; decide) (by rw [hL]; decide); have he : fitD 4 op [a, b] = _ := (by simp only [fitD, reckB, hL, List.getD_cons_zero, List.getD_cons_succ, List.length_cons, List.length_nil] <;> rfl); rw [he]; exact h)
    · (have h := fits14_4c w op vk vn vs tab col pa pn pc ka kc a b hk (by unfold reckB; rw [hL]; decide) (by rw [hL]; decide) (by rw [hL]; decide); have he : fitD 4 op [a, b] = _ := (by simp only [fitD, reckB, hL, List.getD_cons_zero, List.getD_cons_succ, List.length_cons, List.length_nil] <;> rfl); rw [he]; exact h)
    · (have h := fits14_4c w op vk vn vs tab col pa pn pc ka kc a b hk (by unfold reckB; rw [hL]; decide) (by rw [hL]; decide) (by rw [hL]; decide); have he : fitD 4 op [a, b] = _ := (by simp only [fitD, reckB, hL, List.getD_cons_zero, List.getD_cons_succ, List.length_cons, List.length_nil] <;> rfl); rw [he]; exact h)
    · (have h := fits14_4c w op vk vn vs tab col pa pn pc ka kc a b hk (by unfold reckB; rw [hL]; decide) (by rw [hL]; decide) (by rw [hL]; decide); have he : fitD 4 op [a, b] = _ := (by simp only [fitD, reckB, hL, List.getD_cons_zero, List.getD_cons_succ, List.length_cons, List.length_nil] <;> rfl); rw [he]; exact h)
    · (have h := fits14_4c w op vk vn vs tab col pa pn pc ka kc a b hk (by unfold reckB; rw [hL]; decide) (by rw [hL]; decide) (by rw [hL]; decide); have he : fitD 4 op [a, b] = _ := (by simp only [fitD, reckB, hL, List.getD_cons_zero, List.getD_cons_succ, List.length_cons, List.length_nil] <;> rfl); rw [he]; exact h)
    · (have h := fits14_4c w op vk vn vs tab col pa pn pc ka kc a b hk (by unfold reckB; rw [hL]; decide) (by rw [hL]; decide) (by rw [hL]; decide); have he : fitD 4 op [a, b] = _ := (by simp only [fitD, reckB, hL, List.getD_cons_zero, List.getD_cons_succ, List.length_cons, List.length_nil] <;> rfl); rw [he]; exact h)
    · (have h := fits14_4c w op vk vn vs tab col pa pn pc ka kc a b hk (by unfold reckB; rw [hL]; decide) (by rw [hL]; decide) (by rw [hL]; decide); have he : fitD 4 op [a, b] = _ := (by simp only [fitD, reckB, hL, List.getD_cons_zero, List.getD_cons_succ, List.length_cons, List.length_nil] <;> rfl); rw [he]; exact h)
    · (have h := fits14_4r w op vk vn vs tab col pa pn pc ka kc a b hk (by unfold reckB; rw [hL]; decide); have he : fitD 4 op [a, b] = _ := (by simp only [fitD, reckB, hL, List.getD_cons_zero, List.getD_cons_succ, List.length_cons, List.length_nil] <;> rfl); rw [he]; exact h)
    · (have h := fits14_4r w op vk vn vs tab col pa pn pc ka kc a b hk (by unfold reckB; rw [hL]; decide); have he : fitD 4 op [a, b] = _ := (by simp only [fitD, reckB, hL, List.getD_cons_zero, List.getD_cons_succ, List.length_cons, List.length_nil] <;> rfl); rw [he]; exact h)
    · (have h := fits14_4r w op vk vn vs tab col pa pn pc ka kc a b hk (by unfold reckB; rw [hL]; decide); have he : fitD 4 op [a, b] = _ := (by simp only [fitD, reckB, hL, List.getD_cons_zero, List.getD_cons_succ, List.length_cons, List.length_nil] <;> rfl); rw [he]; exact h)
  · obtain ⟨a, rfl⟩ := List.length_eq_one_iff.1 hn
    rcases hL with hL | hL
    · (have h := fits14_5 w op vk vn vs tab col pa pn pc ka kc a hk ; have he : fitD 5 op [a] = _ := (by simp only [fitD, reckB, hL, List.getD_cons_zero, List.getD_cons_succ, List.length_cons, List.length_nil] <;> rfl); rw [he]; exact h)
    · (have h := fits14_5 w op vk vn vs tab col pa pn pc ka kc a hk ; have he : fitD 5 op [a] = _ := (by simp only [fitD, reckB, hL, List.getD_cons_zero, List.getD_cons_succ, List.length_cons, List.length_nil] <;> rfl); rw [he]; exact h)
  · obtain ⟨a, rfl⟩ := List.length_eq_one_iff.1 hn
    rcases hL with hL | hL | hL | hL
    · (have h := fits14_6c w op vk vn vs tab col pa pn pc ka kc a hk (by rw [hL]; decide); have he : fitD 6 op [a] = _ := (by simp only [fitD, reckB, hL, List.getD_cons_zero, List.getD_cons_succ, List.length_cons, List.length_nil] <;> rfl); rw [he]; exact h)
    · (have h := fits14_6s w op vk vn vs tab col pa pn pc ka kc a hk (by rw [hL]; decide) (by rw [hL]; decide); have he : fitD 6 op [a] = _ := (by simp only [fitD, reckB, hL, List.getD_cons_zero, List.getD_cons_succ, List.length_cons, List.length_nil] <;> rfl); rw [he]; exact h)
    · (have h := fits14_6m w op vk vn vs tab col pa pn pc ka kc a hk (by rw [hL]; decide) (by rw [hL]; decide); have he : fitD 6 op [a] = _ := (by simp only [fitD, reckB, hL, List.getD_cons_zero, List.getD_cons_succ, List.length_cons, List.length_nil] <;> rfl); rw [he]; exact h)
    · (have h := fits14_6m w op vk vn vs tab col pa pn pc ka kc a hk (by rw [hL]; decide) (by rw [hL]; decide); have he : fitD 6 op [a] = _ := (by simp only [fitD, reckB, hL, List.getD_cons_zero, List.getD_cons_succ, List.length_cons, List.length_nil] <;> rfl); rw [he]; exact h)
  · obtain rfl := List.eq_nil_of_length_eq_zero hn
    (have h := fits14_60 w op vk vn vs tab col pa pn pc ka kc hk ; have he : fitD 6 op [] = _ := (by simp only [fitD, reckB, hL, List.getD_cons_zero, List.getD_cons_succ, List.length_cons, List.length_nil] <;> rfl); rw [he]; exact h)
end Go.Proofs.Ytafhgilikcablaa
namespace Go.Proofs.Ytafhgilikcablaa
open Go.RowKit
set_option linter.unusedVariables false
set_option linter.unusedSimpArgs false
set_option maxRecDepth 100000
set_option maxHeartbeats 3200000 in
theorem pkind_r (w : World) (k : Int) (op : ByteArray) (vk vn : Int) (vs tab col : ByteArray) (pa : Option Addr) (pn pc : Nat) (ka : Option Addr) (kc n : Nat) (ks : List Int) (hr : reckP k op = true) :
    Calls Try.prog 135 #[.agg #[.int .i64 k, .string op, .int .i64 vk, .int .i64 vn, .string vs, .string tab, .string col, .slice pa pn pc], .slice ka n kc] w fun e w' => e = .returned (.int .i64 1) ∧ Below w.heap.size w w' := by
  have HB := Lib.hid (bel0 (.cells #[.int .i64 k, .string op, .int .i64 vk, .int .i64 vn, .string vs, .string tab, .string col, .slice pa pn pc] 52) (Below.refl w.heap.size w))
  go_enter Try.func135, Try.ntmps135
  go_wp2_with fail
  refine (reckonsP_any _ k op).mono ?_
  rintro e w4 ⟨rfl, hw4⟩
  subst hw4
  rw [hr]
  go_wp2
  go_ret
  exact ⟨rfl, HB.out⟩
set_option maxHeartbeats 3200000 in
theorem pkind_3 (w : World) (k : Int) (op : ByteArray) (vk vn : Int) (vs tab col : ByteArray) (pa : Option Addr) (pn pc : Nat) (ka : Option Addr) (kc n : Nat) (ks : List Int) (hr : reckP k op = false) (f0 : (k != 6) = true) :
    Calls Try.prog 135 #[.agg #[.int .i64 k, .string op, .int .i64 vk, .int .i64 vn, .string vs, .string tab, .string col, .slice pa pn pc], .slice ka n kc] w fun e w' => e = .returned (.int .i64 3) ∧ Below w.heap.size w w' := by
  have HB := Lib.hid (bel0 (.cells #[.int .i64 k, .string op, .int .i64 vk, .int .i64 vn, .string vs, .string tab, .string col, .slice pa pn pc] 52) (Below.refl w.heap.size w))
  go_enter Try.func135, Try.ntmps135
  go_wp2_with fail
  refine (reckonsP_any _ k op).mono ?_
  rintro e w4 ⟨rfl, hw4⟩
  subst hw4
  rw [hr]
  go_wp2
  go_ret
  exact ⟨rfl, HB.out⟩
set_option maxHeartbeats 3200000 in
theorem pkind_1 (w : World) (k : Int) (op : ByteArray) (vk vn : Int) (vs tab col : ByteArray) (pa : Option Addr) (pn pc : Nat) (ka : Option Addr) (kc n : Nat) (ks : List Int) (hr : reckP k op = false) (f0 : (k != 6) = false) (h1 : (op.toList == [77, 73, 78]) = false) (h2 : (op.toList == [77, 65, 88]) = false) :
    Calls Try.prog 135 #[.agg #[.int .i64 k, .string op, .int .i64 vk, .int .i64 vn, .string vs, .string tab, .string col, .slice pa pn pc], .slice ka n kc] w fun e w' => e = .returned (.int .i64 1) ∧ Below w.heap.size w w' := by
  have HB := Lib.hid (bel0 (.cells #[.int .i64 k, .string op, .int .i64 vk, .int .i64 vn, .string vs, .string tab, .string col, .slice pa pn pc] 52) (Below.refl w.heap.size w))
  go_enter Try.func135, Try.ntmps135
  go_wp2_with fail
  refine (reckonsP_any _ k op).mono ?_
  rintro e w4 ⟨rfl, hw4⟩
  subst hw4
  rw [hr]
  go_wp2
  go_ret
  exact ⟨rfl, HB.out⟩
set_option maxHeartbeats 3200000 in
theorem pkind_m (w : World) (k : Int) (op : ByteArray) (vk vn : Int) (vs tab col : ByteArray) (pa : Option Addr) (pn pc : Nat) (ka : Option Addr) (kc n : Nat) (ks : List Int) (a : Int) (hn : n = 1) (hk : IntsAt w ka [a]) (hr : reckP k op = false) (f0 : (k != 6) = false) (h1 : (op.toList == [77, 73, 78]) = true) :
    Calls Try.prog 135 #[.agg #[.int .i64 k, .string op, .int .i64 vk, .int .i64 vn, .string vs, .string tab, .string col, .slice pa pn pc], .slice ka n kc] w fun e w' => e = .returned (.int .i64 a) ∧ Below w.heap.size w w' := by
  obtain ⟨g, off, rfl, hb, hc⟩ := ints0 hk
  subst hn
  clear hk
  have HB := Lib.hid (bel0 (.cells #[.int .i64 k, .string op, .int .i64 vk, .int .i64 vn, .string vs, .string tab, .string col, .slice pa pn pc] 52) (Below.refl w.heap.size w))
  go_enter Try.func135, Try.ntmps135
  go_wp2_with fail
  refine (reckonsP_any _ k op).mono ?_
  rintro e w4 ⟨rfl, hw4⟩
  subst hw4
  rw [hr]
  go_wp2
  go_ret
  exact ⟨rfl, HB.out⟩
set_option maxHeartbeats 3200000 in
theorem pkind_x (w : World) (k : Int) (op : ByteArray) (vk vn : Int) (vs tab col : ByteArray) (pa : Option Addr) (pn pc : Nat) (ka : Option Addr) (kc n : Nat) (ks : List Int) (a : Int) (hn : n = 1) (hk : IntsAt w ka [a]) (hr : reckP k op = false) (f0 : (k != 6) = false) (h1 : (op.toList == [77, 73, 78]) = false) (h2 : (op.toList == [77, 65, 88]) = true) :
    Calls Try.prog 135 #[.agg #[.int .i64 k, .string op, .int .i64 vk, .int .i64 vn, .string vs, .string tab, .string col, .slice pa pn pc], .slice ka n kc] w fun e w' => e = .returned (.int .i64 a) ∧ Below w.heap.size w w' := by
  obtain ⟨g, off, rfl, hb, hc⟩ := ints0 hk
  subst hn
  clear hk
  have HB := Lib.hid (bel0 (.cells #[.int .i64 k, .string op, .int .i64 vk, .int .i64 vn, .string vs, .string tab, .string col, .slice pa pn pc] 52) (Below.refl w.heap.size w))
  go_enter Try.func135, Try.ntmps135
  go_wp2_with fail
  refine (reckonsP_any _ k op).mono ?_
  rintro e w4 ⟨rfl, hw4⟩
  subst hw4
  rw [hr]
  go_wp2
  go_ret
  exact ⟨rfl, HB.out⟩
theorem pkind_any (w : World) (k : Int) (op : ByteArray) (vk vn : Int) (vs tab col : ByteArray) (pa : Option Addr) (pn pc : Nat) (ka : Option Addr) (kc : Nat) (ks : List Int) (hk : IntsAt w ka ks) (hok : OpOk k op ks.length) :
    Calls Try.prog 135 #[.agg #[.int .i64 k, .string op, .int .i64 vk, .int .i64 vn, .string vs, .string tab, .string col, .slice pa pn pc], .slice ka ks.length kc] w fun e w' => e = .returned (.int .i64 (fitD k op ks).1) ∧ Below w.heap.size w w' := by
  rcases hok with ⟨rfl, hn, hL⟩ | ⟨rfl, hn, hL⟩ | ⟨rfl, hn, hL⟩ | ⟨rfl, hn, hL⟩ | ⟨rfl, hn, hL⟩
  · obtain ⟨a, rfl⟩ := List.length_eq_one_iff.1 hn
    rcases hL with hL | hL
    · exact (pkind_3 w 3 op vk vn vs tab col pa pn pc ka kc 1 [a] (by unfold reckP; rw [hL]; rfl) (by decide)).mono fun e w' ⟨h1, h2⟩ => ⟨by rw [h1]; first | rfl | (congr 2; simp [fitD, reckB, hL]; done), h2⟩
    · exact (pkind_r w 3 op vk vn vs tab col pa pn pc ka kc 1 [a] (by unfold reckP; rw [hL]; rfl)).mono fun e w' ⟨h1, h2⟩ => ⟨by rw [h1]; first | rfl | (congr 2; simp [fitD, reckB, hL]; done), h2⟩
  · obtain ⟨a, b, rfl⟩ := len2 hn
    rcases hL with hL | hL | hL | hL | hL | hL | hL | hL | hL | hL | hL
    · exact (pkind_3 w 4 op vk vn vs tab col pa pn pc ka kc 2 [a, b] (by unfold reckP; rw [hL]; rfl) (by decide)).mono fun e w' ⟨h1, h2⟩ => ⟨by rw [h1]; first | rfl | (congr 2; simp [fitD, reckB, hL]; done), h2⟩
    · exact (pkind_3 w 4 op vk vn vs tab col pa pn pc ka kc 2 [a, b] (by unfold reckP; rw [hL]; rfl) (by decide)).mono fun e w' ⟨h1, h2⟩ => ⟨by rw [h1]; first | rfl | (congr 2; simp [fitD, reckB, hL]; done), h2⟩
    · exact (pkind_3 w 4 op vk vn vs tab col pa pn pc ka kc 2 [a, b] (by unfold reckP; rw [hL]; rfl) (by decide)).mono fun e w' ⟨h1, h2⟩ => ⟨by rw [h1]; first | rfl | (congr 2; simp [fitD, reckB, hL]; done), h2⟩
    · exact (pkind_3 w 4 op vk vn vs tab col pa pn pc ka kc 2 [a, b] (by unfold reckP; rw [hL]; rfl) (by decide)).mono fun e w' ⟨h1, h2⟩ => ⟨by rw [h1]; first | rfl | (congr 2; simp [fitD, reckB, hL]; done), h2⟩
    · exact (pkind_3 w 4 op vk vn vs tab col pa pn pc ka kc 2 [a, b] (by unfold reckP; rw [hL]; rfl) (by decide)).mono fun e w' ⟨h1, h2⟩ => ⟨by rw [h1]; first | rfl | (congr 2; simp [fitD, reckB, hL]; done), h2⟩
    · exact (pkind_3 w 4 op vk vn vs tab col pa pn pc ka kc 2 [a, b] (by unfold reckP; rw [hL]; rfl) (by decide)).mono fun e w' ⟨h1, h2⟩ => ⟨by rw [h1]; first | rfl | (congr 2; simp [fitD, reckB, hL]; done), h2⟩
    · exact (pkind_3 w 4 op vk vn vs tab col pa pn pc ka kc 2 [a, b] (by unfold reckP; rw [hL]; rfl) (by decide)).mono fun e w' ⟨h1, h2⟩ => ⟨by rw [h1]; first | rfl | (congr 2; simp [fitD, reckB, hL]; done), h2⟩
    · exact (pkind_3 w 4 op vk vn vs tab col pa pn pc ka kc 2 [a, b] (by unfold reckP; rw [hL]; rfl) (by decide)).mono fun e w' ⟨h1, h2⟩ => ⟨by rw [h1]; first | rfl | (congr 2; simp [fitD, reckB, hL]; done), h2⟩
    · exact (pkind_r w 4 op vk vn vs tab col pa pn pc ka kc 2 [a, b] (by unfold reckP; rw [hL]; rfl)).mono fun e w' ⟨h1, h2⟩ => ⟨by rw [h1]; first | rfl | (congr 2; simp [fitD, reckB, hL]; done), h2⟩
    · exact (pkind_r w 4 op vk vn vs tab col pa pn pc ka kc 2 [a, b] (by unfold reckP; rw [hL]; rfl)).mono fun e w' ⟨h1, h2⟩ => ⟨by rw [h1]; first | rfl | (congr 2; simp [fitD, reckB, hL]; done), h2⟩
    · exact (pkind_r w 4 op vk vn vs tab col pa pn pc ka kc 2 [a, b] (by unfold reckP; rw [hL]; rfl)).mono fun e w' ⟨h1, h2⟩ => ⟨by rw [h1]; first | rfl | (congr 2; simp [fitD, reckB, hL]; done), h2⟩
  · obtain ⟨a, rfl⟩ := List.length_eq_one_iff.1 hn
    rcases hL with hL | hL
    · exact (pkind_3 w 5 op vk vn vs tab col pa pn pc ka kc 1 [a] (by unfold reckP; rw [hL]; rfl) (by decide)).mono fun e w' ⟨h1, h2⟩ => ⟨by rw [h1]; first | rfl | (congr 2; simp [fitD, reckB, hL]; done), h2⟩
    · exact (pkind_3 w 5 op vk vn vs tab col pa pn pc ka kc 1 [a] (by unfold reckP; rw [hL]; rfl) (by decide)).mono fun e w' ⟨h1, h2⟩ => ⟨by rw [h1]; first | rfl | (congr 2; simp [fitD, reckB, hL]; done), h2⟩
  · obtain ⟨a, rfl⟩ := List.length_eq_one_iff.1 hn
    rcases hL with hL | hL | hL | hL
    · exact (pkind_1 w 6 op vk vn vs tab col pa pn pc ka kc 1 [a] (by unfold reckP; rw [hL]; rfl) (by decide) (by rw [hL]; decide) (by rw [hL]; decide)).mono fun e w' ⟨h1, h2⟩ => ⟨by rw [h1]; first | rfl | (congr 2; simp [fitD, reckB, hL]; done), h2⟩
    · exact (pkind_1 w 6 op vk vn vs tab col pa pn pc ka kc 1 [a] (by unfold reckP; rw [hL]; rfl) (by decide) (by rw [hL]; decide) (by rw [hL]; decide)).mono fun e w' ⟨h1, h2⟩ => ⟨by rw [h1]; first | rfl | (congr 2; simp [fitD, reckB, hL]; done), h2⟩
    · exact (pkind_m w 6 op vk vn vs tab col pa pn pc ka kc 1 [a] a rfl hk (by unfold reckP; rw [hL]; rfl) (by decide) (by rw [hL]; decide)).mono fun e w' ⟨h1, h2⟩ => ⟨by rw [h1]; first | rfl | (congr 2; simp [fitD, reckB, hL]; done), h2⟩
    · exact (pkind_x w 6 op vk vn vs tab col pa pn pc ka kc 1 [a] a rfl hk (by unfold reckP; rw [hL]; rfl) (by decide) (by rw [hL]; decide) (by rw [hL]; decide)).mono fun e w' ⟨h1, h2⟩ => ⟨by rw [h1]; first | rfl | (congr 2; simp [fitD, reckB, hL]; done), h2⟩
  · obtain rfl := List.eq_nil_of_length_eq_zero hn
    exact (pkind_1 w 6 op vk vn vs tab col pa pn pc ka kc 0 [] (by unfold reckP; rw [hL]; rfl) (by decide) (by rw [hL]; decide) (by rw [hL]; decide)).mono fun e w' ⟨h1, h2⟩ => ⟨by rw [h1]; first | rfl | (congr 2; simp [fitD, reckB, hL]; done), h2⟩
end Go.Proofs.Ytafhgilikcablaa
