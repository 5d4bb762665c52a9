/- Plain lemmas: keys are ordered as rows are. No program. -/
import Derived.Test.YtplgkblahmndoaaKeyPure
import Derived.Test.YtplgkblahmndoaaAftPure
import Derived.Lib.MinMaxS
namespace Go.Proofs.Ytplgkblahmndoaa
open Go.RowKit
set_option linter.unusedVariables false

theorem ordS_neg (s t : ByteArray) : ordS t s = -ordS s t := by
  unfold ordS
  rw [Proofs.bytesLess_eq, Proofs.bytesLess_eq]
  by_cases h1 : s.toList < t.toList
  · have h2 : ¬ t.toList < s.toList := List.lt_asymm h1
    have h3 : ¬ t.toList = s.toList := fun h => by rw [h] at h1; exact List.lt_irrefl _ h1
    simp [h1, h2, h3]
  · by_cases h2 : t.toList < s.toList
    · have h3 : ¬ s.toList = t.toList := fun h => by rw [h] at h2; exact List.lt_irrefl _ h2
      simp [h1, h2, h3]
    · have h3 : s.toList = t.toList := List.le_antisymm (List.not_lt.1 h2) (List.not_lt.1 h1)
      simp [h3, List.lt_irrefl]
theorem ordS_bd (s t : ByteArray) : ordS s t = -1 ∨ ordS s t = 0 ∨ ordS s t = 1 := by unfold ordS; split; simp; split <;> simp
theorem ordV_neg (ka na : Int) (sa : ByteArray) (kb nb : Int) (sb : ByteArray) : ordV kb nb sb ka na sa = -ordV ka na sa kb nb sb := by
  unfold ordV
  rw [ordI_neg ka kb, ordI_neg na nb, ordS_neg sa sb]
  by_cases h : ordI ka kb = 0
  · by_cases h2 : ordI na nb = 0
    · simp [h, h2]
    · have : ¬ -ordI na nb = 0 := by omega
      simp [h, h2]
  · simp [h]
theorem ordV_bd (ka na : Int) (sa : ByteArray) (kb nb : Int) (sb : ByteArray) : ordV ka na sa kb nb sb = -1 ∨ ordV ka na sa kb nb sb = 0 ∨ ordV ka na sa kb nb sb = 1 := by
  unfold ordV; split
  · split
    · exact ordS_bd _ _
    · exact ordI_bd _ _
  · exact ordI_bd _ _
theorem ordV_self (k n : Int) (s : ByteArray) : ordV k n s k n s = 0 := by have := ordV_neg k n s k n s; omega
theorem rowsF_neg : ∀ xs ys : List Val, rowsF ys xs = -rowsF xs ys
  | [], [] => rfl
  | [], _ :: _ => rfl
  | _ :: _, [] => rfl
  | x :: xs, y :: ys => by
    unfold rowsF
    have h1 : ordX y x = -ordX x y := ordV_neg _ _ _ _ _ _
    rw [h1, rowsF_neg xs ys]
    by_cases h : ordX x y = 0
    · simp [h]
    · have : ¬ -ordX x y = 0 := by omega
      rw [if_neg this, if_neg h]
theorem rowsF_bd : ∀ xs ys : List Val, rowsF xs ys = -1 ∨ rowsF xs ys = 0 ∨ rowsF xs ys = 1
  | [], [] => by unfold rowsF; simp
  | [], _ :: _ => by unfold rowsF; simp
  | _ :: _, [] => by unfold rowsF; simp
  | x :: xs, y :: ys => by
    unfold rowsF; split
    · exact rowsF_bd xs ys
    · exact ordV_bd _ _ _ _ _ _

theorem less_flip : ∀ l m : List Int, (!lessI l m && !decide (l = m)) = lessI m l
  | [], [] => by simp [lessI]
  | [], _ :: _ => by simp [lessI]
  | _ :: _, [] => by simp [lessI]
  | x :: l, y :: m => by
    have ih := less_flip l m
    simp only [lessI]
    by_cases h1 : x < y
    · have h2 : ¬ y < x := by omega
      simp [h1, h2]
    · by_cases h2 : y < x
      · have h3 : ¬ x = y := by omega
        simp [h1, h2, h3]
      · obtain rfl : x = y := by omega
        simp [ih]
/-- the first place where two lists differ, the first one below -/
def Lt (l m : List Int) : Prop := ∃ p x y s t, l = p ++ x :: s ∧ m = p ++ y :: t ∧ x < y
theorem Lt.less {l m : List Int} (h : Lt l m) (A B : List Int) : lessI (l ++ A) (m ++ B) = true ∧ lessI (m ++ B) (l ++ A) = false := by
  obtain ⟨p, x, y, s, t, rfl, rfl, hxy⟩ := h
  rw [List.append_assoc, List.append_assoc, lessI_pre, lessI_pre]
  have h2 : ¬ y < x := by omega
  simp [lessI, hxy, h2]
theorem Lt.cons {l m : List Int} (c : Int) (h : Lt l m) : Lt (c :: l) (c :: m) := by
  obtain ⟨p, x, y, s, t, rfl, rfl, hxy⟩ := h
  exact ⟨c :: p, x, y, s, t, rfl, rfl, hxy⟩
theorem Lt.head {x y : Int} (h : x < y) (s t : List Int) : Lt (x :: s) (y :: t) := ⟨[], x, y, s, t, rfl, rfl, h⟩
theorem less_lt : ∀ {l m : List Int}, l.length = m.length → lessI l m = true → Lt l m
  | [], [], _, h => by simp [lessI] at h
  | [], _ :: _, h, _ => by simp at h
  | _ :: _, [], h, _ => by simp at h
  | x :: l, y :: m, hl, h => by
    simp only [lessI] at h
    by_cases h1 : x < y
    · exact Lt.head h1 _ _
    · rw [if_neg h1] at h
      by_cases h2 : y < x
      · rw [if_pos h2] at h; cases h
      · rw [if_neg h2] at h
        obtain rfl : x = y := by omega
        exact (less_lt (by simpa using hl) h).cons _
theorem less_tri : ∀ {l m : List Int}, l.length = m.length → lessI l m = true ∨ l = m ∨ lessI m l = true
  | [], [], _ => .inr (.inl rfl)
  | [], _ :: _, h => by simp at h
  | _ :: _, [], h => by simp at h
  | x :: l, y :: m, hl => by
    simp only [lessI]
    by_cases h1 : x < y
    · simp [h1]
    · by_cases h2 : y < x
      · simp [h2]
      · obtain rfl : x = y := by omega
        rcases less_tri (l := l) (m := m) (by simpa using hl) with h | rfl | h
        · simp [h]
        · simp
        · simp [h]
theorem num_app : ∀ (p l : List Int) (N : Int), num N (p ++ l) = num (num N p) l
  | [], _, _ => rfl
  | z :: p, l, N => by simp only [List.cons_append, num]; exact num_app p l _
theorem num_lo : ∀ (l : List Int) (N : Int), (∀ z ∈ l, 0 ≤ z ∧ z ≤ 255) → N * 256 ^ l.length ≤ num N l
  | [], N, _ => by simp [num]
  | z :: l, N, hb => by
    have hz := hb z (by simp)
    have ih := num_lo l (N * 256 + z) (fun x hx => hb x (by simp [hx]))
    have e : N * 256 ^ (l.length + 1) = N * 256 * 256 ^ l.length := by rw [Int.pow_succ, Int.mul_comm _ (256 : Int), Int.mul_assoc]
    rw [List.length_cons, e]
    exact Int.le_trans (Int.mul_le_mul_of_nonneg_right (by omega) (Int.pow_nonneg (by omega))) ih
theorem Lt.num {l m : List Int} (h : Lt l m) (hl : l.length = m.length) (hbl : ∀ z ∈ l, 0 ≤ z ∧ z ≤ 255) (hbm : ∀ z ∈ m, 0 ≤ z ∧ z ≤ 255) : num 0 l < num 0 m := by
  obtain ⟨p, x, y, s, t, rfl, rfl, hxy⟩ := h
  have hst : s.length = t.length := by simpa using hl
  rw [num_app, num_app]
  have hp := (num_bd p 0 (by omega) (fun z hz => hbl z (by simp [hz]))).1
  generalize Go.Proofs.Ytplgkblahmndoaa.num 0 p = N at hp
  show Go.Proofs.Ytplgkblahmndoaa.num (N * 256 + x) s < Go.Proofs.Ytplgkblahmndoaa.num (N * 256 + y) t
  have hx := hbl x (by simp)
  have a := (num_bd s (N * 256 + x) (by omega) (fun z hz => hbl z (by simp [hz]))).2
  have b := num_lo t (N * 256 + y) (fun z hz => hbm z (by simp [hz]))
  rw [← hst] at b
  have c : (N * 256 + x + 1) * 256 ^ s.length ≤ (N * 256 + y) * 256 ^ s.length := Int.mul_le_mul_of_nonneg_right (by omega) (Int.pow_nonneg (by omega))
  omega
theorem be_lt (a b : Int) (k : Nat) (h0 : 0 ≤ a) (h : a < b) (h1 : b < 2 ^ (8 * k)) : Lt (beN a k) (beN b k) := by
  have hl : (beN a k).length = (beN b k).length := by rw [beN_length, beN_length]
  have ea := num_be0 a k h0 (by omega)
  have eb := num_be0 b k (by omega) h1
  rcases less_tri hl with h2 | h2 | h2
  · exact less_lt hl h2
  · rw [h2, eb] at ea; omega
  · have := (less_lt hl.symm h2).num hl.symm (beN_range _ _) (beN_range _ _)
    rw [ea, eb] at this; omega
theorem esc_cons0 (l : List Int) : esc (0 :: l) = 0 :: 255 :: esc l := by simp [esc]
theorem esc_cons {z : Int} (h : ¬ z = 0) (l : List Int) : esc (z :: l) = z :: esc l := by simp [esc, h]
theorem esc_lt : ∀ (s t : List Int), (∀ z ∈ s, 0 ≤ z ∧ z ≤ 255) → (∀ z ∈ t, 0 ≤ z ∧ z ≤ 255) → lessI s t = true → Lt (esc s ++ [0, 0]) (esc t ++ [0, 0])
  | s, [], _, _, h => by cases s <;> simp [lessI] at h
  | [], y :: t, _, hb, _ => by
    have hy := hb y (by simp)
    by_cases hy0 : y = 0
    · subst hy0
      rw [esc_cons0]
      exact ⟨[0], 0, 255, [], esc t ++ [0, 0], rfl, rfl, by omega⟩
    · rw [esc_cons hy0]
      exact ⟨[], 0, y, [0], esc t ++ [0, 0], rfl, rfl, by omega⟩
  | x :: s, y :: t, ha, hb, h => by
    have hx := ha x (by simp)
    have hy := hb y (by simp)
    simp only [lessI] at h
    by_cases h1 : x < y
    · rw [esc_cons (z := y) (by omega)]
      by_cases hx0 : x = 0
      · subst hx0; rw [esc_cons0]; exact Lt.head h1 _ _
      · rw [esc_cons hx0]; exact Lt.head h1 _ _
    · rw [if_neg h1] at h
      by_cases h2 : y < x
      · rw [if_pos h2] at h; cases h
      · rw [if_neg h2] at h
        obtain rfl : x = y := by omega
        have ih := esc_lt s t (fun z hz => ha z (by simp [hz])) (fun z hz => hb z (by simp [hz])) h
        by_cases hx0 : x = 0
        · subst hx0; rw [esc_cons0, esc_cons0]; exact (ih.cons 255).cons 0
        · rw [esc_cons hx0, esc_cons hx0]; exact ih.cons x

theorem less_txt (s t : ByteArray) : Op.bytesLess s.toList t.toList = lessI (txt s) (txt t) := by
  have := less_str (txt s) (txt t) (txt_range s) (txt_range t)
  rwa [txt_back, txt_back] at this
theorem keyV_lt {x y : Val} (hx : okV x) (hy : okV y) (h : ordX x y < 0) : Lt (keyV x) (keyV y) := by
  obtain ⟨fx, x0, x1⟩ := hx
  obtain ⟨fy, y0, y1⟩ := hy
  have k1 : ∀ n : Int, keyV (1, n, ⟨#[]⟩) = 16 :: beN (n + 9223372036854775808) 8 := fun n => rfl
  have k2 : ∀ s : ByteArray, keyV (2, 0, s) = 32 :: (esc (txt s) ++ [0, 0]) := fun s => rfl
  have k0 : keyV (0, 0, ⟨#[]⟩) = [5] := rfl
  rcases formed_cases fx with rfl | ⟨n, rfl⟩ | ⟨s, rfl, hs⟩ <;> rcases formed_cases fy with rfl | ⟨m, rfl⟩ | ⟨t, rfl, ht⟩
  · exact absurd h (by rw [ordX_self]; decide)
  · rw [k0, k1]; exact Lt.head (by omega) _ _
  · rw [k0, k2]; exact Lt.head (by omega) _ _
  · exfalso; unfold ordX ordV ordI at h; simp at h
  · rw [k1, k1]
    refine Lt.cons 16 (be_lt _ _ 8 (by dsimp only at x0; omega) ?_ (by dsimp only at y1; omega))
    by_cases hnm : n < m
    · omega
    · exfalso
      unfold ordX ordV at h
      dsimp only at h
      rw [oI_self, if_pos rfl, ordS_self] at h
      unfold ordI at h
      rw [if_neg hnm] at h
      split at h <;> split at h <;> omega
  · rw [k1, k2]; exact Lt.head (by omega) _ _
  · exfalso; unfold ordX ordV ordI at h; simp at h
  · exfalso; unfold ordX ordV ordI at h; simp at h
  · rw [k2, k2]
    refine Lt.cons 32 (esc_lt _ _ (txt_range s) (txt_range t) ?_)
    unfold ordX ordV at h
    dsimp only at h
    rw [oI_self, oI_self, if_pos rfl, if_pos rfl] at h
    unfold ordS at h
    rw [less_txt] at h
    split at h
    · assumption
    · split at h <;> omega
theorem keys_less : ∀ (a b : List Val), (∀ v ∈ a, okV v) → (∀ v ∈ b, okV v) → lessI (keyVs a) (keyVs b) = decide (rowsF a b < 0)
  | [], [], _, _ => rfl
  | [], y :: b, _, hb => by
    have := (keyV_len y (hb y (by simp)).1).1
    have e : keyVs (y :: b) = keyV y ++ keyVs b := rfl
    rw [e]
    cases hk : keyV y with
    | nil => rw [hk] at this; simp at this
    | cons z l => simp [keyVs, lessI, rowsF]
  | x :: a, [], ha, _ => by
    have e : rowsF (x :: a) [] = 1 := rfl
    rw [e]
    show lessI _ [] = _
    cases h : keyVs (x :: a) <;> simp [lessI]
  | x :: a, y :: b, ha, hb => by
    have ih := keys_less a b (fun v hv => ha v (by simp [hv])) (fun v hv => hb v (by simp [hv]))
    have ex : keyVs (x :: a) = keyV x ++ keyVs a := rfl
    have ey : keyVs (y :: b) = keyV y ++ keyVs b := rfl
    unfold rowsF
    by_cases h0 : ordX x y = 0
    · rw [if_pos h0, ex, ey, ordX_zero h0, lessI_pre]
      exact ih
    · rw [if_neg h0, ex, ey]
      by_cases h1 : ordX x y < 0
      · rw [((keyV_lt (ha x (by simp)) (hb y (by simp)) h1).less _ _).1]
        exact (decide_eq_true h1).symm
      · have h2 : ordX y x < 0 := by
          have : ordX y x = -ordX x y := ordV_neg _ _ _ _ _ _
          omega
        rw [((keyV_lt (hb y (by simp)) (ha x (by simp)) h2).less _ _).2]
        exact (decide_eq_false h1).symm
theorem keys_take (a : List Val) (k : Nat) : (keyVs a).take (keyVs (a.take k)).length = keyVs (a.take k) ∧ (keyVs (a.take k)).length ≤ (keyVs a).length := by
  have e : keyVs a = keyVs (a.take k) ++ keyVs (a.drop k) := by rw [← keyVs_append, List.take_append_drop]
  rw [e, List.take_left]
  exact ⟨rfl, by simp⟩
end Go.Proofs.Ytplgkblahmndoaa
