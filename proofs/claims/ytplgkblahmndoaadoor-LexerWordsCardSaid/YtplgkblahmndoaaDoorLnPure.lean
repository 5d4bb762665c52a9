/- The words' texts are no longer than the text; how long they are when they are written again. Plain mathematics. -/
import Derived.Test.YtplgkblahmndoaaDoorLwAgain
namespace Go.Proofs.YtplgkblahmndoaaDoor
open Go.Lib
set_option linter.unusedVariables false

theorem unq_le : ∀ (n : Nat) (l : Bs), l.length ≤ n → (unq l).length ≤ l.length
  | _, [], _ => by simp [unq]
  | _, [a], _ => by simp [unq]
  | 0, a :: b :: t, h => by simp at h
  | n + 1, a :: b :: t, h => by
    unfold unq
    split
    · have := unq_le n t (by simp at h; omega)
      simp only [List.length_cons]
      omega
    · have := unq_le n (b :: t) (by simp at h ⊢; omega)
      simp only [List.length_cons] at this ⊢
      omega
def Small (N : Nat) (ws : List Wd) : Prop := ∀ x ∈ ws, x.2.1.length ≤ N
theorem add_small {N : Nat} {ws Y : List Wd} {x : Wd} (h : addM ws x = .ok Y) (hw : Small N ws) (hx : x.2.1.length ≤ N) : Small N Y := by
  unfold addM at h
  split at h
  · cases h
  · cases h
    intro y hy
    rcases List.mem_append.1 hy with h | h
    · exact hw y h
    · rw [List.mem_singleton.1 h]; exact hx
theorem end_small {N : Nat} {md : Nat} {cur : Bs} {ws Y : List Wd} (h : endM md cur ws = .ok Y) (hw : Small N ws) (hc : cur.length ≤ N) : Small N Y := by
  unfold endM at h
  split at h
  · split at h
    · cases h
    · exact add_small h hw hc
  · unfold numM at h
    split at h
    · exact add_small h hw hc
    · cases h
  · cases h
  · unfold textM at h
    split at h
    · cases h
    · refine add_small h hw ?_
      have := unq_le _ (cur.drop 1).dropLast (Nat.le_refl _)
      have h2 : (cur.drop 1).dropLast.length ≤ cur.length := by rw [List.length_dropLast, List.length_drop]; omega
      show (unq _).length ≤ N
      omega
  · exact add_small h hw hc
  · cases h; exact hw
theorem run_small (N : Nat) : ∀ (n : Nat) (md : Nat) (cur : Bs) (ws : List Wd) (l : Bs) (Y : List Wd), l.length ≤ n → run (md, cur, ws) l = .ok Y → cur.length + l.length ≤ N → Small N ws → Small N Y := by
  intro n
  induction n with
  | zero =>
    intro md cur ws l Y hl h hc hw
    obtain rfl : l = [] := List.eq_nil_of_length_eq_zero (by omega)
    rw [run_nil] at h
    exact end_small h hw (by omega)
  | succ n ih =>
    intro md cur ws l Y hl h hc hw
    by_cases hne : l = []
    · subst hne
      rw [run_nil] at h
      exact end_small h hw (by omega)
    have hwd := dec_wd l hne
    have hch : (l.take (decodeL l).2).length = (decodeL l).2 := by rw [List.length_take]; omega
    have hdr : (l.drop (decodeL l).2).length = l.length - (decodeL l).2 := by rw [List.length_drop]
    rw [run_step _ _ hne] at h
    unfold stepM at h
    simp only at h
    split at h
    · cases h
    · split at h
      · simp only [An.bind] at h
        exact ih _ _ _ _ Y (by omega) h (by rw [List.length_append]; omega) hw
      · cases hE : endM md cur ws with
        | no e => simp only [hE, An.bind] at h; cases h
        | ok W =>
          cases hb : beginM (decodeL l).1 with
          | no e => simp only [hE, hb, An.bind] at h; cases h
          | ok m =>
            simp only [hE, hb, An.bind] at h
            exact ih _ _ _ _ Y (by omega) h (by omega) (end_small hE hw (by omega))
theorem dbl_len : ∀ l : Bs, (dbl l).length ≤ 2 * l.length
  | [] => by simp [dbl]
  | b :: t => by
    have := dbl_len t
    unfold dbl
    split <;> simp only [List.length_cons] <;> omega
theorem dbl_app : ∀ (l r : Bs), dbl (l ++ r) = dbl l ++ dbl r
  | [], r => by simp [dbl]
  | b :: t, r => by
    have ih := dbl_app t r
    rw [List.cons_append]
    have e : ∀ t : Bs, dbl (b :: t) = if b = 39 then 39 :: 39 :: dbl t else b :: dbl t := fun t => rfl
    rw [e, e, ih]
    split <;> rfl
theorem wrT_len {N : Nat} : ∀ (ws : List Wd), Small N ws → (wrT ws).length ≤ ws.length * (2 * N + 3)
  | [], _ => by simp [wrT]
  | x :: t, h => by
    have ih := wrT_len t (fun y hy => h y (List.mem_cons_of_mem _ hy))
    have hx := h x (List.mem_cons_self ..)
    have hd := dbl_len x.2.1
    have e : wrT (x :: t) = (wrW x ++ [32]) ++ wrT t := by simp [wrT]
    rw [e, List.length_append, List.length_append, show (x :: t).length = t.length + 1 from rfl, Nat.add_mul, Nat.one_mul]
    have hw : (wrW x).length ≤ 2 * N + 2 := by
      unfold wrW
      split
      · simp only [List.length_cons, List.length_append, List.length_nil]
        omega
      · omega
    simp only [List.length_cons, List.length_nil]
    omega
theorem wrT_snoc (ws : List Wd) (x : Wd) : wrT (ws ++ [x]) = wrT ws ++ (wrW x ++ [32]) := by simp [wrT]
end Go.Proofs.YtplgkblahmndoaaDoor
