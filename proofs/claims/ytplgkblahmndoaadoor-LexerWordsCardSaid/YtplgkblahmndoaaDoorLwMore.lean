/- Texts of words one behind the other; words that are written again. Plain mathematics. -/
import Derived.Test.YtplgkblahmndoaaDoorLwSpan
namespace Go.Proofs.YtplgkblahmndoaaDoor
open Go.Lib
set_option linter.unusedVariables false

/-- a line feed behind a text changes no rune of it -/
theorem decN_more (n m b0 b1 b2 b3 c1 c2 c3 : Nat) (hn : 1 ≤ n) (hm : n ≤ m) (h1 : (1 < n ∧ c1 = b1) ∨ (n = 1 ∧ c1 = 10)) (h2 : (2 < n ∧ c2 = b2) ∨ (n = 2 ∧ c2 = 10) ∨ n < 2) (h3 : (3 < n ∧ c3 = b3) ∨ (n = 3 ∧ c3 = 10) ∨ n < 3) : decodeN m b0 c1 c2 c3 = decodeN n b0 b1 b2 b3 := by
  rcases h1 with ⟨h1, rfl⟩ | ⟨rfl, rfl⟩
  · rcases h2 with ⟨h2, rfl⟩ | ⟨rfl, rfl⟩ | h2
    · rcases h3 with ⟨h3, rfl⟩ | ⟨rfl, rfl⟩ | h3
      · unfold decodeN
        simp only [h1, h2, h3, show 1 < m by omega, show 2 < m by omega, show 3 < m by omega]
      · unfold decodeN
        have e1 : (10 / 64 = 2) = False := by simp
        simp only [show 1 < m by omega, show 2 < m by omega, e1, Nat.lt_irrefl, false_and, and_false, if_false, true_and, show (1 < 3) = True by simp, show (2 < 3) = True by simp]
      · omega
    · unfold decodeN
      have e1 : (10 / 64 = 2) = False := by simp
      simp only [show 1 < m by omega, e1, Nat.lt_irrefl, false_and, and_false, if_false, true_and, show (1 < 2) = True by simp]
    · omega
  · unfold decodeN
    have e1 : (10 / 64 = 2) = False := by simp
    simp only [e1, Nat.lt_irrefl, false_and, and_false, if_false]
theorem dec_lf (b : UInt8) (t r : Bs) : decodeL ((b :: t) ++ 10 :: r) = decodeL (b :: t) := by
  rw [decodeL_N, decodeL_N]
  have g : ∀ i, ((b :: t) ++ 10 :: r).getD i 0 = if i < (b :: t).length then (b :: t).getD i 0 else (10 :: r).getD (i - (b :: t).length) 0 := fun i => by
    simp only [List.getD_eq_getElem?_getD, List.getElem?_append]
    split <;> rfl
  rw [g 0, g 1, g 2, g 3]
  have hl : 1 ≤ (b :: t).length := by simp
  generalize hn : (b :: t).length = n at *
  have h0 : (if 0 < n then (b :: t).getD 0 0 else (10 :: r).getD (0 - n) 0) = (b :: t).getD 0 0 := if_pos (by omega)
  rw [h0]
  refine decN_more n _ _ _ _ _ _ _ _ hl (by rw [List.length_append, hn]; omega) ?_ ?_ ?_
  · by_cases h : 1 < n
    · exact .inl ⟨h, by rw [if_pos h]⟩
    · right
      obtain rfl : n = 1 := by omega
      exact ⟨rfl, by rw [if_neg h]; rfl⟩
  · by_cases h : 2 < n
    · exact .inl ⟨h, by rw [if_pos h]⟩
    · right
      by_cases h2 : n = 2
      · subst h2; exact .inl ⟨rfl, by rw [if_neg h]; rfl⟩
      · exact .inr (by omega)
  · by_cases h : 3 < n
    · exact .inl ⟨h, by rw [if_pos h]⟩
    · right
      by_cases h2 : n = 3
      · subst h2; exact .inl ⟨rfl, by rw [if_neg h]; rfl⟩
      · exact .inr (by omega)
theorem end_lf {md : Nat} {cur : Bs} {ws X : List Wd} (h : endM md cur ws = .ok X) (r : Bs) : run (md, cur, ws) (10 :: r) = run (0, [], X) (10 :: r) := by
  by_cases h3 : md = 3
  · subst h3; cases h
  · have hg : goes md cur 10 = none := by
      unfold goes
      split
      · rfl
      · rfl
      · exact absurd rfl h3
      · rfl
      · simp [pairL]
      · rfl
      · rfl
    rw [run_end _ _ (by simp) (by rw [dec_low 10 r (by decide)]; exact fun e => absurd e.2 (by decide)) (by rw [dec_low 10 r (by decide)]; exact hg)]
    simp only [h, An.bind]
/-- a text, a line feed, and more -/
theorem run_lf : ∀ (n : Nat) (x : Rd) (l r : Bs) (X : List Wd), l.length ≤ n → run x l = .ok X → run x (l ++ 10 :: r) = run (0, [], X) (10 :: r)
  | n, x, [], r, X, _, h => by
    rw [run_nil] at h
    rw [List.nil_append]
    exact end_lf h r
  | 0, x, b :: t, r, X, hl, h => by simp at hl
  | n + 1, x, b :: t, r, X, hl, h => by
    have hw := dec_wd (b :: t) (by simp)
    rw [run_step _ _ (by simp)] at h
    rw [run_step _ _ (by simp), dec_lf]
    have e1 : ((b :: t) ++ 10 :: r).take (decodeL (b :: t)).2 = (b :: t).take (decodeL (b :: t)).2 := by rw [List.take_append_of_le_length hw.2]
    have e2 : ((b :: t) ++ 10 :: r).drop (decodeL (b :: t)).2 = (b :: t).drop (decodeL (b :: t)).2 ++ 10 :: r := by rw [List.drop_append_of_le_length hw.2]
    rw [e1, e2]
    cases hs : stepM x (decodeL (b :: t)).1 ((b :: t).take (decodeL (b :: t)).2) with
    | no e => rw [hs] at h; cases h
    | ok y =>
      rw [hs] at h
      simp only [An.bind] at h ⊢
      exact run_lf n y _ r X (by rw [List.length_drop]; simp at hl ⊢; omega) h
theorem drop_note {note : Bs} (h : ∀ b ∈ note, b ≠ 10) (r : Bs) : (note ++ 10 :: r).dropWhile (· != 10) = 10 :: r := by
  induction note with
  | nil => rw [List.nil_append, List.dropWhile_cons_of_neg (by simp)]
  | cons b t ih =>
    rw [List.cons_append, List.dropWhile_cons_of_pos (by simpa using h b (by simp))]
    exact ih (fun x hx => h x (by simp [hx]))
theorem run_dash (ws : List Wd) (l : Bs) : run (0, [], ws) (45 :: 45 :: l) = run (0, [], ws) (l.dropWhile (· != 10)) := by
  rw [run_low _ _ _ (by decide), step_blank, show beginM (45 : UInt8).toNat = .ok 5 from rfl]
  simp only [An.bind]
  rw [run_low _ _ _ (by decide)]
  have hs : stepM (5, [45], ws) (45 : UInt8).toNat [45] = .ok (6, [45] ++ [45], ws) := by
    unfold stepM
    rw [if_neg (fun e => absurd (show (5 : Nat) = 2 from e.1) (by decide))]
    rfl
  rw [hs]
  simp only [An.bind]
  exact run_remark l.length _ ws l (Nat.le_refl _)
/-- a text of words, a remark, and another text -/
theorem run_note {note : Bs} (h : ∀ b ∈ note, b ≠ 10) {a : Bs} {X : List Wd} (ha : run (0, [], []) a = .ok X) (b : Bs) : run (0, [], []) (a ++ (10 :: 45 :: 45 :: (note ++ (10 :: 9 :: 32 :: b)))) = run (0, [], X) b := by
  rw [run_lf a.length _ a _ X (Nat.le_refl _) ha, run_blank _ _ _ _ (.inr (.inr rfl)), run_dash, drop_note h, run_blank _ _ _ _ (.inr (.inr rfl)), run_blank _ _ _ _ (.inr (.inl rfl)), run_blank _ _ _ _ (.inl rfl)]
/-- more words ahead -/
theorem add_pre {X ws Y : List Wd} {x : Wd} (h : addM ws x = .ok Y) (hl : X.length + Y.length ≤ 600) : addM (X ++ ws) x = .ok (X ++ Y) ∧ ws.length ≤ Y.length := by
  unfold addM at h ⊢
  split at h
  · cases h
  · cases h
    simp only [List.length_append, List.length_singleton] at hl ⊢
    rw [if_neg (by omega), List.append_assoc]
    exact ⟨rfl, by omega⟩
theorem end_len {md : Nat} {cur : Bs} {ws Y : List Wd} (h : endM md cur ws = .ok Y) : ws.length ≤ Y.length := by
  have ha : ∀ {x : Wd}, addM ws x = .ok Y → ws.length ≤ Y.length := fun {x} h => by
    unfold addM at h
    split at h
    · cases h
    · cases h; simp
  unfold endM at h
  split at h
  · split at h
    · cases h
    · exact ha h
  · unfold numM at h
    split at h
    · exact ha h
    · cases h
  · cases h
  · unfold textM at h
    split at h
    · cases h
    · exact ha h
  · exact ha h
  · cases h; exact Nat.le_refl _
theorem end_pre {X ws Y : List Wd} {md : Nat} {cur : Bs} (h : endM md cur ws = .ok Y) (hl : X.length + Y.length ≤ 600) : endM md cur (X ++ ws) = .ok (X ++ Y) := by
  unfold endM at h ⊢
  split at h
  · split at h
    · cases h
    · rename_i hc
      rw [if_neg hc]
      exact (add_pre h hl).1
  · unfold numM at h ⊢
    split at h
    · rename_i hc
      rw [if_pos hc]
      exact (add_pre h hl).1
    · cases h
  · cases h
  · unfold textM at h ⊢
    split at h
    · cases h
    · rename_i hc
      rw [if_neg hc]
      exact (add_pre h hl).1
  · exact (add_pre h hl).1
  · cases h; rfl
theorem run_len : ∀ (n : Nat) (md : Nat) (cur : Bs) (ws : List Wd) (l : Bs) (Y : List Wd), l.length ≤ n → run (md, cur, ws) l = .ok Y → ws.length ≤ Y.length
  | n, md, cur, ws, [], Y, _, h => by
    rw [run_nil] at h
    exact end_len h
  | 0, md, cur, ws, b :: t, Y, hl, h => by simp at hl
  | n + 1, md, cur, ws, b :: t, Y, hl, h => by
    have hw := dec_wd (b :: t) (by simp)
    rw [run_step _ _ (by simp)] at h
    unfold stepM at h
    split at h
    · cases h
    · split at h
      · simp only [An.bind] at h
        exact run_len n _ _ _ _ Y (by rw [List.length_drop]; simp at hl ⊢; omega) h
      · cases he : endM md cur ws with
        | no e => simp only [he, An.bind] at h; cases h
        | ok W =>
          cases hb : beginM (decodeL (b :: t)).1 with
          | no e => simp only [he, hb, An.bind] at h; cases h
          | ok m =>
            simp only [he, hb, An.bind] at h
            exact Nat.le_trans (end_len he) (run_len n _ _ _ _ Y (by rw [List.length_drop]; simp at hl ⊢; omega) h)
theorem run_pre : ∀ (n : Nat) (X : List Wd) (md : Nat) (cur : Bs) (ws : List Wd) (l : Bs) (Y : List Wd), l.length ≤ n → run (md, cur, ws) l = .ok Y → X.length + Y.length ≤ 600 → run (md, cur, X ++ ws) l = .ok (X ++ Y)
  | n, X, md, cur, ws, [], Y, _, h, hy => by
    rw [run_nil] at h ⊢
    exact end_pre h hy
  | 0, X, md, cur, ws, b :: t, Y, hl, h, hy => by simp at hl
  | n + 1, X, md, cur, ws, b :: t, Y, hl, h, hy => by
    have hw := dec_wd (b :: t) (by simp)
    have hd : ((b :: t).drop (decodeL (b :: t)).2).length ≤ n := by rw [List.length_drop]; simp at hl ⊢; omega
    rw [run_step _ _ (by simp)] at h ⊢
    unfold stepM at h ⊢
    simp only at h ⊢
    by_cases h2 : md = 2 ∧ letL (decodeL (b :: t)).1 = true
    · rw [if_pos h2] at h; cases h
    · rw [if_neg h2] at h ⊢
      cases hg : goes md cur (decodeL (b :: t)).1 with
      | some m =>
        simp only [hg, An.bind] at h ⊢
        exact run_pre n X _ _ _ _ Y hd h hy
      | none =>
        cases he : endM md cur ws with
        | no e => simp only [hg, he, An.bind] at h; cases h
        | ok W =>
          cases hb : beginM (decodeL (b :: t)).1 with
          | no e => simp only [hg, he, hb, An.bind] at h; cases h
          | ok m =>
            simp only [hg, he, hb, An.bind] at h ⊢
            have hWl := run_len n _ _ _ _ Y hd h
            rw [end_pre he (by omega)]
            simp only [An.bind]
            exact run_pre n X _ _ _ _ Y hd h hy
end Go.Proofs.YtplgkblahmndoaaDoor
