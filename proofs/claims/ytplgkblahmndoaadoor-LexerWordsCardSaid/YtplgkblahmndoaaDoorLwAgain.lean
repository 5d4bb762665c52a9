/- Words that are written again with a blank behind each are the same words. Plain mathematics. -/
import Derived.Test.YtplgkblahmndoaaDoorLwMore
namespace Go.Proofs.YtplgkblahmndoaaDoor
open Go.Lib
set_option linter.unusedVariables false

/-- a text's letters, each quote twice -/
def dbl : Bs → Bs
  | [] => []
  | b :: t => if b = 39 then 39 :: 39 :: dbl t else b :: dbl t
/-- how a word is written -/
def wrW (x : Wd) : Bs := if x.1 = 3 then 39 :: (dbl x.2.1 ++ [39]) else x.2.1
def wrT (ws : List Wd) : Bs := ws.flatMap fun x => wrW x ++ [32]
theorem quo_dbl (r : Bs) : ∀ x : Bs, quo (dbl x ++ 39 :: 32 :: r) = some (x, 32 :: r)
  | [] => by simp [dbl, quo]
  | b :: t => by
    have ih := quo_dbl r t
    by_cases hb : b = 39
    · subst hb
      have e : dbl (39 :: t) ++ 39 :: 32 :: r = 39 :: 39 :: (dbl t ++ 39 :: 32 :: r) := by simp [dbl]
      rw [e]
      conv => lhs; unfold quo
      rw [if_neg (by simp), if_pos rfl, ih]
      rfl
    · have e : dbl (b :: t) ++ 39 :: 32 :: r = b :: (dbl t ++ 39 :: 32 :: r) := by simp [dbl, hb]
      rw [e, quo_cons hb, ih]
      rfl
theorem nd_blank (r : Bs) : span (32 :: r) = ([], 32 :: r) := span_no (by rw [dec_low 32 r (by decide)]; decide)
theorem span_again (r : Bs) : ∀ (n : Nat) (l : Bs), l.length ≤ n → span ((span l).1 ++ 32 :: r) = ((span l).1, 32 :: r)
  | n, [], _ => by rw [span_nil]; exact nd_blank r
  | 0, b :: t, h => by simp at h
  | n + 1, b :: t, h => by
    have hw := dec_wd (b :: t) (by simp)
    cases hn : ndL (decodeL (b :: t)).1 with
    | false => rw [span_no hn]; exact nd_blank r
    | true =>
      rw [span_yes (by simp) hn]
      simp only
      have ih := span_again r n ((b :: t).drop (decodeL (b :: t)).2) (by rw [List.length_drop]; simp at h ⊢; omega)
      generalize span ((b :: t).drop (decodeL (b :: t)).2) = q at ih ⊢
      have hd := nd_chunk b t (q.1 ++ 32 :: r) hn
      rw [List.append_assoc]
      have hne : (b :: t).take (decodeL (b :: t)).2 ++ (q.1 ++ 32 :: r) ≠ [] := fun e => by
        have := congrArg List.length e
        simp at this
      have htl : ((b :: t).take (decodeL (b :: t)).2).length = (decodeL (b :: t)).2 := by rw [List.length_take]; omega
      rw [span_yes hne (by rw [hd]; exact hn), hd, List.take_append_of_le_length (by omega), List.take_of_length_le (by omega), List.drop_append_of_le_length (by omega), List.drop_of_length_le (by omega), List.nil_append, ih]
/-- a word that is the same when it is written again -/
def GoodW (x : Wd) : Prop := ∀ r : Bs, ∃ b t, wrW x ++ 32 :: r = b :: t ∧ ¬ (b = 32 ∨ b = 9 ∨ b = 10) ∧ ¬ (b = 45 ∧ t.head? = some 45) ∧ wordD (b :: t) = some (x, 32 :: r)
theorem good_nd {b : UInt8} {t : Bs} (k : Int) (n : Int) (hk : k ≠ 3) (hn : ndL (decodeL (b :: t)).1 = true) (hw : ∀ r, wordD ((span (b :: t)).1 ++ 32 :: r) = some ((k, (span (b :: t)).1, n), 32 :: r)) : GoodW (k, (span (b :: t)).1, n) := by
  intro r
  have e : wrW (k, (span (b :: t)).1, n) = (span (b :: t)).1 := by unfold wrW; rw [if_neg hk]
  have hs := span_yes (List.cons_ne_nil b t) hn
  have hwd := dec_wd (b :: t) (by simp)
  obtain ⟨m, hm⟩ : ∃ m, (decodeL (b :: t)).2 = m + 1 := ⟨(decodeL (b :: t)).2 - 1, by omega⟩
  have hb : ¬ (b = 32 ∨ b = 9 ∨ b = 10) ∧ b ≠ 45 := by
    refine ⟨fun h => ?_, fun h => ?_⟩
    · rcases h with rfl | rfl | rfl <;> (rw [dec_low _ t (by decide)] at hn; revert hn; decide)
    · subst h; rw [dec_low _ t (by decide)] at hn; revert hn; decide
  have hw' := hw r
  rw [e]
  obtain ⟨t', ht'⟩ : ∃ t', (span (b :: t)).1 ++ 32 :: r = b :: t' := ⟨t.take m ++ (span ((b :: t).drop (decodeL (b :: t)).2)).1 ++ 32 :: r, by rw [hs]; simp only; rw [hm, List.take_succ_cons]; simp⟩
  rw [ht'] at hw' ⊢
  exact ⟨b, t', rfl, hb.1, fun h => hb.2 h.1, hw'⟩
theorem span_head {b : UInt8} {t : Bs} (hn : ndL (decodeL (b :: t)).1 = true) (r : Bs) : decodeL ((span (b :: t)).1 ++ 32 :: r) = decodeL (b :: t) ∧ ((span (b :: t)).1 ++ 32 :: r).head? = some b := by
  have hwd := dec_wd (b :: t) (by simp)
  rw [span_yes (List.cons_ne_nil b t) hn]
  simp only
  rw [List.append_assoc]
  refine ⟨nd_chunk b t _ hn, ?_⟩
  obtain ⟨m, hm⟩ : ∃ m, (decodeL (b :: t)).2 = m + 1 := ⟨(decodeL (b :: t)).2 - 1, by omega⟩
  rw [hm, List.take_succ_cons]
  rfl
theorem good_word {b : UInt8} {t : Bs} {x : Wd} {r : Bs} (h : wordD (b :: t) = some (x, r)) (h45 : ¬ (b = 45 ∧ t.head? = some 45)) : GoodW x ∧ r.length ≤ t.length := by
  unfold wordD at h
  split at h
  · -- a text
    rename_i h39
    rw [List.tail_cons] at h
    cases hq : quoR t with
    | none => rw [quoR_none t.length t (Nat.le_refl _) hq] at h; cases h
    | some y =>
      obtain ⟨a, r'⟩ := y
      obtain ⟨body, e1, e2, e3⟩ := quoR_some t.length t a r' (Nat.le_refl _) hq
      rw [e2] at h
      simp only [Option.bind_some] at h
      split at h
      · cases h
      · rename_i hl
        cases h
        refine ⟨fun r2 => ⟨39, dbl (unq body) ++ 39 :: 32 :: r2, by simp [wrW], by decide, fun h => absurd h.1 (by decide), ?_⟩, by rw [← e3]; simp⟩
        unfold wordD
        rw [if_pos (show (39 :: (dbl (unq body) ++ 39 :: 32 :: r2)).head? = some (39 : UInt8) from rfl), List.tail_cons, quo_dbl]
        simp only [Option.bind_some]
        rw [if_neg hl]
  · rename_i h39
    have h39b : b ≠ 39 := fun e => h39 (by rw [e]; rfl)
    split at h
    · -- a name
      rename_i hl
      have hn : ndL (decodeL (b :: t)).1 = true := by unfold ndL; rw [hl]; rfl
      split at h
      · cases h
      · rename_i hc
        cases h
        refine ⟨good_nd 1 0 (by decide) hn (fun r2 => ?_), ?_⟩
        · have hh := span_head hn r2
          have hsp := span_again r2 _ (b :: t) (Nat.le_refl _)
          unfold wordD
          rw [hh.2, if_neg (by simpa using h39b), hh.1, if_pos hl, hsp]
          simp only
          rw [if_neg hc]
        · have hp := span_pos (List.cons_ne_nil b t) hn
          have := congrArg List.length (span_app _ (b :: t) (Nat.le_refl _))
          rw [List.length_append] at this
          have := List.length_pos_iff.2 hp
          simp only [List.length_cons] at *
          omega
    · rename_i hl
      split at h
      · -- a number
        rename_i hd
        have hn : ndL (decodeL (b :: t)).1 = true := by unfold ndL; rw [hd]; exact Bool.or_true _
        split at h
        · rename_i hc
          cases h
          refine ⟨good_nd 2 _ (by decide) hn (fun r2 => ?_), ?_⟩
          · have hh := span_head hn r2
            have hsp := span_again r2 _ (b :: t) (Nat.le_refl _)
            unfold wordD
            rw [hh.2, if_neg (by simpa using h39b), hh.1, if_neg hl, if_pos hd, hsp]
            simp only
            rw [if_pos hc]
          · have hp := span_pos (List.cons_ne_nil b t) hn
            have := congrArg List.length (span_app _ (b :: t) (Nat.le_refl _))
            rw [List.length_append] at this
            have := List.length_pos_iff.2 hp
            simp only [List.length_cons] at *
            omega
        · cases h
      · rename_i hd
        split at h
        · -- a sign of two
          rename_i h2
          cases h
          cases t with
          | nil => simp [twoS] at h2
          | cons c t =>
            have hbc : ((b = 60 ∧ c = 62) ∨ (b = 60 ∧ c = 61)) ∨ (b = 62 ∧ c = 61) := by simpa [twoS] using h2
            refine ⟨fun r2 => ⟨b, c :: 32 :: r2, by simp [wrW], ?_, ?_, ?_⟩, by simp⟩
            · rcases hbc with (⟨rfl, rfl⟩ | ⟨rfl, rfl⟩) | ⟨rfl, rfl⟩ <;> decide
            · rcases hbc with (⟨rfl, rfl⟩ | ⟨rfl, rfl⟩) | ⟨rfl, rfl⟩ <;> exact fun h => absurd h.1 (by decide)
            · unfold wordD
              have hbl : b.toNat < 128 := by rcases hbc with (⟨rfl, rfl⟩ | ⟨rfl, rfl⟩) | ⟨rfl, rfl⟩ <;> decide
              rw [dec_low b (c :: t) hbl] at hl hd
              rw [if_neg (by simpa using h39b), dec_low b _ hbl, if_neg hl, if_neg hd, if_pos (by simpa [twoS] using hbc)]
              rfl
        · rename_i h2
          split at h
          · -- a sign of one
            rename_i hs
            cases h
            have hsb : (signs.any fun x => x == b) = true := by
              rw [← hs]
              congr 1
              funext x
              rw [Bool.eq_iff_iff]
              simp only [List.head?_cons, beq_iff_eq, Option.some.injEq]
              exact eq_comm
            have hmem : b ∈ signs := by simpa using hsb
            have hbl : b.toNat < 128 := by
              have : ∀ x ∈ signs, x.toNat < 128 := by decide
              exact this b hmem
            refine ⟨fun r2 => ⟨b, 32 :: r2, by simp [wrW], ?_, fun h => by simp at h, ?_⟩, by simp⟩
            · have : ∀ x ∈ signs, ¬ (x = 32 ∨ x = 9 ∨ x = 10) := by decide
              exact this b hmem
            · unfold wordD
              rw [dec_low b t hbl] at hl hd
              rw [if_neg (by simpa using h39b), dec_low b _ hbl, if_neg hl, if_neg hd, if_neg (by simp [twoS]), if_pos (by simpa using hmem)]
              rfl
          · cases h
theorem drop_len : ∀ t : Bs, (t.dropWhile (· != (10 : UInt8))).length ≤ t.length
  | [] => by simp
  | b :: t => by
    by_cases h : (fun x : UInt8 => x != 10) b = true
    · rw [List.dropWhile_cons_of_pos (p := fun x : UInt8 => x != 10) h]
      have := drop_len t
      simp only [List.length_cons]; omega
    · rw [List.dropWhile_cons_of_neg (p := fun x : UInt8 => x != 10) h]
      exact Nat.le_refl _
theorem words_good : ∀ (n : Nat) (ws : List Wd) (l : Bs) (Y : List Wd), l.length ≤ n → run (0, [], ws) l = .ok Y → (∀ x ∈ ws, GoodW x) → ∀ x ∈ Y, GoodW x
  | n, ws, [], Y, _, h, hg => by
    rw [run_nil] at h
    cases h
    exact hg
  | 0, ws, b :: t, Y, hl, h, hg => by simp at hl
  | n + 1, ws, b :: t, Y, hl, h, hg => by
    have hlt : t.length ≤ n := by simp at hl; omega
    by_cases hb : b = 32 ∨ b = 9 ∨ b = 10
    · rw [run_blank _ _ _ _ hb] at h
      exact words_good n ws t Y hlt h hg
    by_cases hr : b = 45 ∧ t.head? = some 45
    · obtain ⟨rfl, hr⟩ := hr
      cases t with
      | nil => cases hr
      | cons c t =>
        obtain rfl : c = 45 := by simpa using hr
        rw [run_dash] at h
        refine words_good n ws _ Y ?_ h hg
        have := drop_len t
        simp at hlt
        omega
    rw [run_word ws b t hb hr] at h
    cases hw : wordD (b :: t) with
    | none => rw [hw] at h; cases h
    | some y =>
      obtain ⟨x, r⟩ := y
      obtain ⟨hgx, hrl⟩ := good_word hw hr
      rw [hw] at h
      simp only at h
      unfold addM at h
      split at h
      · cases h
      · simp only [An.bind] at h
        refine words_good n _ r Y (by omega) h (fun z hz => ?_)
        rcases List.mem_append.1 hz with hz | hz
        · exact hg z hz
        · rw [List.mem_singleton.1 hz]; exact hgx
theorem again_from : ∀ (ws X : List Wd), X.length + ws.length ≤ 600 → (∀ x ∈ ws, GoodW x) → run (0, [], X) (wrT ws) = .ok (X ++ ws)
  | [], X, _, _ => by
    rw [show wrT [] = [] from rfl, run_nil, List.append_nil]; rfl
  | x :: ws, X, hl, hg => by
    obtain ⟨b, t, e, h1, h2, h3⟩ := hg x (by simp) (wrT ws)
    have e2 : wrT (x :: ws) = b :: t := by
      rw [← e]
      unfold wrT
      rw [List.flatMap_cons]
      simp
    rw [e2, run_word X b t h1 h2, h3]
    simp only
    unfold addM
    simp only [List.length_cons] at hl
    rw [if_neg (by omega)]
    simp only [An.bind]
    rw [run_blank _ _ _ _ (.inl rfl), again_from ws (X ++ [x]) (by rw [List.length_append, List.length_singleton]; omega) (fun y hy => hg y (by simp [hy]))]
    simp
theorem run_most : ∀ (n : Nat) (md : Nat) (cur : Bs) (ws : List Wd) (l : Bs) (Y : List Wd), l.length ≤ n → run (md, cur, ws) l = .ok Y → ws.length ≤ 600 → Y.length ≤ 600 := by
  have ha : ∀ {ws Y : List Wd} {x : Wd}, addM ws x = .ok Y → ws.length ≤ 600 → Y.length ≤ 600 := fun {ws Y x} h hl => by
    unfold addM at h
    split at h
    · cases h
    · cases h
      rw [List.length_append, List.length_singleton]
      omega
  have he : ∀ {md : Nat} {cur : Bs} {ws Y : List Wd}, endM md cur ws = .ok Y → ws.length ≤ 600 → Y.length ≤ 600 := fun {md cur ws Y} h hl => by
    unfold endM at h
    split at h
    · split at h
      · cases h
      · exact ha h hl
    · unfold numM at h
      split at h
      · exact ha h hl
      · cases h
    · cases h
    · unfold textM at h
      split at h
      · cases h
      · exact ha h hl
    · exact ha h hl
    · cases h; exact hl
  intro n
  induction n with
  | zero =>
    intro md cur ws l Y hl h hw
    obtain rfl : l = [] := List.eq_nil_of_length_eq_zero (by omega)
    rw [run_nil] at h
    exact he h hw
  | succ n ih =>
    intro md cur ws l Y hl h hw
    by_cases hne : l = []
    · subst hne
      rw [run_nil] at h
      exact he h hw
    have hwd := dec_wd l hne
    rw [run_step _ _ hne] at h
    unfold stepM at h
    simp only at h
    split at h
    · cases h
    · split at h
      · simp only [An.bind] at h
        exact ih _ _ _ _ Y (by rw [List.length_drop]; omega) h hw
      · cases hE : endM md cur ws with
        | no e => simp only [hE, An.bind] at h; cases h
        | ok W =>
          cases hb : beginM (decodeL l).1 with
          | no e => simp only [hE, hb, An.bind] at h; cases h
          | ok m =>
            simp only [hE, hb, An.bind] at h
            exact ih _ _ _ _ Y (by rw [List.length_drop]; omega) h (he hE hw)
/-- written again they are the same words -/
theorem run_again {l : Bs} {ws : List Wd} (h : run (0, [], []) l = .ok ws) : run (0, [], []) (wrT ws) = .ok ws := by
  have := again_from ws [] (by have := run_most _ _ _ _ _ _ (Nat.le_refl _) h (by simp); simpa using this) (words_good _ _ _ _ (Nat.le_refl _) h (by simp))
  simpa using this
end Go.Proofs.YtplgkblahmndoaaDoor
