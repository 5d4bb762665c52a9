/- Words that are written again with a blank behind each are the same words. Plain mathematics. -/
import Derived.Test.YtpinalpigefenaaGreatDoorLwPure
import Derived.Lib.Replace
import Derived.Lib.CountLaws
namespace Go.Proofs.YtpinalpigefenaaGreatDoor
open Go.Lib
set_option linter.unusedVariables false
set_option linter.unusedSimpArgs false

def twoS (l : Bs) : Bool := l.take 2 == [60, 62] || l.take 2 == [60, 61] || l.take 2 == [62, 61]
/-- the word that a text begins with, and what is behind it -/
def wordD (l : Bs) : Option (Wd × Bs) :=
  if l.head? = some 39 then (quo l.tail).bind fun x => if 100 < x.1.length then none else some ((3, x.1, 0), x.2)
  else if letL (decodeL l).1 = true then (if 16 < runeCountL (span l).1 then none else some ((1, (span l).1, 0), (span l).2))
  else if digL (decodeL l).1 = true then (if (allD (span l).1 && numOk (span l).1) = true then some ((2, (span l).1, (decV (span l).1 : Int)), (span l).2) else none)
  else if twoS l = true then some ((4, l.take 2, 0), l.drop 2)
  else if (signs.any fun b => l.head? == some b) = true then some ((4, l.take 1, 0), l.drop 1) else none
theorem begin_let {r : Nat} (h : letL r = true) : beginM r = .ok 1 := by
  unfold beginM
  rw [if_neg (fun e => by
    rcases e with rfl | rfl | rfl <;> revert h <;> decide), if_pos h]
theorem let_dig {r : Nat} (h : digL r = true) : letL r = false := by
  have := dig_low h
  unfold letL letZ
  simp only [Bool.or_eq_false_iff, decide_eq_false_iff_not]
  omega
theorem begin_dig {r : Nat} (h : digL r = true) : beginM r = .ok 2 := by
  have := dig_low h
  unfold beginM
  rw [if_neg (by omega), if_neg (by rw [let_dig h]; simp), if_pos h]
theorem run_two (x y : UInt8) (ws : List Wd) (l : Bs) : run (5, [x, y], ws) l = (addM ws (4, [x, y], 0)).bind fun ws => run (0, [], ws) l := by
  by_cases h : l = []
  · subst h
    simp only [run_nil, endM]
    exact (An.bind_ok _).symm
  · rw [run_end _ _ h (fun e => absurd (show (5 : Nat) = 2 from e.1) (by decide)) (by simp [goes, pairL])]
    simp only [endM]
theorem sign_low {b : UInt8} : signL b.toNat = (signs.any fun x => x == b) := by
  unfold signL
  congr 1
  funext x
  rw [Bool.eq_iff_iff]
  simp only [beq_iff_eq]
  exact ⟨fun h => UInt8.toNat_inj.1 h, fun h => by rw [h]⟩
theorem sign_high {r : Nat} (h : 128 ≤ r) : signL r = false := by
  unfold signL signs
  simp only [List.any_cons, List.any_nil, Bool.or_false, Bool.or_eq_false_iff, beq_eq_false_iff_ne]
  refine ⟨?_, ?_, ?_, ?_, ?_, ?_, ?_, ?_, ?_, ?_, ?_⟩ <;> (intro e; rw [← e] at h; revert h; decide)
theorem pair_eq (b c : UInt8) : pairL [b] c.toNat = twoS [b, c] := by
  unfold pairL twoS
  have h1 : (c.toNat == 61) = (c == 61) := by rw [Bool.eq_iff_iff]; simp only [beq_iff_eq]; exact ⟨fun h => UInt8.toNat_inj.1 (by simpa using h), fun h => by rw [h]; rfl⟩
  have h2 : (c.toNat == 62) = (c == 62) := by rw [Bool.eq_iff_iff]; simp only [beq_iff_eq]; exact ⟨fun h => UInt8.toNat_inj.1 (by simpa using h), fun h => by rw [h]; rfl⟩
  rw [h1, h2]
  simp only [List.take_succ_cons, List.take_zero, List.cons_beq_cons, beq_self_eq_true, Bool.and_true]
  cases (b == 60) <;> cases (b == 62) <;> cases (c == 61) <;> cases (c == 62) <;> rfl
set_option maxRecDepth 10000 in
/-- with nothing open, at a word: that word, and on behind it -/
theorem run_word (ws : List Wd) (b : UInt8) (t : Bs) (hb : ¬ (b = 32 ∨ b = 9 ∨ b = 10)) (hr : ¬ (b = 45 ∧ t.head? = some 45)) :
    run (0, [], ws) (b :: t) = match wordD (b :: t) with
      | none => .no eS
      | some x => (addM ws x.1).bind fun ws => run (0, [], ws) x.2 := by
  by_cases h39 : b = 39
  · subst h39
    rw [run_low _ _ _ (by decide), step_blank, show beginM (39 : UInt8).toNat = .ok 3 from rfl]
    simp only [An.bind]
    rw [run_text t.length _ _ _ (Nat.le_refl _)]
    unfold wordD
    rw [if_pos (by rfl), List.tail_cons]
    cases hq : quoR t with
    | none => rw [quoR_none t.length t (Nat.le_refl _) hq]; rfl
    | some x =>
      obtain ⟨a, r⟩ := x
      obtain ⟨body, rfl, e2, _⟩ := quoR_some t.length t a r (Nat.le_refl _) hq
      rw [e2]
      simp only [Option.bind_some]
      have e : endM 4 ([39] ++ (body ++ [39])) ws = textM body ws := by
        simp only [endM]
        rw [List.singleton_append, List.drop_succ_cons, List.drop_zero, List.dropLast_concat]
      rw [e]
      unfold textM
      split <;> rfl
  have h39' : ¬ (b :: t).head? = some 39 := by simpa using h39
  have hne : b :: t ≠ [] := List.cons_ne_nil b t
  unfold wordD
  rw [if_neg h39']
  by_cases hl : letL (decodeL (b :: t)).1 = true
  · rw [if_pos hl, run_step _ _ hne, step_blank, begin_let hl]
    have hs := span_yes hne (show ndL (decodeL (b :: t)).1 = true by unfold ndL; rw [hl]; rfl)
    simp only [An.bind]
    rw [run_name _ _ _ _ (Nat.le_refl _), hs]
    simp only [endM]
    split <;> rfl
  rw [if_neg hl]
  by_cases hd : digL (decodeL (b :: t)).1 = true
  · have hbl := dig_byte hd
    rw [if_pos hd, run_step _ _ hne, step_blank, begin_dig hd]
    have hs := span_yes hne (show ndL (decodeL (b :: t)).1 = true by unfold ndL; rw [hd]; exact Bool.or_true _)
    simp only [An.bind]
    rw [run_num _ _ _ _ (Nat.le_refl _), hs]
    have e : allD ((b :: t).take (decodeL (b :: t)).2 ++ (span ((b :: t).drop (decodeL (b :: t)).2)).1) = allD (span ((b :: t).drop (decodeL (b :: t)).2)).1 := by
      have hdl := dec_low b t hbl
      rw [hdl] at hd ⊢
      unfold allD
      rw [List.take_succ_cons, List.take_zero, List.all_append, List.all_cons, hd]
      rfl
    simp only
    rw [e]
    cases ha : allD (span ((b :: t).drop (decodeL (b :: t)).2)).1 with
    | false => rfl
    | true =>
      rw [if_pos rfl]
      simp only [endM, Bool.true_and, numM]
      cases numOk ((b :: t).take (decodeL (b :: t)).2 ++ (span ((b :: t).drop (decodeL (b :: t)).2)).1) <;> rfl
  rw [if_neg hd]
  have hany : (signs.any fun x => (b :: t).head? == some x) = (signs.any fun x => x == b) := by
    congr 1
    funext x
    rw [Bool.eq_iff_iff]
    simp only [List.head?_cons, beq_iff_eq, Option.some.injEq]
    exact eq_comm
  rw [hany]
  by_cases hlow : b.toNat < 128
  · have hdl := dec_low b t hlow
    rw [hdl] at hl hd
    simp only at hl hd
    have hbg : beginM b.toNat = if signL b.toNat = true then .ok 5 else .no eS := by
      unfold beginM
      rw [if_neg (fun e => hb (by
        rcases e with e | e | e
        · exact .inl (UInt8.toNat_inj.1 (by simpa using e))
        · exact .inr (.inl (UInt8.toNat_inj.1 (by simpa using e)))
        · exact .inr (.inr (UInt8.toNat_inj.1 (by simpa using e))))), if_neg hl, if_neg hd, if_neg (fun e => h39 (UInt8.toNat_inj.1 (by simpa using e)))]
    rw [run_low _ _ _ hlow, step_blank, hbg, sign_low]
    cases hs : (signs.any fun x => x == b) with
    | false =>
      rw [if_neg (by simp), if_neg (fun h2 => by
        unfold twoS at h2
        have : b = 60 ∨ b = 62 := by
          cases t with
          | nil => simp at h2
          | cons c t =>
            simp at h2
            rcases h2 with (h2 | h2) | h2
            · exact .inl h2.1
            · exact .inl h2.1
            · exact .inr h2.1
        rcases this with rfl | rfl <;> revert hs <;> decide), if_neg (by simp)]
      rfl
    | true =>
      rw [if_pos rfl, if_pos rfl]
      simp only [An.bind]
      cases t with
      | nil =>
        rw [if_neg (by simp [twoS]), run_nil]
        simp only [endM, List.take_succ_cons, List.take_zero, List.drop_succ_cons, List.drop_zero, run_nil]
        exact (An.bind_ok _).symm
      | cons c t =>
        by_cases hcl : c.toNat < 128
        · have hcd := dec_low c t hcl
          have htw : twoS (b :: c :: t) = twoS [b, c] := by simp [twoS]
          rw [htw, ← pair_eq]
          have hno : ([b] == ([45] : Bs) && c.toNat == 45) = false := by
            rw [Bool.and_eq_false_iff]
            by_cases hb4 : b = 45
            · right
              rw [beq_eq_false_iff_ne]
              exact fun e => hr ⟨hb4, by rw [show c = 45 from UInt8.toNat_inj.1 (by simpa using e)]; rfl⟩
            · left
              rw [beq_eq_false_iff_ne]
              exact fun e => hb4 (by simpa using e)
          cases hp : pairL [b] c.toNat with
          | true =>
            rw [if_pos rfl, run_low _ _ _ hcl]
            have hg : goes 5 [b] c.toNat = some 5 := by
              unfold goes
              simp only [hno, hp]
              rfl
            unfold stepM
            rw [if_neg (fun e => absurd (show (5 : Nat) = 2 from e.1) (by decide))]
            simp only [hg, An.bind]
            exact run_two b c ws t
          | false =>
            have hg : goes 5 [b] c.toNat = none := by
              unfold goes
              simp only [hno, hp]
              rfl
            rw [if_neg (by simp), run_end _ _ (List.cons_ne_nil c t) (fun e => absurd (show (5 : Nat) = 2 from e.1) (by decide)) (by rw [hcd]; exact hg)]
            rfl
        · have hch := (dec_high c t (by omega)).1
          have hg : goes 5 [b] (decodeL (c :: t)).1 = none := by
            generalize (decodeL (c :: t)).1 = r at hch
            unfold goes
            have e1 : (r == 45) = false := beq_eq_false_iff_ne.2 (by omega)
            have e2 : (r == 61) = false := beq_eq_false_iff_ne.2 (by omega)
            have e3 : (r == 62) = false := beq_eq_false_iff_ne.2 (by omega)
            simp only [pairL, e1, e2, e3, Bool.and_false, Bool.or_false]
            rfl
          have h2 : twoS (b :: c :: t) = false := by
            have e1 : c ≠ 61 := fun e => by rw [e] at hcl; exact hcl (by decide)
            have e2 : c ≠ 62 := fun e => by rw [e] at hcl; exact hcl (by decide)
            simp [twoS, e1, e2]
          rw [h2, if_neg (by simp), run_end _ _ (List.cons_ne_nil c t) (fun e => absurd (show (5 : Nat) = 2 from e.1) (by decide)) hg]
          rfl
  · have hh := dec_high b t (by omega)
    have hbg : beginM (decodeL (b :: t)).1 = .no eS := by
      unfold beginM
      rw [if_neg (by omega), if_neg hl, if_neg hd, if_neg (by omega), if_neg (by rw [sign_high hh.1]; simp)]
    rw [run_step _ _ hne, step_blank, hbg]
    have hs : (signs.any fun x => x == b) = false := by
      rw [← sign_low]
      exact sign_high (by omega)
    have h2 : twoS (b :: t) = false := by
      have e1 : b ≠ 60 := fun e => by rw [e] at hlow; exact hlow (by decide)
      have e2 : b ≠ 62 := fun e => by rw [e] at hlow; exact hlow (by decide)
      cases t <;> simp [twoS, e1, e2]
    rw [h2, hs, if_neg (by simp), if_neg (by simp)]
    rfl
end Go.Proofs.YtpinalpigefenaaGreatDoor
namespace Go.Proofs.YtpinalpigefenaaGreatDoor
open Go.Lib
set_option linter.unusedVariables false
set_option linter.unusedSimpArgs false

theorem idx_cons (a b : UInt8) (t : Bs) (h : ¬ (a = 39 ∧ b = 39)) : index (a :: b :: t) [39, 39] = if index (b :: t) [39, 39] == -1 then -1 else index (b :: t) [39, 39] + 1 := by
  conv => lhs; unfold index
  rw [if_neg]
  intro e
  simp only [List.isPrefixOf, Bool.and_eq_true, beq_iff_eq, Bool.and_true] at e
  exact h ⟨e.1.symm, e.2.symm⟩
theorem rep_unq : ∀ (n : Nat) (l : Bs), l.length ≤ n → replaceK [39, 39] [39] (count l [39, 39]) l = unq l
  | n, [], _ => by
    rw [count_miss rfl]; rfl
  | n, [a], _ => by
    rw [count_miss (by simp [index, List.isPrefixOf])]
    rfl
  | 0, a :: b :: t, h => by simp at h
  | n + 1, a :: b :: t, h => by
    by_cases hab : a = 39 ∧ b = 39
    · obtain ⟨rfl, rfl⟩ := hab
      have hi : index (39 :: 39 :: t) [39, 39] = ((0 : Nat) : Int) := by
        unfold index
        rw [if_pos (by simp [List.isPrefixOf])]
        rfl
      have hc := count_hit (by simp) hi
      rw [hc, Nat.add_comm, replaceK_hit _ _ _ _ _ hi]
      have ih := rep_unq n t (by simp at h; omega)
      simp only [List.take_zero, List.nil_append, Nat.zero_add, List.length_cons, List.length_nil, Nat.reduceAdd, List.drop_succ_cons, List.drop_zero] at ih ⊢
      rw [ih]
      simp [unq]
    · have hc := idx_cons a b t hab
      have ih := rep_unq n (b :: t) (by simp at h ⊢; omega)
      have hu : unq (a :: b :: t) = a :: unq (b :: t) := by
        conv => lhs; unfold unq
        rw [if_neg hab]
      rw [hu, ← ih]
      have hge := index_ge (b :: t) [39, 39]
      by_cases hm : index (b :: t) [39, 39] = -1
      · rw [hm] at hc
        rw [count_miss hc, count_miss hm]
        rfl
      · obtain ⟨i, hi⟩ : ∃ i : Nat, index (b :: t) [39, 39] = i := ⟨(index (b :: t) [39, 39]).toNat, by omega⟩
        have hi1 : index (a :: b :: t) [39, 39] = ((i + 1 : Nat) : Int) := by
          rw [hc, if_neg (by simpa using hm), hi]
          omega
        have c1 := count_hit (by simp) hi1
        have c2 := count_hit (by simp) hi
        rw [c1, c2, Nat.add_comm, Nat.add_comm 1, replaceK_hit _ _ _ _ _ hi1, replaceK_hit _ _ _ _ _ hi]
        simp only [List.take_succ_cons, List.cons_append]
        rw [show i + 1 + ([39, 39] : Bs).length = (i + ([39, 39] : Bs).length) + 1 by omega, List.drop_succ_cons]
theorem repAll (l : Bs) : replaceAll l [39, 39] [39] = unq l := by
  unfold replaceAll replace
  rw [if_neg (by decide)]
  unfold replaceNum
  rw [if_pos (.inl (by decide))]
  exact rep_unq _ l (Nat.le_refl _)
theorem unq_len : ∀ (n : Nat) (l : Bs), l.length ≤ n → (unq l).length ≤ l.length
  | n, [], _ => by simp [unq]
  | n, [a], _ => by simp [unq]
  | 0, a :: b :: t, h => by simp at h
  | n + 1, a :: b :: t, h => by
    unfold unq
    split
    · have := unq_len n t (by simp at h; omega)
      simp only [List.length_cons]; omega
    · have := unq_len n (b :: t) (by simp at h ⊢; omega)
      simp only [List.length_cons] at this ⊢; omega

/-- a letter or digit that a text begins with is there whatever stands behind it -/
theorem decN_greek (n b0 b1 b2 b3 : Nat) (h0 : 128 ≤ b0) (h : 945 ≤ (decodeN n b0 b1 b2 b3).1 ∧ (decodeN n b0 b1 b2 b3).1 ≤ 969) : (decodeN n b0 b1 b2 b3).2 = 2 ∧ 1 < n ∧ ∀ n' b2' b3', 1 < n' → decodeN n' b0 b1 b2' b3' = decodeN n b0 b1 b2 b3 := by
  by_cases c1 : b0 / 32 = 6 ∧ (1 < n ∧ b1 / 64 = 2)
  · by_cases c2 : b0 % 32 * 64 + b1 % 64 ≥ 128
    · have e : ∀ n' b2' b3', 1 < n' → decodeN n' b0 b1 b2' b3' = (b0 % 32 * 64 + b1 % 64, 2) := fun n' b2' b3' hn => by
        unfold decodeN
        rw [if_neg (by omega), if_pos ⟨c1.1, hn, c1.2.2⟩, if_pos c2]
      rw [e n b2 b3 c1.2.1]
      exact ⟨rfl, c1.2.1, fun n' b2' b3' hn => e n' b2' b3' hn⟩
    · exfalso
      unfold decodeN at h
      rw [if_neg (by omega), if_pos c1, if_neg c2] at h
      simp only at h
      omega
  · exfalso
    unfold decodeN at h
    rw [if_neg (by omega), if_neg c1] at h
    revert h
    repeat' split
    all_goals (simp only; omega)
theorem nd_chunk (b : UInt8) (t t' : Bs) (h : ndL (decodeL (b :: t)).1 = true) : decodeL ((b :: t).take (decodeL (b :: t)).2 ++ t') = decodeL (b :: t) := by
  by_cases hb : b.toNat < 128
  · rw [dec_low b t hb, List.take_succ_cons, List.take_zero, List.cons_append, dec_low b _ hb]
  · have hh := dec_high b t (by omega)
    have hl : letL (decodeL (b :: t)).1 = true := by
      unfold ndL at h
      rw [Bool.or_eq_true] at h
      rcases h with h | h
      · exact h
      · have := dig_low h; omega
    have hg := let_high hh.1 hl
    rw [decodeL_N] at hg
    simp only [List.getD_cons_zero] at hg
    obtain ⟨h1, h2, h3⟩ := decN_greek _ _ _ _ _ (by omega) hg
    have e : decodeL (b :: t) = decodeN (b :: t).length b.toNat ((b :: t).getD 1 0).toNat ((b :: t).getD 2 0).toNat ((b :: t).getD 3 0).toNat := by rw [decodeL_N]; simp only [List.getD_cons_zero]
    match t, h2 with
    | [], h2 => simp at h2
    | c :: t, h2 =>
      rw [e, h1, decodeL_N]
      simp only [List.take_succ_cons, List.take_zero, List.cons_append, List.nil_append, List.getD_cons_zero, List.getD_cons_succ] at h3 ⊢
      exact h3 _ _ _ (by simp)
theorem dec_list (s : ByteArray) (pos : Nat) : Utf8.decode s pos = decodeL (s.data.toList.drop pos) := (decodeL_drop s pos).symm
/-- digits -/
theorem decV_snoc (l : Bs) (b : UInt8) : decV (l ++ [b]) = 10 * decV l + (b.toNat - 48) := by
  unfold decV
  rw [List.foldl_append]
  rfl
theorem allD_byte {b : UInt8} (h : digL b.toNat = true) : 48 ≤ b.toNat ∧ b.toNat ≤ 57 := dig_low h
theorem decA (l : Bs) : ∀ (acc : Nat), l.foldl (fun n b => 10 * n + (b.toNat - 48)) acc = acc * 10 ^ l.length + decV l := by
  induction l with
  | nil => intro acc; simp [decV]
  | cons b t ih =>
    intro acc
    have e : decV (b :: t) = t.foldl (fun n b => 10 * n + (b.toNat - 48)) (10 * 0 + (b.toNat - 48)) := rfl
    rw [e, List.foldl_cons, ih, ih, List.length_cons, Nat.pow_succ]
    have h1 : (10 * acc + (b.toNat - 48)) * 10 ^ t.length = acc * (10 ^ t.length * 10) + (b.toNat - 48) * 10 ^ t.length := by
      rw [Nat.add_mul, Nat.mul_comm 10 acc, Nat.mul_assoc, Nat.mul_comm 10 (10 ^ t.length)]
    have h2 : (10 * 0 + (b.toNat - 48)) * 10 ^ t.length = (b.toNat - 48) * 10 ^ t.length := by rw [Nat.mul_zero, Nat.zero_add]
    omega
theorem decV_cons (b : UInt8) (t : Bs) : decV (b :: t) = (b.toNat - 48) * 10 ^ t.length + decV t := by
  have e : decV (b :: t) = t.foldl (fun n b => 10 * n + (b.toNat - 48)) (10 * 0 + (b.toNat - 48)) := rfl
  rw [e, decA]
  simp
end Go.Proofs.YtpinalpigefenaaGreatDoor
namespace Go.Proofs.YtpinalpigefenaaGreatDoor
open Go.Lib
set_option linter.unusedVariables false
set_option linter.unusedSimpArgs false

/-- a text's letters, each quote twice -/
def dbl : Bs → Bs
  | [] => []
  | b :: t => if b = 39 then 39 :: 39 :: dbl t else b :: dbl t
/-- how a word is written -/
def wrW (x : Wd) : Bs := if x.1 = 3 then 39 :: (dbl x.2.1 ++ [39]) else x.2.1
theorem run_most : ∀ (n : Nat) (md : Nat) (cur : Bs) (ws : List Wd) (l : Bs) (Y : List Wd), l.length ≤ n → run (md, cur, ws) l = .ok Y → ws.length ≤ 600 → Y.length ≤ 600 := by
  have ha : ∀ {ws Y : List Wd} {x : Wd}, addM ws x = .ok Y → ws.length ≤ 600 → Y.length ≤ 600 := fun {ws Y x} h hl => by
    unfold addM at h
    split at h
    · cases h
    · cases h
      rw [List.length_append, List.length_singleton]
      omega
  have he : ∀ {md : Nat} {cur : Bs} {ws Y : List Wd}, endM md cur ws = .ok Y → ws.length ≤ 600 → Y.length ≤ 600 := fun {md cur ws Y} h hl => by
    unfold endM at h
    split at h
    · split at h
      · cases h
      · exact ha h hl
    · unfold numM at h
      split at h
      · exact ha h hl
      · cases h
    · cases h
    · unfold textM at h
      split at h
      · cases h
      · exact ha h hl
    · exact ha h hl
    · cases h; exact hl
  intro n
  induction n with
  | zero =>
    intro md cur ws l Y hl h hw
    obtain rfl : l = [] := List.eq_nil_of_length_eq_zero (by omega)
    rw [run_nil] at h
    exact he h hw
  | succ n ih =>
    intro md cur ws l Y hl h hw
    by_cases hne : l = []
    · subst hne
      rw [run_nil] at h
      exact he h hw
    have hwd := dec_wd l hne
    rw [run_step _ _ hne] at h
    unfold stepM at h
    simp only at h
    split at h
    · cases h
    · split at h
      · simp only [An.bind] at h
        exact ih _ _ _ _ Y (by rw [List.length_drop]; omega) h hw
      · cases hE : endM md cur ws with
        | no e => simp only [hE, An.bind] at h; cases h
        | ok W =>
          cases hb : beginM (decodeL l).1 with
          | no e => simp only [hE, hb, An.bind] at h; cases h
          | ok m =>
            simp only [hE, hb, An.bind] at h
            exact ih _ _ _ _ Y (by rw [List.length_drop]; omega) h (he hE hw)
end Go.Proofs.YtpinalpigefenaaGreatDoor
