/- Words that are written again with a blank behind each are the same words. Plain mathematics. -/
import Derived.Test.YtknhphcfcpjhiaaGreatDoorTkRel
import Derived.Test.YtknhphcfcpjhiaaGreatDoorTkWord
import Derived.Test.YtknhphcfcpjhiaaGreatDoorLwPure
import Derived.Lib.Replace
import Derived.Lib.CountLaws
namespace Go.Proofs.YtknhphcfcpjhiaaGreatDoor
open Go.RowKit Go.Lib
set_option linter.unusedVariables false
set_option linter.unusedSimpArgs false
set_option maxRecDepth 100000
def Gd (ws : List Wd) : Prop := ∀ x ∈ ws, x.2.1.length ≤ 4000 ∧ InR x.2.2
theorem gd_add {ws Y : List Wd} {x : Wd} (h : addM ws x = .ok Y) (hg : Gd ws) (hx : x.2.1.length ≤ 4000 ∧ InR x.2.2) : Gd Y := by
  unfold addM at h
  split at h
  · cases h
  · cases h
    intro y hy
    rcases List.mem_append.1 hy with hy | hy
    · exact hg y hy
    · rw [List.mem_singleton] at hy
      subst hy
      exact hx
theorem inR_zero : InR 0 := by unfold InR; omega
theorem gd_end {md : Nat} {cur : Bs} {ws Y : List Wd} (h : endM md cur ws = .ok Y) (hg : Gd ws) (hc : cur.length ≤ 4000) : Gd Y := by
  unfold endM at h
  split at h
  · split at h
    · cases h
    · exact gd_add h hg ⟨hc, inR_zero⟩
  · unfold numM at h
    split at h
    · rename_i hn
      unfold numOk at hn
      rw [Bool.and_eq_true, decide_eq_true_eq] at hn
      exact gd_add h hg ⟨hc, by show InR (decV cur : Int); unfold InR; have := hn.1; omega⟩
    · cases h
  · cases h
  · unfold textM at h
    split at h
    · cases h
    · exact gd_add h hg ⟨by show (unq _).length ≤ 4000; omega, inR_zero⟩
  · exact gd_add h hg ⟨hc, inR_zero⟩
  · cases h
    exact hg
theorem gd_run : ∀ (f : Nat) (x : Rd) (l : Bs) (Y : List Wd), runM f x l = .ok Y → x.2.1.length + l.length ≤ 4000 → Gd x.2.2 → Gd Y
  | 0, x, l, Y, h, hc, hg => gd_end (md := x.1) (cur := x.2.1) h hg (by omega)
  | f + 1, x, l, Y, h, hc, hg => by
    unfold runM at h
    split at h
    · exact gd_end h hg (by omega)
    · rename_i hl
      have hw := dec_wd l hl
      cases hs : stepM x (decodeL l).1 (l.take (decodeL l).2) with
      | no e => rw [hs] at h; cases h
      | ok y =>
        rw [hs] at h
        have hk : y.2.1.length ≤ x.2.1.length + (l.take (decodeL l).2).length ∧ Gd y.2.2 := by
          unfold stepM at hs
          split at hs
          · cases hs
          · split at hs
            · cases hs
              exact ⟨by show (x.2.1 ++ _).length ≤ _; rw [List.length_append]; exact Nat.le_refl _, hg⟩
            · cases he : endM x.1 x.2.1 x.2.2 with
              | no e => rw [he] at hs; cases hs
              | ok zs =>
                rw [he] at hs
                cases hb : beginM (decodeL l).1 with
                | no e => rw [hb] at hs; cases hs
                | ok md =>
                  rw [hb] at hs
                  cases hs
                  exact ⟨by show (l.take _).length ≤ _; omega, gd_end he hg (by omega)⟩
        have hlt : (l.take (decodeL l).2).length + (l.drop (decodeL l).2).length = l.length := by rw [List.length_take, List.length_drop]; omega
        exact gd_run f y _ Y h (by have := hk.1; omega) hk.2
theorem gd_words {l : Bs} {ws : List Wd} (h : (if 4000 < l.length then An.no eL else run (0, [], []) l) = .ok ws) : Gd ws := by
  split at h
  · cases h
  · exact gd_run _ _ _ _ h (by simp; omega) (fun x hx => by cases hx)
theorem gd_ok {ws : List Wd} (h : Gd ws) : WsOk ws := by
  intro i
  unfold wdAt
  rw [List.getD_eq_getElem?_getD]
  cases hi : ws[i]? with
  | none => exact ⟨by simp, inR_zero⟩
  | some x =>
    have := h x (List.mem_of_getElem? hi)
    exact ⟨by show x.2.1.length ≤ _; omega, this.2⟩
end Go.Proofs.YtknhphcfcpjhiaaGreatDoor
namespace Go.Proofs.YtknhphcfcpjhiaaGreatDoor
open Go.Lib
set_option linter.unusedVariables false
set_option linter.unusedSimpArgs false

theorem sign_high {r : Nat} (h : 128 ≤ r) : signL r = false := by
  unfold signL signs
  simp only [List.any_cons, List.any_nil, Bool.or_false, Bool.or_eq_false_iff, beq_eq_false_iff_ne]
  refine ⟨?_, ?_, ?_, ?_, ?_, ?_, ?_, ?_, ?_, ?_, ?_⟩ <;> (intro e; rw [← e] at h; revert h; decide)
end Go.Proofs.YtknhphcfcpjhiaaGreatDoor
namespace Go.Proofs.YtknhphcfcpjhiaaGreatDoor
open Go.Lib
set_option linter.unusedVariables false
set_option linter.unusedSimpArgs false

theorem idx_cons (a b : UInt8) (t : Bs) (h : ¬ (a = 39 ∧ b = 39)) : index (a :: b :: t) [39, 39] = if index (b :: t) [39, 39] == -1 then -1 else index (b :: t) [39, 39] + 1 := by
  conv => lhs; unfold index
  rw [if_neg]
  intro e
  simp only [List.isPrefixOf, Bool.and_eq_true, beq_iff_eq, Bool.and_true] at e
  exact h ⟨e.1.symm, e.2.symm⟩
theorem rep_unq : ∀ (n : Nat) (l : Bs), l.length ≤ n → replaceK [39, 39] [39] (count l [39, 39]) l = unq l
  | n, [], _ => by
    rw [count_miss rfl]; rfl
  | n, [a], _ => by
    rw [count_miss (by simp [index, List.isPrefixOf])]
    rfl
  | 0, a :: b :: t, h => by simp at h
  | n + 1, a :: b :: t, h => by
    by_cases hab : a = 39 ∧ b = 39
    · obtain ⟨rfl, rfl⟩ := hab
      have hi : index (39 :: 39 :: t) [39, 39] = ((0 : Nat) : Int) := by
        unfold index
        rw [if_pos (by simp [List.isPrefixOf])]
        rfl
      have hc := count_hit (by simp) hi
      rw [hc, Nat.add_comm, replaceK_hit _ _ _ _ _ hi]
      have ih := rep_unq n t (by simp at h; omega)
      simp only [List.take_zero, List.nil_append, Nat.zero_add, List.length_cons, List.length_nil, Nat.reduceAdd, List.drop_succ_cons, List.drop_zero] at ih ⊢
      rw [ih]
      simp [unq]
    · have hc := idx_cons a b t hab
      have ih := rep_unq n (b :: t) (by simp at h ⊢; omega)
      have hu : unq (a :: b :: t) = a :: unq (b :: t) := by
        conv => lhs; unfold unq
        rw [if_neg hab]
      rw [hu, ← ih]
      have hge := index_ge (b :: t) [39, 39]
      by_cases hm : index (b :: t) [39, 39] = -1
      · rw [hm] at hc
        rw [count_miss hc, count_miss hm]
        rfl
      · obtain ⟨i, hi⟩ : ∃ i : Nat, index (b :: t) [39, 39] = i := ⟨(index (b :: t) [39, 39]).toNat, by omega⟩
        have hi1 : index (a :: b :: t) [39, 39] = ((i + 1 : Nat) : Int) := by
          rw [hc, if_neg (by simpa using hm), hi]
          omega
        have c1 := count_hit (by simp) hi1
        have c2 := count_hit (by simp) hi
        rw [c1, c2, Nat.add_comm, Nat.add_comm 1, replaceK_hit _ _ _ _ _ hi1, replaceK_hit _ _ _ _ _ hi]
        simp only [List.take_succ_cons, List.cons_append]
        rw [show i + 1 + ([39, 39] : Bs).length = (i + ([39, 39] : Bs).length) + 1 by omega, List.drop_succ_cons]
theorem repAll (l : Bs) : replaceAll l [39, 39] [39] = unq l := by
  unfold replaceAll replace
  rw [if_neg (by decide)]
  unfold replaceNum
  rw [if_pos (.inl (by decide))]
  exact rep_unq _ l (Nat.le_refl _)
theorem unq_len : ∀ (n : Nat) (l : Bs), l.length ≤ n → (unq l).length ≤ l.length
  | n, [], _ => by simp [unq]
  | n, [a], _ => by simp [unq]
  | 0, a :: b :: t, h => by simp at h
  | n + 1, a :: b :: t, h => by
    unfold unq
    split
    · have := unq_len n t (by simp at h; omega)
      simp only [List.length_cons]; omega
    · have := unq_len n (b :: t) (by simp at h ⊢; omega)
      simp only [List.length_cons] at this ⊢; omega

theorem dec_list (s : ByteArray) (pos : Nat) : Utf8.decode s pos = decodeL (s.data.toList.drop pos) := (decodeL_drop s pos).symm
theorem allD_byte {b : UInt8} (h : digL b.toNat = true) : 48 ≤ b.toNat ∧ b.toNat ≤ 57 := dig_low h
theorem decA (l : Bs) : ∀ (acc : Nat), l.foldl (fun n b => 10 * n + (b.toNat - 48)) acc = acc * 10 ^ l.length + decV l := by
  induction l with
  | nil => intro acc; simp [decV]
  | cons b t ih =>
    intro acc
    have e : decV (b :: t) = t.foldl (fun n b => 10 * n + (b.toNat - 48)) (10 * 0 + (b.toNat - 48)) := rfl
    rw [e, List.foldl_cons, ih, ih, List.length_cons, Nat.pow_succ]
    have h1 : (10 * acc + (b.toNat - 48)) * 10 ^ t.length = acc * (10 ^ t.length * 10) + (b.toNat - 48) * 10 ^ t.length := by
      rw [Nat.add_mul, Nat.mul_comm 10 acc, Nat.mul_assoc, Nat.mul_comm 10 (10 ^ t.length)]
    have h2 : (10 * 0 + (b.toNat - 48)) * 10 ^ t.length = (b.toNat - 48) * 10 ^ t.length := by rw [Nat.mul_zero, Nat.zero_add]
    omega
theorem decV_cons (b : UInt8) (t : Bs) : decV (b :: t) = (b.toNat - 48) * 10 ^ t.length + decV t := by
  have e : decV (b :: t) = t.foldl (fun n b => 10 * n + (b.toNat - 48)) (10 * 0 + (b.toNat - 48)) := rfl
  rw [e, decA]
  simp
end Go.Proofs.YtknhphcfcpjhiaaGreatDoor
namespace Go.Proofs.YtknhphcfcpjhiaaGreatDoor
open Go.Lib
set_option linter.unusedVariables false
set_option linter.unusedSimpArgs false

/-- a line feed behind a text changes no rune of it -/
theorem decN_more (n m b0 b1 b2 b3 c1 c2 c3 : Nat) (hn : 1 ≤ n) (hm : n ≤ m) (h1 : (1 < n ∧ c1 = b1) ∨ (n = 1 ∧ c1 = 10)) (h2 : (2 < n ∧ c2 = b2) ∨ (n = 2 ∧ c2 = 10) ∨ n < 2) (h3 : (3 < n ∧ c3 = b3) ∨ (n = 3 ∧ c3 = 10) ∨ n < 3) : decodeN m b0 c1 c2 c3 = decodeN n b0 b1 b2 b3 := by
  rcases h1 with ⟨h1, rfl⟩ | ⟨rfl, rfl⟩
  · rcases h2 with ⟨h2, rfl⟩ | ⟨rfl, rfl⟩ | h2
    · rcases h3 with ⟨h3, rfl⟩ | ⟨rfl, rfl⟩ | h3
      · unfold decodeN
        simp only [h1, h2, h3, show 1 < m by omega, show 2 < m by omega, show 3 < m by omega]
      · unfold decodeN
        have e1 : (10 / 64 = 2) = False := by simp
        simp only [show 1 < m by omega, show 2 < m by omega, e1, Nat.lt_irrefl, false_and, and_false, if_false, true_and, show (1 < 3) = True by simp, show (2 < 3) = True by simp]
      · omega
    · unfold decodeN
      have e1 : (10 / 64 = 2) = False := by simp
      simp only [show 1 < m by omega, e1, Nat.lt_irrefl, false_and, and_false, if_false, true_and, show (1 < 2) = True by simp]
    · omega
  · unfold decodeN
    have e1 : (10 / 64 = 2) = False := by simp
    simp only [e1, Nat.lt_irrefl, false_and, and_false, if_false]
theorem dec_lf (b : UInt8) (t r : Bs) : decodeL ((b :: t) ++ 10 :: r) = decodeL (b :: t) := by
  rw [decodeL_N, decodeL_N]
  have g : ∀ i, ((b :: t) ++ 10 :: r).getD i 0 = if i < (b :: t).length then (b :: t).getD i 0 else (10 :: r).getD (i - (b :: t).length) 0 := fun i => by
    simp only [List.getD_eq_getElem?_getD, List.getElem?_append]
    split <;> rfl
  rw [g 0, g 1, g 2, g 3]
  have hl : 1 ≤ (b :: t).length := by simp
  generalize hn : (b :: t).length = n at *
  have h0 : (if 0 < n then (b :: t).getD 0 0 else (10 :: r).getD (0 - n) 0) = (b :: t).getD 0 0 := if_pos (by omega)
  rw [h0]
  refine decN_more n _ _ _ _ _ _ _ _ hl (by rw [List.length_append, hn]; omega) ?_ ?_ ?_
  · by_cases h : 1 < n
    · exact .inl ⟨h, by rw [if_pos h]⟩
    · right
      obtain rfl : n = 1 := by omega
      exact ⟨rfl, by rw [if_neg h]; rfl⟩
  · by_cases h : 2 < n
    · exact .inl ⟨h, by rw [if_pos h]⟩
    · right
      by_cases h2 : n = 2
      · subst h2; exact .inl ⟨rfl, by rw [if_neg h]; rfl⟩
      · exact .inr (by omega)
  · by_cases h : 3 < n
    · exact .inl ⟨h, by rw [if_pos h]⟩
    · right
      by_cases h2 : n = 3
      · subst h2; exact .inl ⟨rfl, by rw [if_neg h]; rfl⟩
      · exact .inr (by omega)
theorem end_lf {md : Nat} {cur : Bs} {ws X : List Wd} (h : endM md cur ws = .ok X) (r : Bs) : run (md, cur, ws) (10 :: r) = run (0, [], X) (10 :: r) := by
  by_cases h3 : md = 3
  · subst h3; cases h
  · have hg : goes md cur 10 = none := by
      unfold goes
      split
      · rfl
      · rfl
      · exact absurd rfl h3
      · rfl
      · simp [pairL]
      · rfl
      · rfl
    rw [run_end _ _ (by simp) (by rw [dec_low 10 r (by decide)]; exact fun e => absurd e.2 (by decide)) (by rw [dec_low 10 r (by decide)]; exact hg)]
    simp only [h, An.bind]
/-- a text, a line feed, and more -/
theorem run_lf : ∀ (n : Nat) (x : Rd) (l r : Bs) (X : List Wd), l.length ≤ n → run x l = .ok X → run x (l ++ 10 :: r) = run (0, [], X) (10 :: r)
  | n, x, [], r, X, _, h => by
    rw [run_nil] at h
    rw [List.nil_append]
    exact end_lf h r
  | 0, x, b :: t, r, X, hl, h => by simp at hl
  | n + 1, x, b :: t, r, X, hl, h => by
    have hw := dec_wd (b :: t) (by simp)
    rw [run_step _ _ (by simp)] at h
    rw [run_step _ _ (by simp), dec_lf]
    have e1 : ((b :: t) ++ 10 :: r).take (decodeL (b :: t)).2 = (b :: t).take (decodeL (b :: t)).2 := by rw [List.take_append_of_le_length hw.2]
    have e2 : ((b :: t) ++ 10 :: r).drop (decodeL (b :: t)).2 = (b :: t).drop (decodeL (b :: t)).2 ++ 10 :: r := by rw [List.drop_append_of_le_length hw.2]
    rw [e1, e2]
    cases hs : stepM x (decodeL (b :: t)).1 ((b :: t).take (decodeL (b :: t)).2) with
    | no e => rw [hs] at h; cases h
    | ok y =>
      rw [hs] at h
      simp only [An.bind] at h ⊢
      exact run_lf n y _ r X (by rw [List.length_drop]; simp at hl ⊢; omega) h
theorem drop_note {note : Bs} (h : ∀ b ∈ note, b ≠ 10) (r : Bs) : (note ++ 10 :: r).dropWhile (· != 10) = 10 :: r := by
  induction note with
  | nil => rw [List.nil_append, List.dropWhile_cons_of_neg (by simp)]
  | cons b t ih =>
    rw [List.cons_append, List.dropWhile_cons_of_pos (by simpa using h b (by simp))]
    exact ih (fun x hx => h x (by simp [hx]))
theorem run_dash (ws : List Wd) (l : Bs) : run (0, [], ws) (45 :: 45 :: l) = run (0, [], ws) (l.dropWhile (· != 10)) := by
  rw [run_low _ _ _ (by decide), step_blank, show beginM (45 : UInt8).toNat = .ok 5 from rfl]
  simp only [An.bind]
  rw [run_low _ _ _ (by decide)]
  have hs : stepM (5, [45], ws) (45 : UInt8).toNat [45] = .ok (6, [45] ++ [45], ws) := by
    unfold stepM
    rw [if_neg (fun e => absurd (show (5 : Nat) = 2 from e.1) (by decide))]
    rfl
  rw [hs]
  simp only [An.bind]
  exact run_remark l.length _ ws l (Nat.le_refl _)
end Go.Proofs.YtknhphcfcpjhiaaGreatDoor
namespace Go.Proofs.YtknhphcfcpjhiaaGreatDoor
open Go.Lib
set_option linter.unusedVariables false
set_option linter.unusedSimpArgs false

theorem run_most : ∀ (n : Nat) (md : Nat) (cur : Bs) (ws : List Wd) (l : Bs) (Y : List Wd), l.length ≤ n → run (md, cur, ws) l = .ok Y → ws.length ≤ 600 → Y.length ≤ 600 := by
  have ha : ∀ {ws Y : List Wd} {x : Wd}, addM ws x = .ok Y → ws.length ≤ 600 → Y.length ≤ 600 := fun {ws Y x} h hl => by
    unfold addM at h
    split at h
    · cases h
    · cases h
      rw [List.length_append, List.length_singleton]
      omega
  have he : ∀ {md : Nat} {cur : Bs} {ws Y : List Wd}, endM md cur ws = .ok Y → ws.length ≤ 600 → Y.length ≤ 600 := fun {md cur ws Y} h hl => by
    unfold endM at h
    split at h
    · split at h
      · cases h
      · exact ha h hl
    · unfold numM at h
      split at h
      · exact ha h hl
      · cases h
    · cases h
    · unfold textM at h
      split at h
      · cases h
      · exact ha h hl
    · exact ha h hl
    · cases h; exact hl
  intro n
  induction n with
  | zero =>
    intro md cur ws l Y hl h hw
    obtain rfl : l = [] := List.eq_nil_of_length_eq_zero (by omega)
    rw [run_nil] at h
    exact he h hw
  | succ n ih =>
    intro md cur ws l Y hl h hw
    by_cases hne : l = []
    · subst hne
      rw [run_nil] at h
      exact he h hw
    have hwd := dec_wd l hne
    rw [run_step _ _ hne] at h
    unfold stepM at h
    simp only at h
    split at h
    · cases h
    · split at h
      · simp only [An.bind] at h
        exact ih _ _ _ _ Y (by rw [List.length_drop]; omega) h hw
      · cases hE : endM md cur ws with
        | no e => simp only [hE, An.bind] at h; cases h
        | ok W =>
          cases hb : beginM (decodeL l).1 with
          | no e => simp only [hE, hb, An.bind] at h; cases h
          | ok m =>
            simp only [hE, hb, An.bind] at h
            exact ih _ _ _ _ Y (by rw [List.length_drop]; omega) h (he hE hw)
end Go.Proofs.YtknhphcfcpjhiaaGreatDoor
