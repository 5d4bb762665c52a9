/- ExprBack, pure: quotes are doubled; how long an expression's text is. -/
import Derived.Test.YtpinalpigefenaaGreatDoorBkTxt
import Derived.Lib.Replace
import Derived.Lib.CountLaws
import Derived.Lib.ItoaNum
set_option linter.unusedVariables false
set_option linter.unusedSimpArgs false
set_option maxRecDepth 100000
namespace Go.Proofs.YtpinalpigefenaaGreatDoor
open Go.RowKit Go.Lib
theorem idx_one (a : UInt8) (t : Bs) (h : a ≠ 39) : index (a :: t) [39] = if index t [39] == -1 then -1 else index t [39] + 1 := by
  conv => lhs; unfold index
  rw [if_neg]
  intro e
  simp only [List.isPrefixOf, Bool.and_true, beq_iff_eq] at e
  exact h e.symm
theorem rep_dblK : ∀ (n : Nat) (l : Bs), l.length ≤ n → replaceK [39] [39, 39] (count l [39]) l = dbl l
  | n, [], _ => by
    rw [count_miss rfl]; rfl
  | 0, a :: t, h => by simp at h
  | n + 1, a :: t, h => by
    have ih := rep_dblK n t (by simp at h; omega)
    by_cases ha : a = 39
    · subst ha
      have hi : index (39 :: t) [39] = ((0 : Nat) : Int) := by
        unfold index
        rw [if_pos (by simp [List.isPrefixOf])]
        rfl
      have hc := count_hit (by simp) hi
      rw [hc, Nat.add_comm, replaceK_hit _ _ _ _ _ hi]
      simp only [List.take_zero, List.nil_append, Nat.zero_add, List.length_cons, List.length_nil, Nat.reduceAdd, List.drop_succ_cons, List.drop_zero] at ih ⊢
      rw [ih]
      simp [dbl]
    · have hc := idx_one a t ha
      have hu : dbl (a :: t) = a :: dbl t := by
        conv => lhs; unfold dbl
        rw [if_neg ha]
      rw [hu, ← ih]
      have hge := index_ge t [39]
      by_cases hm : index t [39] = -1
      · rw [hm] at hc
        rw [count_miss hc, count_miss hm]
        rfl
      · obtain ⟨i, hi⟩ : ∃ i : Nat, index t [39] = i := ⟨(index t [39]).toNat, by omega⟩
        have hi1 : index (a :: t) [39] = ((i + 1 : Nat) : Int) := by
          rw [hc, if_neg (by simpa using hm), hi]
          omega
        have c1 := count_hit (by simp) hi1
        have c2 := count_hit (by simp) hi
        rw [c1, c2, Nat.add_comm, Nat.add_comm 1, replaceK_hit _ _ _ _ _ hi1, replaceK_hit _ _ _ _ _ hi]
        simp only [List.take_succ_cons, List.cons_append]
        rw [show i + 1 + ([39] : Bs).length = (i + ([39] : Bs).length) + 1 by omega, List.drop_succ_cons]
theorem rep_dbl (l : Bs) : replaceAll l [39] [39, 39] = dbl l := by
  unfold replaceAll replace
  rw [if_neg (by decide)]
  unfold replaceNum
  rw [if_pos (.inl (by decide))]
  exact rep_dblK _ l (Nat.le_refl _)
theorem dbl_most : ∀ l : Bs, (dbl l).length ≤ 2 * l.length
  | [] => by simp [dbl]
  | b :: t => by
    have := dbl_most t
    unfold dbl
    split <;> (simp only [List.length_cons]; omega)
theorem digs_len {n : Int} (h : n ≤ 9223372036854775807) : (decDigits n.toNat).length ≤ 19 := by
  rw [decDigits_length]
  have h1 : nDigits n.toNat ≤ 19 := by
    have key : ∀ k u : Nat, u < 10 ^ k → 1 ≤ k → nDigits u ≤ k := by
      intro k
      induction k with
      | zero => intro u _ h; omega
      | succ k ih =>
        intro u hu _
        by_cases h : u < 10
        · rw [nDigits_small h]; omega
        · rw [nDigits_big h]
          rw [Nat.pow_succ] at hu
          have hk : 1 ≤ k := by
            cases k with
            | zero => simp at hu; omega
            | succ k => omega
          have := ih (u / 10) (by omega) hk
          omega
    exact key 19 _ (by have : (10 : Nat) ^ 19 = 10000000000000000000 := by decide
                       omega) (by decide)
  exact h1
/-- runes are four bytes at most -/
theorem len_par (b : Bool) (l : List Tok) : (textK (parK b l)).length ≤ (textK l).length + 2 := by
  unfold parK
  cases b with
  | true => simp
  | false =>
    rw [if_neg (by simp), textK_cons, textK_app]
    simp [tokT, wrW, textK]
theorem len_pK (hnm : ∀ c : ByteArray, nmB c = true → c.size ≤ 100) : ∀ {n : Nat} {e : ET}, FmE nmB n e → numE n e → (textK (pK n e)).length + 1000 ≤ 2000 * 2 ^ n := by
  have tc := textK_cons
  intro n e h
  induction h with
  | @lit n vk vn vs h =>
    intro hn
    have hp : 1 ≤ 2 ^ n := Nat.one_le_two_pow
    rw [Nat.pow_succ]
    rcases h with ⟨rfl, rfl, rfl⟩ | ⟨rfl, h0, rfl⟩ | ⟨rfl, rfl, h0⟩
    · simp [pK, textK, tokT, wrW, ET.kind, ET.vk]; omega
    · have := digs_len hn.1
      replace this : (decDigits vn.toNat).length ≤ 19 := this
      simp [pK, textK, tokT, wrW, ET.kind, ET.vk, ET.vn, dgt]; omega
    · have := dbl_most vs.data.toList
      have h2 : vs.data.toList.length ≤ 100 := by rw [Array.length_toList]; exact h0
      simp only [pK, textK, tokT, wrW, ET.kind, ET.vk, ET.vs, List.flatMap_cons, List.flatMap_nil, reduceIte, (by decide : ¬ (2 : Int) = 1), List.length_append, List.length_cons, List.length_nil]
      omega
  | @col n t c h h2 =>
    intro hn
    have hp : 1 ≤ 2 ^ n := Nat.one_le_two_pow
    rw [Nat.pow_succ]
    have hc := hnm c h
    have hcl : c.data.toList.length = c.size := by rw [Array.length_toList]; rfl
    by_cases h0 : t = ⟨#[]⟩
    · have e : pK (n + 1) (.mk 2 ⟨#[]⟩ 0 0 ⟨#[]⟩ t c []) = [some (1, c.data.toList, 0)] := by simp [pK, ET.kind, ET.tab, ET.col, h0]
      rw [e]
      show (c.data.toList ++ []).length + 1000 ≤ _
      rw [List.append_nil]; omega
    · have e : pK (n + 1) (.mk 2 ⟨#[]⟩ 0 0 ⟨#[]⟩ t c []) = [some (1, t.data.toList, 0), some (4, [46], 0), some (1, c.data.toList, 0)] := by simp [pK, ET.kind, ET.tab, ET.col, h0]
      have ht := hnm t (h2.resolve_left h0)
      have htl : t.data.toList.length = t.size := by rw [Array.length_toList]; rfl
      rw [e]
      show (t.data.toList ++ (46 :: (c.data.toList ++ []))).length + 1000 ≤ _
      simp only [List.length_append, List.length_cons, List.length_nil]; omega
  | @una n op p h hp ih =>
    intro hn
    have hip := ih (hn.2 p List.mem_cons_self)
    rw [Nat.pow_succ]
    rcases h with rfl | rfl
    · have e : pK (n + 1) (.mk 3 (bs [78, 79, 84]) 0 0 ⟨#[]⟩ ⟨#[]⟩ ⟨#[]⟩ [p]) = some (1, [78, 79, 84], 0) :: none :: parK (decide (3 ≤ lvlE p)) (pK n p) := by simp [pK, ET.kind, ET.parts, ET.op]
      have := len_par (decide (3 ≤ lvlE p)) (pK n p)
      rw [e, tc, tc]
      simp only [tokT, wrW, List.length_append, List.length_cons, List.length_nil, (by decide : ¬ (1 : Int) = 3), if_false]
      omega
    · have e : pK (n + 1) (.mk 3 (bs [45]) 0 0 ⟨#[]⟩ ⟨#[]⟩ ⟨#[]⟩ [p]) = some (4, [45], 0) :: parK (decide (8 ≤ lvlE p)) (pK n p) := by
        have : ¬ bs [45] = bs [78, 79, 84] := by decide
        simp [pK, ET.kind, ET.parts, ET.op, this]
      have := len_par (decide (8 ≤ lvlE p)) (pK n p)
      rw [e, tc]
      simp only [tokT, wrW, List.length_append, List.length_cons, List.length_nil, (by decide : ¬ (4 : Int) = 3), if_false]
      omega
  | @bin n op p q h hp hq ihp ihq =>
    intro hn
    have hip := ihp (hn.2 p List.mem_cons_self)
    have hiq := ihq (hn.2 q (List.mem_cons_of_mem _ List.mem_cons_self))
    rw [Nat.pow_succ]
    have e : pK (n + 1) (.mk 4 op 0 0 ⟨#[]⟩ ⟨#[]⟩ ⟨#[]⟩ [p, q]) = parK (decide (leftL (lvlE (.mk 4 op 0 0 ⟨#[]⟩ ⟨#[]⟩ ⟨#[]⟩ [p, q])) ≤ lvlE p)) (pK n p) ++ none :: some (opK op.data.toList, op.data.toList, 0) :: none :: parK (decide (lvlE (.mk 4 op 0 0 ⟨#[]⟩ ⟨#[]⟩ ⟨#[]⟩ [p, q]) + 1 ≤ lvlE q)) (pK n q) := by simp [pK, ET.kind, ET.parts, ET.op]
    have l1 := len_par (decide (leftL (lvlE (.mk 4 op 0 0 ⟨#[]⟩ ⟨#[]⟩ ⟨#[]⟩ [p, q])) ≤ lvlE p)) (pK n p)
    have l2 := len_par (decide (lvlE (.mk 4 op 0 0 ⟨#[]⟩ ⟨#[]⟩ ⟨#[]⟩ [p, q]) + 1 ≤ lvlE q)) (pK n q)
    have ho : (tokT (some (opK op.data.toList, op.data.toList, 0))).length ≤ 3 := by
      have hk : opK op.data.toList ≠ 3 := by unfold opK; split <;> decide
      show (if opK op.data.toList = 3 then _ else op.data.toList).length ≤ 3
      rw [if_neg hk]
      generalize op.data.toList = t at h
      unfold levB at h
      by_cases h1 : t = [79, 82]
      · rw [h1]; decide
      rw [if_neg h1] at h
      by_cases h2 : t = [65, 78, 68]
      · rw [h2]; decide
      rw [if_neg h2] at h
      by_cases h4 : t = [61] ∨ t = [60, 62] ∨ t = [60] ∨ t = [60, 61] ∨ t = [62] ∨ t = [62, 61]
      · rcases h4 with rfl | rfl | rfl | rfl | rfl | rfl <;> decide
      rw [if_neg h4] at h
      by_cases h5 : t = [43] ∨ t = [45]
      · rcases h5 with rfl | rfl <;> decide
      rw [if_neg h5] at h
      by_cases h6 : t = [42]
      · rw [h6]; decide
      · rw [if_neg h6] at h; exact absurd rfl h
    rw [e, textK_app, tc, tc, tc]
    generalize textK (parK (decide (leftL (lvlE (.mk 4 op 0 0 ⟨#[]⟩ ⟨#[]⟩ ⟨#[]⟩ [p, q])) ≤ lvlE p)) (pK n p)) = A at *
    generalize textK (parK (decide (lvlE (.mk 4 op 0 0 ⟨#[]⟩ ⟨#[]⟩ ⟨#[]⟩ [p, q]) + 1 ≤ lvlE q)) (pK n q)) = B at *
    generalize tokT (some (opK op.data.toList, op.data.toList, 0)) = O at *
    simp only [List.length_append]
    have : (tokT none).length = 1 := rfl
    omega
  | @tst n op p h hp ih =>
    intro hn
    have hip := ih (hn.2 p List.mem_cons_self)
    rw [Nat.pow_succ]
    have := len_par (decide (5 ≤ lvlE p)) (pK n p)
    rcases h with rfl | rfl
    · have e : pK (n + 1) (.mk 5 ⟨#[73, 83, 32, 78, 85, 76, 76]⟩ 0 0 ⟨#[]⟩ ⟨#[]⟩ ⟨#[]⟩ [p]) = parK (decide (5 ≤ lvlE p)) (pK n p) ++ none :: some (1, [73, 83], 0) :: none :: [some (1, [78, 85, 76, 76], 0)] := by simp [pK, ET.kind, ET.parts, ET.op, bs]
      rw [show bs [73, 83, 32, 78, 85, 76, 76] = ⟨#[73, 83, 32, 78, 85, 76, 76]⟩ from rfl, e, textK_app, List.length_append, show (textK (none :: some (1, [73, 83], 0) :: none :: [some (1, [78, 85, 76, 76], 0)])).length = 8 from rfl]
      omega
    · have e : pK (n + 1) (.mk 5 (bs [73, 83, 32, 78, 79, 84, 32, 78, 85, 76, 76]) 0 0 ⟨#[]⟩ ⟨#[]⟩ ⟨#[]⟩ [p]) = parK (decide (5 ≤ lvlE p)) (pK n p) ++ none :: some (1, [73, 83], 0) :: none :: [some (1, [78, 79, 84], 0), none, some (1, [78, 85, 76, 76], 0)] := by
        have : ¬ bs [73, 83, 32, 78, 79, 84, 32, 78, 85, 76, 76] = bs [73, 83, 32, 78, 85, 76, 76] := by decide
        simp [pK, ET.kind, ET.parts, ET.op, this]
      rw [e, textK_app, List.length_append, show (textK (none :: some (1, [73, 83], 0) :: none :: [some (1, [78, 79, 84], 0), none, some (1, [78, 85, 76, 76], 0)])).length = 12 from rfl]
      omega
  | @agg n op p h hp ih =>
    intro hn
    have hip := ih (hn.2 p List.mem_cons_self)
    rw [Nat.pow_succ]
    have e : pK (n + 1) (.mk 6 op 0 0 ⟨#[]⟩ ⟨#[]⟩ ⟨#[]⟩ [p]) = some (1, op.data.toList, 0) :: some (4, [40], 0) :: (pK n p ++ [some (4, [41], 0)]) := by simp [pK, ET.kind, ET.parts, ET.op]
    have ho : op.data.toList.length ≤ 5 := by
      generalize op.data.toList = t at h
      unfold aggB at h
      simp only [Bool.or_eq_true, beq_iff_eq] at h
      rcases h with ((rfl | rfl) | rfl) | rfl <;> decide
    rw [e, tc, tc, textK_app]
    simp only [tokT, wrW, List.length_append, List.length_cons, List.length_nil, (by decide : ¬ (1 : Int) = 3), (by decide : ¬ (4 : Int) = 3), if_false, show (textK [some (4, [41], 0)]).length = 1 from rfl]
    omega
  | @cnt n =>
    intro hn
    have hp : 1 ≤ 2 ^ n := Nat.one_le_two_pow
    rw [Nat.pow_succ, show textK (pK (n + 1) (.mk 6 (bs [67, 79, 85, 78, 84]) 0 0 ⟨#[]⟩ ⟨#[]⟩ ⟨#[]⟩ [])) = [67, 79, 85, 78, 84, 40, 42, 41] from rfl]
    simp only [List.length_cons, List.length_nil]
    omega
end Go.Proofs.YtpinalpigefenaaGreatDoor
