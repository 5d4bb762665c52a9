/- The document's bag: rows in the order of their keys, so many times. Plain mathematics. -/
import Derived.Test.YtplgkblahmndoaaKOPure
namespace Go.Proofs.Ytplgkblahmndoaa
open Go.RowKit
set_option linter.unusedVariables false

theorem lessI_irr : ∀ l : List Int, lessI l l = false
  | [] => by simp [lessI]
  | x :: xs => by simp [lessI, lessI_irr xs]
theorem lessI_trans : ∀ {a b c : List Int}, lessI a b = true → lessI b c = true → lessI a c = true
  | a, b, [], _, h => by cases b <;> simp [lessI] at h
  | [], b, c :: cs, _, _ => by simp [lessI]
  | a :: ax, [], c :: cs, h, _ => by simp [lessI] at h
  | a :: ax, b :: bs, c :: cs, h1, h2 => by
    simp only [lessI] at h1 h2 ⊢
    by_cases e1 : a < b
    · by_cases e2 : b < c
      · rw [if_pos (by omega)]
      · by_cases e3 : c < b
        · rw [if_neg e2, if_pos e3] at h2; cases h2
        · rw [if_pos (by omega)]
    · by_cases e1' : b < a
      · rw [if_neg e1, if_pos e1'] at h1; cases h1
      · rw [if_neg e1, if_neg e1'] at h1
        by_cases e2 : b < c
        · rw [if_pos (by omega)]
        · by_cases e3 : c < b
          · rw [if_neg e2, if_pos e3] at h2; cases h2
          · rw [if_neg e2, if_neg e3] at h2
            rw [if_neg (by omega), if_neg (by omega)]
            exact lessI_trans h1 h2
theorem lessI_tot : ∀ a b : List Int, lessI a b = true ∨ a = b ∨ lessI b a = true
  | [], [] => .inr (.inl rfl)
  | [], b :: bs => .inl (by simp [lessI])
  | a :: ax, [] => .inr (.inr (by simp [lessI]))
  | a :: ax, b :: bs => by
    by_cases e1 : a < b
    · exact .inl (by simp [lessI, e1])
    · by_cases e2 : b < a
      · exact .inr (.inr (by simp [lessI, e2]))
      · obtain rfl : a = b := by omega
        rcases lessI_tot ax bs with h | rfl | h
        · exact .inl (by simp [lessI, h])
        · exact .inr (.inl rfl)
        · exact .inr (.inr (by simp [lessI, h]))
theorem lessI_no {a b : List Int} (h : lessI a b = true) : lessI b a = false := by
  cases h' : lessI b a with
  | false => rfl
  | true =>
    have := lessI_trans h h'
    rw [lessI_irr] at this
    cases this

/-- an entry: a row, so many times -/
abbrev Ent := List Val × Int
def kE (e : Ent) : List Int := keyVs e.1
/-- where a key stands, or would -/
def posB : List Ent → List Int → Nat
  | [], _ => 0
  | e :: L, k => if lessI (kE e) k = true then posB L k + 1 else 0
def hitB (L : List Ent) (k : List Int) : Bool :=
  match L[posB L k]? with
  | some e => decide (kE e = k)
  | none => false
def cntB (L : List Ent) (k : List Int) : Int :=
  match L[posB L k]? with
  | some e => if kE e = k then e.2 else 0
  | none => 0
/-- so many times is a row there now -/
def putB (L : List Ent) (r : List Val) (s : Int) : List Ent :=
  L.take (posB L (keyVs r)) ++ (if s = 0 then [] else [(r, s)]) ++ L.drop (posB L (keyVs r) + (hitB L (keyVs r)).toNat)
def SortB (L : List Ent) : Prop := L.Pairwise fun a b => lessI (kE a) (kE b) = true
theorem posB_le : ∀ (L : List Ent) (k : List Int), posB L k ≤ L.length
  | [], k => by simp [posB]
  | e :: L, k => by
    unfold posB
    split
    · have := posB_le L k
      simp; omega
    · omega
theorem posB_lt : ∀ (L : List Ent) (k : List Int) (e : Ent), e ∈ L.take (posB L k) → lessI (kE e) k = true
  | [], k, e, h => by simp [posB] at h
  | x :: L, k, e, h => by
    unfold posB at h
    split at h
    · rename_i hx
      rw [List.take_succ_cons] at h
      rcases List.mem_cons.1 h with rfl | h
      · exact hx
      · exact posB_lt L k e h
    · simp at h
theorem posB_ge : ∀ (L : List Ent) (k : List Int), SortB L → ∀ e ∈ L.drop (posB L k), kE e = k ∨ lessI k (kE e) = true
  | [], k, _, e, h => by simp at h
  | x :: L, k, hs, e, h => by
    have hs' := List.pairwise_cons.1 hs
    unfold posB at h
    split at h
    · rw [List.drop_succ_cons] at h
      exact posB_ge L k hs'.2 e h
    · rename_i hx
      rw [List.drop_zero] at h
      have h0 : kE x = k ∨ lessI k (kE x) = true := by
        rcases lessI_tot (kE x) k with h | h | h
        · exact absurd h hx
        · exact .inl h
        · exact .inr h
      rcases List.mem_cons.1 h with rfl | h
      · exact h0
      · have h1 := hs'.1 e h
        rcases h0 with h0 | h0
        · rw [h0] at h1; exact .inr h1
        · exact .inr (lessI_trans h0 h1)
theorem posB_gt {L : List Ent} {k : List Int} (hs : SortB L) : ∀ e ∈ L.drop (posB L k + (hitB L k).toNat), lessI k (kE e) = true := by
  intro e he
  have hd : SortB (L.drop (posB L k)) := hs.sublist (List.drop_sublist _ _)
  have hg := posB_ge L k hs
  rw [← List.drop_drop] at he
  cases hL : L.drop (posB L k) with
  | nil => rw [hL] at he; simp at he
  | cons x t =>
    have hx : L[posB L k]? = some x := by
      have := congrArg (fun l => l[0]?) hL
      simpa [List.getElem?_drop] using this
    rw [hL] at he hg hd
    have hd' := List.pairwise_cons.1 hd
    unfold hitB at he
    rw [hx] at he
    by_cases hk : kE x = k
    · simp only [hk, decide_true, Bool.toNat_true, List.drop_succ_cons, List.drop_zero] at he
      rw [← hk]
      exact hd'.1 e he
    · simp only [hk, decide_false, Bool.toNat_false, List.drop_zero] at he
      rcases List.mem_cons.1 he with rfl | he
      · rcases hg e List.mem_cons_self with h | h
        · exact absurd h hk
        · exact h
      · rcases hg e (List.mem_cons_of_mem _ he) with h | h
        · have h1 := hd'.1 e he
          rcases hg x List.mem_cons_self with h2 | h2
          · exact absurd h2 hk
          · have h3 := lessI_trans h2 h1
            rw [h, lessI_irr] at h3
            cases h3
        · exact h
theorem putB_sort {L : List Ent} (hs : SortB L) (r : List Val) (s : Int) : SortB (putB L r s) := by
  have ht : SortB (L.take (posB L (keyVs r))) := hs.sublist (List.take_sublist _ _)
  have hd : SortB (L.drop (posB L (keyVs r) + (hitB L (keyVs r)).toNat)) := hs.sublist (List.drop_sublist _ _)
  have hlo := posB_lt L (keyVs r)
  have hhi := posB_gt (k := keyVs r) hs
  unfold putB
  refine List.pairwise_append.2 ⟨List.pairwise_append.2 ⟨ht, ?_, ?_⟩, hd, ?_⟩
  · split <;> simp
  · intro a ha b hb
    split at hb
    · simp at hb
    · obtain rfl := List.mem_singleton.1 hb
      exact hlo a ha
  · intro a ha b hb
    rcases List.mem_append.1 ha with ha | ha
    · exact lessI_trans (hlo a ha) (hhi b hb)
    · split at ha
      · simp at ha
      · obtain rfl := List.mem_singleton.1 ha
        exact hhi b hb
theorem hit_iff {L : List Ent} (hs : SortB L) (k : List Int) : hitB L k = true ↔ ∃ e ∈ L, kE e = k := by
  constructor
  · intro h
    unfold hitB at h
    cases hx : L[posB L k]? with
    | none => rw [hx] at h; cases h
    | some e =>
      rw [hx] at h
      exact ⟨e, List.mem_of_getElem? hx, of_decide_eq_true h⟩
  · rintro ⟨e, he, hk⟩
    cases hh : hitB L k with
    | true => rfl
    | false =>
      have h1 := posB_gt (k := k) hs
      rw [hh] at h1
      simp only [Bool.toNat_false, Nat.add_zero] at h1
      rw [← List.take_append_drop (posB L k) L] at he
      rcases List.mem_append.1 he with h | h
      · have := posB_lt L k e h
        rw [hk, lessI_irr] at this
        cases this
      · have := h1 e h
        rw [hk, lessI_irr] at this
        cases this
theorem hit_at {L : List Ent} {k : List Int} (h : hitB L k = true) : ∃ e, L[posB L k]? = some e ∧ kE e = k ∧ cntB L k = e.2 := by
  unfold hitB at h
  cases hx : L[posB L k]? with
  | none => rw [hx] at h; cases h
  | some e =>
    rw [hx] at h
    have hk := of_decide_eq_true h
    refine ⟨e, rfl, hk, ?_⟩
    unfold cntB
    rw [hx]
    exact if_pos hk
theorem cnt_none {L : List Ent} {k : List Int} (h : hitB L k = false) : cntB L k = 0 := by
  unfold hitB at h
  unfold cntB
  cases hx : L[posB L k]? with
  | none => rfl
  | some e =>
    rw [hx] at h
    exact if_neg (of_decide_eq_false h)
theorem sort_key {L : List Ent} (hs : SortB L) : ∀ {a b : Ent}, a ∈ L → b ∈ L → kE a = kE b → a = b := by
  induction L with
  | nil => intro a b ha; cases ha
  | cons x t ih =>
    intro a b ha hb hk
    have hs' := List.pairwise_cons.1 hs
    rcases List.mem_cons.1 ha with rfl | ha
    · rcases List.mem_cons.1 hb with rfl | hb
      · rfl
      · have := hs'.1 b hb
        rw [hk, lessI_irr] at this
        cases this
    · rcases List.mem_cons.1 hb with hb | hb
      · rw [hb] at hk
        have := hs'.1 a ha
        rw [hk, lessI_irr] at this
        cases this
      · exact ih hs'.2 ha hb hk
theorem cnt_mem {L : List Ent} (hs : SortB L) {e : Ent} (he : e ∈ L) : cntB L (kE e) = e.2 := by
  obtain ⟨x, hx, hk, hc⟩ := hit_at ((hit_iff hs (kE e)).2 ⟨e, he, rfl⟩)
  rw [hc, sort_key hs (List.mem_of_getElem? hx) he hk]
theorem mem_put {L : List Ent} (hs : SortB L) (r : List Val) (s : Int) (e : Ent) : e ∈ putB L r s ↔ (s ≠ 0 ∧ e = (r, s)) ∨ (e ∈ L ∧ kE e ≠ keyVs r) := by
  have hlo := posB_lt L (keyVs r)
  have hhi := posB_gt (k := keyVs r) hs
  unfold putB
  constructor
  · intro h
    rcases List.mem_append.1 h with h | h
    · rcases List.mem_append.1 h with h | h
      · refine .inr ⟨List.mem_of_mem_take h, fun hk => ?_⟩
        have := hlo e h
        rw [hk, lessI_irr] at this
        cases this
      · split at h
        · simp at h
        · rename_i h0
          exact .inl ⟨h0, List.mem_singleton.1 h⟩
    · refine .inr ⟨List.mem_of_mem_drop h, fun hk => ?_⟩
      have := hhi e h
      rw [hk, lessI_irr] at this
      cases this
  · rintro (⟨h0, rfl⟩ | ⟨he, hk⟩)
    · refine List.mem_append.2 (.inl (List.mem_append.2 (.inr ?_)))
      rw [if_neg h0]
      exact List.mem_singleton.2 rfl
    · rw [← List.take_append_drop (posB L (keyVs r)) L] at he
      rcases List.mem_append.1 he with h | h
      · exact List.mem_append.2 (.inl (List.mem_append.2 (.inl h)))
      · refine List.mem_append.2 (.inr ?_)
        cases hh : hitB L (keyVs r) with
        | false => simpa [hh] using h
        | true =>
          obtain ⟨x, hx, hkx, _⟩ := hit_at hh
          have hd : L.drop (posB L (keyVs r)) = x :: L.drop (posB L (keyVs r) + 1) := List.drop_eq_getElem?_toList_append.trans (by rw [hx]; rfl)
          rw [hd] at h
          rcases List.mem_cons.1 h with rfl | h
          · exact absurd hkx hk
          · exact h
theorem cnt_put {L : List Ent} (hs : SortB L) (hn : ∀ e ∈ L, e.2 ≠ 0) (r : List Val) (s : Int) (k : List Int) : cntB (putB L r s) k = if k = keyVs r then s else cntB L k := by
  have hp := putB_sort hs r s
  have hm := mem_put hs r s
  by_cases hk : k = keyVs r
  · subst hk
    rw [if_pos rfl]
    by_cases h0 : s = 0
    · subst h0
      apply cnt_none
      cases hh : hitB (putB L r 0) (keyVs r) with
      | false => rfl
      | true =>
        obtain ⟨e, he, hke⟩ := (hit_iff hp _).1 hh
        rcases (hm e).1 he with ⟨h, _⟩ | ⟨_, h⟩
        · exact absurd rfl h
        · exact absurd hke h
    · exact cnt_mem hp (e := (r, s)) ((hm _).2 (.inl ⟨h0, rfl⟩))
  · rw [if_neg hk]
    cases hh : hitB L k with
    | true =>
      obtain ⟨e, he, hke⟩ := (hit_iff hs k).1 hh
      have he' := (hm e).2 (.inr ⟨he, by rw [hke]; exact hk⟩)
      have h1 := cnt_mem hs he
      have h2 := cnt_mem hp he'
      rw [hke] at h1 h2
      rw [h1, h2]
    | false =>
      rw [cnt_none hh]
      apply cnt_none
      cases hh2 : hitB (putB L r s) k with
      | false => rfl
      | true =>
        obtain ⟨e, he, hke⟩ := (hit_iff hp k).1 hh2
        rcases (hm e).1 he with ⟨_, rfl⟩ | ⟨h, _⟩
        · exact absurd hke.symm hk
        · rw [(hit_iff hs k).2 ⟨e, h, hke⟩] at hh
          cases hh
/-- one order only -/
theorem sort_ext : ∀ {L M : List Ent}, SortB L → SortB M → (∀ e, e ∈ L ↔ e ∈ M) → L = M
  | [], [], _, _, _ => rfl
  | [], b :: M, _, _, h => by have := (h b).2 List.mem_cons_self; cases this
  | a :: L, [], _, _, h => by have := (h a).1 List.mem_cons_self; cases this
  | a :: L, b :: M, hl, hm, h => by
    have hl' := List.pairwise_cons.1 hl
    have hm' := List.pairwise_cons.1 hm
    have hab : a = b := by
      rcases List.mem_cons.1 ((h a).1 List.mem_cons_self) with h1 | h1
      · exact h1
      · rcases List.mem_cons.1 ((h b).2 List.mem_cons_self) with h2 | h2
        · exact h2.symm
        · have := lessI_trans (hl'.1 b h2) (hm'.1 a h1)
          rw [lessI_irr] at this
          cases this
    subst hab
    rw [sort_ext hl'.2 hm'.2 (fun e => ?_)]
    constructor
    · intro he
      rcases List.mem_cons.1 ((h e).1 (List.mem_cons_of_mem _ he)) with rfl | h1
      · have := hl'.1 e he
        rw [lessI_irr] at this
        cases this
      · exact h1
    · intro he
      rcases List.mem_cons.1 ((h e).2 (List.mem_cons_of_mem _ he)) with rfl | h1
      · have := hm'.1 e he
        rw [lessI_irr] at this
        cases this
      · exact h1
end Go.Proofs.Ytplgkblahmndoaa
