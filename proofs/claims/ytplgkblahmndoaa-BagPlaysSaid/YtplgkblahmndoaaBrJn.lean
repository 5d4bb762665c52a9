/- Bags that are joined. Plain mathematics. -/
import Derived.Test.YtplgkblahmndoaaBrAdd
namespace Go.Proofs.Ytplgkblahmndoaa
open Go.RowKit
set_option linter.unusedVariables false

theorem key_inj {a b : List Val} (ha : ∀ v ∈ a, okV v) (hb : ∀ v ∈ b, okV v) (h : keyVs a = keyVs b) : a = b := by
  have h1 := rowK_key a ha
  rw [h, rowK_key b hb] at h1
  exact (Option.some.inj h1).symm
/-- a list that a bag may have -/
structure OkL (L : List Ent) : Prop where
  sort : SortB L
  nz : ∀ e ∈ L, e.2 ≠ 0
  okr : ∀ e ∈ L, (∀ v ∈ e.1, okV v) ∧ e.1.length ≤ 50
  num : ∀ e ∈ L, in64 e.2
theorem OkL.nil : OkL [] := ⟨List.Pairwise.nil, by simp, by simp, by simp⟩
theorem cnt_ne {L : List Ent} {k : List Int} (h : cntB L k ≠ 0) : hitB L k = true := by
  cases hh : hitB L k with
  | true => rfl
  | false => exact absurd (cnt_none hh) h
theorem OkL.mem_cnt {L M : List Ent} (hL : OkL L) (hM : OkL M) {e : Ent} (he : e ∈ L) (h : cntB M (kE e) = e.2) : e ∈ M := by
  obtain ⟨x, hx, hk⟩ := (hit_iff hM.sort (kE e)).1 (cnt_ne (by rw [h]; exact hL.nz e he))
  have h1 := cnt_mem hM.sort hx
  rw [hk, h] at h1
  have h2 : x.1 = e.1 := key_inj (hM.okr x hx).1 (hL.okr e he).1 hk
  have : x = e := Prod.ext h2 h1.symm
  rw [← this]; exact hx
theorem cnt_ext {L M : List Ent} (hL : OkL L) (hM : OkL M) (h : ∀ k, cntB L k = cntB M k) : L = M :=
  sort_ext hL.sort hM.sort (fun e => ⟨fun he => hL.mem_cnt hM he (by rw [← h]; exact cnt_mem hL.sort he), fun he => hM.mem_cnt hL he (by rw [h]; exact cnt_mem hM.sort he)⟩)
theorem OkL.put {L : List Ent} (h : OkL L) {r : List Val} {s : Int} (hr : (∀ v ∈ r, okV v) ∧ r.length ≤ 50) (hs : in64 s) : OkL (putB L r s) := by
  have hm := mem_put h.sort r s
  refine ⟨putB_sort h.sort r s, fun e he => ?_, fun e he => ?_, fun e he => ?_⟩
  · rcases (hm e).1 he with ⟨h0, rfl⟩ | ⟨h1, _⟩
    · exact h0
    · exact h.nz e h1
  · rcases (hm e).1 he with ⟨h0, rfl⟩ | ⟨h1, _⟩
    · exact hr
    · exact h.okr e h1
  · rcases (hm e).1 he with ⟨h0, rfl⟩ | ⟨h1, _⟩
    · exact hs
    · exact h.num e h1
theorem put_put {L : List Ent} (h : OkL L) {r : List Val} {s s' : Int} (hr : (∀ v ∈ r, okV v) ∧ r.length ≤ 50) (hs : in64 s) (hs' : in64 s') : putB (putB L r s) r s' = putB L r s' := by
  refine cnt_ext ((h.put hr hs).put hr hs') (h.put hr hs') (fun k => ?_)
  rw [cnt_put (h.put hr hs).sort (h.put hr hs).nz, cnt_put h.sort h.nz, cnt_put h.sort h.nz]
  by_cases e : k = keyVs r
  · rw [if_pos e, if_pos e]
  · rw [if_neg e, if_neg e, if_neg e]
/-- so many times a key is in a list -/
def totB : List Ent → List Int → Int
  | [], _ => 0
  | e :: M, k => (if kE e = k then e.2 else 0) + totB M k
theorem tot_none : ∀ {M : List Ent} {k : List Int}, (∀ e ∈ M, kE e ≠ k) → totB M k = 0
  | [], k, _ => rfl
  | e :: M, k, h => by
    rw [totB, if_neg (h e List.mem_cons_self), tot_none (fun x hx => h x (List.mem_cons_of_mem _ hx))]
    rfl
theorem sort_ne {e : Ent} {M : List Ent} (h : SortB (e :: M)) : ∀ x ∈ M, kE x ≠ kE e := fun x hx hk => by
  have := (List.pairwise_cons.1 h).1 x hx
  rw [hk, lessI_irr] at this
  cases this
/-- what joining makes of a list, s times -/
def joinF (L : List Ent) (s : Int) (A M : List Ent) : List Ent := M.foldl (fun A e => putB A e.1 (cntB L (kE e) + s * e.2)) A
def joinT (L M : List Ent) (s : Int) (k : Nat) : List Ent := joinF L s L (M.take k)
def FitL (L M : List Ent) (s : Int) : Prop := ∀ e ∈ M, in64 (cntB L (kE e) + s * e.2)
instance (L M : List Ent) (s : Int) : Decidable (FitL L M s) := by unfold FitL; infer_instance
theorem joinF_ok {L : List Ent} {s : Int} : ∀ {M A : List Ent}, OkL A → (∀ e ∈ M, (∀ v ∈ e.1, okV v) ∧ e.1.length ≤ 50) → FitL L M s → OkL (joinF L s A M)
  | [], A, hA, _, _ => hA
  | e :: M, A, hA, hr, hf => joinF_ok (M := M) (hA.put (hr e List.mem_cons_self) (hf e List.mem_cons_self)) (fun x hx => hr x (List.mem_cons_of_mem _ hx)) (fun x hx => hf x (List.mem_cons_of_mem _ hx))
theorem joinF_cnt {L : List Ent} {s : Int} : ∀ {M A : List Ent}, OkL A → SortB M → (∀ e ∈ M, (∀ v ∈ e.1, okV v) ∧ e.1.length ≤ 50) → FitL L M s → (∀ e ∈ M, cntB A (kE e) = cntB L (kE e)) → ∀ k, cntB (joinF L s A M) k = cntB A k + s * totB M k
  | [], A, hA, _, _, _, _, k => by simp [joinF, totB]
  | e :: M, A, hA, hs, hr, hf, hc, k => by
    have hs' := List.pairwise_cons.1 hs
    have hA' := hA.put (hr e List.mem_cons_self) (hf e List.mem_cons_self)
    have hne := sort_ne hs
    have ih := joinF_cnt (L := L) (s := s) (M := M) hA' hs'.2 (fun x hx => hr x (List.mem_cons_of_mem _ hx)) (fun x hx => hf x (List.mem_cons_of_mem _ hx)) (fun x hx => by
      rw [cnt_put hA.sort hA.nz, if_neg (show ¬ kE x = keyVs e.1 from hne x hx)]
      exact hc x (List.mem_cons_of_mem _ hx)) k
    show cntB (joinF L s (putB A e.1 (cntB L (kE e) + s * e.2)) M) k = _
    rw [ih, cnt_put hA.sort hA.nz, totB]
    by_cases hk : k = keyVs e.1
    · rw [if_pos hk, if_pos (show kE e = k from hk.symm), tot_none (fun x hx => by rw [hk]; exact hne x hx), ← hc e List.mem_cons_self, hk]
      show cntB A (keyVs e.1) + s * e.2 + s * 0 = cntB A (keyVs e.1) + s * (e.2 + 0)
      rw [Int.mul_zero, Int.add_zero, Int.add_zero]
    · rw [if_neg hk, if_neg (fun h => hk h.symm), Int.zero_add]
theorem FitL.take {L M : List Ent} {s : Int} (h : FitL L M s) (k : Nat) : FitL L (M.take k) s := fun e he => h e (List.mem_of_mem_take he)
theorem joinT_ok {L M : List Ent} {s : Int} (hL : OkL L) (hM : OkL M) {k : Nat} (hf : FitL L (M.take k) s) : OkL (joinT L M s k) := joinF_ok hL (fun e he => hM.okr e (List.mem_of_mem_take he)) hf
theorem joinT_cnt {L M : List Ent} {s : Int} (hL : OkL L) (hM : OkL M) {k : Nat} (hf : FitL L (M.take k) s) (key : List Int) : cntB (joinT L M s k) key = cntB L key + s * totB (M.take k) key :=
  joinF_cnt hL (hM.sort.sublist (List.take_sublist _ _)) (fun e he => hM.okr e (List.mem_of_mem_take he)) hf (fun _ _ => rfl) key
theorem joinT_zero (L M : List Ent) (s : Int) : joinT L M s 0 = L := rfl
theorem take_snoc {M : List Ent} {k : Nat} {e : Ent} (h : M[k]? = some e) : M.take (k + 1) = M.take k ++ [e] := by
  rw [List.take_add_one, h]; rfl
theorem joinT_succ {L M : List Ent} {s : Int} {k : Nat} {e : Ent} (h : M[k]? = some e) : joinT L M s (k + 1) = putB (joinT L M s k) e.1 (cntB L (kE e) + s * e.2) := by
  unfold joinT joinF
  rw [take_snoc h, List.foldl_append]
  rfl
theorem FitL.succ {L M : List Ent} {s : Int} {k : Nat} {e : Ent} (h : M[k]? = some e) (hf : FitL L (M.take k) s) (hi : in64 (cntB L (kE e) + s * e.2)) : FitL L (M.take (k + 1)) s := by
  rw [take_snoc h]
  intro x hx
  rcases List.mem_append.1 hx with hx | hx
  · exact hf x hx
  · obtain rfl := List.mem_singleton.1 hx
    exact hi
theorem sort_get_ne {M : List Ent} (hs : SortB M) {k : Nat} {e : Ent} (h : M[k]? = some e) : ∀ x ∈ M.take k, kE x ≠ kE e := fun x hx hk => by
  have h1 : SortB (M.take k ++ [e]) := by rw [← take_snoc h]; exact hs.sublist (List.take_sublist _ _)
  have := (List.pairwise_append.1 h1).2.2 x hx e (List.mem_singleton.2 rfl)
  rw [hk, lessI_irr] at this
  cases this
/-- at its turn a row is there as often as before -/
theorem joinT_at {L M : List Ent} {s : Int} (hL : OkL L) (hM : OkL M) {k : Nat} {e : Ent} (h : M[k]? = some e) (hf : FitL L (M.take k) s) : cntB (joinT L M s k) (kE e) = cntB L (kE e) := by
  rw [joinT_cnt hL hM hf, tot_none (sort_get_ne hM.sort h), Int.mul_zero, Int.add_zero]
theorem FitL.all {L M : List Ent} {s : Int} (h : FitL L (M.take M.length) s) : FitL L M s := by
  rw [List.take_of_length_le (Nat.le_refl _)] at h
  exact h
/-- what was joined is taken out again -/
theorem join_back {L M : List Ent} {s : Int} (hL : OkL L) (hM : OkL M) (hf : FitL L M s) (hg : FitL (joinT L M s M.length) M (-s)) : joinT (joinT L M s M.length) M (-s) M.length = L := by
  have hf' : FitL L (M.take M.length) s := hf.take _
  have h1 := joinT_ok hL hM hf'
  have hg' : FitL (joinT L M s M.length) (M.take M.length) (-s) := hg.take _
  refine cnt_ext (joinT_ok h1 hM hg') hL (fun k => ?_)
  rw [joinT_cnt h1 hM hg', joinT_cnt hL hM hf', Int.neg_mul]
  omega
/-- what Join answers, and what is there behind it -/
def joinC (L M : List Ent) (s : Int) : List Ent × Int :=
  if s = 1 ∨ s = -1 then (if FitL L M s then (joinT L M s M.length, 0) else (L, 13)) else (L, 1)
theorem sub_sort : ∀ {M L : List Ent}, SortB M → SortB L → (∀ e ∈ L, e ∈ M) → L.length ≤ M.length ∧ (L.length = M.length → L = M)
  | [], L, _, _, h => by
    cases L with
    | nil => exact ⟨Nat.le_refl _, fun _ => rfl⟩
    | cons a L => have := h a List.mem_cons_self; cases this
  | b :: M, [], _, _, h => ⟨Nat.zero_le _, fun e => by simp at e⟩
  | b :: M, a :: L, hm, hl, h => by
    have hm' := List.pairwise_cons.1 hm
    have hl' := List.pairwise_cons.1 hl
    rcases List.mem_cons.1 (h a List.mem_cons_self) with rfl | ha
    · have hs : ∀ e ∈ L, e ∈ M := fun e he => by
        rcases List.mem_cons.1 (h e (List.mem_cons_of_mem _ he)) with rfl | h1
        · have := hl'.1 e he
          rw [lessI_irr] at this
          cases this
        · exact h1
      obtain ⟨h1, h2⟩ := sub_sort hm'.2 hl'.2 hs
      exact ⟨by simp only [List.length_cons]; omega, fun e => by rw [h2 (by simp only [List.length_cons] at e; omega)]⟩
    · have hs : ∀ e ∈ a :: L, e ∈ M := fun e he => by
        rcases List.mem_cons.1 (h e he) with rfl | h1
        · rcases List.mem_cons.1 he with rfl | h1
          · exact ha
          · have := lessI_trans (hl'.1 e h1) (hm'.1 a ha)
            rw [lessI_irr] at this
            cases this
        · exact h1
      obtain ⟨h1, _⟩ := sub_sort hm'.2 hl hs
      simp only [List.length_cons] at h1 ⊢
      exact ⟨by omega, fun e => by omega⟩
/-- two lists are one if all of one is in the other, and that has no more -/
theorem same_of_cnt {L M : List Ent} (hL : OkL L) (hM : OkL M) (hl : L.length = M.length) (h : ∀ e ∈ L, cntB M (kE e) = e.2) : L = M :=
  (sub_sort hM.sort hL.sort (fun e he => hL.mem_cnt hM he (h e he))).2 hl
end Go.Proofs.Ytplgkblahmndoaa
