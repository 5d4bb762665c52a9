/- What a crash leaves: the program and the document, side by side. Plain. -/
import Derived.Test.YtafhgilikcablaaDkCr
namespace Go.Proofs.Ytafhgilikcablaa
set_option linter.unusedVariables false

/-- a kept sector's bytes laid into what a crash leaves -/
def putS (zs out : List Int) (x : Nat) (k : Int) : List Int :=
  (List.range (max out.length (min (x * 64 + 64) zs.length))).map fun i => if x * 64 ≤ i ∧ i < x * 64 + 64 ∧ i < zs.length then (if k = 1 then zs.getD i 0 else k % 256) else if i < out.length then out.getD i 0 else 0
theorem putS_length (zs out : List Int) (x : Nat) (k : Int) : (putS zs out x k).length = max out.length (min (x * 64 + 64) zs.length) := by simp [putS]
theorem putS_at {zs out : List Int} {x i : Nat} {k : Int} (h : i < max out.length (min (x * 64 + 64) zs.length)) : (putS zs out x k).getD i 0 = if x * 64 ≤ i ∧ i < x * 64 + 64 ∧ i < zs.length then (if k = 1 then zs.getD i 0 else k % 256) else if i < out.length then out.getD i 0 else 0 := by
  rw [List.getD_eq_getElem?_getD, putS, List.getElem?_map, List.getElem?_range h]
  rfl
/-- the document's crash of one file: a touched sector more -/
def stepD (kz zs : List Int) (st : List Int × Nat) (x : Int) : List Int × Nat :=
  (if keepV kz st.2 = 0 then st.1 else putS zs st.1 x.toNat (keepV kz st.2), st.2 + 1)
def foldD (kz ys zs : List Int) (t : Nat) (xs : List Int) : List Int × Nat := xs.foldl (stepD kz zs) (ys, t)
theorem foldD_snoc (kz ys zs : List Int) (t : Nat) (xs : List Int) (x : Int) : foldD kz ys zs t (xs ++ [x]) = stepD kz zs (foldD kz ys zs t xs) x := by
  unfold foldD; rw [List.foldl_append]; rfl
theorem foldD_turn (kz ys zs : List Int) (t : Nat) (xs : List Int) : (foldD kz ys zs t xs).2 = t + xs.length := by
  refine snocInd (P := fun xs => (foldD kz ys zs t xs).2 = t + xs.length) rfl (fun xs x ih => ?_) xs
  rw [foldD_snoc]; show _ + 1 = _; rw [ih, List.length_append]; simp; omega
/-- both crashes, side by side -/
structure CrRel (ys zs xs : List Int) (st : List Int × Nat × Nat) (out : List Int) : Prop where
  len : out.length = st.2.1
  le : ys.length ≤ st.2.1
  at_ : ∀ i, i < out.length → i < zs.length → out.getD i 0 = if ((i / 64 : Nat) : Int) ∈ xs then st.1.getD i 0 else if i < ys.length then ys.getD i 0 else 0
  zero : ∀ i, st.2.1 ≤ i → i < zs.length → ((i / 64 : Nat) : Int) ∈ xs → st.1.getD i 0 = 0
theorem crRel_step (kz ys zs : List Int) (xs : List Int) (z' : List Int) (size tt : Nat) (out : List Int) (X : Nat) (hr : CrRel ys zs xs (z', size, tt) out) (hl : z'.length = zs.length) (hyz : ys.length ≤ zs.length) (hx64 : X * 64 < zs.length) (hxn : (X : Int) ∉ xs) (hfar : ∀ i, i < zs.length → i / 64 = X → z'.getD i 0 = zs.getD i 0) :
    CrRel ys zs (xs ++ [(X : Int)]) (stepC kz ys (z', size, tt) (X : Int)) (stepD kz zs (out, tt) (X : Int)).1 := by
  obtain ⟨r1, r2, r3, r4⟩ := hr
  simp only at r1 r2 r3 r4
  have es : stepC kz ys (z', size, tt) (X : Int) = (lvB z' ys (min (X * 64) z'.length) (min (X * 64 + 64) z'.length) (keepV kz (tt)), if keepV kz (tt) = 0 then size else max size (min (X * 64 + 64) z'.length), tt + 1) := rfl
  have ed : stepD kz zs (out, tt) (X : Int) = (if keepV kz (tt) = 0 then out else putS zs out X (keepV kz (tt)), tt + 1) := rfl
  rw [es, ed]
  generalize keepV kz (tt) = k at *
  rw [hl]
  have hmem : ∀ i : Nat, ((i / 64 : Nat) : Int) ∈ xs ++ [(X : Int)] ↔ ((i / 64 : Nat) : Int) ∈ xs ∨ i / 64 = X := fun i => by
    rw [List.mem_append, List.mem_singleton, Int.natCast_inj]
  have hst : ∀ i, i < zs.length → (lvB z' ys (min (X * 64) zs.length) (min (X * 64 + 64) zs.length) k).getD i 0 = if i / 64 = X then lvV z' ys k i else z'.getD i 0 := fun i hi => by
    rw [lvB_at (by omega)]
    by_cases h : i / 64 = X
    · rw [if_pos h, if_pos (by omega)]
    · rw [if_neg h, if_neg (by omega)]
  by_cases hk : k = 0
  · simp only [hk, if_true]
    subst hk
    have h0 : ∀ i, lvV z' ys 0 i = if i < ys.length then ys.getD i 0 else 0 := fun i => by unfold lvV; rw [if_pos rfl]
    refine ⟨r1, r2, fun i hi hiz => ?_, fun i hs hiz hm => ?_⟩
    · rw [hst i hiz, r3 i hi hiz]
      by_cases h : i / 64 = X
      · rw [if_neg (fun hm => hxn (by rw [← h]; exact hm)), if_pos ((hmem i).2 (.inr h)), if_pos h, h0]
      · rw [if_neg h]
        by_cases hm : ((i / 64 : Nat) : Int) ∈ xs
        · rw [if_pos hm, if_pos ((hmem i).2 (.inl hm))]
        · rw [if_neg hm, if_neg (fun hh => ((hmem i).1 hh).elim hm h)]
    · rw [hst i hiz]
      rcases (hmem i).1 hm with hm | h
      · by_cases h : i / 64 = X
        · exact absurd (by rw [← h]; exact hm) hxn
        · rw [if_neg h]; exact r4 i hs hiz hm
      · rw [if_pos h, h0, if_neg (by have : size ≤ i := hs; omega)]
  · simp only [hk, if_false]
    have h1 : ∀ i, i < zs.length → i / 64 = X → lvV z' ys k i = if k = 1 then zs.getD i 0 else k % 256 := fun i hi e => by
      unfold lvV; rw [if_neg hk, hfar i hi e]
    refine ⟨by simp only [putS_length]; omega, by simp only; omega, fun i hi hiz => ?_, fun i hs hiz hm => ?_⟩
    · rw [putS_length] at hi
      rw [hst i hiz, putS_at hi]
      by_cases h : i / 64 = X
      · rw [if_pos (by omega), if_pos ((hmem i).2 (.inr h)), if_pos h, h1 i hiz h]
      · rw [if_neg (by omega), if_neg h]
        by_cases ho : i < out.length
        · rw [if_pos ho, r3 i ho hiz]
          by_cases hm : ((i / 64 : Nat) : Int) ∈ xs
          · rw [if_pos hm, if_pos ((hmem i).2 (.inl hm))]
          · rw [if_neg hm, if_neg (fun hh => ((hmem i).1 hh).elim hm h)]
        · rw [if_neg ho]
          by_cases hm : ((i / 64 : Nat) : Int) ∈ xs
          · rw [if_pos ((hmem i).2 (.inl hm)), r4 i (by omega) hiz hm]
          · rw [if_neg (fun hh => ((hmem i).1 hh).elim hm h), if_neg (by omega)]
    · have hs' : max size (min (X * 64 + 64) zs.length) ≤ i := hs
      rw [hst i hiz]
      rcases (hmem i).1 hm with hm | h
      · by_cases h : i / 64 = X
        · exact absurd (by rw [← h]; exact hm) hxn
        · rw [if_neg h]; exact r4 i (by omega) hiz hm
      · omega
theorem crRel_rev (kz ys zs : List Int) (t : Nat) (hyz : ys.length ≤ zs.length) : ∀ r : List Int, r.Nodup → (∀ x ∈ r, 0 ≤ x ∧ x.toNat * 64 < zs.length) → CrRel ys zs r.reverse (foldC kz ys zs t r.reverse) (foldD kz ys zs t r.reverse).1
  | [], _, _ => ⟨rfl, Nat.le_refl _, fun i hi _ => by
      have hi' : i < ys.length := hi
      show ys.getD i 0 = _
      rw [if_neg (by simp), if_pos hi'], fun i _ _ h => by simp at h⟩
  | x :: r, hnd, hin => by
    obtain ⟨hxn, hnd1⟩ := List.nodup_cons.1 hnd
    have hr := crRel_rev kz ys zs t hyz r hnd1 (fun y hy => hin y (List.mem_cons_of_mem _ hy))
    obtain ⟨hx0, hx64⟩ := hin x List.mem_cons_self
    obtain ⟨X, rfl⟩ : ∃ X : Nat, x = (X : Int) := ⟨x.toNat, by omega⟩
    rw [Int.toNat_natCast] at hx64
    have hl := (foldC_len kz ys zs t r.reverse).1
    have ht := (foldC_len kz ys zs t r.reverse).2.1
    have htd := foldD_turn kz ys zs t r.reverse
    have hfar : ∀ i, i < zs.length → i / 64 = X → (foldC kz ys zs t r.reverse).1.getD i 0 = zs.getD i 0 := fun i hi e => foldC_far kz ys zs t i hi r.reverse (fun y hy => by
      have hy' : y ∈ r := List.mem_reverse.1 hy
      have hy0 := (hin y (List.mem_cons_of_mem _ hy')).1
      have : y.toNat ≠ X := fun h => hxn (by rw [← h, Int.toNat_of_nonneg hy0]; exact hy')
      omega)
    rw [List.reverse_cons, foldC_snoc, foldD_snoc]
    obtain ⟨st, hst⟩ : ∃ st, st = foldC kz ys zs t r.reverse := ⟨_, rfl⟩
    obtain ⟨sd, hsd⟩ : ∃ sd, sd = foldD kz ys zs t r.reverse := ⟨_, rfl⟩
    rw [← hst, ← hsd] at hr ⊢
    rw [← hst] at hl ht hfar
    rw [← hsd] at htd
    clear hst hsd
    obtain ⟨z', size, tt⟩ := st
    obtain ⟨out, td⟩ := sd
    have e : td = tt := htd.trans ht.symm
    subst e
    exact crRel_step kz ys zs r.reverse z' size td out X hr hl hyz hx64 (fun h => hxn (List.mem_reverse.1 h)) hfar
theorem nodup_rev {l : List Int} (h : l.Nodup) : l.reverse.Nodup := by
  unfold List.Nodup at *
  rw [List.pairwise_reverse]
  exact h.imp (fun h => h.symm)
theorem crRel_all (kz ys zs : List Int) (t : Nat) (hyz : ys.length ≤ zs.length) (xs : List Int) (hnd : xs.Nodup) (hin : ∀ x ∈ xs, 0 ≤ x ∧ x.toNat * 64 < zs.length) : CrRel ys zs xs (foldC kz ys zs t xs) (foldD kz ys zs t xs).1 := by
  have := crRel_rev kz ys zs t hyz xs.reverse (nodup_rev hnd) (fun x hx => hin x (List.mem_reverse.1 hx))
  rwa [List.reverse_reverse] at this
/-- what both leave is the same, where sectors that were not touched are as they were synced -/
theorem crash_same (kz ys zs : List Int) (t : Nat) (xs : List Int) (hyz : ys.length ≤ zs.length) (hnd : xs.Nodup) (hin : ∀ x ∈ xs, 0 ≤ x ∧ x.toNat * 64 < zs.length) (hu : ∀ i, i < zs.length → ((i / 64 : Nat) : Int) ∉ xs → i < ys.length ∧ ys.getD i 0 = zs.getD i 0) :
    (foldC kz ys zs t xs).1.take (foldC kz ys zs t xs).2.1 = (foldD kz ys zs t xs).1 := by
  have hr := crRel_all kz ys zs t hyz xs hnd hin
  have hl := (foldC_len kz ys zs t xs).1
  have hsz := (foldC_len kz ys zs t xs).2.2.2 hyz
  apply ext_getD
  · rw [List.length_take, hr.len]; omega
  · intro i hi
    rw [List.length_take] at hi
    have hi1 : i < (foldC kz ys zs t xs).2.1 := by omega
    have hiz : i < zs.length := by omega
    rw [List.getD_eq_getElem?_getD, List.getElem?_take_of_lt hi1, ← List.getD_eq_getElem?_getD, hr.at_ i (by rw [hr.len]; exact hi1) hiz]
    by_cases hm : ((i / 64 : Nat) : Int) ∈ xs
    · rw [if_pos hm]
    · obtain ⟨h1, h2⟩ := hu i hiz hm
      rw [if_neg hm, if_pos h1, h2]
      refine foldC_far kz ys zs t i hiz xs (fun y hy => ?_)
      have := (hin y hy).1
      have : y.toNat ≠ i / 64 := fun h => hm (by rw [← h, Int.toNat_of_nonneg this]; exact hy)
      omega
end Go.Proofs.Ytafhgilikcablaa
