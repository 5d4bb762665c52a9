/- Contract: a file's crash. -/
import Derived.Test.YtafhgilikcablaaDkC
import Derived.Test.YtafhgilikcablaaDkS
import Derived.Test.YtafhgilikcablaaSrt
import Derived.Deep.DeepCutAuto
namespace Go.Proofs.Ytafhgilikcablaa
open Go.RowKit Go.Maps
set_option linter.unusedVariables false
set_option maxRecDepth 100000

/-- numbers that came in -/
def IsK (w : World) (a : Option Addr) (len : Nat) (kz : List Int) : Prop :=
  kz.length = len ∧ (len = 0 ∨ ∃ b off, a = some ⟨b, off, none⟩ ∧ b < w.heap.size ∧ ∀ i, i < len → w.cell? ⟨b, off + i, none⟩ = some (.int .i64 (kz.getD i 0))) ∧ ∀ i, -9223372036854775808 ≤ kz.getD i 0 ∧ kz.getD i 0 ≤ 9223372036854775807
theorem IsRow.isK {w : World} {a : Option Addr} {len cap : Nat} {zs : List Int} (h : IsRow .i64 w a len cap zs) : IsK w a len (zs.take len) := by
  rcases h with ⟨rfl, rfl, rfl, rfl⟩ | ⟨x, rfl, hl, hm, hz, hcell, hwz⟩
  · exact ⟨rfl, .inl rfl, fun i => by simp⟩
  · refine ⟨by rw [List.length_take]; omega, ?_, fun i => ?_⟩
    · by_cases h0 : len = 0
      · exact .inl h0
      · right
        obtain ⟨b, off, spot⟩ := x
        have hc := hcell 0 (by omega)
        have hspot : spot = none := by simpa [Addr.add] using World.cell?_spot hc
        subst hspot
        refine ⟨b, off, rfl, by simpa [Addr.add] using World.block_lt_of_cell? w _ hc, fun i hi => ?_⟩
        have := hcell i (by omega)
        rw [Addr.add_lit] at this
        rw [this]
        simp [List.getD, hi]
    · by_cases hi : i < (zs.take len).length
      · have hmem : (zs.take len).getD i 0 ∈ zs := by
          have : (zs.take len).getD i 0 = (zs.take len)[i]'hi := by rw [List.getD_eq_getElem?_getD, List.getElem?_eq_getElem hi]; rfl
          rw [this]; exact List.mem_of_mem_take (List.getElem_mem hi)
        exact bounds_i64 (hwz _ hmem)
      · have : (zs.take len).getD i 0 = 0 := by
          simp only [List.getD]; rw [List.getElem?_eq_none (by omega)]; rfl
        rw [this]; omega
theorem IsK.below {w w' : World} {a : Option Addr} {len : Nat} {kz : List Int} (h : IsK w a len kz) (hb : Below w.heap.size w w') : IsK w' a len kz := by
  refine ⟨h.1, ?_, h.2.2⟩
  rcases h.2.1 with h0 | ⟨b, off, rfl, hlt, hc⟩
  · exact .inl h0
  · exact .inr ⟨b, off, rfl, Nat.lt_of_lt_of_le hlt hb.size, fun i hi => (hb.cell (p := ⟨b, off + i, none⟩) hlt).trans (hc i hi)⟩
/-- the number that the t-th sector gets -/
def keepV (kz : List Int) (t : Nat) : Int := if kz.length = 0 then 0 else kz.getD (t % kz.length) 0
/-- a sector more: the bytes, how many stay, how many numbers were taken -/
def stepC (kz ys : List Int) (st : List Int × Nat × Nat) (x : Int) : List Int × Nat × Nat :=
  (lvB st.1 ys (min (x.toNat * 64) st.1.length) (min (x.toNat * 64 + 64) st.1.length) (keepV kz st.2.2), if keepV kz st.2.2 = 0 then st.2.1 else max st.2.1 (min (x.toNat * 64 + 64) st.1.length), st.2.2 + 1)
def foldC (kz ys zs : List Int) (t : Nat) (xs : List Int) : List Int × Nat × Nat := xs.foldl (stepC kz ys) (zs, ys.length, t)
theorem foldC_snoc (kz ys zs : List Int) (t : Nat) (xs : List Int) (x : Int) : foldC kz ys zs t (xs ++ [x]) = stepC kz ys (foldC kz ys zs t xs) x := by
  unfold foldC
  rw [List.foldl_append]
  rfl
theorem foldC_nil (kz ys zs : List Int) (t : Nat) : foldC kz ys zs t [] = (zs, ys.length, t) := rfl
theorem snocInd {α : Type} {P : List α → Prop} (h0 : P []) (hs : ∀ xs x, P xs → P (xs ++ [x])) (l : List α) : P l := by
  have h : ∀ r : List α, P r.reverse := fun r => by
    induction r with
    | nil => exact h0
    | cons x r ih => rw [List.reverse_cons]; exact hs _ _ ih
  have := h l.reverse
  rwa [List.reverse_reverse] at this
theorem foldC_len (kz ys zs : List Int) (t : Nat) : ∀ (xs : List Int), ((foldC kz ys zs t xs).1).length = zs.length ∧ (foldC kz ys zs t xs).2.2 = t + xs.length ∧ ys.length ≤ (foldC kz ys zs t xs).2.1 ∧ (ys.length ≤ zs.length → (foldC kz ys zs t xs).2.1 ≤ zs.length) := by
  intro xs
  refine snocInd (P := fun xs => ((foldC kz ys zs t xs).1).length = zs.length ∧ (foldC kz ys zs t xs).2.2 = t + xs.length ∧ ys.length ≤ (foldC kz ys zs t xs).2.1 ∧ (ys.length ≤ zs.length → (foldC kz ys zs t xs).2.1 ≤ zs.length)) ?_ ?_ xs
  · exact ⟨rfl, rfl, Nat.le_refl _, id⟩
  · intro xs x ih
    rw [foldC_snoc]
    obtain ⟨h1, h2, h3, h4⟩ := ih
    refine ⟨by show (lvB _ _ _ _ _).length = _; rw [lvB_length, h1], by show _ + 1 = _; rw [h2, List.length_append]; simp; omega, ?_, fun h => ?_⟩
    · show _ ≤ (if _ then _ else _)
      split
      · exact h3
      · exact Nat.le_trans h3 (Nat.le_max_left _ _)
    · have := h4 h
      show (if _ then _ else _) ≤ _
      split
      · exact this
      · exact Nat.max_le.2 ⟨this, by rw [h1]; exact Nat.min_le_right _ _⟩
theorem stepC_far {kz ys : List Int} {st : List Int × Nat × Nat} {x : Int} {i n : Nat} (hn : st.1.length = n) (hi : i < n) (h : i < x.toNat * 64 ∨ x.toNat * 64 + 64 ≤ i) : (stepC kz ys st x).1.getD i 0 = st.1.getD i 0 := by
  have e : (stepC kz ys st x).1 = lvB st.1 ys (min (x.toNat * 64) st.1.length) (min (x.toNat * 64 + 64) st.1.length) (keepV kz st.2.2) := rfl
  rw [e]
  refine (lvB_at (by omega)).trans ?_
  rw [if_neg (by omega)]
theorem stepC_len (kz ys : List Int) (st : List Int × Nat × Nat) (x : Int) : (stepC kz ys st x).1.length = st.1.length := lvB_length _ _ _ _ _
theorem fold_far (kz ys : List Int) (i n : Nat) (hi : i < n) : ∀ (l : List Int) (st : List Int × Nat × Nat), st.1.length = n → (∀ x ∈ l, i < x.toNat * 64 ∨ x.toNat * 64 + 64 ≤ i) → (l.foldl (stepC kz ys) st).1.getD i 0 = st.1.getD i 0
  | [], st, _, _ => rfl
  | x :: l, st, hn, h => by
    rw [List.foldl_cons]
    have h1 := fold_far kz ys i n hi l (stepC kz ys st x) ((stepC_len kz ys st x).trans hn) (fun y hy => h y (List.mem_cons_of_mem _ hy))
    have h2 := stepC_far (kz := kz) (ys := ys) hn hi (h x List.mem_cons_self)
    exact h1.trans h2
/-- bytes of other sectors stay -/
theorem foldC_far (kz ys zs : List Int) (t i : Nat) (hi : i < zs.length) (xs : List Int) (h : ∀ x ∈ xs, i < x.toNat * 64 ∨ x.toNat * 64 + 64 ≤ i) : (foldC kz ys zs t xs).1.getD i 0 = zs.getD i 0 :=
  fold_far kz ys i zs.length hi xs (zs, ys.length, t) rfl h
theorem foldC_range (kz ys zs : List Int) (t : Nat) (hz : ∀ z ∈ zs, 0 ≤ z ∧ z ≤ 255) (hy : ∀ z ∈ ys, 0 ≤ z ∧ z ≤ 255) : ∀ (xs : List Int), ∀ z ∈ (foldC kz ys zs t xs).1, 0 ≤ z ∧ z ≤ 255 := by
  intro xs
  refine snocInd (P := fun xs => ∀ z ∈ (foldC kz ys zs t xs).1, 0 ≤ z ∧ z ≤ 255) ?_ ?_ xs
  · exact hz
  · intro xs x ih
    rw [foldC_snoc]
    exact lvB_range ih hy _ _ _
/-- the sorted keys are sectors -/
theorem keys_secs {w : World} {M : Nat} {L : List Lit} (ho : SetIn w M L) (hk : SecK L) : ∀ x ∈ intKeys (Maps.setOf (.agg [] : DataW Unit) L), ∃ s : Nat, s ≤ 100000 ∧ x = (s : Int) ∧ sk s ∈ L := fun x hx => by
  obtain ⟨es, hD, _, hkey⟩ := World.ownsMap.entries ho (Go.Maps.int_keyed Try.underlying3)
  rw [hD] at hx
  obtain ⟨p, hp, rfl⟩ := List.mem_map.1 hx
  have hh : has (Maps.setOf (.agg [] : DataW Unit) L) p.1 = true := by
    rw [hD, has_eq, List.any_eq_true]
    exact ⟨p, hp, WideAt.sameKey_self (hkey p hp)⟩
  have hm := has_setOf hh
  obtain ⟨s, hs, e⟩ := hk _ hm
  exact ⟨s, hs, by rw [e]; rfl, by rw [← e]; exact hm⟩
theorem keepV_in {w : World} {a : Option Addr} {len : Nat} {kz : List Int} (h : IsK w a len kz) (t : Nat) : -9223372036854775808 ≤ keepV kz t ∧ keepV kz t ≤ 9223372036854775807 := by
  unfold keepV
  split
  · omega
  · exact h.2.2 _
end Go.Proofs.Ytafhgilikcablaa
