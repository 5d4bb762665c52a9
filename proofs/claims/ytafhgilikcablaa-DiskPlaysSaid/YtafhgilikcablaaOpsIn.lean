/- A slice of calls of a disk that came in, read as data. No program. -/
import Derived.Test.YtafhgilikcablaaOps
import Derived.Test.YtafhgilikcablaaAggIn
import Derived.Deep.Slices
import Derived.Deep.Fields
import Derived.ProofKit
import Derived.SizedLaws
import Derived.OpenShut
namespace Go.Proofs.Ytafhgilikcablaa
open Go.ChangeShapes Go.WideShapes Go.Deep Go.RowKit Go.Joins
set_option linter.unusedVariables false
section
variable {H : Type} {enc : TypeId × Value → H} {P : Program} {w : World} {base : Nat} {held : Bool}
theorem weights_all_mem {e : TypeId} : ∀ {ds : List (DataW H)} {d : DataW H}, d ∈ ds → ∀ n ∈ d.weights P e, n ∈ DataW.weightsAll P e ds
  | [], d, h, n, hn => by cases h
  | d' :: r, d, h, n, hn => by
    unfold DataW.weightsAll
    rcases List.mem_cons.1 h with rfl | h
    · exact List.mem_append.2 (.inl hn)
    · exact List.mem_append.2 (.inr (weights_all_mem h n hn))
theorem open_rowR {t e : TypeId} {k : IntKind} {fuel : Nat} {v : Value} {x : DataW H × List MemPlace} (ht : P.underlying t = some (.slice e)) (he : P.underlying e = some (.int k)) (ce : P.cellsOf e = 1)
    (h : DataW.trod enc P w base (fun _ => true) held fuel t [v] = some x) :
    ∃ a len cap zs, v = .slice a len cap ∧ IsRow k w a len cap zs ∧ ∀ R, (∀ n ∈ x.1.weights P t, n ≤ R) → cap * P.bytesOf e ≤ R := by
  rcases open_ints ht he ce h with ⟨hcs, _⟩ | ⟨x', l, c, zs, hcs, _, hl, hm, hz, hx, hcell, hwz⟩
  · simp at hcs
    exact ⟨none, 0, 0, [], hcs, .inl ⟨rfl, rfl, rfl, rfl⟩, fun R _ => by simp⟩
  · simp at hcs
    have hz' : zs.length = c := by simpa using hz
    refine ⟨some x', l, c, zs, hcs, .inr ⟨_, rfl, hl, hm, hz', hcell, hwz⟩, fun R hR => ?_⟩
    rw [hx] at hR
    have := hR (((lits (H := H) k (zs.take l)).length + (lits (H := H) k (zs.drop l)).length) * P.bytesOf e) (by simp [DataW.weights, ht])
    simp only [lits, List.length_map, List.length_take, List.length_drop] at this
    have e2 : min l zs.length + (zs.length - l) = c := by omega
    rw [e2] at this
    exact this
theorem open_ops {t e p q : TypeId} {f0 f1 f2 f3 f4 f5 : Field} {fuel : Nat} {v : Value} {x : DataW H × List MemPlace} (ht : P.underlying t = some (.slice e)) (he : P.underlying e = some (.struct #[f0, f1, f2, f3, f4, f5])) (hC : P.cellsOf e = 6)
    (o0 : f0.offset = 0) (o1 : f1.offset = 1) (o2 : f2.offset = 2) (o3 : f3.offset = 3) (o4 : f4.offset = 4) (o5 : f5.offset = 5) (k0 : P.cellsOf f0.type = 1) (k1 : P.cellsOf f1.type = 1) (k2 : P.cellsOf f2.type = 1) (k3 : P.cellsOf f3.type = 1) (k4 : P.cellsOf f4.type = 1) (k5 : P.cellsOf f5.type = 1)
    (u0 : P.underlying f0.type = some (.int .i64)) (u1 : P.underlying f1.type = some (.int .i64)) (u2 : P.underlying f2.type = some (.int .i64)) (u3 : P.underlying f3.type = some (.int .i64)) (u4 : P.underlying f4.type = some (.slice p)) (u5 : P.underlying f5.type = some (.slice q)) (up : P.underlying p = some (.int .u8)) (uq : P.underlying q = some (.int .i64)) (cp : P.cellsOf p = 1) (cq : P.cellsOf q = 1) (bp : P.bytesOf p = 1) (bq : P.bytesOf q = 8)
    (hsz : ∀ n ∈ x.1.weights P t, n ≤ 140737488351232) (h : DataW.trod enc P w base (fun _ => true) held fuel t [v] = some x) : ∃ a len cap f, v = .slice a len cap ∧ IsOps w a len f := by
  rcases open_slice ht h with ⟨h0, _⟩ | ⟨a, len, cap, m, n, D, Pl, hcs, hb, hl, hm, hmm, hx, hi⟩
  · simp at h0
    exact ⟨none, 0, 0, fun _ => ⟨0, 0, 0, 0, none, 0, 0, [], none, 0, 0, []⟩, h0, by omega, .inl rfl⟩
  simp at hcs
  have hml : len ≤ m := by rw [hmm]; split <;> omega
  unfold maxLen at hm
  by_cases h0 : len = 0
  · exact ⟨some a, len, cap, fun _ => ⟨0, 0, 0, 0, none, 0, 0, [], none, 0, 0, []⟩, hcs, by omega, .inl h0⟩
  obtain ⟨b, off, spot⟩ := a
  have hs : spot = none := by
    obtain ⟨cs', hc, ht'⟩ := hi 0 (by omega)
    rw [hC] at hc
    obtain ⟨_, hcl, hat⟩ := World.cells?_some hc
    have z0 := hat 0 (by omega)
    rw [add_add] at z0
    obtain ⟨y, hy⟩ : ∃ y, cs'[0]? = some y := ⟨_, List.getElem?_eq_getElem (by omega)⟩
    rw [hy] at z0
    simpa [Addr.add] using World.cell?_spot z0
  subst hs
  have key : ∀ i, i < len → ∃ y : OpD, OpAt w b (off + i * 6) y := by
    intro i hil
    obtain ⟨cs', hc, ht'⟩ := hi i (by omega)
    rw [hC] at hc
    obtain ⟨_, hcl, hat⟩ := World.cells?_some hc
    obtain ⟨ys, n', _, hDi, _, hyl, hf⟩ := DataW.trod_struct he ht'
    have hw : ∀ n ∈ (D i).weights P e, n ≤ 140737488351232 := fun n hn => hsz n (by
      rw [hx]
      simp only [DataW.weights, ht]
      exact List.mem_cons_of_mem _ (List.mem_append.2 (.inl (weights_all_mem (List.mem_map.2 ⟨i, List.mem_range.2 hil, rfl⟩) n hn))))
    match cs', hcl with
    | [c0, c1, c2, c3, c4, c5], _ =>
      have t0 := hf 0 f0 rfl
      have t1 := hf 1 f1 rfl
      have t2 := hf 2 f2 rfl
      have t3 := hf 3 f3 rfl
      have t4 := hf 4 f4 rfl
      have t5 := hf 5 f5 rfl
      rw [o0, k0] at t0
      rw [o1, k1] at t1
      rw [o2, k2] at t2
      rw [o3, k3] at t3
      rw [o4, k4] at t4
      rw [o5, k5] at t5
      match ys, hyl with
      | [y0, y1, y2, y3, y4, y5], _ =>
        obtain ⟨a0, r0, _, w0⟩ := DataW.trod_int u0 (show DataW.trod enc P w base (fun _ => true) held n' f0.type [c0] = some y0 from t0)
        obtain ⟨a1, r1, _, w1⟩ := DataW.trod_int u1 (show DataW.trod enc P w base (fun _ => true) held n' f1.type [c1] = some y1 from t1)
        obtain ⟨a2, r2, _, w2⟩ := DataW.trod_int u2 (show DataW.trod enc P w base (fun _ => true) held n' f2.type [c2] = some y2 from t2)
        obtain ⟨a3, r3, _, w3⟩ := DataW.trod_int u3 (show DataW.trod enc P w base (fun _ => true) held n' f3.type [c3] = some y3 from t3)
        obtain ⟨ba, bl, bc, bz, r4, w4, s4⟩ := open_rowR u4 up cp (show DataW.trod enc P w base (fun _ => true) held n' f4.type [c4] = some y4 from t4)
        obtain ⟨ka, kl, kc, kz, r5, w5, s5⟩ := open_rowR u5 uq cq (show DataW.trod enc P w base (fun _ => true) held n' f5.type [c5] = some y5 from t5)
        simp only [List.cons.injEq, and_true] at r0 r1 r2 r3
        subst r0 r1 r2 r3 r4 r5
        have hDi : D i = .agg ([y0, y1, y2, y3, y4, y5].map (·.1)) := (Prod.mk.inj hDi).1
        have hw4 := s4 140737488351232 (fun n hn => hw n (by
          rw [hDi]
          simp only [DataW.weights, he]
          exact DataW.weights_mem_each (j := 4) rfl rfl n hn))
        have hw5 := s5 140737488351232 (fun n hn => hw n (by
          rw [hDi]
          simp only [DataW.weights, he]
          exact DataW.weights_mem_each (j := 5) rfl rfl n hn))
        rw [bp] at hw4
        rw [bq] at hw5
        have l4 := w4.leB.1
        have l5 := w5.leB.1
        have z0 := hat 0 (by simp)
        have z1 := hat 1 (by simp)
        have z2 := hat 2 (by simp)
        have z3 := hat 3 (by simp)
        have z4 := hat 4 (by simp)
        have z5 := hat 5 (by simp)
        rw [add_add, Addr.add_lit] at z0 z1 z2 z3 z4 z5
        exact ⟨⟨a0, a1, a2, a3, ba, bl, bc, bz, ka, kl, kc, kz⟩, by simpa using z0, by simpa [Nat.add_assoc] using z1, by simpa [Nat.add_assoc] using z2, by simpa [Nat.add_assoc] using z3, by simpa [Nat.add_assoc] using z4, by simpa [Nat.add_assoc] using z5, bounds_i64 w1, bounds_i64 w2, bounds_i64 w3, bounds_i64 w0, w4, w5, ⟨by show bl ≤ _; omega, by show kl ≤ _; omega⟩⟩
  refine ⟨some ⟨b, off, none⟩, len, cap, fun i => if h : i < len then Classical.choose (key i h) else ⟨0, 0, 0, 0, none, 0, 0, [], none, 0, 0, []⟩, hcs, by omega, .inr ?_⟩
  obtain ⟨q0, hq0⟩ := key 0 (by omega)
  refine ⟨b, off, rfl, World.block_lt_of_cell? w _ hq0.c0, fun i hil => ?_⟩
  simp only [hil, dif_pos]
  exact Classical.choose_spec (key i hil)
end
end Go.Proofs.Ytafhgilikcablaa
