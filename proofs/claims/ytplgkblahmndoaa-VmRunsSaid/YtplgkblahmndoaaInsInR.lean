/- A slice of instructions that came in, read as data: its cells, and that its numbers are int64s. Over any program with such a type. -/
import Derived.Test.YtplgkblahmndoaaIns
import Derived.Test.YtplgkblahmndoaaVRecPure
import Derived.Test.YtplgkblahmndoaaAggIn
import Derived.Deep.Slices
import Derived.Deep.Strs
import Derived.Deep.Fields
import Derived.ProofKit
import Derived.OpenShut
namespace Go.Proofs.Ytplgkblahmndoaa
open Go.ChangeShapes Go.WideShapes Go.Deep Go.RowKit
set_option linter.unusedVariables false
/-- an instruction's numbers are int64s -/
def InsR (x : Ins) : Prop := InR x.v.2.1 ∧ InR x.b ∧ InR x.c
section
variable {H : Type} {enc : TypeId × Value → H} {P : Program} {w : World} {base : Nat} {spare : Nat → Bool} {held : Bool}

theorem open_insR {t e : TypeId} {f0 f1 f2 f3 f4 g0 g1 g2 : Field} {fuel : Nat} {v : Value} {x : DataW H × List MemPlace} (ht : P.underlying t = some (.slice e)) (he : P.underlying e = some (.struct #[f0, f1, f2, f3, f4])) (hC : P.cellsOf e = 7)
    (o0 : f0.offset = 0) (o1 : f1.offset = 1) (o2 : f2.offset = 2) (o3 : f3.offset = 3) (o4 : f4.offset = 4) (k0 : P.cellsOf f0.type = 1) (k1 : P.cellsOf f1.type = 1) (k2 : P.cellsOf f2.type = 1) (k3 : P.cellsOf f3.type = 1) (k4 : P.cellsOf f4.type = 3)
    (u0 : P.underlying f0.type = some .string) (u1 : P.underlying f1.type = some (.int .i64)) (u2 : P.underlying f2.type = some (.int .i64)) (u3 : P.underlying f3.type = some (.int .i64)) (u4 : P.underlying f4.type = some (.struct #[g0, g1, g2]))
    (p0 : g0.offset = 0) (p1 : g1.offset = 1) (p2 : g2.offset = 2) (l0 : P.cellsOf g0.type = 1) (l1 : P.cellsOf g1.type = 1) (l2 : P.cellsOf g2.type = 1)
    (v0 : P.underlying g0.type = some (.int .i64)) (v1 : P.underlying g1.type = some (.int .i64)) (v2 : P.underlying g2.type = some .string)
    (h : DataW.trod enc P w base spare held fuel t [v] = some x) :
    ∃ a len cap xs, v = .slice a len cap ∧ IsI w a len xs ∧ ∀ x ∈ xs, InsR x := by
  rcases open_slice ht h with ⟨h0, _⟩ | ⟨a, len, cap, m, n, D, Pl, hcs, hb, hl, hm, hmm, hx, hi⟩
  · simp at h0
    exact ⟨none, 0, 0, [], h0, ⟨rfl, by omega, .inl rfl⟩, by simp⟩
  simp at hcs
  have hml : len ≤ m := by rw [hmm]; split <;> omega
  have key : ∀ i, i < len → ∃ y : Ins, InsR y ∧ ∀ j u, (insX y)[j]? = some u → w.cell? (a.add (i * 7 + j)) = some u := by
    intro i hil
    obtain ⟨cs', hc, ht'⟩ := hi i (by omega)
    rw [hC] at hc
    obtain ⟨_, hcl, hat⟩ := World.cells?_some hc
    obtain ⟨ys, n', _, _, _, hyl, hf⟩ := DataW.trod_struct he ht'
    match cs', hcl with
    | [c0, c1, c2, c3, c4, c5, c6], _ =>
      have t0 := hf 0 f0 rfl
      have t1 := hf 1 f1 rfl
      have t2 := hf 2 f2 rfl
      have t3 := hf 3 f3 rfl
      have t4 := hf 4 f4 rfl
      rw [o0, k0] at t0
      rw [o1, k1] at t1
      rw [o2, k2] at t2
      rw [o3, k3] at t3
      rw [o4, k4] at t4
      match ys, hyl with
      | [y0, y1, y2, y3, y4], _ =>
        obtain ⟨s0, r0, _, _⟩ := DataW.trod_string u0 (show DataW.trod enc P w base spare held n' f0.type [c0] = some y0 from t0)
        obtain ⟨a1, r1, _, _⟩ := DataW.trod_int u1 (show DataW.trod enc P w base spare held n' f1.type [c1] = some y1 from t1)
        obtain ⟨a2, r2, _, wa2⟩ := DataW.trod_int u2 (show DataW.trod enc P w base spare held n' f2.type [c2] = some y2 from t2)
        obtain ⟨a3, r3, _, wa3⟩ := DataW.trod_int u3 (show DataW.trod enc P w base spare held n' f3.type [c3] = some y3 from t3)
        obtain ⟨z0, z1, z2, n2, _, _, q0, q1, q2⟩ := trod_struct3 u4 (show DataW.trod enc P w base spare held n' f4.type [c4, c5, c6] = some y4 from t4)
        rw [p0, l0] at q0
        rw [p1, l1] at q1
        rw [p2, l2] at q2
        obtain ⟨b0, r4, _, _⟩ := DataW.trod_int v0 (show DataW.trod enc P w base spare held n2 g0.type [c4] = some z0 from q0)
        obtain ⟨b1, r5, _, wb1⟩ := DataW.trod_int v1 (show DataW.trod enc P w base spare held n2 g1.type [c5] = some z1 from q1)
        obtain ⟨b2, r6, _, _⟩ := DataW.trod_string v2 (show DataW.trod enc P w base spare held n2 g2.type [c6] = some z2 from q2)
        simp only [List.cons.injEq, and_true] at r0 r1 r2 r3 r4 r5 r6
        subst r0 r1 r2 r3 r4 r5 r6
        refine ⟨⟨s0, a1, a2, a3, (b0, b1, b2)⟩, ⟨bounds_i64 wb1, bounds_i64 wa2, bounds_i64 wa3⟩, fun j u hu => ?_⟩
        have hj : j < 7 := by
          rcases Nat.lt_or_ge j 7 with h | h
          · exact h
          · rw [List.getElem?_eq_none (by rw [insX_length]; exact h)] at hu; cases hu
        have := hat j (by simpa using hj)
        rw [add_add] at this
        rw [this]
        match j, hj, hu with
        | 0, _, hu => simpa [insX] using hu
        | 1, _, hu => simpa [insX] using hu
        | 2, _, hu => simpa [insX] using hu
        | 3, _, hu => simpa [insX] using hu
        | 4, _, hu => simpa [insX] using hu
        | 5, _, hu => simpa [insX] using hu
        | 6, _, hu => simpa [insX] using hu
  refine ⟨some a, len, cap, (List.range len).map (fun i => if h : i < len then Classical.choose (key i h) else noI), hcs, ⟨by simp, by unfold maxLen at hm; omega, ?_⟩, ?_⟩
  rotate_left
  · intro x hx
    obtain ⟨i, hi, rfl⟩ := List.mem_map.1 hx
    have hil := List.mem_range.1 hi
    simp only [hil, dif_pos]
    exact (Classical.choose_spec (key i hil)).1
  by_cases h0 : len = 0
  · exact .inl h0
  right
  have get : ∀ i (hil : i < len), ((List.range len).map (fun i => if h : i < len then Classical.choose (key i h) else noI)).getD i noI = Classical.choose (key i hil) := fun i hil => by
    rw [List.getD_eq_getElem?_getD, List.getElem?_map, List.getElem?_range hil]
    simp [hil]
  have hspot : a.spot = none := by
    have := (Classical.choose_spec (key 0 (by omega))).2 0 _ rfl
    simp [Addr.add] at this
    exact World.cell?_spot this
  obtain ⟨b, off, spot⟩ := a
  dsimp only at hspot
  subst hspot
  refine ⟨b, off, rfl, ?_, fun i hil => ?_⟩
  · have := World.block_lt_of_cell? w _ ((Classical.choose_spec (key 0 (by omega))).2 0 _ rfl)
    simpa [Addr.add] using this
  · rw [get i hil]
    have e : ∀ j u, (insX (Classical.choose (key i hil)))[j]? = some u → w.cell? ⟨b, off + i * 7 + j, none⟩ = some u := fun j u hu => by
      have := (Classical.choose_spec (key i hil)).2 j u hu
      rw [Addr.add_lit, ← Nat.add_assoc] at this
      exact this
    exact ⟨e 0 _ rfl, e 1 _ rfl, e 2 _ rfl, e 3 _ rfl, e 4 _ rfl, e 5 _ rfl, e 6 _ rfl⟩
end
end Go.Proofs.Ytplgkblahmndoaa
