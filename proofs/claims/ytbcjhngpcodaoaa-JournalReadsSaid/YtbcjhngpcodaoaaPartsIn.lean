/- A slice of structs of three ints and a byte that came in; an array of two bytes by value. -/
import Derived.Test.YtbcjhngpcodaoaaJLaid
import Derived.Test.YtbcjhngpcodaoaaRawIn
namespace Go.Proofs.Ytbcjhngpcodaoaa
open Go.ChangeShapes Go.WideShapes Go.Deep Go.RowKit Go.Joins
set_option linter.unusedVariables false
section
variable {H : Type} {enc : TypeId × Value → H} {P : Program} {w : World} {base : Nat} {spare : Nat → Bool} {held : Bool}
theorem open_parts {t e : TypeId} {f0 f1 f2 f3 : Field} {fuel : Nat} {v : Value} {x : DataW H × List MemPlace} (ht : P.underlying t = some (.slice e)) (he : P.underlying e = some (.struct #[f0, f1, f2, f3])) (hC : P.cellsOf e = 4)
    (o0 : f0.offset = 0) (o1 : f1.offset = 1) (o2 : f2.offset = 2) (o3 : f3.offset = 3) (k0 : P.cellsOf f0.type = 1) (k1 : P.cellsOf f1.type = 1) (k2 : P.cellsOf f2.type = 1) (k3 : P.cellsOf f3.type = 1)
    (u0 : P.underlying f0.type = some (.int .i64)) (u1 : P.underlying f1.type = some (.int .i64)) (u2 : P.underlying f2.type = some (.int .i64)) (u3 : P.underlying f3.type = some (.int .u8))
    (h : DataW.trod enc P w base spare held fuel t [v] = some x) : ∃ a len cap f, v = .slice a len cap ∧ IsParts w a len f := by
  rcases open_slice ht h with ⟨h0, _⟩ | ⟨a, len, cap, m, n, D, Pl, hcs, hb, hl, hm, hmm, hx, hi⟩
  · simp at h0
    exact ⟨none, 0, 0, fun _ => (0, 0, 0, 0), h0, by omega, .inl rfl⟩
  simp at hcs
  have hml : len ≤ m := by rw [hmm]; split <;> omega
  have key : ∀ i, i < len → ∃ y : Int × Int × Int × Int, w.cell? (a.add (i * 4)) = some (.int .i64 y.1) ∧ w.cell? (a.add (i * 4 + 1)) = some (.int .i64 y.2.1) ∧ w.cell? (a.add (i * 4 + 2)) = some (.int .i64 y.2.2.1) ∧ w.cell? (a.add (i * 4 + 3)) = some (.int .u8 y.2.2.2) ∧
      (-9223372036854775808 ≤ y.1 ∧ y.1 ≤ 9223372036854775807) ∧ (-9223372036854775808 ≤ y.2.1 ∧ y.2.1 ≤ 9223372036854775807) ∧ (-9223372036854775808 ≤ y.2.2.1 ∧ y.2.2.1 ≤ 9223372036854775807) ∧ (0 ≤ y.2.2.2 ∧ y.2.2.2 ≤ 255) := by
    intro i hil
    obtain ⟨cs', hc, ht'⟩ := hi i (by omega)
    rw [hC] at hc
    obtain ⟨_, hcl, hat⟩ := World.cells?_some hc
    obtain ⟨y0, y1, y2, y3, n', _, _, t0, t1, t2, t3⟩ := trod_struct4 he ht'
    match cs', hcl with
    | [c0, c1, c2, c3], _ =>
      rw [o0, k0] at t0
      rw [o1, k1] at t1
      rw [o2, k2] at t2
      rw [o3, k3] at t3
      obtain ⟨a0, r0, _, w0⟩ := DataW.trod_int u0 (show DataW.trod enc P w base spare held n' f0.type [c0] = some y0 from t0)
      obtain ⟨a1, r1, _, w1⟩ := DataW.trod_int u1 (show DataW.trod enc P w base spare held n' f1.type [c1] = some y1 from t1)
      obtain ⟨a2, r2, _, w2⟩ := DataW.trod_int u2 (show DataW.trod enc P w base spare held n' f2.type [c2] = some y2 from t2)
      obtain ⟨a3, r3, _, w3⟩ := DataW.trod_int u3 (show DataW.trod enc P w base spare held n' f3.type [c3] = some y3 from t3)
      simp only [List.cons.injEq, and_true] at r0 r1 r2 r3
      subst r0 r1 r2 r3
      have z0 := hat 0 (by simp)
      have z1 := hat 1 (by simp)
      have z2 := hat 2 (by simp)
      have z3 := hat 3 (by simp)
      rw [add_add] at z0 z1 z2 z3
      exact ⟨(a0, a1, a2, a3), by simpa using z0, by simpa using z1, by simpa using z2, by simpa using z3, bounds_i64 w0, bounds_i64 w1, bounds_i64 w2, bounds_u8 w3⟩
  unfold maxLen at hm
  refine ⟨some a, len, cap, fun i => if h : i < len then Classical.choose (key i h) else (0, 0, 0, 0), hcs, by omega, ?_⟩
  by_cases h0 : len = 0
  · exact .inl h0
  right
  obtain ⟨q0, _⟩ := key 0 (by omega)
  have c0 := (Classical.choose_spec (key 0 (by omega))).1
  obtain ⟨b, off, spot⟩ := a
  have hs : spot = none := by simpa [Addr.add] using World.cell?_spot c0
  subst hs
  have hlt := World.block_lt_of_cell? w _ c0
  simp [Addr.add] at hlt
  refine ⟨b, off, rfl, hlt, fun i hil => ?_⟩
  have sp := Classical.choose_spec (key i hil)
  simp only [hil, dif_pos]
  generalize Classical.choose (key i hil) = y at sp ⊢
  rw [Addr.add_lit, Addr.add_lit, Addr.add_lit, Addr.add_lit] at sp
  simpa [Nat.add_assoc] using sp
theorem trod_array2 {t e : TypeId} {fuel : Nat} {c0 c1 : Value} {x : DataW H × List MemPlace} (ht : P.underlying t = some (.array 2 e)) (hce : P.cellsOf e = 1)
    (h : DataW.trod enc P w base spare held fuel t [c0, c1] = some x) : ∃ y0 y1 n, DataW.trod enc P w base spare held n e [c0] = some y0 ∧ DataW.trod enc P w base spare held n e [c1] = some y1 := by
  obtain ⟨xs, m, _, _, _, hl, hf⟩ := DataW.trod_array ht h
  match xs, hl with
  | [y0, y1], _ =>
    have t0 := hf 0 (by omega)
    have t1 := hf 1 (by omega)
    rw [hce] at t0 t1
    exact ⟨y0, y1, m, t0, t1⟩
end
end Go.Proofs.Ytbcjhngpcodaoaa
