/- Rows of values that came in, read as data. Over any program with such a type. -/
import Derived.Test.YtafhgilikcablaaSvIdx
import Derived.Test.YtafhgilikcablaaEt
import Derived.Test.YtafhgilikcablaaProg
import Derived.Test.YtafhgilikcablaaIns
import Derived.Deep.Slices
import Derived.Deep.Strs
import Derived.Deep.Fields
import Derived.ProofKit
import Derived.OpenShut
import Derived.Test.YtafhgilikcablaaVRecV
import Derived.Test.YtafhgilikcablaaCFit0
namespace Go.Proofs.Ytafhgilikcablaa
open Go.ChangeShapes Go.WideShapes Go.Deep Go.RowKit
set_option linter.unusedVariables false
set_option linter.unusedSimpArgs false
set_option maxRecDepth 100000
section
variable {H : Type} {enc : TypeId × Value → H} {w : World} {base : Nat} {spare : Nat → Bool} {held : Bool}
theorem open_expr {fuel : Nat} {cs : List Value} {x : DataW H × List MemPlace} (h : DataW.trod enc Try.prog w base spare held fuel 41 cs = some x) : ∃ y sa sc, cs = etX y sa sc ∧ ERg y sa sc ∧ EL w (fun _ => True) sa y.parts :=
  open_et (t := 39) Try.underlying41 (by kernel_rfl) rfl rfl rfl rfl rfl rfl (by kernel_rfl) (by kernel_rfl) (by kernel_rfl) (by kernel_rfl) (by kernel_rfl) (by kernel_rfl) Try.underlying3 Try.underlying9 Try.underlying38 Try.underlying9 Try.underlying9 rfl rfl rfl rfl (by kernel_rfl) (by kernel_rfl) (by kernel_rfl) Try.underlying3 Try.underlying2 Try.underlying9
    (fun n _ v x h => open_el (t := 39) Try.underlying39 Try.underlying41 (by kernel_rfl) rfl rfl rfl rfl rfl rfl (by kernel_rfl) (by kernel_rfl) (by kernel_rfl) (by kernel_rfl) (by kernel_rfl) (by kernel_rfl) Try.underlying3 Try.underlying9 Try.underlying38 Try.underlying9 Try.underlying9 rfl rfl rfl rfl (by kernel_rfl) (by kernel_rfl) (by kernel_rfl) Try.underlying3 Try.underlying2 Try.underlying9 n n (Nat.le_refl _) v x h) h
theorem open_tables {fuel : Nat} {v : Value} {x : DataW H × List MemPlace} (h : DataW.trod enc Try.prog w base spare held fuel 36 [v] = some x) : ∃ a cap, ∃ l : List TB, v = .slice a l.length cap ∧ TabsAt w a l ∧ l.length ≤ cap ∧ cap ≤ maxLen :=
  open_tabs Try.underlying36 Try.underlying109 (by kernel_rfl) rfl rfl rfl (by kernel_rfl) (by kernel_rfl) (by kernel_rfl) Try.underlying9 Try.underlying4 rfl Try.underlying107 Try.underlying111 (by kernel_rfl) rfl rfl rfl rfl (by kernel_rfl) (by kernel_rfl) (by kernel_rfl) (by kernel_rfl) Try.underlying9 Try.underlying3 Try.underlying4 Try.underlying4 h
theorem open_numbers {fuel : Nat} {v : Value} {x : DataW H × List MemPlace} (h : DataW.trod enc Try.prog w base spare held fuel 31 [v] = some x) : ∃ a cap, ∃ l : List Int, v = .slice a l.length cap ∧ IntsAt w a l ∧ l.length ≤ cap ∧ cap ≤ maxLen := by
  obtain ⟨a, len, cap, l, rfl, hl, hle, hm, _, hh⟩ := open_sl (α := Int) (fun y => [Value.int .i64 y]) Try.underlying31 (by kernel_rfl) (by decide) (fun _ => rfl) (fun _ => True) (fun n _ cs x hx => by
    obtain ⟨y, hy, _, _⟩ := DataW.trod_int Try.underlying3 hx
    exact ⟨y, hy, trivial⟩) h
  subst hl
  refine ⟨a, cap, l, rfl, ?_, hle, hm⟩
  rcases hh with hh | ⟨b, off, rfl, hlt, hc⟩
  · exact .inl hh
  · refine .inr ⟨b, off, rfl, hlt, fun i hi => ?_⟩
    have := (hc i hi).2 0 _ rfl
    simpa using this
end
end Go.Proofs.Ytafhgilikcablaa
namespace Go.Proofs.Ytafhgilikcablaa
open Go.ChangeShapes Go.WideShapes Go.Deep Go.RowKit
section
variable {H : Type} {enc : TypeId × Value → H} {P : Program} {w : World} {base : Nat} {spare : Nat → Bool} {held : Bool}

def CellsV (w : World) (a : Addr) (i : Nat) (v : Val) : Prop :=
  w.cell? (a.add (i * 3)) = some (.int .i64 v.1) ∧ w.cell? (a.add (i * 3 + 1)) = some (.int .i64 v.2.1) ∧ w.cell? (a.add (i * 3 + 2)) = some (.string v.2.2) ∧
  (Lit.int .i64 v.1).wf = true ∧ (Lit.int .i64 v.2.1).wf = true ∧ v.2.2.size ≤ maxLen

theorem open_vals {t e ti tj ts : TypeId} {f0 f1 f2 : Field} {fuel : Nat} {cs : List Value} {x : DataW H × List MemPlace} (ht : P.underlying t = some (.slice e)) (he : P.underlying e = some (.struct #[f0, f1, f2]))
    (hone : oneCellFields P #[f0, f1, f2] = true) (hC : P.cellsOf e = 3) (e0 : f0.type = ti) (e1 : f1.type = tj) (e2 : f2.type = ts) (u0 : P.underlying ti = some (.int .i64)) (u1 : P.underlying tj = some (.int .i64)) (u2 : P.underlying ts = some .string)
    (h : DataW.trod enc P w base spare held fuel t cs = some x) :
    cs = [.slice none 0 0] ∨
    ∃ (a : Addr) (len cap : Nat) (vs : List Val), cs = [.slice (some a) len cap] ∧ vs.length = len ∧ len ≤ cap ∧ cap ≤ maxLen ∧ ∀ i, i < len → CellsV w a i (vs.getD i noV) := by
  rcases open_slice ht h with ⟨h0, _⟩ | ⟨a, len, cap, m, n, D, Pl, hcs, hb, hl, hm, hmm, hx, hi⟩
  · exact .inl h0
  right
  have hml : len ≤ m := by rw [hmm]; split <;> omega
  have key : ∀ i, i < len → ∃ v : Val, CellsV w a i v := by
    intro i hil
    obtain ⟨cs', hc, ht'⟩ := hi i (by omega)
    rw [hC] at hc
    obtain ⟨_, hcl, hat⟩ := World.cells?_some hc
    obtain ⟨y0, y1, y2, n', _, _, t0, t1, t2⟩ := trod_struct3 he ht'
    obtain ⟨o0, k0⟩ := hone_of hone 0 f0 rfl
    obtain ⟨o1, k1⟩ := hone_of hone 1 f1 rfl
    obtain ⟨o2, k2⟩ := hone_of hone 2 f2 rfl
    match cs', hcl with
    | [c0, c1, c2], _ =>
      rw [o0, k0, e0] at t0
      rw [o1, k1, e1] at t1
      rw [o2, k2, e2] at t2
      obtain ⟨a0, r0, _, w0⟩ := DataW.trod_int u0 t0
      obtain ⟨a1, r1, _, w1⟩ := DataW.trod_int u1 t1
      obtain ⟨a2, r2, _, w2⟩ := DataW.trod_string u2 t2
      simp at r0 r1 r2
      subst r0 r1 r2
      have z0 := hat 0 (by omega)
      have z1 := hat 1 (by omega)
      have z2 := hat 2 (by omega)
      rw [add_add] at z0 z1 z2
      exact ⟨(a0, a1, a2), by simpa using z0, by simpa using z1, by simpa using z2, w0, w1, w2⟩
  refine ⟨a, len, cap, (List.range len).map (fun i => if h : i < len then Classical.choose (key i h) else noV), hcs, by simp, hl, hm, fun i hil => ?_⟩
  have : ((List.range len).map (fun i => if h : i < len then Classical.choose (key i h) else noV)).getD i noV = Classical.choose (key i hil) := by
    rw [List.getD_eq_getElem?_getD, List.getElem?_map, List.getElem?_range hil]
    simp [hil]
  rw [this]
  exact Classical.choose_spec (key i hil)
end

theorem CellsV.spot {w : World} {a : Addr} {i : Nat} {v : Val} (h : CellsV w a i v) (hi : i = 0) : a.spot = none := by
  subst hi
  have := h.1
  simp [Addr.add] at this
  exact World.cell?_spot this

theorem isV_of {w : World} {a : Addr} {len cap : Nat} {vs : List Val} (hv : vs.length = len) (hl : len ≤ cap) (hm : cap ≤ maxLen) (hc : ∀ i, i < len → CellsV w a i (vs.getD i noV)) : IsV w (some a) len vs := by
  unfold maxLen at hm
  refine ⟨hv, by omega, ?_⟩
  by_cases h0 : len = 0
  · exact .inl h0
  right
  have hs := (hc 0 (by omega)).spot rfl
  obtain ⟨b, off, spot⟩ := a
  dsimp only at hs
  subst hs
  have hlt := World.block_lt_of_cell? w _ (hc 0 (by omega)).1
  simp [Addr.add] at hlt
  refine ⟨b, off, rfl, hlt, fun i hi => ?_⟩
  obtain ⟨z0, z1, z2, _⟩ := hc i hi
  have e0 : Addr.add ⟨b, off, none⟩ (i * 3) = ⟨b, off + i * 3, none⟩ := by unfold Addr.add; split; rename_i h; simp; rfl
  have e1 : Addr.add ⟨b, off, none⟩ (i * 3 + 1) = ⟨b, off + i * 3 + 1, none⟩ := by simp [Addr.add, Nat.add_assoc]
  have e2 : Addr.add ⟨b, off, none⟩ (i * 3 + 2) = ⟨b, off + i * 3 + 2, none⟩ := by simp [Addr.add, Nat.add_assoc]
  rw [e0] at z0; rw [e1] at z1; rw [e2] at z2
  exact ⟨z0, z1, z2⟩
theorem range_of {w : World} {a : Addr} {len : Nat} {vs : List Val} (hv : vs.length = len) (hc : ∀ i, i < len → CellsV w a i (vs.getD i noV)) : ∀ v ∈ vs, -9223372036854775808 ≤ v.2.1 ∧ v.2.1 ≤ 9223372036854775807 := by
  intro v hv'
  obtain ⟨i, hi, rfl⟩ := List.getElem_of_mem hv'
  have := (hc i (by omega)).2.2.2.2.1
  rw [List.getD_eq_getElem?_getD, List.getElem?_eq_getElem hi] at this
  exact bounds_i64 this
end Go.Proofs.Ytafhgilikcablaa
namespace Go.Proofs.Ytafhgilikcablaa
open Go.ChangeShapes Go.WideShapes Go.Deep Go.RowKit
set_option linter.unusedVariables false
set_option linter.unusedSimpArgs false

section
variable {H : Type} {enc : TypeId × Value → H} {P : Program} {w : World} {base : Nat} {spare : Nat → Bool} {held : Bool}
theorem open_rr {t p q ti tj ts : TypeId} {g0 g1 g2 : Field} {fuel : Nat} {v : Value} {x : DataW H × List MemPlace} (ht : P.underlying t = some (.slice q)) (hq : P.underlying q = some (.slice p)) (cq : P.cellsOf q = 1)
    (up : P.underlying p = some (.struct #[g0, g1, g2])) (hone : oneCellFields P #[g0, g1, g2] = true) (hp : P.cellsOf p = 3) (e0 : g0.type = ti) (e1 : g1.type = tj) (e2 : g2.type = ts) (v0 : P.underlying ti = some (.int .i64)) (v1 : P.underlying tj = some (.int .i64)) (v2 : P.underlying ts = some .string)
    (h : DataW.trod enc P w base spare held fuel t [v] = some x) : ∃ a len cap R, v = .slice a len cap ∧ IsRR w a len R ∧ RowsR R := by
  rcases open_slice1 ht cq h with ⟨hcs, _⟩ | ⟨a, len, cap, m, n, V, D, Pl, hcs, hb, hl, hm, hmm, _, hx⟩
  · simp at hcs
    exact ⟨none, 0, 0, [], hcs, ⟨rfl, by omega, .inl rfl⟩, by simp [RowsR]⟩
  simp at hcs
  have hml : len ≤ m := by rw [hmm]; split <;> omega
  unfold maxLen at hm
  have key : ∀ i, i < len → ∃ l : List Val, (∀ v ∈ l, InR v.2.1) ∧ ∃ ra rl rc, w.cell? (a.add i) = some (.slice ra rl rc) ∧ IsV w ra rl l := by
    intro i hi
    obtain ⟨c1, c2⟩ := hx i (by omega)
    rcases open_vals hq up hone hp e0 e1 e2 v0 v1 v2 c2 with hv | ⟨ax, l, c, vs, hv, hvl, hl', hm', hcell⟩
    · simp only [List.cons.injEq, and_true] at hv
      exact ⟨[], by simp, none, 0, 0, by rw [c1, hv], ⟨rfl, by omega, .inl rfl⟩⟩
    · simp only [List.cons.injEq, and_true] at hv
      exact ⟨vs, range_of hvl hcell, some ax, l, c, by rw [c1, hv], isV_of hvl hl' hm' hcell⟩
  refine ⟨some a, len, cap, (List.range len).map (fun i => if h : i < len then Classical.choose (key i h) else []), hcs, ⟨by simp, by omega, ?_⟩, ?_⟩
  rotate_left
  · intro l hl
    obtain ⟨i, hi, rfl⟩ := List.mem_map.1 hl
    have hil := List.mem_range.1 hi
    simp only [hil, dif_pos]
    exact (Classical.choose_spec (key i hil)).1
  by_cases h0 : len = 0
  · exact .inl h0
  right
  obtain ⟨b, off, spot⟩ := a
  have c0 := (hx 0 (by omega)).1
  have hs : spot = none := by simpa [Addr.add] using World.cell?_spot c0
  subst hs
  have hlt := World.block_lt_of_cell? w _ c0
  simp [Addr.add] at hlt
  refine ⟨b, off, rfl, hlt, fun i hi => ?_⟩
  have e : ((List.range len).map (fun i => if h : i < len then Classical.choose (key i h) else [])).getD i [] = Classical.choose (key i hi) := by
    rw [List.getD_eq_getElem?_getD, List.getElem?_map, List.getElem?_range hi]
    simp [hi]
  rw [e]
  obtain ⟨ra, rl, rc, k1, k2⟩ := (Classical.choose_spec (key i hi)).2
  rw [Addr.add_lit] at k1
  exact ⟨ra, rl, rc, k1, k2⟩
end
end Go.Proofs.Ytafhgilikcablaa
