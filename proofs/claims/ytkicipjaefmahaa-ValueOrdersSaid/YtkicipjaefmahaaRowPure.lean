/- Plain definitions and lemmas on rows of values: their order. No program. -/
import Derived.Test.YtkicipjaefmahaaPure
namespace Go.Proofs.Ytkicipjaefmahaa

/-- a value: kind, number, text -/
abbrev Val := Int × Int × ByteArray
def noV : Val := (0, 0, ⟨#[]⟩)
def ordX (x y : Val) : Int := ordV x.1 x.2.1 x.2.2 y.1 y.2.1 y.2.2
def rowsF : List Val → List Val → Int
  | [], [] => 0
  | [], _ :: _ => -1
  | _ :: _, [] => 1
  | x :: xs, y :: ys => if ordX x y = 0 then rowsF xs ys else ordX x y

theorem vdrop_cons {vs : List Val} {k : Nat} (h : k < vs.length) : vs.drop k = vs.getD k noV :: vs.drop (k + 1) := by
  rw [List.drop_eq_getElem_cons h]; simp [h]
theorem rows_ne {xs ys : List Val} {k : Nat} (h1 : k < xs.length) (h2 : k < ys.length) (ho : ¬ ordX (xs.getD k noV) (ys.getD k noV) = 0) : rowsF (xs.drop k) (ys.drop k) = ordX (xs.getD k noV) (ys.getD k noV) := by
  rw [vdrop_cons h1, vdrop_cons h2]; unfold rowsF; rw [if_neg ho]
theorem rows_eq {xs ys : List Val} {k : Nat} (h1 : k < xs.length) (h2 : k < ys.length) (ho : ordX (xs.getD k noV) (ys.getD k noV) = 0) : rowsF (xs.drop k) (ys.drop k) = rowsF (xs.drop (k + 1)) (ys.drop (k + 1)) := by
  rw [vdrop_cons h1, vdrop_cons h2]; conv => lhs; unfold rowsF
  rw [if_pos ho]
theorem rows_left {xs ys : List Val} {k : Nat} (h1 : xs.length ≤ k) (h2 : k < ys.length) : rowsF (xs.drop k) (ys.drop k) = -1 := by
  rw [List.drop_eq_nil_of_le h1, vdrop_cons h2]; unfold rowsF; rfl
theorem rows_right {xs ys : List Val} {k : Nat} (h1 : k < xs.length) (h2 : ys.length ≤ k) : rowsF (xs.drop k) (ys.drop k) = 1 := by
  rw [List.drop_eq_nil_of_le h2, vdrop_cons h1]; unfold rowsF; rfl
theorem rows_both {xs ys : List Val} {k : Nat} (h1 : xs.length ≤ k) (h2 : ys.length ≤ k) : rowsF (xs.drop k) (ys.drop k) = 0 := by
  rw [List.drop_eq_nil_of_le h1, List.drop_eq_nil_of_le h2]; rfl

/-- a slice of values: what it reads as -/
def IsV (w : World) (a : Option Addr) (len : Nat) (vs : List Val) : Prop :=
  vs.length = len ∧ len ≤ 9223372036854775807 ∧ (len = 0 ∨ ∃ b off, a = some ⟨b, off, none⟩ ∧ b < w.heap.size ∧ ∀ i, i < len →
    w.cell? ⟨b, off + i * 3, none⟩ = some (.int .i64 (vs.getD i noV).1) ∧ w.cell? ⟨b, off + i * 3 + 1, none⟩ = some (.int .i64 (vs.getD i noV).2.1) ∧ w.cell? ⟨b, off + i * 3 + 2, none⟩ = some (.string (vs.getD i noV).2.2))

theorem IsV.below {w w' : World} {a : Option Addr} {len : Nat} {vs : List Val} (h : IsV w a len vs) (hb : RowKit.Below w.heap.size w w') : IsV w' a len vs := by
  obtain ⟨h1, h2, h3⟩ := h
  refine ⟨h1, h2, ?_⟩
  rcases h3 with h3 | ⟨b, off, rfl, hlt, hc⟩
  · exact .inl h3
  · refine .inr ⟨b, off, rfl, Nat.lt_of_lt_of_le hlt hb.size, fun i hi => ?_⟩
    rw [hb.cell (p := ⟨b, off + i * 3, none⟩) hlt, hb.cell (p := ⟨b, off + i * 3 + 1, none⟩) hlt, hb.cell (p := ⟨b, off + i * 3 + 2, none⟩) hlt]
    exact hc i hi

theorem ordI_neg (a b : Int) : ordI b a = -ordI a b := by unfold ordI; split <;> split <;> (try split) <;> omega
theorem ordI_bd (a b : Int) : ordI a b = -1 ∨ ordI a b = 0 ∨ ordI a b = 1 := by unfold ordI; split; simp; split <;> simp
end Go.Proofs.Ytkicipjaefmahaa
