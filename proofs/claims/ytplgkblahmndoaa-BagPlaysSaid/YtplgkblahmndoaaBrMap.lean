/- A bag's map, read with its rows' slices. Plain mathematics. -/
import Derived.Test.YtplgkblahmndoaaBoPure
import Derived.Test.YtplgkblahmndoaaBrPure
namespace Go.Proofs.Ytplgkblahmndoaa
open Go.RowKit Go.Maps
set_option linter.unusedVariables false

/-- an entry's slice, and its number -/
abbrev SlN := Option (Nat × Nat) × Nat × Nat × Int
def adA : Option (Nat × Nat) → Option Addr
  | none => none
  | some (b, o) => some ⟨b, o, none⟩
def adD : Option (Nat × Nat) → DataW Unit
  | none => .nil
  | some (b, o) => .agg [.lit (.int .i64 (b : Int)), .lit (.int .i64 (o : Int))]
def slV (x : SlN) : Value := .agg #[.slice (adA x.1) x.2.1 x.2.2.1, .int .i64 x.2.2.2]
def slD (x : SlN) : DataW Unit := .agg [adD x.1, .lit (.int .i64 (x.2.1 : Int)), .lit (.int .i64 (x.2.2.1 : Int)), .lit (.int .i64 x.2.2.2)]
theorem adD_inj {a b : Option (Nat × Nat)} (h : adD a = adD b) : a = b := by
  cases a with
  | none =>
    cases b with
    | none => rfl
    | some y => cases h
  | some x =>
    cases b with
    | none => cases h
    | some y =>
      obtain ⟨x1, x2⟩ := x
      obtain ⟨y1, y2⟩ := y
      simp only [adD, DataW.agg.injEq, List.cons.injEq, DataW.lit.injEq, Lit.int.injEq, true_and, and_true] at h
      obtain ⟨h1, h2⟩ := h
      have e1 : x1 = y1 := by omega
      have e2 : x2 = y2 := by omega
      rw [e1, e2]
theorem slD_inj {x y : SlN} (h : slD x = slD y) : x = y := by
  obtain ⟨x1, x2, x3, x4⟩ := x
  obtain ⟨y1, y2, y3, y4⟩ := y
  simp only [slD, DataW.agg.injEq, List.cons.injEq, DataW.lit.injEq, Lit.int.injEq, true_and, and_true] at h
  obtain ⟨h1, h2, h3, h4⟩ := h
  have e2 : x2 = y2 := by omega
  have e3 : x3 = y3 := by omega
  rw [adD_inj h1, e2, e3, h4]
/-- how a bag's entry reads: its slice and its number -/
def entR : Value → Option (DataW Unit × List MemPlace)
  | .agg cs => match cs.toList with
    | [.slice none l c, .int .i64 n] => some (slD (none, l, c, n), [])
    | [.slice (some ⟨b, o, none⟩) l c, .int .i64 n] => some (slD (some (b, o), l, c, n), [])
    | _ => none
  | _ => none
theorem entR_mk (x : SlN) : entR (slV x) = some (slD x, []) := by
  obtain ⟨a, l, c, n⟩ := x
  cases a with
  | none => rfl
  | some p => obtain ⟨b, o⟩ := p; rfl
theorem entR_inv {v : Value} {z : DataW Unit × List MemPlace} (h : entR v = some z) : ∃ x, v = slV x ∧ z = (slD x, []) := by
  unfold entR at h
  split at h
  · rename_i cs
    obtain ⟨q⟩ := cs
    split at h
    · rename_i l c n e
      simp only at e
      exact ⟨(none, l, c, n), by rw [e]; rfl, (Option.some.inj h).symm⟩
    · rename_i b o l c n e
      simp only at e
      exact ⟨(some (b, o), l, c, n), by rw [e]; rfl, (Option.some.inj h).symm⟩
    · cases h
  · cases h
/-- a map holds these entries -/
structure BalR (D : DataW Unit) (t : Lit → Option SlN) : Prop where
  is : IsMap D
  on : ∀ k, has D k = (t k).isSome
  val : ∀ k x z, t k = some x → D.atKey k z = slD x
theorem balR_empty : BalR (.map []) (fun _ => none) := ⟨isMap_empty, fun k => by simp [has_eq], fun k x z h => by cases h⟩
open Classical in
theorem BalR.put {D : DataW Unit} {t : Lit → Option SlN} (h : BalR D t) {k : Lit} (hk : WideAt.IsKeyLit k) (x : SlN) : BalR (D.put k (slD x)) (fun y => if y = k then some x else t y) := by
  refine ⟨h.is.put k _, fun y => ?_, fun y v z hv => ?_⟩
  · by_cases e : y = k
    · subst e
      simp [has_put_same h.is hk]
    · simp only [if_neg e]
      rw [has_put_other e]; exact h.on y
  · by_cases e : y = k
    · subst e
      obtain rfl : x = v := by simpa using hv
      exact atKey_put_same h.is hk _ _
    · simp only [if_neg e] at hv
      rw [atKey_put_other e]; exact h.val y v z hv
open Classical in
theorem BalR.del {D : DataW Unit} {t : Lit → Option SlN} (h : BalR D t) (k : Lit) : BalR (D.del k) (fun y => if y = k then none else t y) := by
  refine ⟨h.is.del k, fun y => ?_, fun y v z hv => ?_⟩
  · by_cases e : y = k
    · subst e
      simp [has_del_same]
    · simp only [if_neg e]
      rw [has_del_other e]; exact h.on y
  · by_cases e : y = k
    · subst e
      simp at hv
    · simp only [if_neg e] at hv
      rw [atKey_del_other e]; exact h.val y v z hv
theorem BalR.ext {D : DataW Unit} {s t : Lit → Option SlN} (h : BalR D s) (e : ∀ k, s k = t k) : BalR D t := by
  have : s = t := funext e
  rw [← this]; exact h
theorem BalR.none {D : DataW Unit} {t : Lit → Option SlN} (h : BalR D t) {k : Lit} (hk : t k = none) (z : DataW Unit) : D.atKey k z = z := by
  have := h.on k
  rw [hk] at this
  exact atKey_of_not_has this z
end Go.Proofs.Ytplgkblahmndoaa
