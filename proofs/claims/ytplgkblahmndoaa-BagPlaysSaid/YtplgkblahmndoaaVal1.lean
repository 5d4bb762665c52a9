/- append of a value onto a row of values of the call's own. -/
import Derived.Test.YtplgkblahmndoaaForm1
import Derived.Test.YtplgkblahmndoaaBytes
import Derived.Deep.AppendLies
namespace Go.Proofs.Ytplgkblahmndoaa
open Go.RowKit
set_option linter.unusedVariables false
theorem infoV : (Try.prog.info? 46).map (fun i => (i.zero, i.size, i.bytes)) = some (some (.agg #[.int .i64 0, .int .i64 0, .string ⟨#[]⟩]), 3, 32) := by kernel_rfl

def valsOf (vs : List Val) : List Value := vs.flatMap valsX
theorem valsOf_length (vs : List Val) : (valsOf vs).length = vs.length * 3 := by
  induction vs with
  | nil => rfl
  | cons v l ih =>
    have e : valsOf (v :: l) = valsX v ++ valsOf l := by simp [valsOf]
    rw [e, List.length_append, ih]
    simp [valsX]; omega
theorem valsOf_append (a b : List Val) : valsOf (a ++ b) = valsOf a ++ valsOf b := by simp [valsOf]
theorem valsOf_at : ∀ (vs : List Val) (i : Nat), i < vs.length → (valsOf vs)[i * 3]? = some (.int .i64 (vs.getD i noV).1) ∧ (valsOf vs)[i * 3 + 1]? = some (.int .i64 (vs.getD i noV).2.1) ∧ (valsOf vs)[i * 3 + 2]? = some (.string (vs.getD i noV).2.2)
  | [], i, h => by simp at h
  | v :: l, 0, h => by simp [valsOf, valsX]
  | v :: l, i + 1, h => by
    have ih := valsOf_at l i (by simpa using h)
    have e : valsOf (v :: l) = valsX v ++ valsOf l := by simp [valsOf]
    have e3 : (valsX v).length = 3 := rfl
    rw [e]
    rw [List.getElem?_append_right (by omega), List.getElem?_append_right (by omega), List.getElem?_append_right (by omega), e3, show (i + 1) * 3 - 3 = i * 3 by omega, show (i + 1) * 3 + 1 - 3 = i * 3 + 1 by omega, show (i + 1) * 3 + 2 - 3 = i * 3 + 2 by omega]
    simpa using ih
theorem own_isV {w : World} {B : Nat} {v : Value} {vs : List Val} (h : w.ownsRow B 46 3 v vs.length (valsOf vs)) : ∃ a cap, v = .slice a vs.length cap ∧ IsV w a vs.length vs := by
  rcases h.2 with ⟨rfl, h0⟩ | ⟨g, cap, cur, rfl, hB, hg, h1, h2, hs, ht⟩
  · have hz := List.eq_nil_of_length_eq_zero h0
    subst hz
    exact ⟨none, 0, rfl, rfl, by simp, .inl rfl⟩
  · unfold maxLen at h2
    refine ⟨_, cap, rfl, rfl, by omega, .inr ⟨g, 0, rfl, (Array.getElem?_eq_some_iff.1 hg).1, fun i hi => ?_⟩⟩
    obtain ⟨a, b, c⟩ := valsOf_at vs i hi
    rw [Nat.zero_add, h.cellAt (i * 3) (by omega), h.cellAt (i * 3 + 1) (by omega), h.cellAt (i * 3 + 2) (by omega)]
    exact ⟨a, b, c⟩

section
variable {W : World} {ops : Array Oper} {rest : List Oper} {o : Oper} {a : Act} {K : Act → World → Prop} {Q : Exit → Act → World → Prop} {E : Prop}

theorem wp_val (s x : Operand) (ho : o.op = .call { callee := .builtin .append, args := #[s, x], argTypes := #[23, 23] })
    (B : Nat) (v : Value) (vs : List Val) (b : Nat) (y : Val) (hs : a.eval s = v) (hx : a.eval x = .slice (some ⟨b, 0, none⟩) 1 1)
    (hown : W.ownsRow B 46 3 v vs.length (valsOf vs)) (hc : W.cell? ⟨b, 0, none⟩ = some (.int .i64 y.1) ∧ W.cell? ⟨b, 1, none⟩ = some (.int .i64 y.2.1) ∧ W.cell? ⟨b, 2, none⟩ = some (.string y.2.2)) (hlen : vs.length ≤ 4398046511000) (hbase : B ≤ W.heap.size)
    (h : ∀ g cap w', w'.ownsRow B 46 3 (.slice (some ⟨g, 0, none⟩) (vs.length + 1) cap) (vs ++ [y]).length (valsOf (vs ++ [y])) → W.grownBy w' v.ownBlock → (v.ownBlock = some g ∨ g = W.heap.size) → g < w'.heap.size → K (a.put o.dst (.slice (some ⟨g, 0, none⟩) (vs.length + 1) cap)) w') :
    o.wp Try.prog a W K Q := by
  obtain ⟨i0, hi, hz0, hz1, hz2⟩ := info_parts infoV
  refine wp_append_lies W s x 23 ho B 46 i0 (.agg #[.int .i64 0, .int .i64 0, .string ⟨#[]⟩]) 3 32 Try.underlying23 hi hz0 hz1 hz2 rfl (by decide) v vs.length _ hs hown ⟨b, 0, none⟩ 1 1 (valsX y) hx rfl ?_ ?_ (by omega) (by unfold maxLen; omega) (by omega) hbase _ rfl ?_
  · intro j u hu
    match j, hu with
    | 0, hu => simp [valsX] at hu; subst hu; exact hc.1
    | 1, hu => simp [valsX] at hu; subst hu; exact hc.2.1
    | 2, hu => simp [valsX] at hu; subst hu; exact hc.2.2
    | j + 3, hu => simp [valsX] at hu
  · intro u hu; simp [valsX] at hu; rcases hu with rfl | rfl | rfl <;> rfl
  · intro g cap w' h1 h2 h3 h4
    refine h g cap w' ?_ h2 h3 h4
    rw [valsOf_append, List.length_append]
    simpa [valsOf] using h1
theorem wpList_val (hgd : o.guard = none) (s x : Operand) (ho : o.op = .call { callee := .builtin .append, args := #[s, x], argTypes := #[23, 23] })
    (B : Nat) (v : Value) (vs : List Val) (b : Nat) (y : Val) (hs : a.eval s = v) (hx : a.eval x = .slice (some ⟨b, 0, none⟩) 1 1)
    (hown : W.ownsRow B 46 3 v vs.length (valsOf vs)) (hc : W.cell? ⟨b, 0, none⟩ = some (.int .i64 y.1) ∧ W.cell? ⟨b, 1, none⟩ = some (.int .i64 y.2.1) ∧ W.cell? ⟨b, 2, none⟩ = some (.string y.2.2)) (hlen : vs.length ≤ 4398046511000) (hbase : B ≤ W.heap.size)
    (h : ∀ g cap w', w'.ownsRow B 46 3 (.slice (some ⟨g, 0, none⟩) (vs.length + 1) cap) (vs ++ [y]).length (valsOf (vs ++ [y])) → W.grownBy w' v.ownBlock → (v.ownBlock = some g ∨ g = W.heap.size) → g < w'.heap.size → wpList Try.prog ops Q rest (a.put o.dst (.slice (some ⟨g, 0, none⟩) (vs.length + 1) cap)) w') :
    wpList Try.prog ops Q (o :: rest) a W :=
  wpList_plain hgd fun _ hK => wp_val s x ho B v vs b y hs hx hown hc hlen hbase fun g cap w' h1 h2 h3 h4 => hK _ _ (h g cap w' h1 h2 h3 h4)
theorem step_val (hgd : o.guard = none) (s x : Operand) (ho : o.op = .call { callee := .builtin .append, args := #[s, x], argTypes := #[23, 23] })
    (B : Nat) (v : Value) (vs : List Val) (b : Nat) (y : Val) (hs : a.eval s = v) (hx : a.eval x = .slice (some ⟨b, 0, none⟩) 1 1)
    (hown : W.ownsRow B 46 3 v vs.length (valsOf vs)) (hc : W.cell? ⟨b, 0, none⟩ = some (.int .i64 y.1) ∧ W.cell? ⟨b, 1, none⟩ = some (.int .i64 y.2.1) ∧ W.cell? ⟨b, 2, none⟩ = some (.string y.2.2)) (hlen : vs.length ≤ 4398046511000) (hbase : B ≤ W.heap.size)
    (h : ∀ g cap w', w'.ownsRow B 46 3 (.slice (some ⟨g, 0, none⟩) (vs.length + 1) cap) (vs ++ [y]).length (valsOf (vs ++ [y])) → W.grownBy w' v.ownBlock → (v.ownBlock = some g ∨ g = W.heap.size) → g < w'.heap.size → K (a.put o.dst (.slice (some ⟨g, 0, none⟩) (vs.length + 1) cap)) w') :
    if Region.wanted o (yielded ops a.tmps) = true then Oper.wp Try.prog o a W K Q else E := by
  have hw : Region.wanted o (yielded ops a.tmps) = true := by simp [Region.wanted, hgd]
  rw [if_pos hw]
  exact wp_val s x ho B v vs b y hs hx hown hc hlen hbase h
end
end Go.Proofs.Ytplgkblahmndoaa
