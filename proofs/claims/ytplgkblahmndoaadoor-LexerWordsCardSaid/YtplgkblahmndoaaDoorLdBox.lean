/- The document's word: its box, pieces of texts. -/
import Derived.Test.YtplgkblahmndoaaDoorLdQuote
namespace Go.Proofs.YtplgkblahmndoaaDoor
open Go.RowKit Go.Lib
set_option linter.unusedVariables false
set_option maxRecDepth 100000

theorem slice_to (s : ByteArray) (n : Nat) (h : n ≤ s.size) : ∃ T : ByteArray, T.data.toList = s.data.toList.take n ∧ ∀ W, (Instr.slice 9 (.string s) none (some (.int .i64 (n : Int))) none).run Tryd.prog W = .ok (.string T) W := by
  refine ⟨s.extract 0 n, by rw [Lib.extract_data]; simp, fun W => ?_⟩
  have := run_slice_string_to_if (P := Tryd.prog) W 9 s .i64 (n : Int) Tryd.underlying9
  rw [this]
  simp
  try omega
theorem slice_from (s : ByteArray) (n : Nat) (h : n ≤ s.size) : ∃ T : ByteArray, T.data.toList = s.data.toList.drop n ∧ ∀ W, (Instr.slice 9 (.string s) (some (.int .i64 (n : Int))) none none).run Tryd.prog W = .ok (.string T) W := by
  refine ⟨s.extract n s.size, by rw [Lib.extract_data]; exact List.take_of_length_le (by rw [List.length_drop, len_list]; exact Nat.le_refl _), fun W => ?_⟩
  have := run_slice_string_from_if (P := Tryd.prog) W 9 s .i64 (n : Int) Tryd.underlying9
  rw [this]
  simp
  try omega
theorem tsize (T : ByteArray) {l : Bs} (h : T.data.toList = l) : T.size = l.length := by rw [← len_list, h]
/-- the result's box, as it lies behind calls that spare it -/
structure Box (w : World) (N : Nat) (w' : World) : Prop where
  new : w'.heap[N]? = some (.cells #[.int .i64 0, .string ⟨#[]⟩, .int .i64 0] 41 (0, 0))
  bel : Below w.heap.size w w'
  eq : N = w.heap.size
theorem Box.facts {w w' : World} {N : Nat} (h : Box w N w') : (w'.cell? ⟨N, 0, none⟩ = some (.int .i64 0) ∧ w'.cell? ⟨N, 1, none⟩ = some (.string ⟨#[]⟩) ∧ w'.cell? ⟨N, 2, none⟩ = some (.int .i64 0)) ∧ (∀ j, w'.frozen? ⟨N, j, none⟩ = false) ∧ N < w'.heap.size :=
  ⟨⟨cell_of_row _ _ 0 _ _ _ h.new, cell_of_row _ _ 1 _ _ _ h.new, cell_of_row _ _ 2 _ _ _ h.new⟩, fun j => frozen_of_row _ _ j _ _ h.new, (Array.getElem?_eq_some_iff.1 h.new).1⟩
theorem Box.later {w w1 w2 : World} {N : Nat} (h : Box w N w1) (hb : Below w1.heap.size w1 w2) : Box w N w2 :=
  ⟨(hb.block N (Array.getElem?_eq_some_iff.1 h.new).1).trans h.new, bt h.bel hb, h.eq⟩
theorem Box.fill {w w1 : World} {N : Nat} (h : Box w N w1) (a b c : Value) : (((w1.setCell ⟨N, 0, none⟩ a).setCell ⟨N, 1, none⟩ b).setCell ⟨N, 2, none⟩ c).heap[N]? = some (.cells #[a, b, c] 41 (0, 0)) ∧ Below w.heap.size w (((w1.setCell ⟨N, 0, none⟩ a).setCell ⟨N, 1, none⟩ b).setCell ⟨N, 2, none⟩ c) := by
  refine ⟨box3 h.new a b c, ?_⟩
  have := h.eq
  subst this
  exact box3_below h.bel a b c
theorem Box.make (w : World) : Box w w.heap.size (w.alloc (.cells #[.int .i64 0, .string ⟨#[]⟩, .int .i64 0] 41)) := ⟨Go.heap_alloc_new w _, bel0 _ (Below.refl _ _), rfl⟩
theorem span_step {l : Bs} {n : Nat} (h : n < l.length) (h2 : ndL (decodeL (l.drop n)).1 = true) (hs : span l = (l.take n ++ (span (l.drop n)).1, (span (l.drop n)).2)) :
    span l = (l.take (n + (decodeL (l.drop n)).2) ++ (span (l.drop (n + (decodeL (l.drop n)).2))).1, (span (l.drop (n + (decodeL (l.drop n)).2))).2) := by
  have hne : l.drop n ≠ [] := fun e => by
    have := congrArg List.length e
    rw [List.length_drop, List.length_nil] at this
    omega
  rw [hs, span_yes hne h2, List.drop_drop, List.take_add, List.append_assoc]
end Go.Proofs.YtplgkblahmndoaaDoor
