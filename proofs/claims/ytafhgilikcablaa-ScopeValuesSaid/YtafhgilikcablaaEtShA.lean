/- The document's shape of any expression. -/
import Derived.Test.YtafhgilikcablaaEtSh3
import Derived.Test.YtafhgilikcablaaEtSh3
import Derived.Test.YtafhgilikcablaaEtSh3
import Derived.Test.YtafhgilikcablaaEtSh3
import Derived.Test.YtafhgilikcablaaEtSh6
import Derived.Test.YtafhgilikcablaaEtSh6
import Derived.Test.YtafhgilikcablaaEtSh6
namespace Go.Proofs.Ytafhgilikcablaa
open Go.RowKit
set_option linter.unusedVariables false
set_option linter.unusedSimpArgs false
set_option maxRecDepth 100000
def shD (nm : ByteArray → Bool) (fm : Int → Int → ByteArray → Bool) (e : ET) : Bool :=
  if e.kind = 1 then decide (e.parts.length = 0) && decide (e.tab.toList = []) && decide (e.col.toList = []) && decide (e.op.toList = []) && fm e.vk e.vn e.vs && decide (0 ≤ e.vn)
  else if e.kind = 2 then decide (e.parts.length = 0) && decide (e.vk = 0) && decide (e.vn = 0) && decide (e.vs.toList = []) && decide (e.op.toList = []) && nm e.col && (decide (e.tab.toList = []) || nm e.tab)
  else if e.kind = 3 then decide (e.parts.length = 1) && decide (e.tab.toList = []) && decide (e.col.toList = []) && decide (e.vk = 0) && decide (e.vn = 0) && decide (e.vs.toList = []) && inB e.op [⟨#[78, 79, 84]⟩, ⟨#[45]⟩]
  else if e.kind = 4 then decide (e.parts.length = 2) && decide (e.tab.toList = []) && decide (e.col.toList = []) && decide (e.vk = 0) && decide (e.vn = 0) && decide (e.vs.toList = []) && inB e.op [⟨#[79, 82]⟩, ⟨#[65, 78, 68]⟩, ⟨#[61]⟩, ⟨#[60, 62]⟩, ⟨#[60]⟩, ⟨#[60, 61]⟩, ⟨#[62]⟩, ⟨#[62, 61]⟩, ⟨#[43]⟩, ⟨#[45]⟩, ⟨#[42]⟩]
  else if e.kind = 5 then decide (e.parts.length = 1) && decide (e.tab.toList = []) && decide (e.col.toList = []) && decide (e.vk = 0) && decide (e.vn = 0) && decide (e.vs.toList = []) && inB e.op [⟨#[73, 83, 32, 78, 85, 76, 76]⟩, ⟨#[73, 83, 32, 78, 79, 84, 32, 78, 85, 76, 76]⟩]
  else if e.kind = 6 then decide (e.tab.toList = []) && decide (e.col.toList = []) && decide (e.vk = 0) && decide (e.vn = 0) && decide (e.vs.toList = []) && inB e.op [⟨#[67, 79, 85, 78, 84]⟩, ⟨#[83, 85, 77]⟩, ⟨#[77, 73, 78]⟩, ⟨#[77, 65, 88]⟩] && (decide (e.parts.length = 1) || decide (e.parts.length = 0) && decide (e.op.toList = [67, 79, 85, 78, 84]))
  else false
theorem shape_any (nm : ByteArray → Bool) (hnm : ∀ (w : World) (s : ByteArray), s.size ≤ maxLen → Calls Try.prog 167 #[.string s] w fun e' w' => e' = .returned (.bool (nm s)) ∧ Below w.heap.size w w')
    (fm : Int → Int → ByteArray → Bool) (hfm : ∀ (w : World) (a n : Int) (s : ByteArray), Calls Try.prog 139 #[.agg #[.int .i64 a, .int .i64 n, .string s]] w fun e' w' => e' = .returned (.bool (fm a n s)) ∧ Below w.heap.size w w')
    (w : World) (Q : Nat → Prop) (v : Value) (e : ET) (hv : EV w Q v e) : Calls Try.prog 136 #[v] w fun e' w' => e' = .returned (.bool (shD nm fm e)) ∧ Below w.heap.size w w' := by
  obtain ⟨sa, sc, rfl, hrg, hel⟩ := hv
  have hn : e.parts.length ≤ 9223372036854775807 := by have := hrg.le; have := hrg.cap; unfold maxLen at this; omega
  have h : (etX e sa sc).toArray = #[.int .i64 e.kind, .string e.op, .int .i64 e.vk, .int .i64 e.vn, .string e.vs, .string e.tab, .string e.col, .slice sa e.parts.length sc] := rfl
  rw [h]
  unfold shD
  by_cases h1 : e.kind = 1
  · rw [if_pos h1, h1]; exact shape1 fm hfm w _ _ _ _ _ _ _ _ _ hn
  by_cases h2 : e.kind = 2
  · rw [if_neg h1, if_pos h2, h2]; exact shape2 nm hnm w _ _ _ _ _ _ _ _ _ hn hrg.t hrg.c
  by_cases h3 : e.kind = 3
  · rw [if_neg h1, if_neg h2, if_pos h3, h3]; exact shape3 w _ _ _ _ _ _ _ _ _ hn
  by_cases h4 : e.kind = 4
  · rw [if_neg h1, if_neg h2, if_neg h3, if_pos h4, h4]; exact shape4 w _ _ _ _ _ _ _ _ _ hn
  by_cases h5 : e.kind = 5
  · rw [if_neg h1, if_neg h2, if_neg h3, if_neg h4, if_pos h5, h5]; exact shape5 w _ _ _ _ _ _ _ _ _ hn
  by_cases h6 : e.kind = 6
  · rw [if_neg h1, if_neg h2, if_neg h3, if_neg h4, if_neg h5, if_pos h6, h6]; exact shape6 w _ _ _ _ _ _ _ _ _ hn
  rw [if_neg h1, if_neg h2, if_neg h3, if_neg h4, if_neg h5, if_neg h6]
  exact shape0 e.kind w _ _ _ _ _ _ _ _ _ hn h1 h2 h3 h4 h5 h6
end Go.Proofs.Ytafhgilikcablaa
