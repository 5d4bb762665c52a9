/- Tables, numbers and an expression that came in, read for this program. -/
import Derived.Test.YtafhgilikcablaaSvIdx
import Derived.Test.YtafhgilikcablaaEt
import Derived.Test.YtafhgilikcablaaProg
namespace Go.Proofs.Ytafhgilikcablaa
open Go.ChangeShapes Go.WideShapes Go.Deep Go.RowKit
set_option linter.unusedVariables false
set_option linter.unusedSimpArgs false
set_option maxRecDepth 100000
section
variable {H : Type} {enc : TypeId × Value → H} {w : World} {base : Nat} {spare : Nat → Bool} {held : Bool}
theorem open_expr {fuel : Nat} {cs : List Value} {x : DataW H × List MemPlace} (h : DataW.trod enc Try.prog w base spare held fuel 41 cs = some x) : ∃ y sa sc, cs = etX y sa sc ∧ ERg y sa sc ∧ EL w (fun _ => True) sa y.parts :=
  open_et (t := 39) Try.underlying41 (by kernel_rfl) rfl rfl rfl rfl rfl rfl (by kernel_rfl) (by kernel_rfl) (by kernel_rfl) (by kernel_rfl) (by kernel_rfl) (by kernel_rfl) Try.underlying3 Try.underlying9 Try.underlying38 Try.underlying9 Try.underlying9 rfl rfl rfl rfl (by kernel_rfl) (by kernel_rfl) (by kernel_rfl) Try.underlying3 Try.underlying2 Try.underlying9
    (fun n _ v x h => open_el (t := 39) Try.underlying39 Try.underlying41 (by kernel_rfl) rfl rfl rfl rfl rfl rfl (by kernel_rfl) (by kernel_rfl) (by kernel_rfl) (by kernel_rfl) (by kernel_rfl) (by kernel_rfl) Try.underlying3 Try.underlying9 Try.underlying38 Try.underlying9 Try.underlying9 rfl rfl rfl rfl (by kernel_rfl) (by kernel_rfl) (by kernel_rfl) Try.underlying3 Try.underlying2 Try.underlying9 n n (Nat.le_refl _) v x h) h
theorem open_tables {fuel : Nat} {v : Value} {x : DataW H × List MemPlace} (h : DataW.trod enc Try.prog w base spare held fuel 36 [v] = some x) : ∃ a cap, ∃ l : List TB, v = .slice a l.length cap ∧ TabsAt w a l ∧ l.length ≤ cap ∧ cap ≤ maxLen :=
  open_tabs Try.underlying36 Try.underlying109 (by kernel_rfl) rfl rfl rfl (by kernel_rfl) (by kernel_rfl) (by kernel_rfl) Try.underlying9 Try.underlying4 rfl Try.underlying107 Try.underlying111 (by kernel_rfl) rfl rfl rfl rfl (by kernel_rfl) (by kernel_rfl) (by kernel_rfl) (by kernel_rfl) Try.underlying9 Try.underlying3 Try.underlying4 Try.underlying4 h
theorem open_numbers {fuel : Nat} {v : Value} {x : DataW H × List MemPlace} (h : DataW.trod enc Try.prog w base spare held fuel 31 [v] = some x) : ∃ a cap, ∃ l : List Int, v = .slice a l.length cap ∧ IntsAt w a l ∧ l.length ≤ cap ∧ cap ≤ maxLen := by
  obtain ⟨a, len, cap, l, rfl, hl, hle, hm, _, hh⟩ := open_sl (α := Int) (fun y => [Value.int .i64 y]) Try.underlying31 (by kernel_rfl) (by decide) (fun _ => rfl) (fun _ => True) (fun n _ cs x hx => by
    obtain ⟨y, hy, _, _⟩ := DataW.trod_int Try.underlying3 hx
    exact ⟨y, hy, trivial⟩) h
  subst hl
  refine ⟨a, cap, l, rfl, ?_, hle, hm⟩
  rcases hh with hh | ⟨b, off, rfl, hlt, hc⟩
  · exact .inl hh
  · refine .inr ⟨b, off, rfl, hlt, fun i hi => ?_⟩
    have := (hc i hi).2 0 _ rfl
    simpa using this
end
end Go.Proofs.Ytafhgilikcablaa
