/- Rows whose numbers are int64s. -/
import Derived.Test.YtafhgilikcablaaVmCol
import Derived.Test.YtafhgilikcablaaVRecPure
namespace Go.Proofs.Ytafhgilikcablaa
open Go.RowKit
set_option linter.unusedVariables false
set_option linter.unusedSimpArgs false
def RowsR (R : List (List Val)) : Prop := ∀ l ∈ R, ∀ v ∈ l, InR v.2.1
theorem colF_inR {R : List (List Val)} (h : RowsR R) (i j : Int) : InR (colF R i j).1.2.1 := by
  unfold colF
  split
  · rename_i hc
    obtain ⟨_, _, hi, hj, _⟩ := hc
    have e1 : R.getD i.toNat [] = R[i.toNat] := by rw [List.getD_eq_getElem?_getD, List.getElem?_eq_getElem hi]; rfl
    rw [e1] at hj ⊢
    have e2 : (R[i.toNat]).getD j.toNat noV = (R[i.toNat])[j.toNat] := by rw [List.getD_eq_getElem?_getD, List.getElem?_eq_getElem hj]; rfl
    show InR ((R[i.toNat]).getD j.toNat noV).2.1
    rw [e2]
    exact h _ (List.getElem_mem hi) _ (List.getElem_mem hj)
  · exact ⟨by decide, by decide⟩
end Go.Proofs.Ytafhgilikcablaa
