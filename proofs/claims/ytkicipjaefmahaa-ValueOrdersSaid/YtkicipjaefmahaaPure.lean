/- Plain definitions and lemmas on values: order, formed. No program. -/
import Derived.Below
import Derived.WalkLawsBesides
namespace Go.Proofs.Ytkicipjaefmahaa

/-- the order of two numbers -/
def ordI (a b : Int) : Int := if a < b then -1 else if b < a then 1 else 0
/-- the order of two texts -/
def ordS (s t : ByteArray) : Int := if Op.bytesLess s.toList t.toList = true then -1 else if s.toList = t.toList then 0 else 1
/-- the order of two values -/
def ordV (ka na : Int) (sa : ByteArray) (kb nb : Int) (sb : ByteArray) : Int :=
  if ordI ka kb = 0 then (if ordI na nb = 0 then ordS sa sb else ordI na nb) else ordI ka kb
/-- is a value formed? -/
def formedB (k n : Int) (s : ByteArray) : Bool := decide ((k = 0 ∧ n = 0 ∧ s.toList = []) ∨ (k = 1 ∧ s.toList = []) ∨ (k = 2 ∧ n = 0 ∧ s.size ≤ 100))

theorem ret_int {k : IntKind} {a b : Int} (h : a = b) : Ending.returned (.int k a) = .returned (.int k b) := by rw [h]
theorem ret_bool {a b : Bool} (h : a = b) : Ending.returned (.bool a) = .returned (.bool b) := by rw [h]
end Go.Proofs.Ytkicipjaefmahaa
