/- vm.Run: what stands behind its label. (Written by genvmrun.py.) -/
import Derived.Test.YtplgkblahmndoaaVmJ
import Derived.Test.YtplgkblahmndoaaCFit4
namespace Go.Proofs.Ytplgkblahmndoaa
open Go.RowKit
set_option linter.unusedVariables false
set_option maxRecDepth 100000
def scopeOf : Code → Option Code
  | .scope c => some c
  | .seq a b => match scopeOf a with
    | some c => some c
    | none => scopeOf b
  | _ => none
noncomputable def VmScope : Code := (Try.f43.body.bind scopeOf).getD .skip
noncomputable def VmRest : Code := (findLabel VmScope 0).getD .skip
def behindSkip : Code → Code
  | .seq _ c => c
  | c => c
noncomputable def VmTail : Code := behindSkip VmRest
end Go.Proofs.Ytplgkblahmndoaa
