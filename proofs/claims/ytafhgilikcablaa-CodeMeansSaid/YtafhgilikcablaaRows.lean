/-
  NARROWER THAN 'FOR EVERY INPUT', by the rows' own cells (each row's printed sentence says how): ScopeValues: loops · AlgebraWorth: loops · CodeMeans: loops · VmMeans: loops.
  DERIVED. THE GIVEN ROWS OF THIS SEAT. 5 by the template 'for every input the law returns true; each argument reads behind the call as it read before'; 0 by the template 'total and deterministic' (their statements: YtafhgilikcablaaTotals.lean).
  GIVEN WITH THE SEED: the statements are not yours to turn. If you find one false, say at which input.
  Laid BY PROGRAM, IN A SANDBOX (cutbox-rows.mjs): the forced cells as the released guide's own fill.sh prints them over the translation 499800decc0d3d44… (all of the seat's roots in one cut). By AI agents, Wed Nov 11 2026. No macro, syntax, notation, axiom, sorry.
-/
import Derived.Test.YtafhgilikcablaaChecked
import GoSem.Claim
import GoSem.ClaimJoined
import GoSem.ClaimMapViews
import Derived.JoinedTies
import Derived.KernelRfl
namespace Go.Proofs.Ytafhgilikcablaa
/- THE CELL 'sum', in the pinned program and in every row, IS THE sha256 OF THE DUMP (.gsa) THAT YtafhgilikcablaaProg.lean LOADS. Nothing in Lean hashes anything: it is a label: what it is worth is what the hold of that sum in a sandbox is worth. -/
noncomputable def Try.pinned : Pinned := { name := "ytafhgilikcablaa", sum := "499800decc0d3d44893481ac0e40ccc158fe591d75fb1a92de630372a75d0cc2", checked := Try.checked }
namespace Rows
def none {H : Type} : Left H := { results := [], args := [] }

/-- 'wainscotlaw09.DiskPlays': WHATEVER THE INPUT: true; the input reads as it did. -/
def diskPlaysSpec : ChangeSpec := { name := "diskPlays", fn := fun _ => fun
  | [d1, d2] => { results := [.lit (.bool true)], args := [d1, d2] }
  | _ => none }
def diskPlaysRow : OpenClaim := { program := "ytafhgilikcablaa", sum := "499800decc0d3d44893481ac0e40ccc158fe591d75fb1a92de630372a75d0cc2", func := "wainscot/wainscotlaw09.DiskPlays", spec := "diskPlays", unfollowed := true, recurses := true, apart := false }
def DiskPlaysSaid : Prop := diskPlaysRow.holds Try.pinned (OpenSpec.ofChange diskPlaysSpec)

/-- ITS FALSE NEIGHBOUR: 'it returns false'. Refute it at one input. -/
def diskPlaysWrong : ChangeSpec := { name := "diskPlays", fn := fun _ => fun
  | [d1, d2] => { results := [.lit (.bool false)], args := [d1, d2] }
  | _ => none }
def DiskPlaysWrongFalsely : Prop := diskPlaysRow.holds Try.pinned (OpenSpec.ofChange diskPlaysWrong)

/-- 'wainscotlaw15.ScopeValues': WHATEVER THE INPUT: true; the input reads as it did. -/
def scopeValuesSpec : ChangeSpec := { name := "scopeValues", fn := fun _ => fun
  | [d1, d2, d3, d4, d5] => { results := [.lit (.bool true)], args := [d1, d2, d3, d4, d5] }
  | _ => none }
def scopeValuesRow : OpenClaim := { program := "ytafhgilikcablaa", sum := "499800decc0d3d44893481ac0e40ccc158fe591d75fb1a92de630372a75d0cc2", func := "wainscot/wainscotlaw15.ScopeValues", spec := "scopeValues", unfollowed := true, recurses := true, loops := true, apart := false }
def ScopeValuesSaid : Prop := scopeValuesRow.holds Try.pinned (OpenSpec.ofChange scopeValuesSpec)

/-- ITS FALSE NEIGHBOUR: 'it returns false'. Refute it at one input. -/
def scopeValuesWrong : ChangeSpec := { name := "scopeValues", fn := fun _ => fun
  | [d1, d2, d3, d4, d5] => { results := [.lit (.bool false)], args := [d1, d2, d3, d4, d5] }
  | _ => none }
def ScopeValuesWrongFalsely : Prop := scopeValuesRow.holds Try.pinned (OpenSpec.ofChange scopeValuesWrong)

/-- 'wainscotlaw16.AlgebraWorth': WHATEVER THE INPUT: true; the input reads as it did. -/
def algebraWorthSpec : ChangeSpec := { name := "algebraWorth", fn := fun _ => fun
  | [d1, d2, d3, d4] => { results := [.lit (.bool true)], args := [d1, d2, d3, d4] }
  | _ => none }
def algebraWorthRow : OpenClaim := { program := "ytafhgilikcablaa", sum := "499800decc0d3d44893481ac0e40ccc158fe591d75fb1a92de630372a75d0cc2", func := "wainscot/wainscotlaw16.AlgebraWorth", spec := "algebraWorth", unfollowed := true, recurses := true, loops := true, apart := false }
def AlgebraWorthSaid : Prop := algebraWorthRow.holds Try.pinned (OpenSpec.ofChange algebraWorthSpec)

/-- ITS FALSE NEIGHBOUR: 'it returns false'. Refute it at one input. -/
def algebraWorthWrong : ChangeSpec := { name := "algebraWorth", fn := fun _ => fun
  | [d1, d2, d3, d4] => { results := [.lit (.bool false)], args := [d1, d2, d3, d4] }
  | _ => none }
def AlgebraWorthWrongFalsely : Prop := algebraWorthRow.holds Try.pinned (OpenSpec.ofChange algebraWorthWrong)

/-- 'wainscotlaw17.CodeMeans': WHATEVER THE INPUT: true; the input reads as it did. -/
def codeMeansSpec : ChangeSpec := { name := "codeMeans", fn := fun _ => fun
  | [d1, d2, d3, d4] => { results := [.lit (.bool true)], args := [d1, d2, d3, d4] }
  | _ => none }
def codeMeansRow : OpenClaim := { program := "ytafhgilikcablaa", sum := "499800decc0d3d44893481ac0e40ccc158fe591d75fb1a92de630372a75d0cc2", func := "wainscot/wainscotlaw17.CodeMeans", spec := "codeMeans", recurses := true, loops := true, apart := false }
def CodeMeansSaid : Prop := codeMeansRow.holds Try.pinned (OpenSpec.ofChange codeMeansSpec)

/-- ITS FALSE NEIGHBOUR: 'it returns false'. Refute it at one input. -/
def codeMeansWrong : ChangeSpec := { name := "codeMeans", fn := fun _ => fun
  | [d1, d2, d3, d4] => { results := [.lit (.bool false)], args := [d1, d2, d3, d4] }
  | _ => none }
def CodeMeansWrongFalsely : Prop := codeMeansRow.holds Try.pinned (OpenSpec.ofChange codeMeansWrong)

/-- 'wainscotlaw18.VmMeans': WHATEVER THE INPUT: true; the input reads as it did. -/
def vmMeansSpec : ChangeSpec := { name := "vmMeans", fn := fun _ => fun
  | [d1, d2, d3, d4] => { results := [.lit (.bool true)], args := [d1, d2, d3, d4] }
  | _ => none }
def vmMeansRow : OpenClaim := { program := "ytafhgilikcablaa", sum := "499800decc0d3d44893481ac0e40ccc158fe591d75fb1a92de630372a75d0cc2", func := "wainscot/wainscotlaw18.VmMeans", spec := "vmMeans", recurses := true, loops := true, apart := false }
def VmMeansSaid : Prop := vmMeansRow.holds Try.pinned (OpenSpec.ofChange vmMeansSpec)

/-- ITS FALSE NEIGHBOUR: 'it returns false'. Refute it at one input. -/
def vmMeansWrong : ChangeSpec := { name := "vmMeans", fn := fun _ => fun
  | [d1, d2, d3, d4] => { results := [.lit (.bool false)], args := [d1, d2, d3, d4] }
  | _ => none }
def VmMeansWrongFalsely : Prop := vmMeansRow.holds Try.pinned (OpenSpec.ofChange vmMeansWrong)

/- THE SECOND FORM. 'bulk': how many values and letters a reading holds, each counted each time it is reached (what is shared counts as often as it is met; a slice's spare places count too). A statement '..UptoSaid' is the law's where the arguments, and the package variables that the reading takes, are together of bulk at most 1048576: NARROWER than '..Said'. Prove '..Said' where nothing that the law and all that it calls make is longer than what came in: it says more and counts as full. Else prove '..UptoSaid'. A law counts once. -/
mutual
def uptoBulk {H : Type} : DataW H → Nat
  | .lit (.string bytes) => bytes.length + 1
  | .lit _ => 1
  | .nil => 1
  | .ptr d => uptoBulk d + 1
  | .slice elems spare => uptoBulkAll elems + uptoBulkAll spare + 1
  | .agg parts => uptoBulkAll parts + 1
  | .iface _ d => uptoBulk d + 1
  | .map entries => uptoBulkEntries entries + 1
  | .held _ => 1
def uptoBulkAll {H : Type} : List (DataW H) → Nat
  | [] => 0
  | d :: r => uptoBulk d + uptoBulkAll r
def uptoBulkEntries {H : Type} : List (Lit × DataW H) → Nat
  | [] => 0
  | x :: r => uptoBulkEntry x + uptoBulkEntries r
def uptoBulkEntry {H : Type} : Lit × DataW H → Nat
  | (.string bytes, d) => bytes.length + uptoBulk d + 1
  | (_, d) => uptoBulk d + 1
 end
def uptoSmall : (H : Type) → List (DataW H) → Bool := fun _ ds => decide (uptoBulkAll ds ≤ 1048576)
def OpenSpec.upto (s : _root_.Go.ChangeSpec) : _root_.Go.OpenSpec := { _root_.Go.OpenSpec.ofChange s with cond := some uptoSmall }

/-- 'wainscotlaw09.DiskPlays', WHERE WHAT IT READS IS OF BULK AT MOST 1048576: true; the input reads as it did. -/
def diskPlaysUptoRow : OpenClaim := { program := "ytafhgilikcablaa", sum := "499800decc0d3d44893481ac0e40ccc158fe591d75fb1a92de630372a75d0cc2", func := "wainscot/wainscotlaw09.DiskPlays", spec := "diskPlays", unfollowed := true, recurses := true, apart := false, narrowed := true }
def DiskPlaysUptoSaid : Prop := diskPlaysUptoRow.holds Try.pinned (OpenSpec.upto diskPlaysSpec)

/-- 'wainscotlaw15.ScopeValues', WHERE WHAT IT READS IS OF BULK AT MOST 1048576: true; the input reads as it did. -/
def scopeValuesUptoRow : OpenClaim := { program := "ytafhgilikcablaa", sum := "499800decc0d3d44893481ac0e40ccc158fe591d75fb1a92de630372a75d0cc2", func := "wainscot/wainscotlaw15.ScopeValues", spec := "scopeValues", unfollowed := true, recurses := true, loops := true, apart := false, narrowed := true }
def ScopeValuesUptoSaid : Prop := scopeValuesUptoRow.holds Try.pinned (OpenSpec.upto scopeValuesSpec)

/-- 'wainscotlaw16.AlgebraWorth', WHERE WHAT IT READS IS OF BULK AT MOST 1048576: true; the input reads as it did. -/
def algebraWorthUptoRow : OpenClaim := { program := "ytafhgilikcablaa", sum := "499800decc0d3d44893481ac0e40ccc158fe591d75fb1a92de630372a75d0cc2", func := "wainscot/wainscotlaw16.AlgebraWorth", spec := "algebraWorth", unfollowed := true, recurses := true, loops := true, apart := false, narrowed := true }
def AlgebraWorthUptoSaid : Prop := algebraWorthUptoRow.holds Try.pinned (OpenSpec.upto algebraWorthSpec)

/-- 'wainscotlaw17.CodeMeans', WHERE WHAT IT READS IS OF BULK AT MOST 1048576: true; the input reads as it did. -/
def codeMeansUptoRow : OpenClaim := { program := "ytafhgilikcablaa", sum := "499800decc0d3d44893481ac0e40ccc158fe591d75fb1a92de630372a75d0cc2", func := "wainscot/wainscotlaw17.CodeMeans", spec := "codeMeans", recurses := true, loops := true, apart := false, narrowed := true }
def CodeMeansUptoSaid : Prop := codeMeansUptoRow.holds Try.pinned (OpenSpec.upto codeMeansSpec)

/-- 'wainscotlaw18.VmMeans', WHERE WHAT IT READS IS OF BULK AT MOST 1048576: true; the input reads as it did. -/
def vmMeansUptoRow : OpenClaim := { program := "ytafhgilikcablaa", sum := "499800decc0d3d44893481ac0e40ccc158fe591d75fb1a92de630372a75d0cc2", func := "wainscot/wainscotlaw18.VmMeans", spec := "vmMeans", recurses := true, loops := true, apart := false, narrowed := true }
def VmMeansUptoSaid : Prop := vmMeansUptoRow.holds Try.pinned (OpenSpec.upto vmMeansSpec)

end Rows
end Go.Proofs.Ytafhgilikcablaa
