/-
  No cell of these rows narrows 'for every input' (looked for: loops, veiled, ifaces, maps, wideKeys, modest, calm, conditions, laid).
  DERIVED. THE GIVEN ROWS OF THIS SEAT. 6 by the template 'for every input the law returns true; each argument reads behind the call as it read before'; 0 by the template 'total and deterministic' (their statements: YthgpdnbmilcgcabTotals.lean).
  GIVEN WITH THE SEED: the statements are not yours to turn. If you find one false, say at which input.
  Laid BY PROGRAM, IN A SANDBOX (cutbox-rows.mjs): the forced cells as the released guide's own fill.sh prints them over the translation 4e886f3634b0f580… (all of the seat's roots in one cut). By AI agents, Wed Nov 11 2026. No macro, syntax, notation, axiom, sorry.
-/
import Derived.Test.YthgpdnbmilcgcabChecked
import GoSem.Claim
import GoSem.ClaimJoined
import GoSem.ClaimMapViews
import Derived.JoinedTies
import Derived.KernelRfl
namespace Go.Proofs.Ythgpdnbmilcgcab
/- THE CELL 'sum', in the pinned program and in every row, IS THE sha256 OF THE DUMP (.gsa) THAT YthgpdnbmilcgcabProg.lean LOADS. Nothing in Lean hashes anything: it is a label: what it is worth is what the hold of that sum in a sandbox is worth. -/
noncomputable def Try.pinned : Pinned := { name := "ythgpdnbmilcgcab", sum := "4e886f3634b0f58009f255f5b15af346def73fc4547da3211931a7743e8eb78e", checked := Try.checked }
namespace Rows
def none {H : Type} : Left H := { results := [], args := [] }

/-- 'wainscotlaw04.KeysKey': WHATEVER THE INPUT: true; the input reads as it did. -/
def keysKeySpec : ChangeSpec := { name := "keysKey", fn := fun _ => fun
  | [d] => { results := [.lit (.bool true)], args := [d] }
  | _ => none }
def keysKeyRow : OpenClaim := { program := "ythgpdnbmilcgcab", sum := "4e886f3634b0f58009f255f5b15af346def73fc4547da3211931a7743e8eb78e", func := "wainscot/wainscotlaw04.KeysKey", spec := "keysKey", apart := false }
def KeysKeySaid : Prop := keysKeyRow.holds Try.pinned (OpenSpec.ofChange keysKeySpec)

/-- ITS FALSE NEIGHBOUR: 'it returns false'. Refute it at one input. -/
def keysKeyWrong : ChangeSpec := { name := "keysKey", fn := fun _ => fun
  | [d] => { results := [.lit (.bool false)], args := [d] }
  | _ => none }
def KeysKeyWrongFalsely : Prop := keysKeyRow.holds Try.pinned (OpenSpec.ofChange keysKeyWrong)

/-- 'wainscotlaw04.KeysRow': WHATEVER THE INPUT: true; the input reads as it did. -/
def keysRowSpec : ChangeSpec := { name := "keysRow", fn := fun _ => fun
  | [d] => { results := [.lit (.bool true)], args := [d] }
  | _ => none }
def keysRowRow : OpenClaim := { program := "ythgpdnbmilcgcab", sum := "4e886f3634b0f58009f255f5b15af346def73fc4547da3211931a7743e8eb78e", func := "wainscot/wainscotlaw04.KeysRow", spec := "keysRow", apart := false }
def KeysRowSaid : Prop := keysRowRow.holds Try.pinned (OpenSpec.ofChange keysRowSpec)

/-- ITS FALSE NEIGHBOUR: 'it returns false'. Refute it at one input. -/
def keysRowWrong : ChangeSpec := { name := "keysRow", fn := fun _ => fun
  | [d] => { results := [.lit (.bool false)], args := [d] }
  | _ => none }
def KeysRowWrongFalsely : Prop := keysRowRow.holds Try.pinned (OpenSpec.ofChange keysRowWrong)

/-- 'wainscotlaw04.KeysOrder': WHATEVER THE INPUT: true; the input reads as it did. -/
def keysOrderSpec : ChangeSpec := { name := "keysOrder", fn := fun _ => fun
  | [d1, d2, d3] => { results := [.lit (.bool true)], args := [d1, d2, d3] }
  | _ => none }
def keysOrderRow : OpenClaim := { program := "ythgpdnbmilcgcab", sum := "4e886f3634b0f58009f255f5b15af346def73fc4547da3211931a7743e8eb78e", func := "wainscot/wainscotlaw04.KeysOrder", spec := "keysOrder", apart := false }
def KeysOrderSaid : Prop := keysOrderRow.holds Try.pinned (OpenSpec.ofChange keysOrderSpec)

/-- ITS FALSE NEIGHBOUR: 'it returns false'. Refute it at one input. -/
def keysOrderWrong : ChangeSpec := { name := "keysOrder", fn := fun _ => fun
  | [d1, d2, d3] => { results := [.lit (.bool false)], args := [d1, d2, d3] }
  | _ => none }
def KeysOrderWrongFalsely : Prop := keysOrderRow.holds Try.pinned (OpenSpec.ofChange keysOrderWrong)

/-- 'wainscotlaw04.KeysAfter': WHATEVER THE INPUT: true; the input reads as it did. -/
def keysAfterSpec : ChangeSpec := { name := "keysAfter", fn := fun _ => fun
  | [d1, d2, d3] => { results := [.lit (.bool true)], args := [d1, d2, d3] }
  | _ => none }
def keysAfterRow : OpenClaim := { program := "ythgpdnbmilcgcab", sum := "4e886f3634b0f58009f255f5b15af346def73fc4547da3211931a7743e8eb78e", func := "wainscot/wainscotlaw04.KeysAfter", spec := "keysAfter", apart := false }
def KeysAfterSaid : Prop := keysAfterRow.holds Try.pinned (OpenSpec.ofChange keysAfterSpec)

/-- ITS FALSE NEIGHBOUR: 'it returns false'. Refute it at one input. -/
def keysAfterWrong : ChangeSpec := { name := "keysAfter", fn := fun _ => fun
  | [d1, d2, d3] => { results := [.lit (.bool false)], args := [d1, d2, d3] }
  | _ => none }
def KeysAfterWrongFalsely : Prop := keysAfterRow.holds Try.pinned (OpenSpec.ofChange keysAfterWrong)

/-- 'wainscotlaw10.JournalWrites': WHATEVER THE INPUT: true; the input reads as it did. -/
def journalWritesSpec : ChangeSpec := { name := "journalWrites", fn := fun _ => fun
  | [d1, d2, d3, d4, d5, d6] => { results := [.lit (.bool true)], args := [d1, d2, d3, d4, d5, d6] }
  | _ => none }
def journalWritesRow : OpenClaim := { program := "ythgpdnbmilcgcab", sum := "4e886f3634b0f58009f255f5b15af346def73fc4547da3211931a7743e8eb78e", func := "wainscot/wainscotlaw10.JournalWrites", spec := "journalWrites", apart := false }
def JournalWritesSaid : Prop := journalWritesRow.holds Try.pinned (OpenSpec.ofChange journalWritesSpec)

/-- ITS FALSE NEIGHBOUR: 'it returns false'. Refute it at one input. -/
def journalWritesWrong : ChangeSpec := { name := "journalWrites", fn := fun _ => fun
  | [d1, d2, d3, d4, d5, d6] => { results := [.lit (.bool false)], args := [d1, d2, d3, d4, d5, d6] }
  | _ => none }
def JournalWritesWrongFalsely : Prop := journalWritesRow.holds Try.pinned (OpenSpec.ofChange journalWritesWrong)

/-- 'wainscotlaw12.NodeFinds': WHATEVER THE INPUT: true; the input reads as it did. -/
def nodeFindsSpec : ChangeSpec := { name := "nodeFinds", fn := fun _ => fun
  | [d1, d2] => { results := [.lit (.bool true)], args := [d1, d2] }
  | _ => none }
def nodeFindsRow : OpenClaim := { program := "ythgpdnbmilcgcab", sum := "4e886f3634b0f58009f255f5b15af346def73fc4547da3211931a7743e8eb78e", func := "wainscot/wainscotlaw12.NodeFinds", spec := "nodeFinds", inPlace := ["internal/bytealg.Compare"], apart := false }
def NodeFindsSaid : Prop := nodeFindsRow.holds Try.pinned (OpenSpec.ofChange nodeFindsSpec)

/-- ITS FALSE NEIGHBOUR: 'it returns false'. Refute it at one input. -/
def nodeFindsWrong : ChangeSpec := { name := "nodeFinds", fn := fun _ => fun
  | [d1, d2] => { results := [.lit (.bool false)], args := [d1, d2] }
  | _ => none }
def NodeFindsWrongFalsely : Prop := nodeFindsRow.holds Try.pinned (OpenSpec.ofChange nodeFindsWrong)

/- THE SECOND FORM. 'bulk': how many values and letters a reading holds, each counted each time it is reached (what is shared counts as often as it is met; a slice's spare places count too). A statement '..UptoSaid' is the law's where the arguments, and the package variables that the reading takes, are together of bulk at most 1048576: NARROWER than '..Said'. Prove '..Said' where nothing that the law and all that it calls make is longer than what came in: it says more and counts as full. Else prove '..UptoSaid'. A law counts once. -/
mutual
def uptoBulk {H : Type} : DataW H → Nat
  | .lit (.string bytes) => bytes.length + 1
  | .lit _ => 1
  | .nil => 1
  | .ptr d => uptoBulk d + 1
  | .slice elems spare => uptoBulkAll elems + uptoBulkAll spare + 1
  | .agg parts => uptoBulkAll parts + 1
  | .iface _ d => uptoBulk d + 1
  | .map entries => uptoBulkEntries entries + 1
  | .held _ => 1
def uptoBulkAll {H : Type} : List (DataW H) → Nat
  | [] => 0
  | d :: r => uptoBulk d + uptoBulkAll r
def uptoBulkEntries {H : Type} : List (Lit × DataW H) → Nat
  | [] => 0
  | x :: r => uptoBulkEntry x + uptoBulkEntries r
def uptoBulkEntry {H : Type} : Lit × DataW H → Nat
  | (.string bytes, d) => bytes.length + uptoBulk d + 1
  | (_, d) => uptoBulk d + 1
 end
def uptoSmall : (H : Type) → List (DataW H) → Bool := fun _ ds => decide (uptoBulkAll ds ≤ 1048576)
def OpenSpec.upto (s : _root_.Go.ChangeSpec) : _root_.Go.OpenSpec := { _root_.Go.OpenSpec.ofChange s with cond := some uptoSmall }

/-- 'wainscotlaw04.KeysKey', WHERE WHAT IT READS IS OF BULK AT MOST 1048576: true; the input reads as it did. -/
def keysKeyUptoRow : OpenClaim := { program := "ythgpdnbmilcgcab", sum := "4e886f3634b0f58009f255f5b15af346def73fc4547da3211931a7743e8eb78e", func := "wainscot/wainscotlaw04.KeysKey", spec := "keysKey", apart := false, narrowed := true }
def KeysKeyUptoSaid : Prop := keysKeyUptoRow.holds Try.pinned (OpenSpec.upto keysKeySpec)

/-- 'wainscotlaw04.KeysRow', WHERE WHAT IT READS IS OF BULK AT MOST 1048576: true; the input reads as it did. -/
def keysRowUptoRow : OpenClaim := { program := "ythgpdnbmilcgcab", sum := "4e886f3634b0f58009f255f5b15af346def73fc4547da3211931a7743e8eb78e", func := "wainscot/wainscotlaw04.KeysRow", spec := "keysRow", apart := false, narrowed := true }
def KeysRowUptoSaid : Prop := keysRowUptoRow.holds Try.pinned (OpenSpec.upto keysRowSpec)

/-- 'wainscotlaw04.KeysOrder', WHERE WHAT IT READS IS OF BULK AT MOST 1048576: true; the input reads as it did. -/
def keysOrderUptoRow : OpenClaim := { program := "ythgpdnbmilcgcab", sum := "4e886f3634b0f58009f255f5b15af346def73fc4547da3211931a7743e8eb78e", func := "wainscot/wainscotlaw04.KeysOrder", spec := "keysOrder", apart := false, narrowed := true }
def KeysOrderUptoSaid : Prop := keysOrderUptoRow.holds Try.pinned (OpenSpec.upto keysOrderSpec)

/-- 'wainscotlaw04.KeysAfter', WHERE WHAT IT READS IS OF BULK AT MOST 1048576: true; the input reads as it did. -/
def keysAfterUptoRow : OpenClaim := { program := "ythgpdnbmilcgcab", sum := "4e886f3634b0f58009f255f5b15af346def73fc4547da3211931a7743e8eb78e", func := "wainscot/wainscotlaw04.KeysAfter", spec := "keysAfter", apart := false, narrowed := true }
def KeysAfterUptoSaid : Prop := keysAfterUptoRow.holds Try.pinned (OpenSpec.upto keysAfterSpec)

/-- 'wainscotlaw10.JournalWrites', WHERE WHAT IT READS IS OF BULK AT MOST 1048576: true; the input reads as it did. -/
def journalWritesUptoRow : OpenClaim := { program := "ythgpdnbmilcgcab", sum := "4e886f3634b0f58009f255f5b15af346def73fc4547da3211931a7743e8eb78e", func := "wainscot/wainscotlaw10.JournalWrites", spec := "journalWrites", apart := false, narrowed := true }
def JournalWritesUptoSaid : Prop := journalWritesUptoRow.holds Try.pinned (OpenSpec.upto journalWritesSpec)

/-- 'wainscotlaw12.NodeFinds', WHERE WHAT IT READS IS OF BULK AT MOST 1048576: true; the input reads as it did. -/
def nodeFindsUptoRow : OpenClaim := { program := "ythgpdnbmilcgcab", sum := "4e886f3634b0f58009f255f5b15af346def73fc4547da3211931a7743e8eb78e", func := "wainscot/wainscotlaw12.NodeFinds", spec := "nodeFinds", inPlace := ["internal/bytealg.Compare"], apart := false, narrowed := true }
def NodeFindsUptoSaid : Prop := nodeFindsUptoRow.holds Try.pinned (OpenSpec.upto nodeFindsSpec)

end Rows
end Go.Proofs.Ythgpdnbmilcgcab
