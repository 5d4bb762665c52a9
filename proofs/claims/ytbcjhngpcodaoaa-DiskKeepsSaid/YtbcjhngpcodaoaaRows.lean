/-
  NARROWER THAN 'FOR EVERY INPUT', by the rows' own cells (each row's printed sentence says how): ScopeValues: loops.
  DERIVED. THE GIVEN ROWS OF THIS SEAT. 8 by the template 'for every input the law returns true; each argument reads behind the call as it read before'; 0 by the template 'total and deterministic' (their statements: YtbcjhngpcodaoaaTotals.lean).
  GIVEN WITH THE SEED: the statements are not yours to turn. If you find one false, say at which input.
  Laid BY PROGRAM, IN A SANDBOX (cutbox-rows.mjs): the forced cells as the released guide's own fill.sh prints them over the translation a2479f431ca379f1… (all of the seat's roots in one cut). By AI agents, Wed Nov 11 2026. No macro, syntax, notation, axiom, sorry.
-/
import Derived.Test.YtbcjhngpcodaoaaChecked
import GoSem.Claim
import GoSem.ClaimJoined
import GoSem.ClaimMapViews
import Derived.JoinedTies
import Derived.KernelRfl
namespace Go.Proofs.Ytbcjhngpcodaoaa
/- THE CELL 'sum', in the pinned program and in every row, IS THE sha256 OF THE DUMP (.gsa) THAT YtbcjhngpcodaoaaProg.lean LOADS. Nothing in Lean hashes anything: it is a label: what it is worth is what the hold of that sum in a sandbox is worth. -/
noncomputable def Try.pinned : Pinned := { name := "ytbcjhngpcodaoaa", sum := "a2479f431ca379f164b71c66bae17284e71693c300dcf3a02deb825f28cfef66", checked := Try.checked }
namespace Rows
def none {H : Type} : Left H := { results := [], args := [] }

/-- 'wainscotlaw10.JournalReads': WHATEVER THE INPUT: true; the input reads as it did. -/
def journalReadsSpec : ChangeSpec := { name := "journalReads", fn := fun _ => fun
  | [d1, d2, d3, d4, d5, d6, d7] => { results := [.lit (.bool true)], args := [d1, d2, d3, d4, d5, d6, d7] }
  | _ => none }
def journalReadsRow : OpenClaim := { program := "ytbcjhngpcodaoaa", sum := "a2479f431ca379f164b71c66bae17284e71693c300dcf3a02deb825f28cfef66", func := "wainscot/wainscotlaw10.JournalReads", spec := "journalReads", apart := false }
def JournalReadsSaid : Prop := journalReadsRow.holds Try.pinned (OpenSpec.ofChange journalReadsSpec)

/-- ITS FALSE NEIGHBOUR: 'it returns false'. Refute it at one input. -/
def journalReadsWrong : ChangeSpec := { name := "journalReads", fn := fun _ => fun
  | [d1, d2, d3, d4, d5, d6, d7] => { results := [.lit (.bool false)], args := [d1, d2, d3, d4, d5, d6, d7] }
  | _ => none }
def JournalReadsWrongFalsely : Prop := journalReadsRow.holds Try.pinned (OpenSpec.ofChange journalReadsWrong)

/-- 'wainscotlaw10.JournalBack': WHATEVER THE INPUT: true; the input reads as it did. -/
def journalBackSpec : ChangeSpec := { name := "journalBack", fn := fun _ => fun
  | [d1, d2, d3, d4, d5, d6, d7] => { results := [.lit (.bool true)], args := [d1, d2, d3, d4, d5, d6, d7] }
  | _ => none }
def journalBackRow : OpenClaim := { program := "ytbcjhngpcodaoaa", sum := "a2479f431ca379f164b71c66bae17284e71693c300dcf3a02deb825f28cfef66", func := "wainscot/wainscotlaw10.JournalBack", spec := "journalBack", apart := false }
def JournalBackSaid : Prop := journalBackRow.holds Try.pinned (OpenSpec.ofChange journalBackSpec)

/-- ITS FALSE NEIGHBOUR: 'it returns false'. Refute it at one input. -/
def journalBackWrong : ChangeSpec := { name := "journalBack", fn := fun _ => fun
  | [d1, d2, d3, d4, d5, d6, d7] => { results := [.lit (.bool false)], args := [d1, d2, d3, d4, d5, d6, d7] }
  | _ => none }
def JournalBackWrongFalsely : Prop := journalBackRow.holds Try.pinned (OpenSpec.ofChange journalBackWrong)

/-- 'wainscotlaw09.DiskParted': WHATEVER THE INPUT: true; the input reads as it did. -/
def diskPartedSpec : ChangeSpec := { name := "diskParted", fn := fun _ => fun
  | [d1, d2, d3, d4] => { results := [.lit (.bool true)], args := [d1, d2, d3, d4] }
  | _ => none }
def diskPartedRow : OpenClaim := { program := "ytbcjhngpcodaoaa", sum := "a2479f431ca379f164b71c66bae17284e71693c300dcf3a02deb825f28cfef66", func := "wainscot/wainscotlaw09.DiskParted", spec := "diskParted", apart := false }
def DiskPartedSaid : Prop := diskPartedRow.holds Try.pinned (OpenSpec.ofChange diskPartedSpec)

/-- ITS FALSE NEIGHBOUR: 'it returns false'. Refute it at one input. -/
def diskPartedWrong : ChangeSpec := { name := "diskParted", fn := fun _ => fun
  | [d1, d2, d3, d4] => { results := [.lit (.bool false)], args := [d1, d2, d3, d4] }
  | _ => none }
def DiskPartedWrongFalsely : Prop := diskPartedRow.holds Try.pinned (OpenSpec.ofChange diskPartedWrong)

/-- 'wainscotlaw09.DiskKeeps': WHATEVER THE INPUT: true; the input reads as it did. -/
def diskKeepsSpec : ChangeSpec := { name := "diskKeeps", fn := fun _ => fun
  | [d1, d2] => { results := [.lit (.bool true)], args := [d1, d2] }
  | _ => none }
def diskKeepsRow : OpenClaim := { program := "ytbcjhngpcodaoaa", sum := "a2479f431ca379f164b71c66bae17284e71693c300dcf3a02deb825f28cfef66", func := "wainscot/wainscotlaw09.DiskKeeps", spec := "diskKeeps", unfollowed := true, recurses := true, apart := false }
def DiskKeepsSaid : Prop := diskKeepsRow.holds Try.pinned (OpenSpec.ofChange diskKeepsSpec)

/-- ITS FALSE NEIGHBOUR: 'it returns false'. Refute it at one input. -/
def diskKeepsWrong : ChangeSpec := { name := "diskKeeps", fn := fun _ => fun
  | [d1, d2] => { results := [.lit (.bool false)], args := [d1, d2] }
  | _ => none }
def DiskKeepsWrongFalsely : Prop := diskKeepsRow.holds Try.pinned (OpenSpec.ofChange diskKeepsWrong)

/-- 'wainscotlaw14.BagOrder': WHATEVER THE INPUT: true; the input reads as it did. -/
def bagOrderSpec : ChangeSpec := { name := "bagOrder", fn := fun _ => fun
  | [d1, d2] => { results := [.lit (.bool true)], args := [d1, d2] }
  | _ => none }
def bagOrderRow : OpenClaim := { program := "ytbcjhngpcodaoaa", sum := "a2479f431ca379f164b71c66bae17284e71693c300dcf3a02deb825f28cfef66", func := "wainscot/wainscotlaw14.BagOrder", spec := "bagOrder", unfollowed := true, recurses := true, apart := false }
def BagOrderSaid : Prop := bagOrderRow.holds Try.pinned (OpenSpec.ofChange bagOrderSpec)

/-- ITS FALSE NEIGHBOUR: 'it returns false'. Refute it at one input. -/
def bagOrderWrong : ChangeSpec := { name := "bagOrder", fn := fun _ => fun
  | [d1, d2] => { results := [.lit (.bool false)], args := [d1, d2] }
  | _ => none }
def BagOrderWrongFalsely : Prop := bagOrderRow.holds Try.pinned (OpenSpec.ofChange bagOrderWrong)

/-- 'wainscotlaw14.BagJoins': WHATEVER THE INPUT: true; the input reads as it did. -/
def bagJoinsSpec : ChangeSpec := { name := "bagJoins", fn := fun _ => fun
  | [d1, d2, d3] => { results := [.lit (.bool true)], args := [d1, d2, d3] }
  | _ => none }
def bagJoinsRow : OpenClaim := { program := "ytbcjhngpcodaoaa", sum := "a2479f431ca379f164b71c66bae17284e71693c300dcf3a02deb825f28cfef66", func := "wainscot/wainscotlaw14.BagJoins", spec := "bagJoins", unfollowed := true, recurses := true, apart := false }
def BagJoinsSaid : Prop := bagJoinsRow.holds Try.pinned (OpenSpec.ofChange bagJoinsSpec)

/-- ITS FALSE NEIGHBOUR: 'it returns false'. Refute it at one input. -/
def bagJoinsWrong : ChangeSpec := { name := "bagJoins", fn := fun _ => fun
  | [d1, d2, d3] => { results := [.lit (.bool false)], args := [d1, d2, d3] }
  | _ => none }
def BagJoinsWrongFalsely : Prop := bagJoinsRow.holds Try.pinned (OpenSpec.ofChange bagJoinsWrong)

/-- 'wainscotlaw20.CatalogNil': WHATEVER THE INPUT: true; the input reads as it did. -/
def catalogNilSpec : ChangeSpec := { name := "catalogNil", fn := fun _ => fun
  | [d1, d2, d3] => { results := [.lit (.bool true)], args := [d1, d2, d3] }
  | _ => none }
def catalogNilRow : OpenClaim := { program := "ytbcjhngpcodaoaa", sum := "a2479f431ca379f164b71c66bae17284e71693c300dcf3a02deb825f28cfef66", func := "wainscot/wainscotlaw20.CatalogNil", spec := "catalogNil", unfollowed := true, recurses := true, apart := false }
def CatalogNilSaid : Prop := catalogNilRow.holds Try.pinned (OpenSpec.ofChange catalogNilSpec)

/-- ITS FALSE NEIGHBOUR: 'it returns false'. Refute it at one input. -/
def catalogNilWrong : ChangeSpec := { name := "catalogNil", fn := fun _ => fun
  | [d1, d2, d3] => { results := [.lit (.bool false)], args := [d1, d2, d3] }
  | _ => none }
def CatalogNilWrongFalsely : Prop := catalogNilRow.holds Try.pinned (OpenSpec.ofChange catalogNilWrong)

/-- 'wainscotlaw15.ScopeValues': WHATEVER THE INPUT: true; the input reads as it did. -/
def scopeValuesSpec : ChangeSpec := { name := "scopeValues", fn := fun _ => fun
  | [d1, d2, d3, d4, d5] => { results := [.lit (.bool true)], args := [d1, d2, d3, d4, d5] }
  | _ => none }
def scopeValuesRow : OpenClaim := { program := "ytbcjhngpcodaoaa", sum := "a2479f431ca379f164b71c66bae17284e71693c300dcf3a02deb825f28cfef66", func := "wainscot/wainscotlaw15.ScopeValues", spec := "scopeValues", unfollowed := true, recurses := true, loops := true, apart := false }
def ScopeValuesSaid : Prop := scopeValuesRow.holds Try.pinned (OpenSpec.ofChange scopeValuesSpec)

/-- ITS FALSE NEIGHBOUR: 'it returns false'. Refute it at one input. -/
def scopeValuesWrong : ChangeSpec := { name := "scopeValues", fn := fun _ => fun
  | [d1, d2, d3, d4, d5] => { results := [.lit (.bool false)], args := [d1, d2, d3, d4, d5] }
  | _ => none }
def ScopeValuesWrongFalsely : Prop := scopeValuesRow.holds Try.pinned (OpenSpec.ofChange scopeValuesWrong)

/- THE SECOND FORM. 'bulk': how many values and letters a reading holds, each counted each time it is reached (what is shared counts as often as it is met; a slice's spare places count too). A statement '..UptoSaid' is the law's where the arguments, and the package variables that the reading takes, are together of bulk at most 1048576: NARROWER than '..Said'. Prove '..Said' where nothing that the law and all that it calls make is longer than what came in: it says more and counts as full. Else prove '..UptoSaid'. A law counts once. -/
mutual
def uptoBulk {H : Type} : DataW H → Nat
  | .lit (.string bytes) => bytes.length + 1
  | .lit _ => 1
  | .nil => 1
  | .ptr d => uptoBulk d + 1
  | .slice elems spare => uptoBulkAll elems + uptoBulkAll spare + 1
  | .agg parts => uptoBulkAll parts + 1
  | .iface _ d => uptoBulk d + 1
  | .map entries => uptoBulkEntries entries + 1
  | .held _ => 1
def uptoBulkAll {H : Type} : List (DataW H) → Nat
  | [] => 0
  | d :: r => uptoBulk d + uptoBulkAll r
def uptoBulkEntries {H : Type} : List (Lit × DataW H) → Nat
  | [] => 0
  | x :: r => uptoBulkEntry x + uptoBulkEntries r
def uptoBulkEntry {H : Type} : Lit × DataW H → Nat
  | (.string bytes, d) => bytes.length + uptoBulk d + 1
  | (_, d) => uptoBulk d + 1
 end
def uptoSmall : (H : Type) → List (DataW H) → Bool := fun _ ds => decide (uptoBulkAll ds ≤ 1048576)
def OpenSpec.upto (s : _root_.Go.ChangeSpec) : _root_.Go.OpenSpec := { _root_.Go.OpenSpec.ofChange s with cond := some uptoSmall }

/-- 'wainscotlaw10.JournalReads', WHERE WHAT IT READS IS OF BULK AT MOST 1048576: true; the input reads as it did. -/
def journalReadsUptoRow : OpenClaim := { program := "ytbcjhngpcodaoaa", sum := "a2479f431ca379f164b71c66bae17284e71693c300dcf3a02deb825f28cfef66", func := "wainscot/wainscotlaw10.JournalReads", spec := "journalReads", apart := false, narrowed := true }
def JournalReadsUptoSaid : Prop := journalReadsUptoRow.holds Try.pinned (OpenSpec.upto journalReadsSpec)

/-- 'wainscotlaw10.JournalBack', WHERE WHAT IT READS IS OF BULK AT MOST 1048576: true; the input reads as it did. -/
def journalBackUptoRow : OpenClaim := { program := "ytbcjhngpcodaoaa", sum := "a2479f431ca379f164b71c66bae17284e71693c300dcf3a02deb825f28cfef66", func := "wainscot/wainscotlaw10.JournalBack", spec := "journalBack", apart := false, narrowed := true }
def JournalBackUptoSaid : Prop := journalBackUptoRow.holds Try.pinned (OpenSpec.upto journalBackSpec)

/-- 'wainscotlaw09.DiskParted', WHERE WHAT IT READS IS OF BULK AT MOST 1048576: true; the input reads as it did. -/
def diskPartedUptoRow : OpenClaim := { program := "ytbcjhngpcodaoaa", sum := "a2479f431ca379f164b71c66bae17284e71693c300dcf3a02deb825f28cfef66", func := "wainscot/wainscotlaw09.DiskParted", spec := "diskParted", apart := false, narrowed := true }
def DiskPartedUptoSaid : Prop := diskPartedUptoRow.holds Try.pinned (OpenSpec.upto diskPartedSpec)

/-- 'wainscotlaw09.DiskKeeps', WHERE WHAT IT READS IS OF BULK AT MOST 1048576: true; the input reads as it did. -/
def diskKeepsUptoRow : OpenClaim := { program := "ytbcjhngpcodaoaa", sum := "a2479f431ca379f164b71c66bae17284e71693c300dcf3a02deb825f28cfef66", func := "wainscot/wainscotlaw09.DiskKeeps", spec := "diskKeeps", unfollowed := true, recurses := true, apart := false, narrowed := true }
def DiskKeepsUptoSaid : Prop := diskKeepsUptoRow.holds Try.pinned (OpenSpec.upto diskKeepsSpec)

/-- 'wainscotlaw14.BagOrder', WHERE WHAT IT READS IS OF BULK AT MOST 1048576: true; the input reads as it did. -/
def bagOrderUptoRow : OpenClaim := { program := "ytbcjhngpcodaoaa", sum := "a2479f431ca379f164b71c66bae17284e71693c300dcf3a02deb825f28cfef66", func := "wainscot/wainscotlaw14.BagOrder", spec := "bagOrder", unfollowed := true, recurses := true, apart := false, narrowed := true }
def BagOrderUptoSaid : Prop := bagOrderUptoRow.holds Try.pinned (OpenSpec.upto bagOrderSpec)

/-- 'wainscotlaw14.BagJoins', WHERE WHAT IT READS IS OF BULK AT MOST 1048576: true; the input reads as it did. -/
def bagJoinsUptoRow : OpenClaim := { program := "ytbcjhngpcodaoaa", sum := "a2479f431ca379f164b71c66bae17284e71693c300dcf3a02deb825f28cfef66", func := "wainscot/wainscotlaw14.BagJoins", spec := "bagJoins", unfollowed := true, recurses := true, apart := false, narrowed := true }
def BagJoinsUptoSaid : Prop := bagJoinsUptoRow.holds Try.pinned (OpenSpec.upto bagJoinsSpec)

/-- 'wainscotlaw20.CatalogNil', WHERE WHAT IT READS IS OF BULK AT MOST 1048576: true; the input reads as it did. -/
def catalogNilUptoRow : OpenClaim := { program := "ytbcjhngpcodaoaa", sum := "a2479f431ca379f164b71c66bae17284e71693c300dcf3a02deb825f28cfef66", func := "wainscot/wainscotlaw20.CatalogNil", spec := "catalogNil", unfollowed := true, recurses := true, apart := false, narrowed := true }
def CatalogNilUptoSaid : Prop := catalogNilUptoRow.holds Try.pinned (OpenSpec.upto catalogNilSpec)

/-- 'wainscotlaw15.ScopeValues', WHERE WHAT IT READS IS OF BULK AT MOST 1048576: true; the input reads as it did. -/
def scopeValuesUptoRow : OpenClaim := { program := "ytbcjhngpcodaoaa", sum := "a2479f431ca379f164b71c66bae17284e71693c300dcf3a02deb825f28cfef66", func := "wainscot/wainscotlaw15.ScopeValues", spec := "scopeValues", unfollowed := true, recurses := true, loops := true, apart := false, narrowed := true }
def ScopeValuesUptoSaid : Prop := scopeValuesUptoRow.holds Try.pinned (OpenSpec.upto scopeValuesSpec)

end Rows
end Go.Proofs.Ytbcjhngpcodaoaa
