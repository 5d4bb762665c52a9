/-
  DERIVED. GIVEN WITH THE SEED: THE CARDS: each row of YtbcjhngpcodaoaaDoorRows.lean that lists a variable, with what it lists TIED to the program's text (the seventh form; the later family's looks); each row that meets fmt, with fmt's text TOLD by the authors' own Lean function (tested against real Go, not proved from fmt's source: count such statements apart). THE CARD IS WHAT COUNTS. Prove the row's statement (the work); the ties are given (YtbcjhngpcodaoaaDoorTie.lean); close each card by the builder's one call (the guide's Derived/Test/ToyasCard.lean, 'card_holds'). Laid BY PROGRAM, IN A SANDBOX (cutbox-door.mjs). By AI agents, Wed Nov 11 2026. No macro, syntax, notation, axiom, sorry.
-/
import Derived.Test.YtbcjhngpcodaoaaDoorRows
import GoSem.ClaimSeven
namespace Go.Proofs.YtbcjhngpcodaoaaDoor
namespace Rows

/-- THE TIED CARD OF 'wainscotlaw12.NodeEncodes'. -/
def nodeEncodesCard : Claim7 := { stood := { row := nodeEncodesRow, standIns := [], harness := (true, "4c63b430b1a1a65d23453901eb50d53f829ec49a19b27e4b6f8b47e9673910ba"), looks := true }, kinds := [], alts := [], laidByText := true, laidKinds := [.data, .pinned], laidTests := true, laidLooks := .later }
def NodeEncodesCardSaid : Prop := Claim7.holds Tryd.pinned (.plain (OpenSpec.ofChange nodeEncodesSpec)) nodeEncodesCard

/-- THE TIED CARD OF 'wainscotlaw12.NodeOnce'. -/
def nodeOnceCard : Claim7 := { stood := { row := nodeOnceRow, standIns := [], harness := (true, "4c63b430b1a1a65d23453901eb50d53f829ec49a19b27e4b6f8b47e9673910ba"), looks := true }, kinds := [], alts := [], laidByText := true, laidKinds := [.data, .pinned], laidTests := true, laidLooks := .later }
def NodeOnceCardSaid : Prop := Claim7.holds Tryd.pinned (.plain (OpenSpec.ofChange nodeOnceSpec)) nodeOnceCard

/-- THE TIED CARD OF 'wainscotlaw05.LexerNames'. -/
def lexerNamesCard : Claim7 := { stood := { row := lexerNamesRow, standIns := [], harness := (true, "4c63b430b1a1a65d23453901eb50d53f829ec49a19b27e4b6f8b47e9673910ba"), looks := true }, kinds := [], alts := [], laidByText := true, laidKinds := [.data, .data, .data, .data, .sentinel, .sentinel, .pinned], laidTests := true, laidLooks := .later }
def LexerNamesCardSaid : Prop := Claim7.holds Tryd.pinned (.plain (OpenSpec.ofChange lexerNamesSpec)) lexerNamesCard

/-- THE SECOND FORM's CARD OF 'wainscotlaw12.NodeEncodes'. -/
def nodeEncodesUptoCard : Claim7 := { stood := { row := nodeEncodesUptoRow, standIns := [], harness := (true, "4c63b430b1a1a65d23453901eb50d53f829ec49a19b27e4b6f8b47e9673910ba"), looks := true }, kinds := [], alts := [], laidByText := true, laidKinds := [.data, .pinned], laidTests := true, laidLooks := .later }
def NodeEncodesUptoCardSaid : Prop := Claim7.holds Tryd.pinned (.plain (OpenSpec.upto nodeEncodesSpec)) nodeEncodesUptoCard

/-- THE SECOND FORM's CARD OF 'wainscotlaw12.NodeOnce'. -/
def nodeOnceUptoCard : Claim7 := { stood := { row := nodeOnceUptoRow, standIns := [], harness := (true, "4c63b430b1a1a65d23453901eb50d53f829ec49a19b27e4b6f8b47e9673910ba"), looks := true }, kinds := [], alts := [], laidByText := true, laidKinds := [.data, .pinned], laidTests := true, laidLooks := .later }
def NodeOnceUptoCardSaid : Prop := Claim7.holds Tryd.pinned (.plain (OpenSpec.upto nodeOnceSpec)) nodeOnceUptoCard

/-- THE SECOND FORM's CARD OF 'wainscotlaw05.LexerNames'. -/
def lexerNamesUptoCard : Claim7 := { stood := { row := lexerNamesUptoRow, standIns := [], harness := (true, "4c63b430b1a1a65d23453901eb50d53f829ec49a19b27e4b6f8b47e9673910ba"), looks := true }, kinds := [], alts := [], laidByText := true, laidKinds := [.data, .data, .data, .data, .sentinel, .sentinel, .pinned], laidTests := true, laidLooks := .later }
def LexerNamesUptoCardSaid : Prop := Claim7.holds Tryd.pinned (.plain (OpenSpec.upto lexerNamesSpec)) lexerNamesUptoCard
end Rows
end Go.Proofs.YtbcjhngpcodaoaaDoor
