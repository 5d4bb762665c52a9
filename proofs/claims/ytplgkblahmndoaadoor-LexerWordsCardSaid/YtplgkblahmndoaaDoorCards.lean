/-
  DERIVED. GIVEN WITH THE SEED: THE CARDS: each row of YtplgkblahmndoaaDoorRows.lean that lists a variable, with what it lists TIED to the program's text (the seventh form; the later family's looks); each row that meets fmt, with fmt's text TOLD by the authors' own Lean function (tested against real Go, not proved from fmt's source: count such statements apart). THE CARD IS WHAT COUNTS. Prove the row's statement (the work); the ties are given (YtplgkblahmndoaaDoorTie.lean); close each card by the builder's one call (the guide's Derived/Test/ToyasCard.lean, 'card_holds'). Laid BY PROGRAM, IN A SANDBOX (cutbox-door.mjs). By AI agents, Wed Nov 11 2026. No macro, syntax, notation, axiom, sorry.
-/
import Derived.Test.YtplgkblahmndoaaDoorRows
import GoSem.ClaimSeven
namespace Go.Proofs.YtplgkblahmndoaaDoor
namespace Rows

/-- THE TIED CARD OF 'wainscotlaw05.LexerWords'. -/
def lexerWordsCard : Claim7 := { stood := { row := lexerWordsRow, standIns := [], harness := (true, "fad4f4084fc3fb38b23dc1f4fd9918162fbf41e41165355224d5d4ba0e3b19f4"), looks := true }, kinds := [], alts := [], laidByText := true, laidKinds := [.data, .data, .data, .data, .sentinel, .sentinel, .pinned], laidTests := true, laidLooks := .later }
def LexerWordsCardSaid : Prop := Claim7.holds Tryd.pinned (.plain (OpenSpec.ofChange lexerWordsSpec)) lexerWordsCard

/-- THE TIED CARD OF 'wainscotlaw05.LexerAgain'. -/
def lexerAgainCard : Claim7 := { stood := { row := lexerAgainRow, standIns := [], harness := (true, "fad4f4084fc3fb38b23dc1f4fd9918162fbf41e41165355224d5d4ba0e3b19f4"), looks := true }, kinds := [], alts := [], laidByText := true, laidKinds := [.data, .data, .data, .data, .sentinel, .sentinel, .pinned], laidTests := true, laidLooks := .later }
def LexerAgainCardSaid : Prop := Claim7.holds Tryd.pinned (.plain (OpenSpec.ofChange lexerAgainSpec)) lexerAgainCard

/-- THE TIED CARD OF 'wainscotlaw05.LexerNotes'. -/
def lexerNotesCard : Claim7 := { stood := { row := lexerNotesRow, standIns := [], harness := (true, "fad4f4084fc3fb38b23dc1f4fd9918162fbf41e41165355224d5d4ba0e3b19f4"), looks := true }, kinds := [], alts := [], laidByText := true, laidKinds := [.data, .data, .data, .data, .sentinel, .sentinel, .pinned], laidTests := true, laidLooks := .later }
def LexerNotesCardSaid : Prop := Claim7.holds Tryd.pinned (.plain (OpenSpec.ofChange lexerNotesSpec)) lexerNotesCard

/-- THE SECOND FORM's CARD OF 'wainscotlaw05.LexerWords'. -/
def lexerWordsUptoCard : Claim7 := { stood := { row := lexerWordsUptoRow, standIns := [], harness := (true, "fad4f4084fc3fb38b23dc1f4fd9918162fbf41e41165355224d5d4ba0e3b19f4"), looks := true }, kinds := [], alts := [], laidByText := true, laidKinds := [.data, .data, .data, .data, .sentinel, .sentinel, .pinned], laidTests := true, laidLooks := .later }
def LexerWordsUptoCardSaid : Prop := Claim7.holds Tryd.pinned (.plain (OpenSpec.upto lexerWordsSpec)) lexerWordsUptoCard

/-- THE SECOND FORM's CARD OF 'wainscotlaw05.LexerAgain'. -/
def lexerAgainUptoCard : Claim7 := { stood := { row := lexerAgainUptoRow, standIns := [], harness := (true, "fad4f4084fc3fb38b23dc1f4fd9918162fbf41e41165355224d5d4ba0e3b19f4"), looks := true }, kinds := [], alts := [], laidByText := true, laidKinds := [.data, .data, .data, .data, .sentinel, .sentinel, .pinned], laidTests := true, laidLooks := .later }
def LexerAgainUptoCardSaid : Prop := Claim7.holds Tryd.pinned (.plain (OpenSpec.upto lexerAgainSpec)) lexerAgainUptoCard

/-- THE SECOND FORM's CARD OF 'wainscotlaw05.LexerNotes'. -/
def lexerNotesUptoCard : Claim7 := { stood := { row := lexerNotesUptoRow, standIns := [], harness := (true, "fad4f4084fc3fb38b23dc1f4fd9918162fbf41e41165355224d5d4ba0e3b19f4"), looks := true }, kinds := [], alts := [], laidByText := true, laidKinds := [.data, .data, .data, .data, .sentinel, .sentinel, .pinned], laidTests := true, laidLooks := .later }
def LexerNotesUptoCardSaid : Prop := Claim7.holds Tryd.pinned (.plain (OpenSpec.upto lexerNotesSpec)) lexerNotesUptoCard
end Rows
end Go.Proofs.YtplgkblahmndoaaDoor
