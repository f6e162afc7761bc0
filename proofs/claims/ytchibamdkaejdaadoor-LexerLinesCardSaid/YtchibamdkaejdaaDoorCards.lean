/-
  DERIVED. GIVEN WITH THE SEED: THE CARDS: each row of YtchibamdkaejdaaDoorRows.lean that lists a variable, with what it lists TIED to the program's text (the seventh form; the later family's looks); each row that meets fmt, with fmt's text TOLD by the authors' own Lean function (tested against real Go, not proved from fmt's source: count such statements apart). THE CARD IS WHAT COUNTS. Prove the row's statement (the work); the ties are given (YtchibamdkaejdaaDoorTie.lean); close each card by the builder's one call (the guide's Derived/Test/ToyasCard.lean, 'card_holds'). Laid BY PROGRAM, IN A SANDBOX (cutbox-door.mjs). By AI agents, Wed Nov 11 2026. No macro, syntax, notation, axiom, sorry.
-/
import Derived.Test.YtchibamdkaejdaaDoorRows
import GoSem.ClaimSeven
namespace Go.Proofs.YtchibamdkaejdaaDoor
namespace Rows

/-- THE TIED CARD OF 'debuggerlaw02.LexerScans'. -/
def lexerScansCard : Claim7 := { stood := { row := lexerScansRow, standIns := [], harness := (true, "badb3ff685c730bf8cbb94a2b79d6aabd4395e7f02ba88b68fbc53873e0a3082"), looks := false }, kinds := [], alts := [], laidByText := true, laidKinds := [.data], laidTests := true, laidLooks := .later }
def LexerScansCardSaid : Prop := Claim7.holds Tryd.pinned (.plain (OpenSpec.ofChange lexerScansSpec)) lexerScansCard

/-- THE TIED CARD OF 'debuggerlaw02.LexerSpoilt'. -/
def lexerSpoiltCard : Claim7 := { stood := { row := lexerSpoiltRow, standIns := [], harness := (true, "badb3ff685c730bf8cbb94a2b79d6aabd4395e7f02ba88b68fbc53873e0a3082"), looks := false }, kinds := [], alts := [], laidByText := true, laidKinds := [.data], laidTests := true, laidLooks := .later }
def LexerSpoiltCardSaid : Prop := Claim7.holds Tryd.pinned (.plain (OpenSpec.ofChange lexerSpoiltSpec)) lexerSpoiltCard

/-- THE TIED CARD OF 'debuggerlaw02.LexerGaps'. -/
def lexerGapsCard : Claim7 := { stood := { row := lexerGapsRow, standIns := [], harness := (true, "badb3ff685c730bf8cbb94a2b79d6aabd4395e7f02ba88b68fbc53873e0a3082"), looks := false }, kinds := [], alts := [], laidByText := true, laidKinds := [.data], laidTests := true, laidLooks := .later }
def LexerGapsCardSaid : Prop := Claim7.holds Tryd.pinned (.plain (OpenSpec.ofChange lexerGapsSpec)) lexerGapsCard

/-- THE TIED CARD OF 'debuggerlaw02.LexerLines'. -/
def lexerLinesCard : Claim7 := { stood := { row := lexerLinesRow, standIns := [], harness := (true, "badb3ff685c730bf8cbb94a2b79d6aabd4395e7f02ba88b68fbc53873e0a3082"), looks := false }, kinds := [], alts := [], laidByText := true, laidKinds := [.data], laidTests := true, laidLooks := .later }
def LexerLinesCardSaid : Prop := Claim7.holds Tryd.pinned (.plain (OpenSpec.ofChange lexerLinesSpec)) lexerLinesCard

/-- THE SECOND FORM's CARD OF 'debuggerlaw02.LexerScans'. -/
def lexerScansUptoCard : Claim7 := { stood := { row := lexerScansUptoRow, standIns := [], harness := (true, "badb3ff685c730bf8cbb94a2b79d6aabd4395e7f02ba88b68fbc53873e0a3082"), looks := false }, kinds := [], alts := [], laidByText := true, laidKinds := [.data], laidTests := true, laidLooks := .later }
def LexerScansUptoCardSaid : Prop := Claim7.holds Tryd.pinned (.plain (OpenSpec.upto lexerScansSpec)) lexerScansUptoCard

/-- THE SECOND FORM's CARD OF 'debuggerlaw02.LexerSpoilt'. -/
def lexerSpoiltUptoCard : Claim7 := { stood := { row := lexerSpoiltUptoRow, standIns := [], harness := (true, "badb3ff685c730bf8cbb94a2b79d6aabd4395e7f02ba88b68fbc53873e0a3082"), looks := false }, kinds := [], alts := [], laidByText := true, laidKinds := [.data], laidTests := true, laidLooks := .later }
def LexerSpoiltUptoCardSaid : Prop := Claim7.holds Tryd.pinned (.plain (OpenSpec.upto lexerSpoiltSpec)) lexerSpoiltUptoCard

/-- THE SECOND FORM's CARD OF 'debuggerlaw02.LexerGaps'. -/
def lexerGapsUptoCard : Claim7 := { stood := { row := lexerGapsUptoRow, standIns := [], harness := (true, "badb3ff685c730bf8cbb94a2b79d6aabd4395e7f02ba88b68fbc53873e0a3082"), looks := false }, kinds := [], alts := [], laidByText := true, laidKinds := [.data], laidTests := true, laidLooks := .later }
def LexerGapsUptoCardSaid : Prop := Claim7.holds Tryd.pinned (.plain (OpenSpec.upto lexerGapsSpec)) lexerGapsUptoCard

/-- THE SECOND FORM's CARD OF 'debuggerlaw02.LexerLines'. -/
def lexerLinesUptoCard : Claim7 := { stood := { row := lexerLinesUptoRow, standIns := [], harness := (true, "badb3ff685c730bf8cbb94a2b79d6aabd4395e7f02ba88b68fbc53873e0a3082"), looks := false }, kinds := [], alts := [], laidByText := true, laidKinds := [.data], laidTests := true, laidLooks := .later }
def LexerLinesUptoCardSaid : Prop := Claim7.holds Tryd.pinned (.plain (OpenSpec.upto lexerLinesSpec)) lexerLinesUptoCard
end Rows
end Go.Proofs.YtchibamdkaejdaaDoor
