/-
  DERIVED. GIVEN WITH THE SEED: THE CARDS: each row of YtbdhlbigcepglaaDoorRows.lean that lists a variable, with what it lists TIED to the program's text (the seventh form; the later family's looks); each row that meets fmt, with fmt's text TOLD by the authors' own Lean function (tested against real Go, not proved from fmt's source: count such statements apart). THE CARD IS WHAT COUNTS. Prove the row's statement (the work); the ties are given (YtbdhlbigcepglaaDoorTie.lean); close each card by the builder's one call (the guide's Derived/Test/ToyasCard.lean, 'card_holds'). Laid BY PROGRAM, IN A SANDBOX (cutbox-door.mjs). By AI agents, Wed Nov 11 2026. No macro, syntax, notation, axiom, sorry.
-/
import Derived.Test.YtbdhlbigcepglaaDoorRows
import GoSem.ClaimSeven
namespace Go.Proofs.YtbdhlbigcepglaaDoor
namespace Rows

/-- THE TIED CARD OF 'fairleadlaw09.LexReads'. -/
def lexReadsCard : Claim7 := { stood := { row := lexReadsRow, standIns := [], harness := (true, "9084693f80ac275841468172a5ba0ded06271892650c8b5ffcd32ad533f0b8c8"), looks := true }, kinds := [], alts := [], laidByText := true, laidKinds := [.data, .data, .data, .sentinel, .sentinel], laidTests := true, laidLooks := .later }
def LexReadsCardSaid : Prop := Claim7.holds Tryd.pinned (.plain (OpenSpec.ofChange lexReadsSpec)) lexReadsCard

/-- THE TIED CARD OF 'fairleadlaw09.LexWords'. -/
def lexWordsCard : Claim7 := { stood := { row := lexWordsRow, standIns := [], harness := (true, "9084693f80ac275841468172a5ba0ded06271892650c8b5ffcd32ad533f0b8c8"), looks := true }, kinds := [], alts := [], laidByText := true, laidKinds := [.data, .data, .data, .sentinel, .sentinel], laidTests := true, laidLooks := .later }
def LexWordsCardSaid : Prop := Claim7.holds Tryd.pinned (.plain (OpenSpec.ofChange lexWordsSpec)) lexWordsCard

/-- THE TIED CARD OF 'fairleadlaw09.LexLies'. -/
def lexLiesCard : Claim7 := { stood := { row := lexLiesRow, standIns := [], harness := (true, "9084693f80ac275841468172a5ba0ded06271892650c8b5ffcd32ad533f0b8c8"), looks := true }, kinds := [], alts := [], laidByText := true, laidKinds := [.data, .data, .data, .sentinel, .sentinel], laidTests := true, laidLooks := .later }
def LexLiesCardSaid : Prop := Claim7.holds Tryd.pinned (.plain (OpenSpec.ofChange lexLiesSpec)) lexLiesCard

/-- THE TIED CARD OF 'fairleadlaw09.LexJoins'. -/
def lexJoinsCard : Claim7 := { stood := { row := lexJoinsRow, standIns := [], harness := (true, "9084693f80ac275841468172a5ba0ded06271892650c8b5ffcd32ad533f0b8c8"), looks := true }, kinds := [], alts := [], laidByText := true, laidKinds := [.data, .data, .data, .sentinel, .sentinel], laidTests := true, laidLooks := .later }
def LexJoinsCardSaid : Prop := Claim7.holds Tryd.pinned (.plain (OpenSpec.ofChange lexJoinsSpec)) lexJoinsCard

/-- THE TIED CARD OF 'fairleadlaw09.LexAhead'. -/
def lexAheadCard : Claim7 := { stood := { row := lexAheadRow, standIns := [], harness := (true, "9084693f80ac275841468172a5ba0ded06271892650c8b5ffcd32ad533f0b8c8"), looks := true }, kinds := [], alts := [], laidByText := true, laidKinds := [.data, .data, .data, .sentinel, .sentinel], laidTests := true, laidLooks := .later }
def LexAheadCardSaid : Prop := Claim7.holds Tryd.pinned (.plain (OpenSpec.ofChange lexAheadSpec)) lexAheadCard

/-- THE TIED CARD OF 'fairleadlaw09.LexWorth'. -/
def lexWorthCard : Claim7 := { stood := { row := lexWorthRow, standIns := [], harness := (true, "9084693f80ac275841468172a5ba0ded06271892650c8b5ffcd32ad533f0b8c8"), looks := true }, kinds := [], alts := [], laidByText := true, laidKinds := [.data, .data, .data, .sentinel, .sentinel], laidTests := true, laidLooks := .later }
def LexWorthCardSaid : Prop := Claim7.holds Tryd.pinned (.plain (OpenSpec.ofChange lexWorthSpec)) lexWorthCard

/-- THE SECOND FORM's CARD OF 'fairleadlaw09.LexReads'. -/
def lexReadsUptoCard : Claim7 := { stood := { row := lexReadsUptoRow, standIns := [], harness := (true, "9084693f80ac275841468172a5ba0ded06271892650c8b5ffcd32ad533f0b8c8"), looks := true }, kinds := [], alts := [], laidByText := true, laidKinds := [.data, .data, .data, .sentinel, .sentinel], laidTests := true, laidLooks := .later }
def LexReadsUptoCardSaid : Prop := Claim7.holds Tryd.pinned (.plain (OpenSpec.upto lexReadsSpec)) lexReadsUptoCard

/-- THE SECOND FORM's CARD OF 'fairleadlaw09.LexWords'. -/
def lexWordsUptoCard : Claim7 := { stood := { row := lexWordsUptoRow, standIns := [], harness := (true, "9084693f80ac275841468172a5ba0ded06271892650c8b5ffcd32ad533f0b8c8"), looks := true }, kinds := [], alts := [], laidByText := true, laidKinds := [.data, .data, .data, .sentinel, .sentinel], laidTests := true, laidLooks := .later }
def LexWordsUptoCardSaid : Prop := Claim7.holds Tryd.pinned (.plain (OpenSpec.upto lexWordsSpec)) lexWordsUptoCard

/-- THE SECOND FORM's CARD OF 'fairleadlaw09.LexLies'. -/
def lexLiesUptoCard : Claim7 := { stood := { row := lexLiesUptoRow, standIns := [], harness := (true, "9084693f80ac275841468172a5ba0ded06271892650c8b5ffcd32ad533f0b8c8"), looks := true }, kinds := [], alts := [], laidByText := true, laidKinds := [.data, .data, .data, .sentinel, .sentinel], laidTests := true, laidLooks := .later }
def LexLiesUptoCardSaid : Prop := Claim7.holds Tryd.pinned (.plain (OpenSpec.upto lexLiesSpec)) lexLiesUptoCard

/-- THE SECOND FORM's CARD OF 'fairleadlaw09.LexJoins'. -/
def lexJoinsUptoCard : Claim7 := { stood := { row := lexJoinsUptoRow, standIns := [], harness := (true, "9084693f80ac275841468172a5ba0ded06271892650c8b5ffcd32ad533f0b8c8"), looks := true }, kinds := [], alts := [], laidByText := true, laidKinds := [.data, .data, .data, .sentinel, .sentinel], laidTests := true, laidLooks := .later }
def LexJoinsUptoCardSaid : Prop := Claim7.holds Tryd.pinned (.plain (OpenSpec.upto lexJoinsSpec)) lexJoinsUptoCard

/-- THE SECOND FORM's CARD OF 'fairleadlaw09.LexAhead'. -/
def lexAheadUptoCard : Claim7 := { stood := { row := lexAheadUptoRow, standIns := [], harness := (true, "9084693f80ac275841468172a5ba0ded06271892650c8b5ffcd32ad533f0b8c8"), looks := true }, kinds := [], alts := [], laidByText := true, laidKinds := [.data, .data, .data, .sentinel, .sentinel], laidTests := true, laidLooks := .later }
def LexAheadUptoCardSaid : Prop := Claim7.holds Tryd.pinned (.plain (OpenSpec.upto lexAheadSpec)) lexAheadUptoCard

/-- THE SECOND FORM's CARD OF 'fairleadlaw09.LexWorth'. -/
def lexWorthUptoCard : Claim7 := { stood := { row := lexWorthUptoRow, standIns := [], harness := (true, "9084693f80ac275841468172a5ba0ded06271892650c8b5ffcd32ad533f0b8c8"), looks := true }, kinds := [], alts := [], laidByText := true, laidKinds := [.data, .data, .data, .sentinel, .sentinel], laidTests := true, laidLooks := .later }
def LexWorthUptoCardSaid : Prop := Claim7.holds Tryd.pinned (.plain (OpenSpec.upto lexWorthSpec)) lexWorthUptoCard
end Rows
end Go.Proofs.YtbdhlbigcepglaaDoor
