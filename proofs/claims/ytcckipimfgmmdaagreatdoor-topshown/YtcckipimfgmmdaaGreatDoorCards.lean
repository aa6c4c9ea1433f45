/-
  DERIVED. GIVEN WITH THE SEED: THE CARDS: each row of YtcckipimfgmmdaaGreatDoorRows.lean that lists a variable, with what it lists TIED to the program's text (the seventh form; the later family's looks); each row that meets fmt, with fmt's text TOLD by the authors' own Lean function (tested against real Go, not proved from fmt's source: count such statements apart). THE CARD IS WHAT COUNTS. Prove the row's statement (the work); the ties are given (YtcckipimfgmmdaaGreatDoorTie.lean); close each card by the builder's one call (the guide's Derived/Test/ToyasCard.lean, 'card_holds'). Laid BY PROGRAM, IN A SANDBOX (cutbox-door.mjs). By AI agents, Wed Nov 11 2026. No macro, syntax, notation, axiom, sorry.
-/
import Derived.Test.YtcckipimfgmmdaaGreatDoorRows
import GoSem.ClaimSeven
namespace Go.Proofs.YtcckipimfgmmdaaGreatDoor
namespace Rows

/-- THE TIED CARD OF 'fairleadtop.TopVerdict'. -/
def topVerdictCard : Claim7 := { stood := { row := topVerdictRow, standIns := [], harness := (true, "7bc8a7cd7c2acaafa1682d6492de26aab3bb6b6dfb1bc9e9def84257e24701d1"), looks := true }, kinds := [], alts := [], laidByText := true, laidKinds := [.data, .data, .data, .sentinel, .sentinel], laidTests := true, laidLooks := .later }
def TopVerdictCardSaid : Prop := Claim7.holds Tryz.pinned (.plain (OpenSpec.ofChange topVerdictSpec)) topVerdictCard

/-- THE TIED CARD OF 'fairleadtop.TopShown'. -/
def topShownCard : Claim7 := { stood := { row := topShownRow, standIns := [], harness := (true, "7bc8a7cd7c2acaafa1682d6492de26aab3bb6b6dfb1bc9e9def84257e24701d1"), looks := true }, kinds := [], alts := [], laidByText := true, laidKinds := [.data, .data, .data, .sentinel, .sentinel], laidTests := true, laidLooks := .later }
def TopShownCardSaid : Prop := Claim7.holds Tryz.pinned (.plain (OpenSpec.ofChange topShownSpec)) topShownCard

/-- THE SECOND FORM's CARD OF 'fairleadtop.TopVerdict'. -/
def topVerdictUptoCard : Claim7 := { stood := { row := topVerdictUptoRow, standIns := [], harness := (true, "7bc8a7cd7c2acaafa1682d6492de26aab3bb6b6dfb1bc9e9def84257e24701d1"), looks := true }, kinds := [], alts := [], laidByText := true, laidKinds := [.data, .data, .data, .sentinel, .sentinel], laidTests := true, laidLooks := .later }
def TopVerdictUptoCardSaid : Prop := Claim7.holds Tryz.pinned (.plain (OpenSpec.upto topVerdictSpec)) topVerdictUptoCard

/-- THE SECOND FORM's CARD OF 'fairleadtop.TopShown'. -/
def topShownUptoCard : Claim7 := { stood := { row := topShownUptoRow, standIns := [], harness := (true, "7bc8a7cd7c2acaafa1682d6492de26aab3bb6b6dfb1bc9e9def84257e24701d1"), looks := true }, kinds := [], alts := [], laidByText := true, laidKinds := [.data, .data, .data, .sentinel, .sentinel], laidTests := true, laidLooks := .later }
def TopShownUptoCardSaid : Prop := Claim7.holds Tryz.pinned (.plain (OpenSpec.upto topShownSpec)) topShownUptoCard
end Rows
end Go.Proofs.YtcckipimfgmmdaaGreatDoor
