/-
  DERIVED. GIVEN WITH THE SEED: THE CARDS: each row of YtegkhhegapnkpaaGreatDoorRows.lean that lists a variable, with what it lists TIED to the program's text (the seventh form; the later family's looks); each row that meets fmt, with fmt's text TOLD by the authors' own Lean function (tested against real Go, not proved from fmt's source: count such statements apart). THE CARD IS WHAT COUNTS. Prove the row's statement (the work); the ties are given (YtegkhhegapnkpaaGreatDoorTie.lean); close each card by the builder's one call (the guide's Derived/Test/ToyasCard.lean, 'card_holds'). Laid BY PROGRAM, IN A SANDBOX (cutbox-door.mjs). By AI agents, Wed Nov 11 2026. No macro, syntax, notation, axiom, sorry.
-/
import Derived.Test.YtegkhhegapnkpaaGreatDoorRows
import GoSem.ClaimSeven
namespace Go.Proofs.YtegkhhegapnkpaaGreatDoor
namespace Rows

/-- THE TIED CARD OF 'comitialaw06.BlockTrue'. -/
def blockTrueCard : Claim7 := { stood := { row := blockTrueRow, standIns := [], harness := (true, "199ad7b37287136887d6ea739e93ff23a7755bc8a6ff6e973904eb2ca61b9ceb"), looks := false }, kinds := [], alts := [], laidByText := true, laidKinds := [.data, .data, .data], laidTests := true, laidLooks := .later }
def BlockTrueCardSaid : Prop := Claim7.holds Tryz.pinned (.plain (OpenSpec.ofChange blockTrueSpec)) blockTrueCard

/-- THE SECOND FORM's CARD OF 'comitialaw06.BlockTrue'. -/
def blockTrueUptoCard : Claim7 := { stood := { row := blockTrueUptoRow, standIns := [], harness := (true, "199ad7b37287136887d6ea739e93ff23a7755bc8a6ff6e973904eb2ca61b9ceb"), looks := false }, kinds := [], alts := [], laidByText := true, laidKinds := [.data, .data, .data], laidTests := true, laidLooks := .later }
def BlockTrueUptoCardSaid : Prop := Claim7.holds Tryz.pinned (.plain (OpenSpec.upto blockTrueSpec)) blockTrueUptoCard
end Rows
end Go.Proofs.YtegkhhegapnkpaaGreatDoor
