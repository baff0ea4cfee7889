/-
  DERIVED. GIVEN WITH THE SEED: THE CARDS: each row of YtacbamfhlgchgaaDoorRows.lean that lists a variable, with what it lists TIED to the program's text (the seventh form; the later family's looks); each row that meets fmt, with fmt's text TOLD by the authors' own Lean function (tested against real Go, not proved from fmt's source: count such statements apart). THE CARD IS WHAT COUNTS. Prove the row's statement (the work); the ties are given (YtacbamfhlgchgaaDoorTie.lean); close each card by the builder's one call (the guide's Derived/Test/ToyasCard.lean, 'card_holds'). Laid BY PROGRAM, IN A SANDBOX (cutbox-door.mjs). By AI agents, Wed Nov 11 2026. No macro, syntax, notation, axiom, sorry.
-/
import Derived.Test.YtacbamfhlgchgaaDoorRows
import GoSem.ClaimSeven
namespace Go.Proofs.YtacbamfhlgchgaaDoor
namespace Rows

/-- THE TIED CARD OF 'comitialaw06.BlockMakes'. -/
def blockMakesCard : Claim7 := { stood := { row := blockMakesRow, standIns := [], harness := (true, "950260487df1092aa74b138f027f13014aec72cfa64c72d9bdec9b243c8ec2d5"), looks := false }, kinds := [], alts := [], laidByText := true, laidKinds := [.data, .data, .data], laidTests := true, laidLooks := .later }
def BlockMakesCardSaid : Prop := Claim7.holds Tryd.pinned (.plain (OpenSpec.ofChange blockMakesSpec)) blockMakesCard

/-- THE SECOND FORM's CARD OF 'comitialaw06.BlockMakes'. -/
def blockMakesUptoCard : Claim7 := { stood := { row := blockMakesUptoRow, standIns := [], harness := (true, "950260487df1092aa74b138f027f13014aec72cfa64c72d9bdec9b243c8ec2d5"), looks := false }, kinds := [], alts := [], laidByText := true, laidKinds := [.data, .data, .data], laidTests := true, laidLooks := .later }
def BlockMakesUptoCardSaid : Prop := Claim7.holds Tryd.pinned (.plain (OpenSpec.upto blockMakesSpec)) blockMakesUptoCard
end Rows
end Go.Proofs.YtacbamfhlgchgaaDoor
