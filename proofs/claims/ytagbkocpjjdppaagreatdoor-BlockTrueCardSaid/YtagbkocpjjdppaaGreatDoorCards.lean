/-
  DERIVED. GIVEN WITH THE SEED: THE CARDS: each row of YtagbkocpjjdppaaGreatDoorRows.lean that lists a variable, with what it lists TIED to the program's text (the seventh form; the later family's looks); each row that meets fmt, with fmt's text TOLD by the authors' own Lean function (tested against real Go, not proved from fmt's source: count such statements apart). THE CARD IS WHAT COUNTS. Prove the row's statement (the work); the ties are given (YtagbkocpjjdppaaGreatDoorTie.lean); close each card by the builder's one call (the guide's Derived/Test/ToyasCard.lean, 'card_holds'). Laid BY PROGRAM, IN A SANDBOX (cutbox-door.mjs). By AI agents, Wed Nov 11 2026. No macro, syntax, notation, axiom, sorry.
-/
import Derived.Test.YtagbkocpjjdppaaGreatDoorRows
import GoSem.ClaimSeven
namespace Go.Proofs.YtagbkocpjjdppaaGreatDoor
namespace Rows

/-- THE TIED CARD OF 'comitialaw06.BlockDigests'. -/
def blockDigestsCard : Claim7 := { stood := { row := blockDigestsRow, standIns := [], harness := (true, "a4fca4baccba505774ff67d5b8e8dc5a01b851bad280f79322720c8e693059f4"), looks := false }, kinds := [], alts := [], laidByText := true, laidKinds := [.data, .data, .data], laidTests := true, laidLooks := .later }
def BlockDigestsCardSaid : Prop := Claim7.holds Tryz.pinned (.plain (OpenSpec.ofChange blockDigestsSpec)) blockDigestsCard

/-- THE TIED CARD OF 'comitialaw06.BlockTrue'. -/
def blockTrueCard : Claim7 := { stood := { row := blockTrueRow, standIns := [], harness := (true, "a4fca4baccba505774ff67d5b8e8dc5a01b851bad280f79322720c8e693059f4"), looks := false }, kinds := [], alts := [], laidByText := true, laidKinds := [.data, .data, .data], laidTests := true, laidLooks := .later }
def BlockTrueCardSaid : Prop := Claim7.holds Tryz.pinned (.plain (OpenSpec.ofChange blockTrueSpec)) blockTrueCard

/-- THE SECOND FORM's CARD OF 'comitialaw06.BlockDigests'. -/
def blockDigestsUptoCard : Claim7 := { stood := { row := blockDigestsUptoRow, standIns := [], harness := (true, "a4fca4baccba505774ff67d5b8e8dc5a01b851bad280f79322720c8e693059f4"), looks := false }, kinds := [], alts := [], laidByText := true, laidKinds := [.data, .data, .data], laidTests := true, laidLooks := .later }
def BlockDigestsUptoCardSaid : Prop := Claim7.holds Tryz.pinned (.plain (OpenSpec.upto blockDigestsSpec)) blockDigestsUptoCard

/-- THE SECOND FORM's CARD OF 'comitialaw06.BlockTrue'. -/
def blockTrueUptoCard : Claim7 := { stood := { row := blockTrueUptoRow, standIns := [], harness := (true, "a4fca4baccba505774ff67d5b8e8dc5a01b851bad280f79322720c8e693059f4"), looks := false }, kinds := [], alts := [], laidByText := true, laidKinds := [.data, .data, .data], laidTests := true, laidLooks := .later }
def BlockTrueUptoCardSaid : Prop := Claim7.holds Tryz.pinned (.plain (OpenSpec.upto blockTrueSpec)) blockTrueUptoCard
end Rows
end Go.Proofs.YtagbkocpjjdppaaGreatDoor
