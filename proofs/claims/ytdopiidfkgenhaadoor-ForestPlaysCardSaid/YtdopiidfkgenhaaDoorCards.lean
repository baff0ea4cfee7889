/-
  DERIVED. GIVEN WITH THE SEED: THE CARDS: each row of YtdopiidfkgenhaaDoorRows.lean that lists a variable, with what it lists TIED to the program's text (the seventh form; the later family's looks); each row that meets fmt, with fmt's text TOLD by the authors' own Lean function (tested against real Go, not proved from fmt's source: count such statements apart). THE CARD IS WHAT COUNTS. Prove the row's statement (the work); the ties are given (YtdopiidfkgenhaaDoorTie.lean); close each card by the builder's one call (the guide's Derived/Test/ToyasCard.lean, 'card_holds'). Laid BY PROGRAM, IN A SANDBOX (cutbox-door.mjs). By AI agents, Wed Nov 11 2026. No macro, syntax, notation, axiom, sorry.
-/
import Derived.Test.YtdopiidfkgenhaaDoorRows
import GoSem.ClaimSeven
namespace Go.Proofs.YtdopiidfkgenhaaDoor
namespace Rows

/-- THE TIED CARD OF 'comitialaw07.ForestFull'. -/
def forestFullCard : Claim7 := { stood := { row := forestFullRow, standIns := [], harness := (true, "508f5bf58289226210075bb9409e4396d689924e3e83f02695394c9ecf44a625"), looks := false }, kinds := [], alts := [], laidByText := true, laidKinds := [.data, .data, .data], laidTests := true, laidLooks := .later }
def ForestFullCardSaid : Prop := Claim7.holds Tryd.pinned (.plain (OpenSpec.ofChange forestFullSpec)) forestFullCard

/-- THE TIED CARD OF 'comitialaw07.ForestPlays'. -/
def forestPlaysCard : Claim7 := { stood := { row := forestPlaysRow, standIns := [], harness := (true, "508f5bf58289226210075bb9409e4396d689924e3e83f02695394c9ecf44a625"), looks := false }, kinds := [], alts := [], laidByText := true, laidKinds := [.data, .data, .data], laidTests := true, laidLooks := .later }
def ForestPlaysCardSaid : Prop := Claim7.holds Tryd.pinned (.plain (OpenSpec.ofChange forestPlaysSpec)) forestPlaysCard

/-- THE TIED CARD OF 'comitialaw07.ForestPaths'. -/
def forestPathsCard : Claim7 := { stood := { row := forestPathsRow, standIns := [], harness := (true, "508f5bf58289226210075bb9409e4396d689924e3e83f02695394c9ecf44a625"), looks := false }, kinds := [], alts := [], laidByText := true, laidKinds := [.data, .data, .data], laidTests := true, laidLooks := .later }
def ForestPathsCardSaid : Prop := Claim7.holds Tryd.pinned (.plain (OpenSpec.ofChange forestPathsSpec)) forestPathsCard

/-- THE SECOND FORM's CARD OF 'comitialaw07.ForestFull'. -/
def forestFullUptoCard : Claim7 := { stood := { row := forestFullUptoRow, standIns := [], harness := (true, "508f5bf58289226210075bb9409e4396d689924e3e83f02695394c9ecf44a625"), looks := false }, kinds := [], alts := [], laidByText := true, laidKinds := [.data, .data, .data], laidTests := true, laidLooks := .later }
def ForestFullUptoCardSaid : Prop := Claim7.holds Tryd.pinned (.plain (OpenSpec.upto forestFullSpec)) forestFullUptoCard

/-- THE SECOND FORM's CARD OF 'comitialaw07.ForestPlays'. -/
def forestPlaysUptoCard : Claim7 := { stood := { row := forestPlaysUptoRow, standIns := [], harness := (true, "508f5bf58289226210075bb9409e4396d689924e3e83f02695394c9ecf44a625"), looks := false }, kinds := [], alts := [], laidByText := true, laidKinds := [.data, .data, .data], laidTests := true, laidLooks := .later }
def ForestPlaysUptoCardSaid : Prop := Claim7.holds Tryd.pinned (.plain (OpenSpec.upto forestPlaysSpec)) forestPlaysUptoCard

/-- THE SECOND FORM's CARD OF 'comitialaw07.ForestPaths'. -/
def forestPathsUptoCard : Claim7 := { stood := { row := forestPathsUptoRow, standIns := [], harness := (true, "508f5bf58289226210075bb9409e4396d689924e3e83f02695394c9ecf44a625"), looks := false }, kinds := [], alts := [], laidByText := true, laidKinds := [.data, .data, .data], laidTests := true, laidLooks := .later }
def ForestPathsUptoCardSaid : Prop := Claim7.holds Tryd.pinned (.plain (OpenSpec.upto forestPathsSpec)) forestPathsUptoCard
end Rows
end Go.Proofs.YtdopiidfkgenhaaDoor
