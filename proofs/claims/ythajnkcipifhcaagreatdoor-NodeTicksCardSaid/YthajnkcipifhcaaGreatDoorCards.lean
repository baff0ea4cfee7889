/-
  DERIVED. GIVEN WITH THE SEED: THE CARDS: each row of YthajnkcipifhcaaGreatDoorRows.lean that lists a variable, with what it lists TIED to the program's text (the seventh form; the later family's looks); each row that meets fmt, with fmt's text TOLD by the authors' own Lean function (tested against real Go, not proved from fmt's source: count such statements apart). THE CARD IS WHAT COUNTS. Prove the row's statement (the work); the ties are given (YthajnkcipifhcaaGreatDoorTie.lean); close each card by the builder's one call (the guide's Derived/Test/ToyasCard.lean, 'card_holds'). Laid BY PROGRAM, IN A SANDBOX (cutbox-door.mjs). By AI agents, Wed Nov 11 2026. No macro, syntax, notation, axiom, sorry.
-/
import Derived.Test.YthajnkcipifhcaaGreatDoorRows
import GoSem.ClaimSeven
namespace Go.Proofs.YthajnkcipifhcaaGreatDoor
namespace Rows

/-- THE TIED CARD OF 'comitialaw18.NodeStrange'. -/
def nodeStrangeCard : Claim7 := { stood := { row := nodeStrangeRow, standIns := [], harness := (true, "57626896804616e964e042cdc9e443bab10947d295be94a9cc7fa92692d4987c"), looks := false }, kinds := [], alts := [], laidByText := true, laidKinds := [.data, .data, .data], laidTests := true, laidLooks := .later }
def NodeStrangeCardSaid : Prop := Claim7.holds Tryz.pinned (.plain (OpenSpec.ofChange nodeStrangeSpec)) nodeStrangeCard

/-- THE TIED CARD OF 'comitialaw18.NodeTicks'. -/
def nodeTicksCard : Claim7 := { stood := { row := nodeTicksRow, standIns := [], harness := (true, "57626896804616e964e042cdc9e443bab10947d295be94a9cc7fa92692d4987c"), looks := false }, kinds := [], alts := [], laidByText := true, laidKinds := [.data, .data, .data], laidTests := true, laidLooks := .later }
def NodeTicksCardSaid : Prop := Claim7.holds Tryz.pinned (.plain (OpenSpec.ofChange nodeTicksSpec)) nodeTicksCard

/-- THE TIED CARD OF 'comitialaw18.NodeTexts'. -/
def nodeTextsCard : Claim7 := { stood := { row := nodeTextsRow, standIns := [], harness := (true, "57626896804616e964e042cdc9e443bab10947d295be94a9cc7fa92692d4987c"), looks := false }, kinds := [], alts := [], laidByText := true, laidKinds := [.data, .data, .data], laidTests := true, laidLooks := .later }
def NodeTextsCardSaid : Prop := Claim7.holds Tryz.pinned (.plain (OpenSpec.ofChange nodeTextsSpec)) nodeTextsCard

/-- THE TIED CARD OF 'comitialaw18.NodeHandles'. -/
def nodeHandlesCard : Claim7 := { stood := { row := nodeHandlesRow, standIns := [], harness := (true, "57626896804616e964e042cdc9e443bab10947d295be94a9cc7fa92692d4987c"), looks := false }, kinds := [], alts := [], laidByText := true, laidKinds := [.data, .data, .data], laidTests := true, laidLooks := .later }
def NodeHandlesCardSaid : Prop := Claim7.holds Tryz.pinned (.plain (OpenSpec.ofChange nodeHandlesSpec)) nodeHandlesCard

/-- THE TIED CARD OF 'comitialaw18.NodeFetches'. -/
def nodeFetchesCard : Claim7 := { stood := { row := nodeFetchesRow, standIns := [], harness := (true, "57626896804616e964e042cdc9e443bab10947d295be94a9cc7fa92692d4987c"), looks := false }, kinds := [], alts := [], laidByText := true, laidKinds := [.data, .data, .data], laidTests := true, laidLooks := .later }
def NodeFetchesCardSaid : Prop := Claim7.holds Tryz.pinned (.plain (OpenSpec.ofChange nodeFetchesSpec)) nodeFetchesCard

/-- THE SECOND FORM's CARD OF 'comitialaw18.NodeStrange'. -/
def nodeStrangeUptoCard : Claim7 := { stood := { row := nodeStrangeUptoRow, standIns := [], harness := (true, "57626896804616e964e042cdc9e443bab10947d295be94a9cc7fa92692d4987c"), looks := false }, kinds := [], alts := [], laidByText := true, laidKinds := [.data, .data, .data], laidTests := true, laidLooks := .later }
def NodeStrangeUptoCardSaid : Prop := Claim7.holds Tryz.pinned (.plain (OpenSpec.upto nodeStrangeSpec)) nodeStrangeUptoCard

/-- THE SECOND FORM's CARD OF 'comitialaw18.NodeTicks'. -/
def nodeTicksUptoCard : Claim7 := { stood := { row := nodeTicksUptoRow, standIns := [], harness := (true, "57626896804616e964e042cdc9e443bab10947d295be94a9cc7fa92692d4987c"), looks := false }, kinds := [], alts := [], laidByText := true, laidKinds := [.data, .data, .data], laidTests := true, laidLooks := .later }
def NodeTicksUptoCardSaid : Prop := Claim7.holds Tryz.pinned (.plain (OpenSpec.upto nodeTicksSpec)) nodeTicksUptoCard

/-- THE SECOND FORM's CARD OF 'comitialaw18.NodeTexts'. -/
def nodeTextsUptoCard : Claim7 := { stood := { row := nodeTextsUptoRow, standIns := [], harness := (true, "57626896804616e964e042cdc9e443bab10947d295be94a9cc7fa92692d4987c"), looks := false }, kinds := [], alts := [], laidByText := true, laidKinds := [.data, .data, .data], laidTests := true, laidLooks := .later }
def NodeTextsUptoCardSaid : Prop := Claim7.holds Tryz.pinned (.plain (OpenSpec.upto nodeTextsSpec)) nodeTextsUptoCard

/-- THE SECOND FORM's CARD OF 'comitialaw18.NodeHandles'. -/
def nodeHandlesUptoCard : Claim7 := { stood := { row := nodeHandlesUptoRow, standIns := [], harness := (true, "57626896804616e964e042cdc9e443bab10947d295be94a9cc7fa92692d4987c"), looks := false }, kinds := [], alts := [], laidByText := true, laidKinds := [.data, .data, .data], laidTests := true, laidLooks := .later }
def NodeHandlesUptoCardSaid : Prop := Claim7.holds Tryz.pinned (.plain (OpenSpec.upto nodeHandlesSpec)) nodeHandlesUptoCard

/-- THE SECOND FORM's CARD OF 'comitialaw18.NodeFetches'. -/
def nodeFetchesUptoCard : Claim7 := { stood := { row := nodeFetchesUptoRow, standIns := [], harness := (true, "57626896804616e964e042cdc9e443bab10947d295be94a9cc7fa92692d4987c"), looks := false }, kinds := [], alts := [], laidByText := true, laidKinds := [.data, .data, .data], laidTests := true, laidLooks := .later }
def NodeFetchesUptoCardSaid : Prop := Claim7.holds Tryz.pinned (.plain (OpenSpec.upto nodeFetchesSpec)) nodeFetchesUptoCard
end Rows
end Go.Proofs.YthajnkcipifhcaaGreatDoor
