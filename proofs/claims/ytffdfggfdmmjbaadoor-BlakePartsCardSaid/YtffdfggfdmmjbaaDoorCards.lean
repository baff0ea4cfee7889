/-
  DERIVED. GIVEN WITH THE SEED: THE CARDS: each row of YtffdfggfdmmjbaaDoorRows.lean that lists a variable, with what it lists TIED to the program's text (the seventh form; the later family's looks); each row that meets fmt, with fmt's text TOLD by the authors' own Lean function (tested against real Go, not proved from fmt's source: count such statements apart). THE CARD IS WHAT COUNTS. Prove the row's statement (the work); the ties are given (YtffdfggfdmmjbaaDoorTie.lean); close each card by the builder's one call (the guide's Derived/Test/ToyasCard.lean, 'card_holds'). Laid BY PROGRAM, IN A SANDBOX (cutbox-door.mjs). By AI agents, Wed Nov 11 2026. No macro, syntax, notation, axiom, sorry.
-/
import Derived.Test.YtffdfggfdmmjbaaDoorRows
import GoSem.ClaimSeven
namespace Go.Proofs.YtffdfggfdmmjbaaDoor
namespace Rows

/-- THE TIED CARD OF 'comitialaw01.BlakeSums'. -/
def blakeSumsCard : Claim7 := { stood := { row := blakeSumsRow, standIns := [], harness := (true, "59c6249fb4f4b648f99d4e917137f493304727b0dd8265b9d79f29d1e4668583"), looks := false }, kinds := [], alts := [], laidByText := true, laidKinds := [.data, .data, .data], laidTests := true, laidLooks := .later }
def BlakeSumsCardSaid : Prop := Claim7.holds Tryd.pinned (.plain (OpenSpec.ofChange blakeSumsSpec)) blakeSumsCard

/-- THE TIED CARD OF 'comitialaw01.BlakeKeyed'. -/
def blakeKeyedCard : Claim7 := { stood := { row := blakeKeyedRow, standIns := [], harness := (true, "59c6249fb4f4b648f99d4e917137f493304727b0dd8265b9d79f29d1e4668583"), looks := false }, kinds := [], alts := [], laidByText := true, laidKinds := [.data, .data, .data], laidTests := true, laidLooks := .later }
def BlakeKeyedCardSaid : Prop := Claim7.holds Tryd.pinned (.plain (OpenSpec.ofChange blakeKeyedSpec)) blakeKeyedCard

/-- THE TIED CARD OF 'comitialaw01.BlakeParts'. -/
def blakePartsCard : Claim7 := { stood := { row := blakePartsRow, standIns := [], harness := (true, "59c6249fb4f4b648f99d4e917137f493304727b0dd8265b9d79f29d1e4668583"), looks := false }, kinds := [], alts := [], laidByText := true, laidKinds := [.data, .data, .data], laidTests := true, laidLooks := .later }
def BlakePartsCardSaid : Prop := Claim7.holds Tryd.pinned (.plain (OpenSpec.ofChange blakePartsSpec)) blakePartsCard

/-- THE TIED CARD OF 'comitialaw01.BlakeBlocks'. -/
def blakeBlocksCard : Claim7 := { stood := { row := blakeBlocksRow, standIns := [], harness := (true, "59c6249fb4f4b648f99d4e917137f493304727b0dd8265b9d79f29d1e4668583"), looks := false }, kinds := [], alts := [], laidByText := true, laidKinds := [.data, .data, .data], laidTests := true, laidLooks := .later }
def BlakeBlocksCardSaid : Prop := Claim7.holds Tryd.pinned (.plain (OpenSpec.ofChange blakeBlocksSpec)) blakeBlocksCard

/-- THE TIED CARD OF 'comitialaw01.BlakeApart'. -/
def blakeApartCard : Claim7 := { stood := { row := blakeApartRow, standIns := [], harness := (true, "59c6249fb4f4b648f99d4e917137f493304727b0dd8265b9d79f29d1e4668583"), looks := false }, kinds := [], alts := [], laidByText := true, laidKinds := [.data, .data, .data], laidTests := true, laidLooks := .later }
def BlakeApartCardSaid : Prop := Claim7.holds Tryd.pinned (.plain (OpenSpec.ofChange blakeApartSpec)) blakeApartCard

/-- THE SECOND FORM's CARD OF 'comitialaw01.BlakeSums'. -/
def blakeSumsUptoCard : Claim7 := { stood := { row := blakeSumsUptoRow, standIns := [], harness := (true, "59c6249fb4f4b648f99d4e917137f493304727b0dd8265b9d79f29d1e4668583"), looks := false }, kinds := [], alts := [], laidByText := true, laidKinds := [.data, .data, .data], laidTests := true, laidLooks := .later }
def BlakeSumsUptoCardSaid : Prop := Claim7.holds Tryd.pinned (.plain (OpenSpec.upto blakeSumsSpec)) blakeSumsUptoCard

/-- THE SECOND FORM's CARD OF 'comitialaw01.BlakeKeyed'. -/
def blakeKeyedUptoCard : Claim7 := { stood := { row := blakeKeyedUptoRow, standIns := [], harness := (true, "59c6249fb4f4b648f99d4e917137f493304727b0dd8265b9d79f29d1e4668583"), looks := false }, kinds := [], alts := [], laidByText := true, laidKinds := [.data, .data, .data], laidTests := true, laidLooks := .later }
def BlakeKeyedUptoCardSaid : Prop := Claim7.holds Tryd.pinned (.plain (OpenSpec.upto blakeKeyedSpec)) blakeKeyedUptoCard

/-- THE SECOND FORM's CARD OF 'comitialaw01.BlakeParts'. -/
def blakePartsUptoCard : Claim7 := { stood := { row := blakePartsUptoRow, standIns := [], harness := (true, "59c6249fb4f4b648f99d4e917137f493304727b0dd8265b9d79f29d1e4668583"), looks := false }, kinds := [], alts := [], laidByText := true, laidKinds := [.data, .data, .data], laidTests := true, laidLooks := .later }
def BlakePartsUptoCardSaid : Prop := Claim7.holds Tryd.pinned (.plain (OpenSpec.upto blakePartsSpec)) blakePartsUptoCard

/-- THE SECOND FORM's CARD OF 'comitialaw01.BlakeBlocks'. -/
def blakeBlocksUptoCard : Claim7 := { stood := { row := blakeBlocksUptoRow, standIns := [], harness := (true, "59c6249fb4f4b648f99d4e917137f493304727b0dd8265b9d79f29d1e4668583"), looks := false }, kinds := [], alts := [], laidByText := true, laidKinds := [.data, .data, .data], laidTests := true, laidLooks := .later }
def BlakeBlocksUptoCardSaid : Prop := Claim7.holds Tryd.pinned (.plain (OpenSpec.upto blakeBlocksSpec)) blakeBlocksUptoCard

/-- THE SECOND FORM's CARD OF 'comitialaw01.BlakeApart'. -/
def blakeApartUptoCard : Claim7 := { stood := { row := blakeApartUptoRow, standIns := [], harness := (true, "59c6249fb4f4b648f99d4e917137f493304727b0dd8265b9d79f29d1e4668583"), looks := false }, kinds := [], alts := [], laidByText := true, laidKinds := [.data, .data, .data], laidTests := true, laidLooks := .later }
def BlakeApartUptoCardSaid : Prop := Claim7.holds Tryd.pinned (.plain (OpenSpec.upto blakeApartSpec)) blakeApartUptoCard
end Rows
end Go.Proofs.YtffdfggfdmmjbaaDoor
