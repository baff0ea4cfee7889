/-
  DERIVED. GIVEN WITH THE SEED: THE CARDS: each row of YtbakceglaadfpaaDoorRows.lean that lists a variable, with what it lists TIED to the program's text (the seventh form; the later family's looks); each row that meets fmt, with fmt's text TOLD by the authors' own Lean function (tested against real Go, not proved from fmt's source: count such statements apart). THE CARD IS WHAT COUNTS. Prove the row's statement (the work); the ties are given (YtbakceglaadfpaaDoorTie.lean); close each card by the builder's one call (the guide's Derived/Test/ToyasCard.lean, 'card_holds'). Laid BY PROGRAM, IN A SANDBOX (cutbox-door.mjs). By AI agents, Wed Nov 11 2026. No macro, syntax, notation, axiom, sorry.
-/
import Derived.Test.YtbakceglaadfpaaDoorRows
import GoSem.ClaimSeven
namespace Go.Proofs.YtbakceglaadfpaaDoor
namespace Rows

/-- THE TIED CARD OF 'comitialaw13.LedgerApplies'. -/
def ledgerAppliesCard : Claim7 := { stood := { row := ledgerAppliesRow, standIns := [], harness := (true, "da2dbdef76be9fe2f9534ec85a32921c8cb80053f3457f177f501a2e5c898654"), looks := false }, kinds := [], alts := [], laidByText := true, laidKinds := [.data, .data, .data], laidTests := true, laidLooks := .later }
def LedgerAppliesCardSaid : Prop := Claim7.holds Tryd.pinned (.plain (OpenSpec.ofChange ledgerAppliesSpec)) ledgerAppliesCard

/-- THE TIED CARD OF 'comitialaw13.LedgerDigests'. -/
def ledgerDigestsCard : Claim7 := { stood := { row := ledgerDigestsRow, standIns := [], harness := (true, "da2dbdef76be9fe2f9534ec85a32921c8cb80053f3457f177f501a2e5c898654"), looks := false }, kinds := [], alts := [], laidByText := true, laidKinds := [.data, .data, .data], laidTests := true, laidLooks := .later }
def LedgerDigestsCardSaid : Prop := Claim7.holds Tryd.pinned (.plain (OpenSpec.ofChange ledgerDigestsSpec)) ledgerDigestsCard

/-- THE TIED CARD OF 'comitialaw13.LedgerAgain'. -/
def ledgerAgainCard : Claim7 := { stood := { row := ledgerAgainRow, standIns := [], harness := (true, "da2dbdef76be9fe2f9534ec85a32921c8cb80053f3457f177f501a2e5c898654"), looks := false }, kinds := [], alts := [], laidByText := true, laidKinds := [.data, .data, .data], laidTests := true, laidLooks := .later }
def LedgerAgainCardSaid : Prop := Claim7.holds Tryd.pinned (.plain (OpenSpec.ofChange ledgerAgainSpec)) ledgerAgainCard

/-- THE TIED CARD OF 'comitialaw13.LedgerParts'. -/
def ledgerPartsCard : Claim7 := { stood := { row := ledgerPartsRow, standIns := [], harness := (true, "da2dbdef76be9fe2f9534ec85a32921c8cb80053f3457f177f501a2e5c898654"), looks := false }, kinds := [], alts := [], laidByText := true, laidKinds := [.data, .data, .data], laidTests := true, laidLooks := .later }
def LedgerPartsCardSaid : Prop := Claim7.holds Tryd.pinned (.plain (OpenSpec.ofChange ledgerPartsSpec)) ledgerPartsCard

/-- THE SECOND FORM's CARD OF 'comitialaw13.LedgerApplies'. -/
def ledgerAppliesUptoCard : Claim7 := { stood := { row := ledgerAppliesUptoRow, standIns := [], harness := (true, "da2dbdef76be9fe2f9534ec85a32921c8cb80053f3457f177f501a2e5c898654"), looks := false }, kinds := [], alts := [], laidByText := true, laidKinds := [.data, .data, .data], laidTests := true, laidLooks := .later }
def LedgerAppliesUptoCardSaid : Prop := Claim7.holds Tryd.pinned (.plain (OpenSpec.upto ledgerAppliesSpec)) ledgerAppliesUptoCard

/-- THE SECOND FORM's CARD OF 'comitialaw13.LedgerDigests'. -/
def ledgerDigestsUptoCard : Claim7 := { stood := { row := ledgerDigestsUptoRow, standIns := [], harness := (true, "da2dbdef76be9fe2f9534ec85a32921c8cb80053f3457f177f501a2e5c898654"), looks := false }, kinds := [], alts := [], laidByText := true, laidKinds := [.data, .data, .data], laidTests := true, laidLooks := .later }
def LedgerDigestsUptoCardSaid : Prop := Claim7.holds Tryd.pinned (.plain (OpenSpec.upto ledgerDigestsSpec)) ledgerDigestsUptoCard

/-- THE SECOND FORM's CARD OF 'comitialaw13.LedgerAgain'. -/
def ledgerAgainUptoCard : Claim7 := { stood := { row := ledgerAgainUptoRow, standIns := [], harness := (true, "da2dbdef76be9fe2f9534ec85a32921c8cb80053f3457f177f501a2e5c898654"), looks := false }, kinds := [], alts := [], laidByText := true, laidKinds := [.data, .data, .data], laidTests := true, laidLooks := .later }
def LedgerAgainUptoCardSaid : Prop := Claim7.holds Tryd.pinned (.plain (OpenSpec.upto ledgerAgainSpec)) ledgerAgainUptoCard

/-- THE SECOND FORM's CARD OF 'comitialaw13.LedgerParts'. -/
def ledgerPartsUptoCard : Claim7 := { stood := { row := ledgerPartsUptoRow, standIns := [], harness := (true, "da2dbdef76be9fe2f9534ec85a32921c8cb80053f3457f177f501a2e5c898654"), looks := false }, kinds := [], alts := [], laidByText := true, laidKinds := [.data, .data, .data], laidTests := true, laidLooks := .later }
def LedgerPartsUptoCardSaid : Prop := Claim7.holds Tryd.pinned (.plain (OpenSpec.upto ledgerPartsSpec)) ledgerPartsUptoCard
end Rows
end Go.Proofs.YtbakceglaadfpaaDoor
