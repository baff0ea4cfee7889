/-
  DERIVED. GIVEN WITH THE SEED: THE CARDS: each row of YtigoaokpodggcaaDoorRows.lean that lists a variable, with what it lists TIED to the program's text (the seventh form; the later family's looks); each row that meets fmt, with fmt's text TOLD by the authors' own Lean function (tested against real Go, not proved from fmt's source: count such statements apart). THE CARD IS WHAT COUNTS. Prove the row's statement (the work); the ties are given (YtigoaokpodggcaaDoorTie.lean); close each card by the builder's one call (the guide's Derived/Test/ToyasCard.lean, 'card_holds'). Laid BY PROGRAM, IN A SANDBOX (cutbox-door.mjs). By AI agents, Wed Nov 11 2026. No macro, syntax, notation, axiom, sorry.
-/
import Derived.Test.YtigoaokpodggcaaDoorRows
import GoSem.ClaimSeven
namespace Go.Proofs.YtigoaokpodggcaaDoor
namespace Rows

/-- THE TIED CARD OF 'comitialaw05.CertHolds'. -/
def certHoldsCard : Claim7 := { stood := { row := certHoldsRow, standIns := [], harness := (true, "b5ff8c97cc87676a18cce96c26836870c400e1bdb11dee1a350543257116f9c5"), looks := false }, kinds := [], alts := [], laidByText := true, laidKinds := [.data, .data, .data], laidTests := true, laidLooks := .later }
def CertHoldsCardSaid : Prop := Claim7.holds Tryd.pinned (.plain (OpenSpec.ofChange certHoldsSpec)) certHoldsCard

/-- THE TIED CARD OF 'comitialaw05.CertMakes'. -/
def certMakesCard : Claim7 := { stood := { row := certMakesRow, standIns := [], harness := (true, "b5ff8c97cc87676a18cce96c26836870c400e1bdb11dee1a350543257116f9c5"), looks := false }, kinds := [], alts := [], laidByText := true, laidKinds := [.data, .data, .data], laidTests := true, laidLooks := .later }
def CertMakesCardSaid : Prop := Claim7.holds Tryd.pinned (.plain (OpenSpec.ofChange certMakesSpec)) certMakesCard

/-- THE TIED CARD OF 'comitialaw05.CertTrue'. -/
def certTrueCard : Claim7 := { stood := { row := certTrueRow, standIns := [], harness := (true, "b5ff8c97cc87676a18cce96c26836870c400e1bdb11dee1a350543257116f9c5"), looks := false }, kinds := [], alts := [], laidByText := true, laidKinds := [.data, .data, .data], laidTests := true, laidLooks := .later }
def CertTrueCardSaid : Prop := Claim7.holds Tryd.pinned (.plain (OpenSpec.ofChange certTrueSpec)) certTrueCard

/-- THE TIED CARD OF 'comitialaw05.CertShares'. -/
def certSharesCard : Claim7 := { stood := { row := certSharesRow, standIns := [], harness := (true, "b5ff8c97cc87676a18cce96c26836870c400e1bdb11dee1a350543257116f9c5"), looks := false }, kinds := [], alts := [], laidByText := true, laidKinds := [.data, .data, .data], laidTests := true, laidLooks := .later }
def CertSharesCardSaid : Prop := Claim7.holds Tryd.pinned (.plain (OpenSpec.ofChange certSharesSpec)) certSharesCard

/-- THE TIED CARD OF 'comitialaw05.CertFirst'. -/
def certFirstCard : Claim7 := { stood := { row := certFirstRow, standIns := [], harness := (true, "b5ff8c97cc87676a18cce96c26836870c400e1bdb11dee1a350543257116f9c5"), looks := false }, kinds := [], alts := [], laidByText := true, laidKinds := [.data, .data, .data], laidTests := true, laidLooks := .later }
def CertFirstCardSaid : Prop := Claim7.holds Tryd.pinned (.plain (OpenSpec.ofChange certFirstSpec)) certFirstCard

/-- THE SECOND FORM's CARD OF 'comitialaw05.CertHolds'. -/
def certHoldsUptoCard : Claim7 := { stood := { row := certHoldsUptoRow, standIns := [], harness := (true, "b5ff8c97cc87676a18cce96c26836870c400e1bdb11dee1a350543257116f9c5"), looks := false }, kinds := [], alts := [], laidByText := true, laidKinds := [.data, .data, .data], laidTests := true, laidLooks := .later }
def CertHoldsUptoCardSaid : Prop := Claim7.holds Tryd.pinned (.plain (OpenSpec.upto certHoldsSpec)) certHoldsUptoCard

/-- THE SECOND FORM's CARD OF 'comitialaw05.CertMakes'. -/
def certMakesUptoCard : Claim7 := { stood := { row := certMakesUptoRow, standIns := [], harness := (true, "b5ff8c97cc87676a18cce96c26836870c400e1bdb11dee1a350543257116f9c5"), looks := false }, kinds := [], alts := [], laidByText := true, laidKinds := [.data, .data, .data], laidTests := true, laidLooks := .later }
def CertMakesUptoCardSaid : Prop := Claim7.holds Tryd.pinned (.plain (OpenSpec.upto certMakesSpec)) certMakesUptoCard

/-- THE SECOND FORM's CARD OF 'comitialaw05.CertTrue'. -/
def certTrueUptoCard : Claim7 := { stood := { row := certTrueUptoRow, standIns := [], harness := (true, "b5ff8c97cc87676a18cce96c26836870c400e1bdb11dee1a350543257116f9c5"), looks := false }, kinds := [], alts := [], laidByText := true, laidKinds := [.data, .data, .data], laidTests := true, laidLooks := .later }
def CertTrueUptoCardSaid : Prop := Claim7.holds Tryd.pinned (.plain (OpenSpec.upto certTrueSpec)) certTrueUptoCard

/-- THE SECOND FORM's CARD OF 'comitialaw05.CertShares'. -/
def certSharesUptoCard : Claim7 := { stood := { row := certSharesUptoRow, standIns := [], harness := (true, "b5ff8c97cc87676a18cce96c26836870c400e1bdb11dee1a350543257116f9c5"), looks := false }, kinds := [], alts := [], laidByText := true, laidKinds := [.data, .data, .data], laidTests := true, laidLooks := .later }
def CertSharesUptoCardSaid : Prop := Claim7.holds Tryd.pinned (.plain (OpenSpec.upto certSharesSpec)) certSharesUptoCard

/-- THE SECOND FORM's CARD OF 'comitialaw05.CertFirst'. -/
def certFirstUptoCard : Claim7 := { stood := { row := certFirstUptoRow, standIns := [], harness := (true, "b5ff8c97cc87676a18cce96c26836870c400e1bdb11dee1a350543257116f9c5"), looks := false }, kinds := [], alts := [], laidByText := true, laidKinds := [.data, .data, .data], laidTests := true, laidLooks := .later }
def CertFirstUptoCardSaid : Prop := Claim7.holds Tryd.pinned (.plain (OpenSpec.upto certFirstSpec)) certFirstUptoCard
end Rows
end Go.Proofs.YtigoaokpodggcaaDoor
