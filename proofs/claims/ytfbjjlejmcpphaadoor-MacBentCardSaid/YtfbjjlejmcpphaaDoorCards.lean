/-
  DERIVED. GIVEN WITH THE SEED: THE CARDS: each row of YtfbjjlejmcpphaaDoorRows.lean that lists a variable, with what it lists TIED to the program's text (the seventh form; the later family's looks); each row that meets fmt, with fmt's text TOLD by the authors' own Lean function (tested against real Go, not proved from fmt's source: count such statements apart). THE CARD IS WHAT COUNTS. Prove the row's statement (the work); the ties are given (YtfbjjlejmcpphaaDoorTie.lean); close each card by the builder's one call (the guide's Derived/Test/ToyasCard.lean, 'card_holds'). Laid BY PROGRAM, IN A SANDBOX (cutbox-door.mjs). By AI agents, Wed Nov 11 2026. No macro, syntax, notation, axiom, sorry.
-/
import Derived.Test.YtfbjjlejmcpphaaDoorRows
import GoSem.ClaimSeven
namespace Go.Proofs.YtfbjjlejmcpphaaDoor
namespace Rows

/-- THE TIED CARD OF 'comitialaw03.MacKeys'. -/
def macKeysCard : Claim7 := { stood := { row := macKeysRow, standIns := [], harness := (true, "2e41606672a16c0cddaa8cbee1e06294d80851ee9e3f0718e8d67bffdffeca31"), looks := false }, kinds := [], alts := [], laidByText := true, laidKinds := [.data, .data, .data], laidTests := true, laidLooks := .later }
def MacKeysCardSaid : Prop := Claim7.holds Tryd.pinned (.plain (OpenSpec.ofChange macKeysSpec)) macKeysCard

/-- THE TIED CARD OF 'comitialaw03.MacSigns'. -/
def macSignsCard : Claim7 := { stood := { row := macSignsRow, standIns := [], harness := (true, "2e41606672a16c0cddaa8cbee1e06294d80851ee9e3f0718e8d67bffdffeca31"), looks := false }, kinds := [], alts := [], laidByText := true, laidKinds := [.data, .data, .data], laidTests := true, laidLooks := .later }
def MacSignsCardSaid : Prop := Claim7.holds Tryd.pinned (.plain (OpenSpec.ofChange macSignsSpec)) macSignsCard

/-- THE TIED CARD OF 'comitialaw03.MacHolds'. -/
def macHoldsCard : Claim7 := { stood := { row := macHoldsRow, standIns := [], harness := (true, "2e41606672a16c0cddaa8cbee1e06294d80851ee9e3f0718e8d67bffdffeca31"), looks := false }, kinds := [], alts := [], laidByText := true, laidKinds := [.data, .data, .data], laidTests := true, laidLooks := .later }
def MacHoldsCardSaid : Prop := Claim7.holds Tryd.pinned (.plain (OpenSpec.ofChange macHoldsSpec)) macHoldsCard

/-- THE TIED CARD OF 'comitialaw03.MacBent'. -/
def macBentCard : Claim7 := { stood := { row := macBentRow, standIns := [], harness := (true, "2e41606672a16c0cddaa8cbee1e06294d80851ee9e3f0718e8d67bffdffeca31"), looks := false }, kinds := [], alts := [], laidByText := true, laidKinds := [.data, .data, .data], laidTests := true, laidLooks := .later }
def MacBentCardSaid : Prop := Claim7.holds Tryd.pinned (.plain (OpenSpec.ofChange macBentSpec)) macBentCard

/-- THE SECOND FORM's CARD OF 'comitialaw03.MacKeys'. -/
def macKeysUptoCard : Claim7 := { stood := { row := macKeysUptoRow, standIns := [], harness := (true, "2e41606672a16c0cddaa8cbee1e06294d80851ee9e3f0718e8d67bffdffeca31"), looks := false }, kinds := [], alts := [], laidByText := true, laidKinds := [.data, .data, .data], laidTests := true, laidLooks := .later }
def MacKeysUptoCardSaid : Prop := Claim7.holds Tryd.pinned (.plain (OpenSpec.upto macKeysSpec)) macKeysUptoCard

/-- THE SECOND FORM's CARD OF 'comitialaw03.MacSigns'. -/
def macSignsUptoCard : Claim7 := { stood := { row := macSignsUptoRow, standIns := [], harness := (true, "2e41606672a16c0cddaa8cbee1e06294d80851ee9e3f0718e8d67bffdffeca31"), looks := false }, kinds := [], alts := [], laidByText := true, laidKinds := [.data, .data, .data], laidTests := true, laidLooks := .later }
def MacSignsUptoCardSaid : Prop := Claim7.holds Tryd.pinned (.plain (OpenSpec.upto macSignsSpec)) macSignsUptoCard

/-- THE SECOND FORM's CARD OF 'comitialaw03.MacHolds'. -/
def macHoldsUptoCard : Claim7 := { stood := { row := macHoldsUptoRow, standIns := [], harness := (true, "2e41606672a16c0cddaa8cbee1e06294d80851ee9e3f0718e8d67bffdffeca31"), looks := false }, kinds := [], alts := [], laidByText := true, laidKinds := [.data, .data, .data], laidTests := true, laidLooks := .later }
def MacHoldsUptoCardSaid : Prop := Claim7.holds Tryd.pinned (.plain (OpenSpec.upto macHoldsSpec)) macHoldsUptoCard

/-- THE SECOND FORM's CARD OF 'comitialaw03.MacBent'. -/
def macBentUptoCard : Claim7 := { stood := { row := macBentUptoRow, standIns := [], harness := (true, "2e41606672a16c0cddaa8cbee1e06294d80851ee9e3f0718e8d67bffdffeca31"), looks := false }, kinds := [], alts := [], laidByText := true, laidKinds := [.data, .data, .data], laidTests := true, laidLooks := .later }
def MacBentUptoCardSaid : Prop := Claim7.holds Tryd.pinned (.plain (OpenSpec.upto macBentSpec)) macBentUptoCard
end Rows
end Go.Proofs.YtfbjjlejmcpphaaDoor
