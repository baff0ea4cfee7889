/-
  DERIVED. GIVEN WITH THE SEED: THE CARDS: each row of YtlpnggdghmccjaaDoorRows.lean that lists a variable, with what it lists TIED to the program's text (the seventh form; the later family's looks); each row that meets fmt, with fmt's text TOLD by the authors' own Lean function (tested against real Go, not proved from fmt's source: count such statements apart). THE CARD IS WHAT COUNTS. Prove the row's statement (the work); the ties are given (YtlpnggdghmccjaaDoorTie.lean); close each card by the builder's one call (the guide's Derived/Test/ToyasCard.lean, 'card_holds'). Laid BY PROGRAM, IN A SANDBOX (cutbox-door.mjs). By AI agents, Wed Nov 11 2026. No macro, syntax, notation, axiom, sorry.
-/
import Derived.Test.YtlpnggdghmccjaaDoorRows
import GoSem.ClaimSeven
namespace Go.Proofs.YtlpnggdghmccjaaDoor
namespace Rows

/-- THE TIED CARD OF 'comitialaw08.RuleLearns'. -/
def ruleLearnsCard : Claim7 := { stood := { row := ruleLearnsRow, standIns := [], harness := (true, "6c315a472f35d1ad6b1a9da76ffe130b9f0276d10d4180b5d8f1689ac7a0f532"), looks := false }, kinds := [], alts := [], laidByText := true, laidKinds := [.data, .data, .data], laidTests := true, laidLooks := .later }
def RuleLearnsCardSaid : Prop := Claim7.holds Tryd.pinned (.plain (OpenSpec.ofChange ruleLearnsSpec)) ruleLearnsCard

/-- THE SECOND FORM's CARD OF 'comitialaw08.RuleLearns'. -/
def ruleLearnsUptoCard : Claim7 := { stood := { row := ruleLearnsUptoRow, standIns := [], harness := (true, "6c315a472f35d1ad6b1a9da76ffe130b9f0276d10d4180b5d8f1689ac7a0f532"), looks := false }, kinds := [], alts := [], laidByText := true, laidKinds := [.data, .data, .data], laidTests := true, laidLooks := .later }
def RuleLearnsUptoCardSaid : Prop := Claim7.holds Tryd.pinned (.plain (OpenSpec.upto ruleLearnsSpec)) ruleLearnsUptoCard
end Rows
end Go.Proofs.YtlpnggdghmccjaaDoor
