/-
  DERIVED. GIVEN WITH THE SEED: THE CARDS: each row of YtegkhhegapnkpaaDoorRows.lean that lists a variable, with what it lists TIED to the program's text (the seventh form; the later family's looks); each row that meets fmt, with fmt's text TOLD by the authors' own Lean function (tested against real Go, not proved from fmt's source: count such statements apart). THE CARD IS WHAT COUNTS. Prove the row's statement (the work); the ties are given (YtegkhhegapnkpaaDoorTie.lean); close each card by the builder's one call (the guide's Derived/Test/ToyasCard.lean, 'card_holds'). Laid BY PROGRAM, IN A SANDBOX (cutbox-door.mjs). By AI agents, Wed Nov 11 2026. No macro, syntax, notation, axiom, sorry.
-/
import Derived.Test.YtegkhhegapnkpaaDoorRows
import GoSem.ClaimSeven
namespace Go.Proofs.YtegkhhegapnkpaaDoor
namespace Rows

/-- THE TIED CARD OF 'comitialaw06.BlockMakes'. -/
def blockMakesCard : Claim7 := { stood := { row := blockMakesRow, standIns := [], harness := (true, "2335645c28b484fd27bc33afeb14e6d37777449edfbfabd086fc1d450cf4e220"), looks := false }, kinds := [], alts := [], laidByText := true, laidKinds := [.data, .data, .data], laidTests := true, laidLooks := .later }
def BlockMakesCardSaid : Prop := Claim7.holds Tryd.pinned (.plain (OpenSpec.ofChange blockMakesSpec)) blockMakesCard

/-- THE TIED CARD OF 'comitialaw07.ForestFull'. -/
def forestFullCard : Claim7 := { stood := { row := forestFullRow, standIns := [], harness := (true, "2335645c28b484fd27bc33afeb14e6d37777449edfbfabd086fc1d450cf4e220"), looks := false }, kinds := [], alts := [], laidByText := true, laidKinds := [.data, .data, .data], laidTests := true, laidLooks := .later }
def ForestFullCardSaid : Prop := Claim7.holds Tryd.pinned (.plain (OpenSpec.ofChange forestFullSpec)) forestFullCard

/-- THE TIED CARD OF 'comitialaw07.ForestPlays'. -/
def forestPlaysCard : Claim7 := { stood := { row := forestPlaysRow, standIns := [], harness := (true, "2335645c28b484fd27bc33afeb14e6d37777449edfbfabd086fc1d450cf4e220"), looks := false }, kinds := [], alts := [], laidByText := true, laidKinds := [.data, .data, .data], laidTests := true, laidLooks := .later }
def ForestPlaysCardSaid : Prop := Claim7.holds Tryd.pinned (.plain (OpenSpec.ofChange forestPlaysSpec)) forestPlaysCard

/-- THE TIED CARD OF 'comitialaw07.ForestPaths'. -/
def forestPathsCard : Claim7 := { stood := { row := forestPathsRow, standIns := [], harness := (true, "2335645c28b484fd27bc33afeb14e6d37777449edfbfabd086fc1d450cf4e220"), looks := false }, kinds := [], alts := [], laidByText := true, laidKinds := [.data, .data, .data], laidTests := true, laidLooks := .later }
def ForestPathsCardSaid : Prop := Claim7.holds Tryd.pinned (.plain (OpenSpec.ofChange forestPathsSpec)) forestPathsCard

/-- THE TIED CARD OF 'comitialaw08.RuleLearns'. -/
def ruleLearnsCard : Claim7 := { stood := { row := ruleLearnsRow, standIns := [], harness := (true, "2335645c28b484fd27bc33afeb14e6d37777449edfbfabd086fc1d450cf4e220"), looks := false }, kinds := [], alts := [], laidByText := true, laidKinds := [.data, .data, .data], laidTests := true, laidLooks := .later }
def RuleLearnsCardSaid : Prop := Claim7.holds Tryd.pinned (.plain (OpenSpec.ofChange ruleLearnsSpec)) ruleLearnsCard

/-- THE TIED CARD OF 'comitialaw11.KeepOnce'. -/
def keepOnceCard : Claim7 := { stood := { row := keepOnceRow, standIns := [], harness := (true, "2335645c28b484fd27bc33afeb14e6d37777449edfbfabd086fc1d450cf4e220"), looks := false }, kinds := [], alts := [], laidByText := true, laidKinds := [.data, .data, .data], laidTests := true, laidLooks := .later }
def KeepOnceCardSaid : Prop := Claim7.holds Tryd.pinned (.plain (OpenSpec.ofChange keepOnceSpec)) keepOnceCard

/-- THE TIED CARD OF 'comitialaw11.KeepBegins'. -/
def keepBeginsCard : Claim7 := { stood := { row := keepBeginsRow, standIns := [], harness := (true, "2335645c28b484fd27bc33afeb14e6d37777449edfbfabd086fc1d450cf4e220"), looks := false }, kinds := [], alts := [], laidByText := true, laidKinds := [.data, .data, .data], laidTests := true, laidLooks := .later }
def KeepBeginsCardSaid : Prop := Claim7.holds Tryd.pinned (.plain (OpenSpec.ofChange keepBeginsSpec)) keepBeginsCard

/-- THE TIED CARD OF 'comitialaw14.TallyPlays'. -/
def tallyPlaysCard : Claim7 := { stood := { row := tallyPlaysRow, standIns := [], harness := (true, "2335645c28b484fd27bc33afeb14e6d37777449edfbfabd086fc1d450cf4e220"), looks := false }, kinds := [], alts := [], laidByText := true, laidKinds := [.data, .data, .data], laidTests := true, laidLooks := .later }
def TallyPlaysCardSaid : Prop := Claim7.holds Tryd.pinned (.plain (OpenSpec.ofChange tallyPlaysSpec)) tallyPlaysCard

/-- THE TIED CARD OF 'comitialaw14.TallyCerts'. -/
def tallyCertsCard : Claim7 := { stood := { row := tallyCertsRow, standIns := [], harness := (true, "2335645c28b484fd27bc33afeb14e6d37777449edfbfabd086fc1d450cf4e220"), looks := false }, kinds := [], alts := [], laidByText := true, laidKinds := [.data, .data, .data], laidTests := true, laidLooks := .later }
def TallyCertsCardSaid : Prop := Claim7.holds Tryd.pinned (.plain (OpenSpec.ofChange tallyCertsSpec)) tallyCertsCard

/-- THE TIED CARD OF 'comitialaw14.TallyAll'. -/
def tallyAllCard : Claim7 := { stood := { row := tallyAllRow, standIns := [], harness := (true, "2335645c28b484fd27bc33afeb14e6d37777449edfbfabd086fc1d450cf4e220"), looks := false }, kinds := [], alts := [], laidByText := true, laidKinds := [.data, .data, .data], laidTests := true, laidLooks := .later }
def TallyAllCardSaid : Prop := Claim7.holds Tryd.pinned (.plain (OpenSpec.ofChange tallyAllSpec)) tallyAllCard

/-- THE SECOND FORM's CARD OF 'comitialaw06.BlockMakes'. -/
def blockMakesUptoCard : Claim7 := { stood := { row := blockMakesUptoRow, standIns := [], harness := (true, "2335645c28b484fd27bc33afeb14e6d37777449edfbfabd086fc1d450cf4e220"), looks := false }, kinds := [], alts := [], laidByText := true, laidKinds := [.data, .data, .data], laidTests := true, laidLooks := .later }
def BlockMakesUptoCardSaid : Prop := Claim7.holds Tryd.pinned (.plain (OpenSpec.upto blockMakesSpec)) blockMakesUptoCard

/-- THE SECOND FORM's CARD OF 'comitialaw07.ForestFull'. -/
def forestFullUptoCard : Claim7 := { stood := { row := forestFullUptoRow, standIns := [], harness := (true, "2335645c28b484fd27bc33afeb14e6d37777449edfbfabd086fc1d450cf4e220"), looks := false }, kinds := [], alts := [], laidByText := true, laidKinds := [.data, .data, .data], laidTests := true, laidLooks := .later }
def ForestFullUptoCardSaid : Prop := Claim7.holds Tryd.pinned (.plain (OpenSpec.upto forestFullSpec)) forestFullUptoCard

/-- THE SECOND FORM's CARD OF 'comitialaw07.ForestPlays'. -/
def forestPlaysUptoCard : Claim7 := { stood := { row := forestPlaysUptoRow, standIns := [], harness := (true, "2335645c28b484fd27bc33afeb14e6d37777449edfbfabd086fc1d450cf4e220"), looks := false }, kinds := [], alts := [], laidByText := true, laidKinds := [.data, .data, .data], laidTests := true, laidLooks := .later }
def ForestPlaysUptoCardSaid : Prop := Claim7.holds Tryd.pinned (.plain (OpenSpec.upto forestPlaysSpec)) forestPlaysUptoCard

/-- THE SECOND FORM's CARD OF 'comitialaw07.ForestPaths'. -/
def forestPathsUptoCard : Claim7 := { stood := { row := forestPathsUptoRow, standIns := [], harness := (true, "2335645c28b484fd27bc33afeb14e6d37777449edfbfabd086fc1d450cf4e220"), looks := false }, kinds := [], alts := [], laidByText := true, laidKinds := [.data, .data, .data], laidTests := true, laidLooks := .later }
def ForestPathsUptoCardSaid : Prop := Claim7.holds Tryd.pinned (.plain (OpenSpec.upto forestPathsSpec)) forestPathsUptoCard

/-- THE SECOND FORM's CARD OF 'comitialaw08.RuleLearns'. -/
def ruleLearnsUptoCard : Claim7 := { stood := { row := ruleLearnsUptoRow, standIns := [], harness := (true, "2335645c28b484fd27bc33afeb14e6d37777449edfbfabd086fc1d450cf4e220"), looks := false }, kinds := [], alts := [], laidByText := true, laidKinds := [.data, .data, .data], laidTests := true, laidLooks := .later }
def RuleLearnsUptoCardSaid : Prop := Claim7.holds Tryd.pinned (.plain (OpenSpec.upto ruleLearnsSpec)) ruleLearnsUptoCard

/-- THE SECOND FORM's CARD OF 'comitialaw11.KeepOnce'. -/
def keepOnceUptoCard : Claim7 := { stood := { row := keepOnceUptoRow, standIns := [], harness := (true, "2335645c28b484fd27bc33afeb14e6d37777449edfbfabd086fc1d450cf4e220"), looks := false }, kinds := [], alts := [], laidByText := true, laidKinds := [.data, .data, .data], laidTests := true, laidLooks := .later }
def KeepOnceUptoCardSaid : Prop := Claim7.holds Tryd.pinned (.plain (OpenSpec.upto keepOnceSpec)) keepOnceUptoCard

/-- THE SECOND FORM's CARD OF 'comitialaw11.KeepBegins'. -/
def keepBeginsUptoCard : Claim7 := { stood := { row := keepBeginsUptoRow, standIns := [], harness := (true, "2335645c28b484fd27bc33afeb14e6d37777449edfbfabd086fc1d450cf4e220"), looks := false }, kinds := [], alts := [], laidByText := true, laidKinds := [.data, .data, .data], laidTests := true, laidLooks := .later }
def KeepBeginsUptoCardSaid : Prop := Claim7.holds Tryd.pinned (.plain (OpenSpec.upto keepBeginsSpec)) keepBeginsUptoCard

/-- THE SECOND FORM's CARD OF 'comitialaw14.TallyPlays'. -/
def tallyPlaysUptoCard : Claim7 := { stood := { row := tallyPlaysUptoRow, standIns := [], harness := (true, "2335645c28b484fd27bc33afeb14e6d37777449edfbfabd086fc1d450cf4e220"), looks := false }, kinds := [], alts := [], laidByText := true, laidKinds := [.data, .data, .data], laidTests := true, laidLooks := .later }
def TallyPlaysUptoCardSaid : Prop := Claim7.holds Tryd.pinned (.plain (OpenSpec.upto tallyPlaysSpec)) tallyPlaysUptoCard

/-- THE SECOND FORM's CARD OF 'comitialaw14.TallyCerts'. -/
def tallyCertsUptoCard : Claim7 := { stood := { row := tallyCertsUptoRow, standIns := [], harness := (true, "2335645c28b484fd27bc33afeb14e6d37777449edfbfabd086fc1d450cf4e220"), looks := false }, kinds := [], alts := [], laidByText := true, laidKinds := [.data, .data, .data], laidTests := true, laidLooks := .later }
def TallyCertsUptoCardSaid : Prop := Claim7.holds Tryd.pinned (.plain (OpenSpec.upto tallyCertsSpec)) tallyCertsUptoCard

/-- THE SECOND FORM's CARD OF 'comitialaw14.TallyAll'. -/
def tallyAllUptoCard : Claim7 := { stood := { row := tallyAllUptoRow, standIns := [], harness := (true, "2335645c28b484fd27bc33afeb14e6d37777449edfbfabd086fc1d450cf4e220"), looks := false }, kinds := [], alts := [], laidByText := true, laidKinds := [.data, .data, .data], laidTests := true, laidLooks := .later }
def TallyAllUptoCardSaid : Prop := Claim7.holds Tryd.pinned (.plain (OpenSpec.upto tallyAllSpec)) tallyAllUptoCard
end Rows
end Go.Proofs.YtegkhhegapnkpaaDoor
