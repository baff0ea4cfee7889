/-
  NARROWER THAN 'FOR EVERY INPUT', by the rows' own cells (each row's printed sentence says how): BlockMakes: laid · ForestFull: laid · ForestPlays: laid · ForestPaths: laid · RuleLearns: laid · KeepOnce: laid · KeepBegins: laid · TallyPlays: laid · TallyCerts: laid · TallyAll: laid.
  DERIVED. THE GIVEN ROWS OF THIS SEAT. 10 by the template 'for every input the law returns true; each argument reads behind the call as it read before'; 0 by the template 'total and deterministic' (their statements: YtegkhhegapnkpaaDoorTotals.lean).
  GIVEN WITH THE SEED: the statements are not yours to turn. If you find one false, say at which input.
  Laid BY PROGRAM, IN A SANDBOX (cutbox-rows.mjs): the forced cells as the released guide's own fill.sh prints them over the translation f4cc0c79bdc6366a… (all of the seat's roots in one cut). By AI agents, Wed Nov 11 2026. No macro, syntax, notation, axiom, sorry.
-/
import Derived.Test.YtegkhhegapnkpaaDoorChecked
import GoSem.Claim
import GoSem.ClaimJoined
import GoSem.ClaimMapViews
import Derived.JoinedTies
import Derived.KernelRfl
namespace Go.Proofs.YtegkhhegapnkpaaDoor
/- THE CELL 'sum', in the pinned program and in every row, IS THE sha256 OF THE DUMP (.gsa) THAT YtegkhhegapnkpaaDoorProg.lean LOADS. Nothing in Lean hashes anything: it is a label: what it is worth is what the hold of that sum in a sandbox is worth. -/
noncomputable def Tryd.pinned : Pinned := { name := "ytegkhhegapnkpaadoor", sum := "f4cc0c79bdc6366a0b58c01fcdceb435429830df93e2a32753842444c2de9071", checked := Tryd.checked }
namespace Rows
def none {H : Type} : Left H := { results := [], args := [] }

/- WHAT THE LISTED PACKAGE-LEVEL VARIABLES READ AS WHEN THE CALL BEGINS. Each datum BY PROGRAM (the guide's laid-datum.mjs) off the statement by which the dump's own 'gosem.cut.vars' lays the variable. In a bare row this is a premise. The card (YtegkhhegapnkpaaDoorCards.lean) ties it to the program's text. -/
def laid_comitia_blake_start {H : Type} : DataW H := .agg [.lit (.int .u32 1779033703), .lit (.int .u32 3144134277), .lit (.int .u32 1013904242), .lit (.int .u32 2773480762), .lit (.int .u32 1359893119), .lit (.int .u32 2600822924), .lit (.int .u32 528734635), .lit (.int .u32 1541459225)]
def laid_comitia_blake_rows {H : Type} : DataW H := .agg [.agg [.lit (.int .u8 0), .lit (.int .u8 1), .lit (.int .u8 2), .lit (.int .u8 3), .lit (.int .u8 4), .lit (.int .u8 5), .lit (.int .u8 6), .lit (.int .u8 7), .lit (.int .u8 8), .lit (.int .u8 9), .lit (.int .u8 10), .lit (.int .u8 11), .lit (.int .u8 12), .lit (.int .u8 13), .lit (.int .u8 14), .lit (.int .u8 15)], .agg [.lit (.int .u8 14), .lit (.int .u8 10), .lit (.int .u8 4), .lit (.int .u8 8), .lit (.int .u8 9), .lit (.int .u8 15), .lit (.int .u8 13), .lit (.int .u8 6), .lit (.int .u8 1), .lit (.int .u8 12), .lit (.int .u8 0), .lit (.int .u8 2), .lit (.int .u8 11), .lit (.int .u8 7), .lit (.int .u8 5), .lit (.int .u8 3)], .agg [.lit (.int .u8 11), .lit (.int .u8 8), .lit (.int .u8 12), .lit (.int .u8 0), .lit (.int .u8 5), .lit (.int .u8 2), .lit (.int .u8 15), .lit (.int .u8 13), .lit (.int .u8 10), .lit (.int .u8 14), .lit (.int .u8 3), .lit (.int .u8 6), .lit (.int .u8 7), .lit (.int .u8 1), .lit (.int .u8 9), .lit (.int .u8 4)], .agg [.lit (.int .u8 7), .lit (.int .u8 9), .lit (.int .u8 3), .lit (.int .u8 1), .lit (.int .u8 13), .lit (.int .u8 12), .lit (.int .u8 11), .lit (.int .u8 14), .lit (.int .u8 2), .lit (.int .u8 6), .lit (.int .u8 5), .lit (.int .u8 10), .lit (.int .u8 4), .lit (.int .u8 0), .lit (.int .u8 15), .lit (.int .u8 8)], .agg [.lit (.int .u8 9), .lit (.int .u8 0), .lit (.int .u8 5), .lit (.int .u8 7), .lit (.int .u8 2), .lit (.int .u8 4), .lit (.int .u8 10), .lit (.int .u8 15), .lit (.int .u8 14), .lit (.int .u8 1), .lit (.int .u8 11), .lit (.int .u8 12), .lit (.int .u8 6), .lit (.int .u8 8), .lit (.int .u8 3), .lit (.int .u8 13)], .agg [.lit (.int .u8 2), .lit (.int .u8 12), .lit (.int .u8 6), .lit (.int .u8 10), .lit (.int .u8 0), .lit (.int .u8 11), .lit (.int .u8 8), .lit (.int .u8 3), .lit (.int .u8 4), .lit (.int .u8 13), .lit (.int .u8 7), .lit (.int .u8 5), .lit (.int .u8 15), .lit (.int .u8 14), .lit (.int .u8 1), .lit (.int .u8 9)], .agg [.lit (.int .u8 12), .lit (.int .u8 5), .lit (.int .u8 1), .lit (.int .u8 15), .lit (.int .u8 14), .lit (.int .u8 13), .lit (.int .u8 4), .lit (.int .u8 10), .lit (.int .u8 0), .lit (.int .u8 7), .lit (.int .u8 6), .lit (.int .u8 3), .lit (.int .u8 9), .lit (.int .u8 2), .lit (.int .u8 8), .lit (.int .u8 11)], .agg [.lit (.int .u8 13), .lit (.int .u8 11), .lit (.int .u8 7), .lit (.int .u8 14), .lit (.int .u8 12), .lit (.int .u8 1), .lit (.int .u8 3), .lit (.int .u8 9), .lit (.int .u8 5), .lit (.int .u8 0), .lit (.int .u8 15), .lit (.int .u8 4), .lit (.int .u8 8), .lit (.int .u8 6), .lit (.int .u8 2), .lit (.int .u8 10)], .agg [.lit (.int .u8 6), .lit (.int .u8 15), .lit (.int .u8 14), .lit (.int .u8 9), .lit (.int .u8 11), .lit (.int .u8 3), .lit (.int .u8 0), .lit (.int .u8 8), .lit (.int .u8 12), .lit (.int .u8 2), .lit (.int .u8 13), .lit (.int .u8 7), .lit (.int .u8 1), .lit (.int .u8 4), .lit (.int .u8 10), .lit (.int .u8 5)], .agg [.lit (.int .u8 10), .lit (.int .u8 2), .lit (.int .u8 8), .lit (.int .u8 4), .lit (.int .u8 7), .lit (.int .u8 6), .lit (.int .u8 1), .lit (.int .u8 5), .lit (.int .u8 15), .lit (.int .u8 11), .lit (.int .u8 9), .lit (.int .u8 14), .lit (.int .u8 3), .lit (.int .u8 12), .lit (.int .u8 13), .lit (.int .u8 0)]]
def laid_comitia_blake_places {H : Type} : DataW H := .agg [.agg [.lit (.int .u8 0), .lit (.int .u8 4), .lit (.int .u8 8), .lit (.int .u8 12)], .agg [.lit (.int .u8 1), .lit (.int .u8 5), .lit (.int .u8 9), .lit (.int .u8 13)], .agg [.lit (.int .u8 2), .lit (.int .u8 6), .lit (.int .u8 10), .lit (.int .u8 14)], .agg [.lit (.int .u8 3), .lit (.int .u8 7), .lit (.int .u8 11), .lit (.int .u8 15)], .agg [.lit (.int .u8 0), .lit (.int .u8 5), .lit (.int .u8 10), .lit (.int .u8 15)], .agg [.lit (.int .u8 1), .lit (.int .u8 6), .lit (.int .u8 11), .lit (.int .u8 12)], .agg [.lit (.int .u8 2), .lit (.int .u8 7), .lit (.int .u8 8), .lit (.int .u8 13)], .agg [.lit (.int .u8 3), .lit (.int .u8 4), .lit (.int .u8 9), .lit (.int .u8 14)]]

/-- 'comitialaw06.BlockMakes': WHATEVER THE INPUT: true; the input reads as it did. -/
def blockMakesSpec : ChangeSpec := { name := "blockMakes", fn := fun _ => fun
  | [d1, d2, d3] => { results := [.lit (.bool true)], args := [d1, d2, d3] }
  | _ => none }
def blockMakesRow : OpenClaim := { program := "ytegkhhegapnkpaadoor", sum := "f4cc0c79bdc6366a0b58c01fcdceb435429830df93e2a32753842444c2de9071", func := "comitia/comitialaw06.BlockMakes", spec := "blockMakes", inPlace := ["internal/abi.NoEscape"], unfollowed := true, recurses := true, named := ["comitia/blake.start", "comitia/blake.rows", "comitia/blake.places"], plainKeys := false, apart := false, laid := [("comitia/blake.start", laid_comitia_blake_start), ("comitia/blake.rows", laid_comitia_blake_rows), ("comitia/blake.places", laid_comitia_blake_places)] }
def BlockMakesSaid : Prop := blockMakesRow.holds Tryd.pinned (OpenSpec.ofChange blockMakesSpec)

/-- ITS FALSE NEIGHBOUR: 'it returns false'. Refute it at one input. -/
def blockMakesWrong : ChangeSpec := { name := "blockMakes", fn := fun _ => fun
  | [d1, d2, d3] => { results := [.lit (.bool false)], args := [d1, d2, d3] }
  | _ => none }
def BlockMakesWrongFalsely : Prop := blockMakesRow.holds Tryd.pinned (OpenSpec.ofChange blockMakesWrong)

/-- 'comitialaw07.ForestFull': WHATEVER THE INPUT: true; the input reads as it did. -/
def forestFullSpec : ChangeSpec := { name := "forestFull", fn := fun _ => fun
  | [d] => { results := [.lit (.bool true)], args := [d] }
  | _ => none }
def forestFullRow : OpenClaim := { program := "ytegkhhegapnkpaadoor", sum := "f4cc0c79bdc6366a0b58c01fcdceb435429830df93e2a32753842444c2de9071", func := "comitia/comitialaw07.ForestFull", spec := "forestFull", inPlace := ["internal/abi.NoEscape"], unfollowed := true, recurses := true, named := ["comitia/blake.start", "comitia/blake.rows", "comitia/blake.places"], plainKeys := false, apart := false, laid := [("comitia/blake.start", laid_comitia_blake_start), ("comitia/blake.rows", laid_comitia_blake_rows), ("comitia/blake.places", laid_comitia_blake_places)] }
def ForestFullSaid : Prop := forestFullRow.holds Tryd.pinned (OpenSpec.ofChange forestFullSpec)

/-- ITS FALSE NEIGHBOUR: 'it returns false'. Refute it at one input. -/
def forestFullWrong : ChangeSpec := { name := "forestFull", fn := fun _ => fun
  | [d] => { results := [.lit (.bool false)], args := [d] }
  | _ => none }
def ForestFullWrongFalsely : Prop := forestFullRow.holds Tryd.pinned (OpenSpec.ofChange forestFullWrong)

/-- 'comitialaw07.ForestPlays': WHATEVER THE INPUT: true; the input reads as it did. -/
def forestPlaysSpec : ChangeSpec := { name := "forestPlays", fn := fun _ => fun
  | [d1, d2, d3] => { results := [.lit (.bool true)], args := [d1, d2, d3] }
  | _ => none }
def forestPlaysRow : OpenClaim := { program := "ytegkhhegapnkpaadoor", sum := "f4cc0c79bdc6366a0b58c01fcdceb435429830df93e2a32753842444c2de9071", func := "comitia/comitialaw07.ForestPlays", spec := "forestPlays", inPlace := ["internal/abi.NoEscape"], unfollowed := true, recurses := true, named := ["comitia/blake.start", "comitia/blake.rows", "comitia/blake.places"], plainKeys := false, apart := false, laid := [("comitia/blake.start", laid_comitia_blake_start), ("comitia/blake.rows", laid_comitia_blake_rows), ("comitia/blake.places", laid_comitia_blake_places)] }
def ForestPlaysSaid : Prop := forestPlaysRow.holds Tryd.pinned (OpenSpec.ofChange forestPlaysSpec)

/-- ITS FALSE NEIGHBOUR: 'it returns false'. Refute it at one input. -/
def forestPlaysWrong : ChangeSpec := { name := "forestPlays", fn := fun _ => fun
  | [d1, d2, d3] => { results := [.lit (.bool false)], args := [d1, d2, d3] }
  | _ => none }
def ForestPlaysWrongFalsely : Prop := forestPlaysRow.holds Tryd.pinned (OpenSpec.ofChange forestPlaysWrong)

/-- 'comitialaw07.ForestPaths': WHATEVER THE INPUT: true; the input reads as it did. -/
def forestPathsSpec : ChangeSpec := { name := "forestPaths", fn := fun _ => fun
  | [d1, d2] => { results := [.lit (.bool true)], args := [d1, d2] }
  | _ => none }
def forestPathsRow : OpenClaim := { program := "ytegkhhegapnkpaadoor", sum := "f4cc0c79bdc6366a0b58c01fcdceb435429830df93e2a32753842444c2de9071", func := "comitia/comitialaw07.ForestPaths", spec := "forestPaths", inPlace := ["internal/abi.NoEscape"], unfollowed := true, recurses := true, named := ["comitia/blake.start", "comitia/blake.rows", "comitia/blake.places"], plainKeys := false, apart := false, laid := [("comitia/blake.start", laid_comitia_blake_start), ("comitia/blake.rows", laid_comitia_blake_rows), ("comitia/blake.places", laid_comitia_blake_places)] }
def ForestPathsSaid : Prop := forestPathsRow.holds Tryd.pinned (OpenSpec.ofChange forestPathsSpec)

/-- ITS FALSE NEIGHBOUR: 'it returns false'. Refute it at one input. -/
def forestPathsWrong : ChangeSpec := { name := "forestPaths", fn := fun _ => fun
  | [d1, d2] => { results := [.lit (.bool false)], args := [d1, d2] }
  | _ => none }
def ForestPathsWrongFalsely : Prop := forestPathsRow.holds Tryd.pinned (OpenSpec.ofChange forestPathsWrong)

/-- 'comitialaw08.RuleLearns': WHATEVER THE INPUT: true; the input reads as it did. -/
def ruleLearnsSpec : ChangeSpec := { name := "ruleLearns", fn := fun _ => fun
  | [d1, d2, d3] => { results := [.lit (.bool true)], args := [d1, d2, d3] }
  | _ => none }
def ruleLearnsRow : OpenClaim := { program := "ytegkhhegapnkpaadoor", sum := "f4cc0c79bdc6366a0b58c01fcdceb435429830df93e2a32753842444c2de9071", func := "comitia/comitialaw08.RuleLearns", spec := "ruleLearns", inPlace := ["internal/abi.NoEscape"], unfollowed := true, recurses := true, named := ["comitia/blake.start", "comitia/blake.rows", "comitia/blake.places"], plainKeys := false, apart := false, laid := [("comitia/blake.start", laid_comitia_blake_start), ("comitia/blake.rows", laid_comitia_blake_rows), ("comitia/blake.places", laid_comitia_blake_places)] }
def RuleLearnsSaid : Prop := ruleLearnsRow.holds Tryd.pinned (OpenSpec.ofChange ruleLearnsSpec)

/-- ITS FALSE NEIGHBOUR: 'it returns false'. Refute it at one input. -/
def ruleLearnsWrong : ChangeSpec := { name := "ruleLearns", fn := fun _ => fun
  | [d1, d2, d3] => { results := [.lit (.bool false)], args := [d1, d2, d3] }
  | _ => none }
def RuleLearnsWrongFalsely : Prop := ruleLearnsRow.holds Tryd.pinned (OpenSpec.ofChange ruleLearnsWrong)

/-- 'comitialaw11.KeepOnce': WHATEVER THE INPUT: true; the input reads as it did. -/
def keepOnceSpec : ChangeSpec := { name := "keepOnce", fn := fun _ => fun
  | [d] => { results := [.lit (.bool true)], args := [d] }
  | _ => none }
def keepOnceRow : OpenClaim := { program := "ytegkhhegapnkpaadoor", sum := "f4cc0c79bdc6366a0b58c01fcdceb435429830df93e2a32753842444c2de9071", func := "comitia/comitialaw11.KeepOnce", spec := "keepOnce", inPlace := ["internal/abi.NoEscape"], unfollowed := true, recurses := true, named := ["comitia/blake.start", "comitia/blake.rows", "comitia/blake.places"], plainKeys := false, apart := false, laid := [("comitia/blake.start", laid_comitia_blake_start), ("comitia/blake.rows", laid_comitia_blake_rows), ("comitia/blake.places", laid_comitia_blake_places)] }
def KeepOnceSaid : Prop := keepOnceRow.holds Tryd.pinned (OpenSpec.ofChange keepOnceSpec)

/-- ITS FALSE NEIGHBOUR: 'it returns false'. Refute it at one input. -/
def keepOnceWrong : ChangeSpec := { name := "keepOnce", fn := fun _ => fun
  | [d] => { results := [.lit (.bool false)], args := [d] }
  | _ => none }
def KeepOnceWrongFalsely : Prop := keepOnceRow.holds Tryd.pinned (OpenSpec.ofChange keepOnceWrong)

/-- 'comitialaw11.KeepBegins': WHATEVER THE INPUT: true; the input reads as it did. -/
def keepBeginsSpec : ChangeSpec := { name := "keepBegins", fn := fun _ => fun
  | [d1, d2, d3] => { results := [.lit (.bool true)], args := [d1, d2, d3] }
  | _ => none }
def keepBeginsRow : OpenClaim := { program := "ytegkhhegapnkpaadoor", sum := "f4cc0c79bdc6366a0b58c01fcdceb435429830df93e2a32753842444c2de9071", func := "comitia/comitialaw11.KeepBegins", spec := "keepBegins", named := ["comitia/blake.start", "comitia/blake.rows", "comitia/blake.places"], plainKeys := false, apart := false, laid := [("comitia/blake.start", laid_comitia_blake_start), ("comitia/blake.rows", laid_comitia_blake_rows), ("comitia/blake.places", laid_comitia_blake_places)] }
def KeepBeginsSaid : Prop := keepBeginsRow.holds Tryd.pinned (OpenSpec.ofChange keepBeginsSpec)

/-- ITS FALSE NEIGHBOUR: 'it returns false'. Refute it at one input. -/
def keepBeginsWrong : ChangeSpec := { name := "keepBegins", fn := fun _ => fun
  | [d1, d2, d3] => { results := [.lit (.bool false)], args := [d1, d2, d3] }
  | _ => none }
def KeepBeginsWrongFalsely : Prop := keepBeginsRow.holds Tryd.pinned (OpenSpec.ofChange keepBeginsWrong)

/-- 'comitialaw14.TallyPlays': WHATEVER THE INPUT: true; the input reads as it did. -/
def tallyPlaysSpec : ChangeSpec := { name := "tallyPlays", fn := fun _ => fun
  | [d1, d2] => { results := [.lit (.bool true)], args := [d1, d2] }
  | _ => none }
def tallyPlaysRow : OpenClaim := { program := "ytegkhhegapnkpaadoor", sum := "f4cc0c79bdc6366a0b58c01fcdceb435429830df93e2a32753842444c2de9071", func := "comitia/comitialaw14.TallyPlays", spec := "tallyPlays", unfollowed := true, recurses := true, named := ["comitia/blake.start", "comitia/blake.rows", "comitia/blake.places"], plainKeys := false, apart := false, laid := [("comitia/blake.start", laid_comitia_blake_start), ("comitia/blake.rows", laid_comitia_blake_rows), ("comitia/blake.places", laid_comitia_blake_places)] }
def TallyPlaysSaid : Prop := tallyPlaysRow.holds Tryd.pinned (OpenSpec.ofChange tallyPlaysSpec)

/-- ITS FALSE NEIGHBOUR: 'it returns false'. Refute it at one input. -/
def tallyPlaysWrong : ChangeSpec := { name := "tallyPlays", fn := fun _ => fun
  | [d1, d2] => { results := [.lit (.bool false)], args := [d1, d2] }
  | _ => none }
def TallyPlaysWrongFalsely : Prop := tallyPlaysRow.holds Tryd.pinned (OpenSpec.ofChange tallyPlaysWrong)

/-- 'comitialaw14.TallyCerts': WHATEVER THE INPUT: true; the input reads as it did. -/
def tallyCertsSpec : ChangeSpec := { name := "tallyCerts", fn := fun _ => fun
  | [d1, d2] => { results := [.lit (.bool true)], args := [d1, d2] }
  | _ => none }
def tallyCertsRow : OpenClaim := { program := "ytegkhhegapnkpaadoor", sum := "f4cc0c79bdc6366a0b58c01fcdceb435429830df93e2a32753842444c2de9071", func := "comitia/comitialaw14.TallyCerts", spec := "tallyCerts", inPlace := ["internal/abi.NoEscape"], unfollowed := true, recurses := true, named := ["comitia/blake.start", "comitia/blake.rows", "comitia/blake.places"], plainKeys := false, apart := false, laid := [("comitia/blake.start", laid_comitia_blake_start), ("comitia/blake.rows", laid_comitia_blake_rows), ("comitia/blake.places", laid_comitia_blake_places)] }
def TallyCertsSaid : Prop := tallyCertsRow.holds Tryd.pinned (OpenSpec.ofChange tallyCertsSpec)

/-- ITS FALSE NEIGHBOUR: 'it returns false'. Refute it at one input. -/
def tallyCertsWrong : ChangeSpec := { name := "tallyCerts", fn := fun _ => fun
  | [d1, d2] => { results := [.lit (.bool false)], args := [d1, d2] }
  | _ => none }
def TallyCertsWrongFalsely : Prop := tallyCertsRow.holds Tryd.pinned (OpenSpec.ofChange tallyCertsWrong)

/-- 'comitialaw14.TallyAll': WHATEVER THE INPUT: true; the input reads as it did. -/
def tallyAllSpec : ChangeSpec := { name := "tallyAll", fn := fun _ => fun
  | [d1, d2, d3] => { results := [.lit (.bool true)], args := [d1, d2, d3] }
  | _ => none }
def tallyAllRow : OpenClaim := { program := "ytegkhhegapnkpaadoor", sum := "f4cc0c79bdc6366a0b58c01fcdceb435429830df93e2a32753842444c2de9071", func := "comitia/comitialaw14.TallyAll", spec := "tallyAll", unfollowed := true, recurses := true, named := ["comitia/blake.start", "comitia/blake.rows", "comitia/blake.places"], plainKeys := false, apart := false, laid := [("comitia/blake.start", laid_comitia_blake_start), ("comitia/blake.rows", laid_comitia_blake_rows), ("comitia/blake.places", laid_comitia_blake_places)] }
def TallyAllSaid : Prop := tallyAllRow.holds Tryd.pinned (OpenSpec.ofChange tallyAllSpec)

/-- ITS FALSE NEIGHBOUR: 'it returns false'. Refute it at one input. -/
def tallyAllWrong : ChangeSpec := { name := "tallyAll", fn := fun _ => fun
  | [d1, d2, d3] => { results := [.lit (.bool false)], args := [d1, d2, d3] }
  | _ => none }
def TallyAllWrongFalsely : Prop := tallyAllRow.holds Tryd.pinned (OpenSpec.ofChange tallyAllWrong)

/- THE SECOND FORM. 'bulk': how many values and letters a reading holds, each counted each time it is reached (what is shared counts as often as it is met; a slice's spare places count too). A statement '..UptoSaid' is the law's where the arguments, and the package variables that the reading takes, are together of bulk at most 1048576: NARROWER than '..Said'. Prove '..Said' where nothing that the law and all that it calls make is longer than what came in: it says more and counts as full. Else prove '..UptoSaid'. A law counts once. -/
mutual
def uptoBulk {H : Type} : DataW H → Nat
  | .lit (.string bytes) => bytes.length + 1
  | .lit _ => 1
  | .nil => 1
  | .ptr d => uptoBulk d + 1
  | .slice elems spare => uptoBulkAll elems + uptoBulkAll spare + 1
  | .agg parts => uptoBulkAll parts + 1
  | .iface _ d => uptoBulk d + 1
  | .map entries => uptoBulkEntries entries + 1
  | .held _ => 1
def uptoBulkAll {H : Type} : List (DataW H) → Nat
  | [] => 0
  | d :: r => uptoBulk d + uptoBulkAll r
def uptoBulkEntries {H : Type} : List (Lit × DataW H) → Nat
  | [] => 0
  | x :: r => uptoBulkEntry x + uptoBulkEntries r
def uptoBulkEntry {H : Type} : Lit × DataW H → Nat
  | (.string bytes, d) => bytes.length + uptoBulk d + 1
  | (_, d) => uptoBulk d + 1
 end
def uptoSmall : (H : Type) → List (DataW H) → Bool := fun _ ds => decide (uptoBulkAll ds ≤ 1048576)
def OpenSpec.upto (s : _root_.Go.ChangeSpec) : _root_.Go.OpenSpec := { _root_.Go.OpenSpec.ofChange s with cond := some uptoSmall }

/-- 'comitialaw06.BlockMakes', WHERE WHAT IT READS IS OF BULK AT MOST 1048576: true; the input reads as it did. -/
def blockMakesUptoRow : OpenClaim := { program := "ytegkhhegapnkpaadoor", sum := "f4cc0c79bdc6366a0b58c01fcdceb435429830df93e2a32753842444c2de9071", func := "comitia/comitialaw06.BlockMakes", spec := "blockMakes", inPlace := ["internal/abi.NoEscape"], unfollowed := true, recurses := true, named := ["comitia/blake.start", "comitia/blake.rows", "comitia/blake.places"], plainKeys := false, apart := false, laid := [("comitia/blake.start", laid_comitia_blake_start), ("comitia/blake.rows", laid_comitia_blake_rows), ("comitia/blake.places", laid_comitia_blake_places)], narrowed := true }
def BlockMakesUptoSaid : Prop := blockMakesUptoRow.holds Tryd.pinned (OpenSpec.upto blockMakesSpec)

/-- 'comitialaw07.ForestFull', WHERE WHAT IT READS IS OF BULK AT MOST 1048576: true; the input reads as it did. -/
def forestFullUptoRow : OpenClaim := { program := "ytegkhhegapnkpaadoor", sum := "f4cc0c79bdc6366a0b58c01fcdceb435429830df93e2a32753842444c2de9071", func := "comitia/comitialaw07.ForestFull", spec := "forestFull", inPlace := ["internal/abi.NoEscape"], unfollowed := true, recurses := true, named := ["comitia/blake.start", "comitia/blake.rows", "comitia/blake.places"], plainKeys := false, apart := false, laid := [("comitia/blake.start", laid_comitia_blake_start), ("comitia/blake.rows", laid_comitia_blake_rows), ("comitia/blake.places", laid_comitia_blake_places)], narrowed := true }
def ForestFullUptoSaid : Prop := forestFullUptoRow.holds Tryd.pinned (OpenSpec.upto forestFullSpec)

/-- 'comitialaw07.ForestPlays', WHERE WHAT IT READS IS OF BULK AT MOST 1048576: true; the input reads as it did. -/
def forestPlaysUptoRow : OpenClaim := { program := "ytegkhhegapnkpaadoor", sum := "f4cc0c79bdc6366a0b58c01fcdceb435429830df93e2a32753842444c2de9071", func := "comitia/comitialaw07.ForestPlays", spec := "forestPlays", inPlace := ["internal/abi.NoEscape"], unfollowed := true, recurses := true, named := ["comitia/blake.start", "comitia/blake.rows", "comitia/blake.places"], plainKeys := false, apart := false, laid := [("comitia/blake.start", laid_comitia_blake_start), ("comitia/blake.rows", laid_comitia_blake_rows), ("comitia/blake.places", laid_comitia_blake_places)], narrowed := true }
def ForestPlaysUptoSaid : Prop := forestPlaysUptoRow.holds Tryd.pinned (OpenSpec.upto forestPlaysSpec)

/-- 'comitialaw07.ForestPaths', WHERE WHAT IT READS IS OF BULK AT MOST 1048576: true; the input reads as it did. -/
def forestPathsUptoRow : OpenClaim := { program := "ytegkhhegapnkpaadoor", sum := "f4cc0c79bdc6366a0b58c01fcdceb435429830df93e2a32753842444c2de9071", func := "comitia/comitialaw07.ForestPaths", spec := "forestPaths", inPlace := ["internal/abi.NoEscape"], unfollowed := true, recurses := true, named := ["comitia/blake.start", "comitia/blake.rows", "comitia/blake.places"], plainKeys := false, apart := false, laid := [("comitia/blake.start", laid_comitia_blake_start), ("comitia/blake.rows", laid_comitia_blake_rows), ("comitia/blake.places", laid_comitia_blake_places)], narrowed := true }
def ForestPathsUptoSaid : Prop := forestPathsUptoRow.holds Tryd.pinned (OpenSpec.upto forestPathsSpec)

/-- 'comitialaw08.RuleLearns', WHERE WHAT IT READS IS OF BULK AT MOST 1048576: true; the input reads as it did. -/
def ruleLearnsUptoRow : OpenClaim := { program := "ytegkhhegapnkpaadoor", sum := "f4cc0c79bdc6366a0b58c01fcdceb435429830df93e2a32753842444c2de9071", func := "comitia/comitialaw08.RuleLearns", spec := "ruleLearns", inPlace := ["internal/abi.NoEscape"], unfollowed := true, recurses := true, named := ["comitia/blake.start", "comitia/blake.rows", "comitia/blake.places"], plainKeys := false, apart := false, laid := [("comitia/blake.start", laid_comitia_blake_start), ("comitia/blake.rows", laid_comitia_blake_rows), ("comitia/blake.places", laid_comitia_blake_places)], narrowed := true }
def RuleLearnsUptoSaid : Prop := ruleLearnsUptoRow.holds Tryd.pinned (OpenSpec.upto ruleLearnsSpec)

/-- 'comitialaw11.KeepOnce', WHERE WHAT IT READS IS OF BULK AT MOST 1048576: true; the input reads as it did. -/
def keepOnceUptoRow : OpenClaim := { program := "ytegkhhegapnkpaadoor", sum := "f4cc0c79bdc6366a0b58c01fcdceb435429830df93e2a32753842444c2de9071", func := "comitia/comitialaw11.KeepOnce", spec := "keepOnce", inPlace := ["internal/abi.NoEscape"], unfollowed := true, recurses := true, named := ["comitia/blake.start", "comitia/blake.rows", "comitia/blake.places"], plainKeys := false, apart := false, laid := [("comitia/blake.start", laid_comitia_blake_start), ("comitia/blake.rows", laid_comitia_blake_rows), ("comitia/blake.places", laid_comitia_blake_places)], narrowed := true }
def KeepOnceUptoSaid : Prop := keepOnceUptoRow.holds Tryd.pinned (OpenSpec.upto keepOnceSpec)

/-- 'comitialaw11.KeepBegins', WHERE WHAT IT READS IS OF BULK AT MOST 1048576: true; the input reads as it did. -/
def keepBeginsUptoRow : OpenClaim := { program := "ytegkhhegapnkpaadoor", sum := "f4cc0c79bdc6366a0b58c01fcdceb435429830df93e2a32753842444c2de9071", func := "comitia/comitialaw11.KeepBegins", spec := "keepBegins", named := ["comitia/blake.start", "comitia/blake.rows", "comitia/blake.places"], plainKeys := false, apart := false, laid := [("comitia/blake.start", laid_comitia_blake_start), ("comitia/blake.rows", laid_comitia_blake_rows), ("comitia/blake.places", laid_comitia_blake_places)], narrowed := true }
def KeepBeginsUptoSaid : Prop := keepBeginsUptoRow.holds Tryd.pinned (OpenSpec.upto keepBeginsSpec)

/-- 'comitialaw14.TallyPlays', WHERE WHAT IT READS IS OF BULK AT MOST 1048576: true; the input reads as it did. -/
def tallyPlaysUptoRow : OpenClaim := { program := "ytegkhhegapnkpaadoor", sum := "f4cc0c79bdc6366a0b58c01fcdceb435429830df93e2a32753842444c2de9071", func := "comitia/comitialaw14.TallyPlays", spec := "tallyPlays", unfollowed := true, recurses := true, named := ["comitia/blake.start", "comitia/blake.rows", "comitia/blake.places"], plainKeys := false, apart := false, laid := [("comitia/blake.start", laid_comitia_blake_start), ("comitia/blake.rows", laid_comitia_blake_rows), ("comitia/blake.places", laid_comitia_blake_places)], narrowed := true }
def TallyPlaysUptoSaid : Prop := tallyPlaysUptoRow.holds Tryd.pinned (OpenSpec.upto tallyPlaysSpec)

/-- 'comitialaw14.TallyCerts', WHERE WHAT IT READS IS OF BULK AT MOST 1048576: true; the input reads as it did. -/
def tallyCertsUptoRow : OpenClaim := { program := "ytegkhhegapnkpaadoor", sum := "f4cc0c79bdc6366a0b58c01fcdceb435429830df93e2a32753842444c2de9071", func := "comitia/comitialaw14.TallyCerts", spec := "tallyCerts", inPlace := ["internal/abi.NoEscape"], unfollowed := true, recurses := true, named := ["comitia/blake.start", "comitia/blake.rows", "comitia/blake.places"], plainKeys := false, apart := false, laid := [("comitia/blake.start", laid_comitia_blake_start), ("comitia/blake.rows", laid_comitia_blake_rows), ("comitia/blake.places", laid_comitia_blake_places)], narrowed := true }
def TallyCertsUptoSaid : Prop := tallyCertsUptoRow.holds Tryd.pinned (OpenSpec.upto tallyCertsSpec)

/-- 'comitialaw14.TallyAll', WHERE WHAT IT READS IS OF BULK AT MOST 1048576: true; the input reads as it did. -/
def tallyAllUptoRow : OpenClaim := { program := "ytegkhhegapnkpaadoor", sum := "f4cc0c79bdc6366a0b58c01fcdceb435429830df93e2a32753842444c2de9071", func := "comitia/comitialaw14.TallyAll", spec := "tallyAll", unfollowed := true, recurses := true, named := ["comitia/blake.start", "comitia/blake.rows", "comitia/blake.places"], plainKeys := false, apart := false, laid := [("comitia/blake.start", laid_comitia_blake_start), ("comitia/blake.rows", laid_comitia_blake_rows), ("comitia/blake.places", laid_comitia_blake_places)], narrowed := true }
def TallyAllUptoSaid : Prop := tallyAllUptoRow.holds Tryd.pinned (OpenSpec.upto tallyAllSpec)

end Rows
end Go.Proofs.YtegkhhegapnkpaaDoor
