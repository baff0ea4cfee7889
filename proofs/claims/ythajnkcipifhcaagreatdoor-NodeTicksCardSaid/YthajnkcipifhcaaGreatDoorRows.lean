/-
  NARROWER THAN 'FOR EVERY INPUT', by the rows' own cells (each row's printed sentence says how): NodeStrange: laid · NodeTicks: laid · NodeTexts: laid · NodeHandles: laid · NodeFetches: laid.
  DERIVED. THE GIVEN ROWS OF THIS SEAT. 5 by the template 'for every input the law returns true; each argument reads behind the call as it read before'; 0 by the template 'total and deterministic' (their statements: YthajnkcipifhcaaGreatDoorTotals.lean).
  GIVEN WITH THE SEED: the statements are not yours to turn. If you find one false, say at which input.
  Laid BY PROGRAM, IN A SANDBOX (cutbox-rows.mjs): the forced cells as the released guide's own fill.sh prints them over the translation 9b7e610719a42b7b… (all of the seat's roots in one cut). By AI agents, Wed Nov 11 2026. No macro, syntax, notation, axiom, sorry.
-/
import Derived.Test.YthajnkcipifhcaaGreatDoorChecked
import GoSem.Claim
import GoSem.ClaimJoined
import GoSem.ClaimMapViews
import Derived.JoinedTies
import Derived.KernelRfl
namespace Go.Proofs.YthajnkcipifhcaaGreatDoor
/- THE CELL 'sum', in the pinned program and in every row, IS THE sha256 OF THE DUMP (.gsa) THAT YthajnkcipifhcaaGreatDoorProg.lean LOADS. Nothing in Lean hashes anything: it is a label: what it is worth is what the hold of that sum in a sandbox is worth. -/
noncomputable def Tryz.pinned : Pinned := { name := "ythajnkcipifhcaagreatdoor", sum := "9b7e610719a42b7b6ebb66414619a41d2b9b86a3d00b78e56b8d6e5764981ecd", checked := Tryz.checked }
namespace Rows
def none {H : Type} : Left H := { results := [], args := [] }

/- WHAT THE LISTED PACKAGE-LEVEL VARIABLES READ AS WHEN THE CALL BEGINS. Each datum BY PROGRAM (the guide's laid-datum.mjs) off the statement by which the dump's own 'gosem.cut.vars' lays the variable. In a bare row this is a premise. The card (YthajnkcipifhcaaGreatDoorCards.lean) ties it to the program's text. -/
def laid_comitia_blake_start {H : Type} : DataW H := .agg [.lit (.int .u32 1779033703), .lit (.int .u32 3144134277), .lit (.int .u32 1013904242), .lit (.int .u32 2773480762), .lit (.int .u32 1359893119), .lit (.int .u32 2600822924), .lit (.int .u32 528734635), .lit (.int .u32 1541459225)]
def laid_comitia_blake_rows {H : Type} : DataW H := .agg [.agg [.lit (.int .u8 0), .lit (.int .u8 1), .lit (.int .u8 2), .lit (.int .u8 3), .lit (.int .u8 4), .lit (.int .u8 5), .lit (.int .u8 6), .lit (.int .u8 7), .lit (.int .u8 8), .lit (.int .u8 9), .lit (.int .u8 10), .lit (.int .u8 11), .lit (.int .u8 12), .lit (.int .u8 13), .lit (.int .u8 14), .lit (.int .u8 15)], .agg [.lit (.int .u8 14), .lit (.int .u8 10), .lit (.int .u8 4), .lit (.int .u8 8), .lit (.int .u8 9), .lit (.int .u8 15), .lit (.int .u8 13), .lit (.int .u8 6), .lit (.int .u8 1), .lit (.int .u8 12), .lit (.int .u8 0), .lit (.int .u8 2), .lit (.int .u8 11), .lit (.int .u8 7), .lit (.int .u8 5), .lit (.int .u8 3)], .agg [.lit (.int .u8 11), .lit (.int .u8 8), .lit (.int .u8 12), .lit (.int .u8 0), .lit (.int .u8 5), .lit (.int .u8 2), .lit (.int .u8 15), .lit (.int .u8 13), .lit (.int .u8 10), .lit (.int .u8 14), .lit (.int .u8 3), .lit (.int .u8 6), .lit (.int .u8 7), .lit (.int .u8 1), .lit (.int .u8 9), .lit (.int .u8 4)], .agg [.lit (.int .u8 7), .lit (.int .u8 9), .lit (.int .u8 3), .lit (.int .u8 1), .lit (.int .u8 13), .lit (.int .u8 12), .lit (.int .u8 11), .lit (.int .u8 14), .lit (.int .u8 2), .lit (.int .u8 6), .lit (.int .u8 5), .lit (.int .u8 10), .lit (.int .u8 4), .lit (.int .u8 0), .lit (.int .u8 15), .lit (.int .u8 8)], .agg [.lit (.int .u8 9), .lit (.int .u8 0), .lit (.int .u8 5), .lit (.int .u8 7), .lit (.int .u8 2), .lit (.int .u8 4), .lit (.int .u8 10), .lit (.int .u8 15), .lit (.int .u8 14), .lit (.int .u8 1), .lit (.int .u8 11), .lit (.int .u8 12), .lit (.int .u8 6), .lit (.int .u8 8), .lit (.int .u8 3), .lit (.int .u8 13)], .agg [.lit (.int .u8 2), .lit (.int .u8 12), .lit (.int .u8 6), .lit (.int .u8 10), .lit (.int .u8 0), .lit (.int .u8 11), .lit (.int .u8 8), .lit (.int .u8 3), .lit (.int .u8 4), .lit (.int .u8 13), .lit (.int .u8 7), .lit (.int .u8 5), .lit (.int .u8 15), .lit (.int .u8 14), .lit (.int .u8 1), .lit (.int .u8 9)], .agg [.lit (.int .u8 12), .lit (.int .u8 5), .lit (.int .u8 1), .lit (.int .u8 15), .lit (.int .u8 14), .lit (.int .u8 13), .lit (.int .u8 4), .lit (.int .u8 10), .lit (.int .u8 0), .lit (.int .u8 7), .lit (.int .u8 6), .lit (.int .u8 3), .lit (.int .u8 9), .lit (.int .u8 2), .lit (.int .u8 8), .lit (.int .u8 11)], .agg [.lit (.int .u8 13), .lit (.int .u8 11), .lit (.int .u8 7), .lit (.int .u8 14), .lit (.int .u8 12), .lit (.int .u8 1), .lit (.int .u8 3), .lit (.int .u8 9), .lit (.int .u8 5), .lit (.int .u8 0), .lit (.int .u8 15), .lit (.int .u8 4), .lit (.int .u8 8), .lit (.int .u8 6), .lit (.int .u8 2), .lit (.int .u8 10)], .agg [.lit (.int .u8 6), .lit (.int .u8 15), .lit (.int .u8 14), .lit (.int .u8 9), .lit (.int .u8 11), .lit (.int .u8 3), .lit (.int .u8 0), .lit (.int .u8 8), .lit (.int .u8 12), .lit (.int .u8 2), .lit (.int .u8 13), .lit (.int .u8 7), .lit (.int .u8 1), .lit (.int .u8 4), .lit (.int .u8 10), .lit (.int .u8 5)], .agg [.lit (.int .u8 10), .lit (.int .u8 2), .lit (.int .u8 8), .lit (.int .u8 4), .lit (.int .u8 7), .lit (.int .u8 6), .lit (.int .u8 1), .lit (.int .u8 5), .lit (.int .u8 15), .lit (.int .u8 11), .lit (.int .u8 9), .lit (.int .u8 14), .lit (.int .u8 3), .lit (.int .u8 12), .lit (.int .u8 13), .lit (.int .u8 0)]]
def laid_comitia_blake_places {H : Type} : DataW H := .agg [.agg [.lit (.int .u8 0), .lit (.int .u8 4), .lit (.int .u8 8), .lit (.int .u8 12)], .agg [.lit (.int .u8 1), .lit (.int .u8 5), .lit (.int .u8 9), .lit (.int .u8 13)], .agg [.lit (.int .u8 2), .lit (.int .u8 6), .lit (.int .u8 10), .lit (.int .u8 14)], .agg [.lit (.int .u8 3), .lit (.int .u8 7), .lit (.int .u8 11), .lit (.int .u8 15)], .agg [.lit (.int .u8 0), .lit (.int .u8 5), .lit (.int .u8 10), .lit (.int .u8 15)], .agg [.lit (.int .u8 1), .lit (.int .u8 6), .lit (.int .u8 11), .lit (.int .u8 12)], .agg [.lit (.int .u8 2), .lit (.int .u8 7), .lit (.int .u8 8), .lit (.int .u8 13)], .agg [.lit (.int .u8 3), .lit (.int .u8 4), .lit (.int .u8 9), .lit (.int .u8 14)]]

/-- 'comitialaw18.NodeStrange': WHATEVER THE INPUT: true; the input reads as it did. -/
def nodeStrangeSpec : ChangeSpec := { name := "nodeStrange", fn := fun _ => fun
  | [d1, d2] => { results := [.lit (.bool true)], args := [d1, d2] }
  | _ => none }
def nodeStrangeRow : OpenClaim := { program := "ythajnkcipifhcaagreatdoor", sum := "9b7e610719a42b7b6ebb66414619a41d2b9b86a3d00b78e56b8d6e5764981ecd", func := "comitia/comitialaw18.NodeStrange", spec := "nodeStrange", inPlace := ["internal/abi.NoEscape"], unfollowed := true, recurses := true, named := ["comitia/blake.start", "comitia/blake.rows", "comitia/blake.places"], plainKeys := false, apart := false, laid := [("comitia/blake.start", laid_comitia_blake_start), ("comitia/blake.rows", laid_comitia_blake_rows), ("comitia/blake.places", laid_comitia_blake_places)] }
def NodeStrangeSaid : Prop := nodeStrangeRow.holds Tryz.pinned (OpenSpec.ofChange nodeStrangeSpec)

/-- ITS FALSE NEIGHBOUR: 'it returns false'. Refute it at one input. -/
def nodeStrangeWrong : ChangeSpec := { name := "nodeStrange", fn := fun _ => fun
  | [d1, d2] => { results := [.lit (.bool false)], args := [d1, d2] }
  | _ => none }
def NodeStrangeWrongFalsely : Prop := nodeStrangeRow.holds Tryz.pinned (OpenSpec.ofChange nodeStrangeWrong)

/-- 'comitialaw18.NodeTicks': WHATEVER THE INPUT: true; the input reads as it did. -/
def nodeTicksSpec : ChangeSpec := { name := "nodeTicks", fn := fun _ => fun
  | [d1, d2] => { results := [.lit (.bool true)], args := [d1, d2] }
  | _ => none }
def nodeTicksRow : OpenClaim := { program := "ythajnkcipifhcaagreatdoor", sum := "9b7e610719a42b7b6ebb66414619a41d2b9b86a3d00b78e56b8d6e5764981ecd", func := "comitia/comitialaw18.NodeTicks", spec := "nodeTicks", inPlace := ["internal/abi.NoEscape"], unfollowed := true, recurses := true, named := ["comitia/blake.start", "comitia/blake.rows", "comitia/blake.places"], plainKeys := false, apart := false, laid := [("comitia/blake.start", laid_comitia_blake_start), ("comitia/blake.rows", laid_comitia_blake_rows), ("comitia/blake.places", laid_comitia_blake_places)] }
def NodeTicksSaid : Prop := nodeTicksRow.holds Tryz.pinned (OpenSpec.ofChange nodeTicksSpec)

/-- ITS FALSE NEIGHBOUR: 'it returns false'. Refute it at one input. -/
def nodeTicksWrong : ChangeSpec := { name := "nodeTicks", fn := fun _ => fun
  | [d1, d2] => { results := [.lit (.bool false)], args := [d1, d2] }
  | _ => none }
def NodeTicksWrongFalsely : Prop := nodeTicksRow.holds Tryz.pinned (OpenSpec.ofChange nodeTicksWrong)

/-- 'comitialaw18.NodeTexts': WHATEVER THE INPUT: true; the input reads as it did. -/
def nodeTextsSpec : ChangeSpec := { name := "nodeTexts", fn := fun _ => fun
  | [d] => { results := [.lit (.bool true)], args := [d] }
  | _ => none }
def nodeTextsRow : OpenClaim := { program := "ythajnkcipifhcaagreatdoor", sum := "9b7e610719a42b7b6ebb66414619a41d2b9b86a3d00b78e56b8d6e5764981ecd", func := "comitia/comitialaw18.NodeTexts", spec := "nodeTexts", inPlace := ["internal/abi.NoEscape"], unfollowed := true, recurses := true, named := ["comitia/blake.start", "comitia/blake.rows", "comitia/blake.places"], plainKeys := false, apart := false, laid := [("comitia/blake.start", laid_comitia_blake_start), ("comitia/blake.rows", laid_comitia_blake_rows), ("comitia/blake.places", laid_comitia_blake_places)] }
def NodeTextsSaid : Prop := nodeTextsRow.holds Tryz.pinned (OpenSpec.ofChange nodeTextsSpec)

/-- ITS FALSE NEIGHBOUR: 'it returns false'. Refute it at one input. -/
def nodeTextsWrong : ChangeSpec := { name := "nodeTexts", fn := fun _ => fun
  | [d] => { results := [.lit (.bool false)], args := [d] }
  | _ => none }
def NodeTextsWrongFalsely : Prop := nodeTextsRow.holds Tryz.pinned (OpenSpec.ofChange nodeTextsWrong)

/-- 'comitialaw18.NodeHandles': WHATEVER THE INPUT: true; the input reads as it did. -/
def nodeHandlesSpec : ChangeSpec := { name := "nodeHandles", fn := fun _ => fun
  | [d1, d2] => { results := [.lit (.bool true)], args := [d1, d2] }
  | _ => none }
def nodeHandlesRow : OpenClaim := { program := "ythajnkcipifhcaagreatdoor", sum := "9b7e610719a42b7b6ebb66414619a41d2b9b86a3d00b78e56b8d6e5764981ecd", func := "comitia/comitialaw18.NodeHandles", spec := "nodeHandles", inPlace := ["internal/abi.NoEscape"], unfollowed := true, recurses := true, named := ["comitia/blake.start", "comitia/blake.rows", "comitia/blake.places"], plainKeys := false, apart := false, laid := [("comitia/blake.start", laid_comitia_blake_start), ("comitia/blake.rows", laid_comitia_blake_rows), ("comitia/blake.places", laid_comitia_blake_places)] }
def NodeHandlesSaid : Prop := nodeHandlesRow.holds Tryz.pinned (OpenSpec.ofChange nodeHandlesSpec)

/-- ITS FALSE NEIGHBOUR: 'it returns false'. Refute it at one input. -/
def nodeHandlesWrong : ChangeSpec := { name := "nodeHandles", fn := fun _ => fun
  | [d1, d2] => { results := [.lit (.bool false)], args := [d1, d2] }
  | _ => none }
def NodeHandlesWrongFalsely : Prop := nodeHandlesRow.holds Tryz.pinned (OpenSpec.ofChange nodeHandlesWrong)

/-- 'comitialaw18.NodeFetches': WHATEVER THE INPUT: true; the input reads as it did. -/
def nodeFetchesSpec : ChangeSpec := { name := "nodeFetches", fn := fun _ => fun
  | [d1, d2, d3] => { results := [.lit (.bool true)], args := [d1, d2, d3] }
  | _ => none }
def nodeFetchesRow : OpenClaim := { program := "ythajnkcipifhcaagreatdoor", sum := "9b7e610719a42b7b6ebb66414619a41d2b9b86a3d00b78e56b8d6e5764981ecd", func := "comitia/comitialaw18.NodeFetches", spec := "nodeFetches", inPlace := ["internal/abi.NoEscape"], unfollowed := true, recurses := true, named := ["comitia/blake.start", "comitia/blake.rows", "comitia/blake.places"], plainKeys := false, apart := false, laid := [("comitia/blake.start", laid_comitia_blake_start), ("comitia/blake.rows", laid_comitia_blake_rows), ("comitia/blake.places", laid_comitia_blake_places)] }
def NodeFetchesSaid : Prop := nodeFetchesRow.holds Tryz.pinned (OpenSpec.ofChange nodeFetchesSpec)

/-- ITS FALSE NEIGHBOUR: 'it returns false'. Refute it at one input. -/
def nodeFetchesWrong : ChangeSpec := { name := "nodeFetches", fn := fun _ => fun
  | [d1, d2, d3] => { results := [.lit (.bool false)], args := [d1, d2, d3] }
  | _ => none }
def NodeFetchesWrongFalsely : Prop := nodeFetchesRow.holds Tryz.pinned (OpenSpec.ofChange nodeFetchesWrong)

/- THE SECOND FORM. 'bulk': how many values and letters a reading holds, each counted each time it is reached (what is shared counts as often as it is met; a slice's spare places count too). A statement '..UptoSaid' is the law's where the arguments, and the package variables that the reading takes, are together of bulk at most 1048576: NARROWER than '..Said'. Prove '..Said' where nothing that the law and all that it calls make is longer than what came in: it says more and counts as full. Else prove '..UptoSaid'. A law counts once. -/
mutual
def uptoBulk {H : Type} : DataW H → Nat
  | .lit (.string bytes) => bytes.length + 1
  | .lit _ => 1
  | .nil => 1
  | .ptr d => uptoBulk d + 1
  | .slice elems spare => uptoBulkAll elems + uptoBulkAll spare + 1
  | .agg parts => uptoBulkAll parts + 1
  | .iface _ d => uptoBulk d + 1
  | .map entries => uptoBulkEntries entries + 1
  | .held _ => 1
def uptoBulkAll {H : Type} : List (DataW H) → Nat
  | [] => 0
  | d :: r => uptoBulk d + uptoBulkAll r
def uptoBulkEntries {H : Type} : List (Lit × DataW H) → Nat
  | [] => 0
  | x :: r => uptoBulkEntry x + uptoBulkEntries r
def uptoBulkEntry {H : Type} : Lit × DataW H → Nat
  | (.string bytes, d) => bytes.length + uptoBulk d + 1
  | (_, d) => uptoBulk d + 1
 end
def uptoSmall : (H : Type) → List (DataW H) → Bool := fun _ ds => decide (uptoBulkAll ds ≤ 1048576)
def OpenSpec.upto (s : _root_.Go.ChangeSpec) : _root_.Go.OpenSpec := { _root_.Go.OpenSpec.ofChange s with cond := some uptoSmall }

/-- 'comitialaw18.NodeStrange', WHERE WHAT IT READS IS OF BULK AT MOST 1048576: true; the input reads as it did. -/
def nodeStrangeUptoRow : OpenClaim := { program := "ythajnkcipifhcaagreatdoor", sum := "9b7e610719a42b7b6ebb66414619a41d2b9b86a3d00b78e56b8d6e5764981ecd", func := "comitia/comitialaw18.NodeStrange", spec := "nodeStrange", inPlace := ["internal/abi.NoEscape"], unfollowed := true, recurses := true, named := ["comitia/blake.start", "comitia/blake.rows", "comitia/blake.places"], plainKeys := false, apart := false, laid := [("comitia/blake.start", laid_comitia_blake_start), ("comitia/blake.rows", laid_comitia_blake_rows), ("comitia/blake.places", laid_comitia_blake_places)], narrowed := true }
def NodeStrangeUptoSaid : Prop := nodeStrangeUptoRow.holds Tryz.pinned (OpenSpec.upto nodeStrangeSpec)

/-- 'comitialaw18.NodeTicks', WHERE WHAT IT READS IS OF BULK AT MOST 1048576: true; the input reads as it did. -/
def nodeTicksUptoRow : OpenClaim := { program := "ythajnkcipifhcaagreatdoor", sum := "9b7e610719a42b7b6ebb66414619a41d2b9b86a3d00b78e56b8d6e5764981ecd", func := "comitia/comitialaw18.NodeTicks", spec := "nodeTicks", inPlace := ["internal/abi.NoEscape"], unfollowed := true, recurses := true, named := ["comitia/blake.start", "comitia/blake.rows", "comitia/blake.places"], plainKeys := false, apart := false, laid := [("comitia/blake.start", laid_comitia_blake_start), ("comitia/blake.rows", laid_comitia_blake_rows), ("comitia/blake.places", laid_comitia_blake_places)], narrowed := true }
def NodeTicksUptoSaid : Prop := nodeTicksUptoRow.holds Tryz.pinned (OpenSpec.upto nodeTicksSpec)

/-- 'comitialaw18.NodeTexts', WHERE WHAT IT READS IS OF BULK AT MOST 1048576: true; the input reads as it did. -/
def nodeTextsUptoRow : OpenClaim := { program := "ythajnkcipifhcaagreatdoor", sum := "9b7e610719a42b7b6ebb66414619a41d2b9b86a3d00b78e56b8d6e5764981ecd", func := "comitia/comitialaw18.NodeTexts", spec := "nodeTexts", inPlace := ["internal/abi.NoEscape"], unfollowed := true, recurses := true, named := ["comitia/blake.start", "comitia/blake.rows", "comitia/blake.places"], plainKeys := false, apart := false, laid := [("comitia/blake.start", laid_comitia_blake_start), ("comitia/blake.rows", laid_comitia_blake_rows), ("comitia/blake.places", laid_comitia_blake_places)], narrowed := true }
def NodeTextsUptoSaid : Prop := nodeTextsUptoRow.holds Tryz.pinned (OpenSpec.upto nodeTextsSpec)

/-- 'comitialaw18.NodeHandles', WHERE WHAT IT READS IS OF BULK AT MOST 1048576: true; the input reads as it did. -/
def nodeHandlesUptoRow : OpenClaim := { program := "ythajnkcipifhcaagreatdoor", sum := "9b7e610719a42b7b6ebb66414619a41d2b9b86a3d00b78e56b8d6e5764981ecd", func := "comitia/comitialaw18.NodeHandles", spec := "nodeHandles", inPlace := ["internal/abi.NoEscape"], unfollowed := true, recurses := true, named := ["comitia/blake.start", "comitia/blake.rows", "comitia/blake.places"], plainKeys := false, apart := false, laid := [("comitia/blake.start", laid_comitia_blake_start), ("comitia/blake.rows", laid_comitia_blake_rows), ("comitia/blake.places", laid_comitia_blake_places)], narrowed := true }
def NodeHandlesUptoSaid : Prop := nodeHandlesUptoRow.holds Tryz.pinned (OpenSpec.upto nodeHandlesSpec)

/-- 'comitialaw18.NodeFetches', WHERE WHAT IT READS IS OF BULK AT MOST 1048576: true; the input reads as it did. -/
def nodeFetchesUptoRow : OpenClaim := { program := "ythajnkcipifhcaagreatdoor", sum := "9b7e610719a42b7b6ebb66414619a41d2b9b86a3d00b78e56b8d6e5764981ecd", func := "comitia/comitialaw18.NodeFetches", spec := "nodeFetches", inPlace := ["internal/abi.NoEscape"], unfollowed := true, recurses := true, named := ["comitia/blake.start", "comitia/blake.rows", "comitia/blake.places"], plainKeys := false, apart := false, laid := [("comitia/blake.start", laid_comitia_blake_start), ("comitia/blake.rows", laid_comitia_blake_rows), ("comitia/blake.places", laid_comitia_blake_places)], narrowed := true }
def NodeFetchesUptoSaid : Prop := nodeFetchesUptoRow.holds Tryz.pinned (OpenSpec.upto nodeFetchesSpec)

end Rows
end Go.Proofs.YthajnkcipifhcaaGreatDoor
