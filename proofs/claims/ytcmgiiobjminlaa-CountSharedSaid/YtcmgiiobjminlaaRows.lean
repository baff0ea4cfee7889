/-
  No cell of these rows narrows 'for every input' (looked for: loops, veiled, ifaces, maps, wideKeys, modest, calm, conditions, laid).
  DERIVED. THE GIVEN ROWS OF THIS SEAT. 4 by the template 'for every input the law returns true; each argument reads behind the call as it read before'; 0 by the template 'total and deterministic' (their statements: YtcmgiiobjminlaaTotals.lean).
  GIVEN WITH THE SEED: the statements are not yours to turn. If you find one false, say at which input.
  Laid BY PROGRAM, IN A SANDBOX (cutbox-rows.mjs): the forced cells as the released guide's own fill.sh prints them over the translation 89c9fbeaf57c92d3… (all of the seat's roots in one cut). By AI agents, Wed Nov 11 2026. No macro, syntax, notation, axiom, sorry.
-/
import Derived.Test.YtcmgiiobjminlaaChecked
import GoSem.Claim
import GoSem.ClaimJoined
import GoSem.ClaimMapViews
import Derived.JoinedTies
import Derived.KernelRfl
namespace Go.Proofs.Ytcmgiiobjminlaa
/- THE CELL 'sum', in the pinned program and in every row, IS THE sha256 OF THE DUMP (.gsa) THAT YtcmgiiobjminlaaProg.lean LOADS. Nothing in Lean hashes anything: it is a label: what it is worth is what the hold of that sum in a sandbox is worth. -/
noncomputable def Try.pinned : Pinned := { name := "ytcmgiiobjminlaa", sum := "89c9fbeaf57c92d3c333f4e5b7db786f3ebb712b2d69e8ca1912c57882d9d7b6", checked := Try.checked }
namespace Rows
def none {H : Type} : Left H := { results := [], args := [] }

/-- 'comitialaw04.CountSizes': WHATEVER THE INPUT: true; the input reads as it did. -/
def countSizesSpec : ChangeSpec := { name := "countSizes", fn := fun _ => fun
  | [d] => { results := [.lit (.bool true)], args := [d] }
  | _ => none }
def countSizesRow : OpenClaim := { program := "ytcmgiiobjminlaa", sum := "89c9fbeaf57c92d3c333f4e5b7db786f3ebb712b2d69e8ca1912c57882d9d7b6", func := "comitia/comitialaw04.CountSizes", spec := "countSizes", apart := false }
def CountSizesSaid : Prop := countSizesRow.holds Try.pinned (OpenSpec.ofChange countSizesSpec)

/-- ITS FALSE NEIGHBOUR: 'it returns false'. Refute it at one input. -/
def countSizesWrong : ChangeSpec := { name := "countSizes", fn := fun _ => fun
  | [d] => { results := [.lit (.bool false)], args := [d] }
  | _ => none }
def CountSizesWrongFalsely : Prop := countSizesRow.holds Try.pinned (OpenSpec.ofChange countSizesWrong)

/-- 'comitialaw04.CountLists': WHATEVER THE INPUT: true; the input reads as it did. -/
def countListsSpec : ChangeSpec := { name := "countLists", fn := fun _ => fun
  | [d1, d2, d3] => { results := [.lit (.bool true)], args := [d1, d2, d3] }
  | _ => none }
def countListsRow : OpenClaim := { program := "ytcmgiiobjminlaa", sum := "89c9fbeaf57c92d3c333f4e5b7db786f3ebb712b2d69e8ca1912c57882d9d7b6", func := "comitia/comitialaw04.CountLists", spec := "countLists", recurses := true, apart := false }
def CountListsSaid : Prop := countListsRow.holds Try.pinned (OpenSpec.ofChange countListsSpec)

/-- ITS FALSE NEIGHBOUR: 'it returns false'. Refute it at one input. -/
def countListsWrong : ChangeSpec := { name := "countLists", fn := fun _ => fun
  | [d1, d2, d3] => { results := [.lit (.bool false)], args := [d1, d2, d3] }
  | _ => none }
def CountListsWrongFalsely : Prop := countListsRow.holds Try.pinned (OpenSpec.ofChange countListsWrong)

/-- 'comitialaw04.CountShared': WHATEVER THE INPUT: true; the input reads as it did. -/
def countSharedSpec : ChangeSpec := { name := "countShared", fn := fun _ => fun
  | [d1, d2, d3] => { results := [.lit (.bool true)], args := [d1, d2, d3] }
  | _ => none }
def countSharedRow : OpenClaim := { program := "ytcmgiiobjminlaa", sum := "89c9fbeaf57c92d3c333f4e5b7db786f3ebb712b2d69e8ca1912c57882d9d7b6", func := "comitia/comitialaw04.CountShared", spec := "countShared", recurses := true, apart := false }
def CountSharedSaid : Prop := countSharedRow.holds Try.pinned (OpenSpec.ofChange countSharedSpec)

/-- ITS FALSE NEIGHBOUR: 'it returns false'. Refute it at one input. -/
def countSharedWrong : ChangeSpec := { name := "countShared", fn := fun _ => fun
  | [d1, d2, d3] => { results := [.lit (.bool false)], args := [d1, d2, d3] }
  | _ => none }
def CountSharedWrongFalsely : Prop := countSharedRow.holds Try.pinned (OpenSpec.ofChange countSharedWrong)

/-- 'comitialaw04.CountLeaders': WHATEVER THE INPUT: true; the input reads as it did. -/
def countLeadersSpec : ChangeSpec := { name := "countLeaders", fn := fun _ => fun
  | [d1, d2] => { results := [.lit (.bool true)], args := [d1, d2] }
  | _ => none }
def countLeadersRow : OpenClaim := { program := "ytcmgiiobjminlaa", sum := "89c9fbeaf57c92d3c333f4e5b7db786f3ebb712b2d69e8ca1912c57882d9d7b6", func := "comitia/comitialaw04.CountLeaders", spec := "countLeaders", apart := false }
def CountLeadersSaid : Prop := countLeadersRow.holds Try.pinned (OpenSpec.ofChange countLeadersSpec)

/-- ITS FALSE NEIGHBOUR: 'it returns false'. Refute it at one input. -/
def countLeadersWrong : ChangeSpec := { name := "countLeaders", fn := fun _ => fun
  | [d1, d2] => { results := [.lit (.bool false)], args := [d1, d2] }
  | _ => none }
def CountLeadersWrongFalsely : Prop := countLeadersRow.holds Try.pinned (OpenSpec.ofChange countLeadersWrong)

/- THE SECOND FORM. 'bulk': how many values and letters a reading holds, each counted each time it is reached (what is shared counts as often as it is met; a slice's spare places count too). A statement '..UptoSaid' is the law's where the arguments, and the package variables that the reading takes, are together of bulk at most 1048576: NARROWER than '..Said'. Prove '..Said' where nothing that the law and all that it calls make is longer than what came in: it says more and counts as full. Else prove '..UptoSaid'. A law counts once. -/
mutual
def uptoBulk {H : Type} : DataW H → Nat
  | .lit (.string bytes) => bytes.length + 1
  | .lit _ => 1
  | .nil => 1
  | .ptr d => uptoBulk d + 1
  | .slice elems spare => uptoBulkAll elems + uptoBulkAll spare + 1
  | .agg parts => uptoBulkAll parts + 1
  | .iface _ d => uptoBulk d + 1
  | .map entries => uptoBulkEntries entries + 1
  | .held _ => 1
def uptoBulkAll {H : Type} : List (DataW H) → Nat
  | [] => 0
  | d :: r => uptoBulk d + uptoBulkAll r
def uptoBulkEntries {H : Type} : List (Lit × DataW H) → Nat
  | [] => 0
  | x :: r => uptoBulkEntry x + uptoBulkEntries r
def uptoBulkEntry {H : Type} : Lit × DataW H → Nat
  | (.string bytes, d) => bytes.length + uptoBulk d + 1
  | (_, d) => uptoBulk d + 1
 end
def uptoSmall : (H : Type) → List (DataW H) → Bool := fun _ ds => decide (uptoBulkAll ds ≤ 1048576)
def OpenSpec.upto (s : _root_.Go.ChangeSpec) : _root_.Go.OpenSpec := { _root_.Go.OpenSpec.ofChange s with cond := some uptoSmall }

/-- 'comitialaw04.CountSizes', WHERE WHAT IT READS IS OF BULK AT MOST 1048576: true; the input reads as it did. -/
def countSizesUptoRow : OpenClaim := { program := "ytcmgiiobjminlaa", sum := "89c9fbeaf57c92d3c333f4e5b7db786f3ebb712b2d69e8ca1912c57882d9d7b6", func := "comitia/comitialaw04.CountSizes", spec := "countSizes", apart := false, narrowed := true }
def CountSizesUptoSaid : Prop := countSizesUptoRow.holds Try.pinned (OpenSpec.upto countSizesSpec)

/-- 'comitialaw04.CountLists', WHERE WHAT IT READS IS OF BULK AT MOST 1048576: true; the input reads as it did. -/
def countListsUptoRow : OpenClaim := { program := "ytcmgiiobjminlaa", sum := "89c9fbeaf57c92d3c333f4e5b7db786f3ebb712b2d69e8ca1912c57882d9d7b6", func := "comitia/comitialaw04.CountLists", spec := "countLists", recurses := true, apart := false, narrowed := true }
def CountListsUptoSaid : Prop := countListsUptoRow.holds Try.pinned (OpenSpec.upto countListsSpec)

/-- 'comitialaw04.CountShared', WHERE WHAT IT READS IS OF BULK AT MOST 1048576: true; the input reads as it did. -/
def countSharedUptoRow : OpenClaim := { program := "ytcmgiiobjminlaa", sum := "89c9fbeaf57c92d3c333f4e5b7db786f3ebb712b2d69e8ca1912c57882d9d7b6", func := "comitia/comitialaw04.CountShared", spec := "countShared", recurses := true, apart := false, narrowed := true }
def CountSharedUptoSaid : Prop := countSharedUptoRow.holds Try.pinned (OpenSpec.upto countSharedSpec)

/-- 'comitialaw04.CountLeaders', WHERE WHAT IT READS IS OF BULK AT MOST 1048576: true; the input reads as it did. -/
def countLeadersUptoRow : OpenClaim := { program := "ytcmgiiobjminlaa", sum := "89c9fbeaf57c92d3c333f4e5b7db786f3ebb712b2d69e8ca1912c57882d9d7b6", func := "comitia/comitialaw04.CountLeaders", spec := "countLeaders", apart := false, narrowed := true }
def CountLeadersUptoSaid : Prop := countLeadersUptoRow.holds Try.pinned (OpenSpec.upto countLeadersSpec)

end Rows
end Go.Proofs.Ytcmgiiobjminlaa
