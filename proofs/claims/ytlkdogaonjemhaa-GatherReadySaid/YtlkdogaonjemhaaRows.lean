/-
  No cell of these rows narrows 'for every input' (looked for: loops, veiled, ifaces, maps, wideKeys, modest, calm, conditions, laid).
  DERIVED. THE GIVEN ROWS OF THIS SEAT. 3 by the template 'for every input the law returns true; each argument reads behind the call as it read before'; 0 by the template 'total and deterministic' (their statements: YtlkdogaonjemhaaTotals.lean).
  GIVEN WITH THE SEED: the statements are not yours to turn. If you find one false, say at which input.
  Laid BY PROGRAM, IN A SANDBOX (cutbox-rows.mjs): the forced cells as the released guide's own fill.sh prints them over the translation 0a92d1acf889e1bb… (all of the seat's roots in one cut). By AI agents, Wed Nov 11 2026. No macro, syntax, notation, axiom, sorry.
-/
import Derived.Test.YtlkdogaonjemhaaChecked
import GoSem.Claim
import GoSem.ClaimJoined
import GoSem.ClaimMapViews
import Derived.JoinedTies
import Derived.KernelRfl
namespace Go.Proofs.Ytlkdogaonjemhaa
/- THE CELL 'sum', in the pinned program and in every row, IS THE sha256 OF THE DUMP (.gsa) THAT YtlkdogaonjemhaaProg.lean LOADS. Nothing in Lean hashes anything: it is a label: what it is worth is what the hold of that sum in a sandbox is worth. -/
noncomputable def Try.pinned : Pinned := { name := "ytlkdogaonjemhaa", sum := "0a92d1acf889e1bba61b658063979871f49101a85ace84f488974ee036d58d7e", checked := Try.checked }
namespace Rows
def none {H : Type} : Left H := { results := [], args := [] }

/-- 'comitialaw16.GatherRises': WHATEVER THE INPUT: true; the input reads as it did. -/
def gatherRisesSpec : ChangeSpec := { name := "gatherRises", fn := fun _ => fun
  | [d1, d2] => { results := [.lit (.bool true)], args := [d1, d2] }
  | _ => none }
def gatherRisesRow : OpenClaim := { program := "ytlkdogaonjemhaa", sum := "0a92d1acf889e1bba61b658063979871f49101a85ace84f488974ee036d58d7e", func := "comitia/comitialaw16.GatherRises", spec := "gatherRises", recurses := true, apart := false }
def GatherRisesSaid : Prop := gatherRisesRow.holds Try.pinned (OpenSpec.ofChange gatherRisesSpec)

/-- ITS FALSE NEIGHBOUR: 'it returns false'. Refute it at one input. -/
def gatherRisesWrong : ChangeSpec := { name := "gatherRises", fn := fun _ => fun
  | [d1, d2] => { results := [.lit (.bool false)], args := [d1, d2] }
  | _ => none }
def GatherRisesWrongFalsely : Prop := gatherRisesRow.holds Try.pinned (OpenSpec.ofChange gatherRisesWrong)

/-- 'comitialaw16.GatherPlays': WHATEVER THE INPUT: true; the input reads as it did. -/
def gatherPlaysSpec : ChangeSpec := { name := "gatherPlays", fn := fun _ => fun
  | [d1, d2, d3] => { results := [.lit (.bool true)], args := [d1, d2, d3] }
  | _ => none }
def gatherPlaysRow : OpenClaim := { program := "ytlkdogaonjemhaa", sum := "0a92d1acf889e1bba61b658063979871f49101a85ace84f488974ee036d58d7e", func := "comitia/comitialaw16.GatherPlays", spec := "gatherPlays", recurses := true, apart := false }
def GatherPlaysSaid : Prop := gatherPlaysRow.holds Try.pinned (OpenSpec.ofChange gatherPlaysSpec)

/-- ITS FALSE NEIGHBOUR: 'it returns false'. Refute it at one input. -/
def gatherPlaysWrong : ChangeSpec := { name := "gatherPlays", fn := fun _ => fun
  | [d1, d2, d3] => { results := [.lit (.bool false)], args := [d1, d2, d3] }
  | _ => none }
def GatherPlaysWrongFalsely : Prop := gatherPlaysRow.holds Try.pinned (OpenSpec.ofChange gatherPlaysWrong)

/-- 'comitialaw16.GatherReady': WHATEVER THE INPUT: true; the input reads as it did. -/
def gatherReadySpec : ChangeSpec := { name := "gatherReady", fn := fun _ => fun
  | [d1, d2, d3] => { results := [.lit (.bool true)], args := [d1, d2, d3] }
  | _ => none }
def gatherReadyRow : OpenClaim := { program := "ytlkdogaonjemhaa", sum := "0a92d1acf889e1bba61b658063979871f49101a85ace84f488974ee036d58d7e", func := "comitia/comitialaw16.GatherReady", spec := "gatherReady", recurses := true, apart := false }
def GatherReadySaid : Prop := gatherReadyRow.holds Try.pinned (OpenSpec.ofChange gatherReadySpec)

/-- ITS FALSE NEIGHBOUR: 'it returns false'. Refute it at one input. -/
def gatherReadyWrong : ChangeSpec := { name := "gatherReady", fn := fun _ => fun
  | [d1, d2, d3] => { results := [.lit (.bool false)], args := [d1, d2, d3] }
  | _ => none }
def GatherReadyWrongFalsely : Prop := gatherReadyRow.holds Try.pinned (OpenSpec.ofChange gatherReadyWrong)

/- THE SECOND FORM. 'bulk': how many values and letters a reading holds, each counted each time it is reached (what is shared counts as often as it is met; a slice's spare places count too). A statement '..UptoSaid' is the law's where the arguments, and the package variables that the reading takes, are together of bulk at most 1048576: NARROWER than '..Said'. Prove '..Said' where nothing that the law and all that it calls make is longer than what came in: it says more and counts as full. Else prove '..UptoSaid'. A law counts once. -/
mutual
def uptoBulk {H : Type} : DataW H → Nat
  | .lit (.string bytes) => bytes.length + 1
  | .lit _ => 1
  | .nil => 1
  | .ptr d => uptoBulk d + 1
  | .slice elems spare => uptoBulkAll elems + uptoBulkAll spare + 1
  | .agg parts => uptoBulkAll parts + 1
  | .iface _ d => uptoBulk d + 1
  | .map entries => uptoBulkEntries entries + 1
  | .held _ => 1
def uptoBulkAll {H : Type} : List (DataW H) → Nat
  | [] => 0
  | d :: r => uptoBulk d + uptoBulkAll r
def uptoBulkEntries {H : Type} : List (Lit × DataW H) → Nat
  | [] => 0
  | x :: r => uptoBulkEntry x + uptoBulkEntries r
def uptoBulkEntry {H : Type} : Lit × DataW H → Nat
  | (.string bytes, d) => bytes.length + uptoBulk d + 1
  | (_, d) => uptoBulk d + 1
 end
def uptoSmall : (H : Type) → List (DataW H) → Bool := fun _ ds => decide (uptoBulkAll ds ≤ 1048576)
def OpenSpec.upto (s : _root_.Go.ChangeSpec) : _root_.Go.OpenSpec := { _root_.Go.OpenSpec.ofChange s with cond := some uptoSmall }

/-- 'comitialaw16.GatherRises', WHERE WHAT IT READS IS OF BULK AT MOST 1048576: true; the input reads as it did. -/
def gatherRisesUptoRow : OpenClaim := { program := "ytlkdogaonjemhaa", sum := "0a92d1acf889e1bba61b658063979871f49101a85ace84f488974ee036d58d7e", func := "comitia/comitialaw16.GatherRises", spec := "gatherRises", recurses := true, apart := false, narrowed := true }
def GatherRisesUptoSaid : Prop := gatherRisesUptoRow.holds Try.pinned (OpenSpec.upto gatherRisesSpec)

/-- 'comitialaw16.GatherPlays', WHERE WHAT IT READS IS OF BULK AT MOST 1048576: true; the input reads as it did. -/
def gatherPlaysUptoRow : OpenClaim := { program := "ytlkdogaonjemhaa", sum := "0a92d1acf889e1bba61b658063979871f49101a85ace84f488974ee036d58d7e", func := "comitia/comitialaw16.GatherPlays", spec := "gatherPlays", recurses := true, apart := false, narrowed := true }
def GatherPlaysUptoSaid : Prop := gatherPlaysUptoRow.holds Try.pinned (OpenSpec.upto gatherPlaysSpec)

/-- 'comitialaw16.GatherReady', WHERE WHAT IT READS IS OF BULK AT MOST 1048576: true; the input reads as it did. -/
def gatherReadyUptoRow : OpenClaim := { program := "ytlkdogaonjemhaa", sum := "0a92d1acf889e1bba61b658063979871f49101a85ace84f488974ee036d58d7e", func := "comitia/comitialaw16.GatherReady", spec := "gatherReady", recurses := true, apart := false, narrowed := true }
def GatherReadyUptoSaid : Prop := gatherReadyUptoRow.holds Try.pinned (OpenSpec.upto gatherReadySpec)

end Rows
end Go.Proofs.Ytlkdogaonjemhaa
