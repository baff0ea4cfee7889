/-
  No cell of these rows narrows 'for every input' (looked for: loops, veiled, ifaces, maps, wideKeys, modest, calm, conditions, laid).
  DERIVED. THE GIVEN ROWS OF THIS SEAT. 3 by the template 'for every input the law returns true; each argument reads behind the call as it read before'; 0 by the template 'total and deterministic' (their statements: YtlpnggdghmccjaaTotals.lean).
  GIVEN WITH THE SEED: the statements are not yours to turn. If you find one false, say at which input.
  Laid BY PROGRAM, IN A SANDBOX (cutbox-rows.mjs): the forced cells as the released guide's own fill.sh prints them over the translation e92360c84284dd20… (all of the seat's roots in one cut). By AI agents, Wed Nov 11 2026. No macro, syntax, notation, axiom, sorry.
-/
import Derived.Test.YtlpnggdghmccjaaChecked
import GoSem.Claim
import GoSem.ClaimJoined
import GoSem.ClaimMapViews
import Derived.JoinedTies
import Derived.KernelRfl
namespace Go.Proofs.Ytlpnggdghmccjaa
/- THE CELL 'sum', in the pinned program and in every row, IS THE sha256 OF THE DUMP (.gsa) THAT YtlpnggdghmccjaaProg.lean LOADS. Nothing in Lean hashes anything: it is a label: what it is worth is what the hold of that sum in a sandbox is worth. -/
noncomputable def Try.pinned : Pinned := { name := "ytlpnggdghmccjaa", sum := "e92360c84284dd20899c6d123d605b5fc13c016e3f8843a42ea14e421fe8ee5f", checked := Try.checked }
namespace Rows
def none {H : Type} : Left H := { results := [], args := [] }

/-- 'comitialaw08.RuleOnce': WHATEVER THE INPUT: true; the input reads as it did. -/
def ruleOnceSpec : ChangeSpec := { name := "ruleOnce", fn := fun _ => fun
  | [d1, d2] => { results := [.lit (.bool true)], args := [d1, d2] }
  | _ => none }
def ruleOnceRow : OpenClaim := { program := "ytlpnggdghmccjaa", sum := "e92360c84284dd20899c6d123d605b5fc13c016e3f8843a42ea14e421fe8ee5f", func := "comitia/comitialaw08.RuleOnce", spec := "ruleOnce", apart := false }
def RuleOnceSaid : Prop := ruleOnceRow.holds Try.pinned (OpenSpec.ofChange ruleOnceSpec)

/-- ITS FALSE NEIGHBOUR: 'it returns false'. Refute it at one input. -/
def ruleOnceWrong : ChangeSpec := { name := "ruleOnce", fn := fun _ => fun
  | [d1, d2] => { results := [.lit (.bool false)], args := [d1, d2] }
  | _ => none }
def RuleOnceWrongFalsely : Prop := ruleOnceRow.holds Try.pinned (OpenSpec.ofChange ruleOnceWrong)

/-- 'comitialaw08.RuleVotes': WHATEVER THE INPUT: true; the input reads as it did. -/
def ruleVotesSpec : ChangeSpec := { name := "ruleVotes", fn := fun _ => fun
  | [d1, d2, d3] => { results := [.lit (.bool true)], args := [d1, d2, d3] }
  | _ => none }
def ruleVotesRow : OpenClaim := { program := "ytlpnggdghmccjaa", sum := "e92360c84284dd20899c6d123d605b5fc13c016e3f8843a42ea14e421fe8ee5f", func := "comitia/comitialaw08.RuleVotes", spec := "ruleVotes", apart := false }
def RuleVotesSaid : Prop := ruleVotesRow.holds Try.pinned (OpenSpec.ofChange ruleVotesSpec)

/-- ITS FALSE NEIGHBOUR: 'it returns false'. Refute it at one input. -/
def ruleVotesWrong : ChangeSpec := { name := "ruleVotes", fn := fun _ => fun
  | [d1, d2, d3] => { results := [.lit (.bool false)], args := [d1, d2, d3] }
  | _ => none }
def RuleVotesWrongFalsely : Prop := ruleVotesRow.holds Try.pinned (OpenSpec.ofChange ruleVotesWrong)

/-- 'comitialaw08.RuleBytes': WHATEVER THE INPUT: true; the input reads as it did. -/
def ruleBytesSpec : ChangeSpec := { name := "ruleBytes", fn := fun _ => fun
  | [d1, d2] => { results := [.lit (.bool true)], args := [d1, d2] }
  | _ => none }
def ruleBytesRow : OpenClaim := { program := "ytlpnggdghmccjaa", sum := "e92360c84284dd20899c6d123d605b5fc13c016e3f8843a42ea14e421fe8ee5f", func := "comitia/comitialaw08.RuleBytes", spec := "ruleBytes", apart := false }
def RuleBytesSaid : Prop := ruleBytesRow.holds Try.pinned (OpenSpec.ofChange ruleBytesSpec)

/-- ITS FALSE NEIGHBOUR: 'it returns false'. Refute it at one input. -/
def ruleBytesWrong : ChangeSpec := { name := "ruleBytes", fn := fun _ => fun
  | [d1, d2] => { results := [.lit (.bool false)], args := [d1, d2] }
  | _ => none }
def RuleBytesWrongFalsely : Prop := ruleBytesRow.holds Try.pinned (OpenSpec.ofChange ruleBytesWrong)

/- THE SECOND FORM. 'bulk': how many values and letters a reading holds, each counted each time it is reached (what is shared counts as often as it is met; a slice's spare places count too). A statement '..UptoSaid' is the law's where the arguments, and the package variables that the reading takes, are together of bulk at most 1048576: NARROWER than '..Said'. Prove '..Said' where nothing that the law and all that it calls make is longer than what came in: it says more and counts as full. Else prove '..UptoSaid'. A law counts once. -/
mutual
def uptoBulk {H : Type} : DataW H → Nat
  | .lit (.string bytes) => bytes.length + 1
  | .lit _ => 1
  | .nil => 1
  | .ptr d => uptoBulk d + 1
  | .slice elems spare => uptoBulkAll elems + uptoBulkAll spare + 1
  | .agg parts => uptoBulkAll parts + 1
  | .iface _ d => uptoBulk d + 1
  | .map entries => uptoBulkEntries entries + 1
  | .held _ => 1
def uptoBulkAll {H : Type} : List (DataW H) → Nat
  | [] => 0
  | d :: r => uptoBulk d + uptoBulkAll r
def uptoBulkEntries {H : Type} : List (Lit × DataW H) → Nat
  | [] => 0
  | x :: r => uptoBulkEntry x + uptoBulkEntries r
def uptoBulkEntry {H : Type} : Lit × DataW H → Nat
  | (.string bytes, d) => bytes.length + uptoBulk d + 1
  | (_, d) => uptoBulk d + 1
 end
def uptoSmall : (H : Type) → List (DataW H) → Bool := fun _ ds => decide (uptoBulkAll ds ≤ 1048576)
def OpenSpec.upto (s : _root_.Go.ChangeSpec) : _root_.Go.OpenSpec := { _root_.Go.OpenSpec.ofChange s with cond := some uptoSmall }

/-- 'comitialaw08.RuleOnce', WHERE WHAT IT READS IS OF BULK AT MOST 1048576: true; the input reads as it did. -/
def ruleOnceUptoRow : OpenClaim := { program := "ytlpnggdghmccjaa", sum := "e92360c84284dd20899c6d123d605b5fc13c016e3f8843a42ea14e421fe8ee5f", func := "comitia/comitialaw08.RuleOnce", spec := "ruleOnce", apart := false, narrowed := true }
def RuleOnceUptoSaid : Prop := ruleOnceUptoRow.holds Try.pinned (OpenSpec.upto ruleOnceSpec)

/-- 'comitialaw08.RuleVotes', WHERE WHAT IT READS IS OF BULK AT MOST 1048576: true; the input reads as it did. -/
def ruleVotesUptoRow : OpenClaim := { program := "ytlpnggdghmccjaa", sum := "e92360c84284dd20899c6d123d605b5fc13c016e3f8843a42ea14e421fe8ee5f", func := "comitia/comitialaw08.RuleVotes", spec := "ruleVotes", apart := false, narrowed := true }
def RuleVotesUptoSaid : Prop := ruleVotesUptoRow.holds Try.pinned (OpenSpec.upto ruleVotesSpec)

/-- 'comitialaw08.RuleBytes', WHERE WHAT IT READS IS OF BULK AT MOST 1048576: true; the input reads as it did. -/
def ruleBytesUptoRow : OpenClaim := { program := "ytlpnggdghmccjaa", sum := "e92360c84284dd20899c6d123d605b5fc13c016e3f8843a42ea14e421fe8ee5f", func := "comitia/comitialaw08.RuleBytes", spec := "ruleBytes", apart := false, narrowed := true }
def RuleBytesUptoSaid : Prop := ruleBytesUptoRow.holds Try.pinned (OpenSpec.upto ruleBytesSpec)

end Rows
end Go.Proofs.Ytlpnggdghmccjaa
