/-
  No cell of these rows narrows 'for every input' (looked for: loops, veiled, ifaces, maps, wideKeys, modest, calm, conditions, laid).
  DERIVED. THE GIVEN ROWS OF THIS SEAT. 4 by the template 'for every input the law returns true; each argument reads behind the call as it read before'; 0 by the template 'total and deterministic' (their statements: YtjabihkfflnndaaTotals.lean).
  GIVEN WITH THE SEED: the statements are not yours to turn. If you find one false, say at which input.
  Laid BY PROGRAM, IN A SANDBOX (cutbox-rows.mjs): the forced cells as the released guide's own fill.sh prints them over the translation 4a1d9548a4ce6902… (all of the seat's roots in one cut). By AI agents, Wed Nov 11 2026. No macro, syntax, notation, axiom, sorry.
-/
import Derived.Test.YtjabihkfflnndaaChecked
import GoSem.Claim
import GoSem.ClaimJoined
import GoSem.ClaimMapViews
import Derived.JoinedTies
import Derived.KernelRfl
namespace Go.Proofs.Ytjabihkfflnndaa
/- THE CELL 'sum', in the pinned program and in every row, IS THE sha256 OF THE DUMP (.gsa) THAT YtjabihkfflnndaaProg.lean LOADS. Nothing in Lean hashes anything: it is a label: what it is worth is what the hold of that sum in a sandbox is worth. -/
noncomputable def Try.pinned : Pinned := { name := "ytjabihkfflnndaa", sum := "4a1d9548a4ce6902f3e8561c71f82fe22141800f4203aa87224131807a781c73", checked := Try.checked }
namespace Rows
def none {H : Type} : Left H := { results := [], args := [] }

/-- 'comitialaw15.TimerPlays': WHATEVER THE INPUT: true; the input reads as it did. -/
def timerPlaysSpec : ChangeSpec := { name := "timerPlays", fn := fun _ => fun
  | [d1, d2] => { results := [.lit (.bool true)], args := [d1, d2] }
  | _ => none }
def timerPlaysRow : OpenClaim := { program := "ytjabihkfflnndaa", sum := "4a1d9548a4ce6902f3e8561c71f82fe22141800f4203aa87224131807a781c73", func := "comitia/comitialaw15.TimerPlays", spec := "timerPlays", apart := false }
def TimerPlaysSaid : Prop := timerPlaysRow.holds Try.pinned (OpenSpec.ofChange timerPlaysSpec)

/-- ITS FALSE NEIGHBOUR: 'it returns false'. Refute it at one input. -/
def timerPlaysWrong : ChangeSpec := { name := "timerPlays", fn := fun _ => fun
  | [d1, d2] => { results := [.lit (.bool false)], args := [d1, d2] }
  | _ => none }
def TimerPlaysWrongFalsely : Prop := timerPlaysRow.holds Try.pinned (OpenSpec.ofChange timerPlaysWrong)

/-- 'comitialaw15.TimerSpans': WHATEVER THE INPUT: true; the input reads as it did. -/
def timerSpansSpec : ChangeSpec := { name := "timerSpans", fn := fun _ => fun
  | [d] => { results := [.lit (.bool true)], args := [d] }
  | _ => none }
def timerSpansRow : OpenClaim := { program := "ytjabihkfflnndaa", sum := "4a1d9548a4ce6902f3e8561c71f82fe22141800f4203aa87224131807a781c73", func := "comitia/comitialaw15.TimerSpans", spec := "timerSpans", apart := false }
def TimerSpansSaid : Prop := timerSpansRow.holds Try.pinned (OpenSpec.ofChange timerSpansSpec)

/-- ITS FALSE NEIGHBOUR: 'it returns false'. Refute it at one input. -/
def timerSpansWrong : ChangeSpec := { name := "timerSpans", fn := fun _ => fun
  | [d] => { results := [.lit (.bool false)], args := [d] }
  | _ => none }
def TimerSpansWrongFalsely : Prop := timerSpansRow.holds Try.pinned (OpenSpec.ofChange timerSpansWrong)

/-- 'comitialaw15.TimerFails': WHATEVER THE INPUT: true; the input reads as it did. -/
def timerFailsSpec : ChangeSpec := { name := "timerFails", fn := fun _ => fun
  | [d] => { results := [.lit (.bool true)], args := [d] }
  | _ => none }
def timerFailsRow : OpenClaim := { program := "ytjabihkfflnndaa", sum := "4a1d9548a4ce6902f3e8561c71f82fe22141800f4203aa87224131807a781c73", func := "comitia/comitialaw15.TimerFails", spec := "timerFails", apart := false }
def TimerFailsSaid : Prop := timerFailsRow.holds Try.pinned (OpenSpec.ofChange timerFailsSpec)

/-- ITS FALSE NEIGHBOUR: 'it returns false'. Refute it at one input. -/
def timerFailsWrong : ChangeSpec := { name := "timerFails", fn := fun _ => fun
  | [d] => { results := [.lit (.bool false)], args := [d] }
  | _ => none }
def TimerFailsWrongFalsely : Prop := timerFailsRow.holds Try.pinned (OpenSpec.ofChange timerFailsWrong)

/-- 'comitialaw15.TimerHalts': WHATEVER THE INPUT: true; the input reads as it did. -/
def timerHaltsSpec : ChangeSpec := { name := "timerHalts", fn := fun _ => fun
  | [d] => { results := [.lit (.bool true)], args := [d] }
  | _ => none }
def timerHaltsRow : OpenClaim := { program := "ytjabihkfflnndaa", sum := "4a1d9548a4ce6902f3e8561c71f82fe22141800f4203aa87224131807a781c73", func := "comitia/comitialaw15.TimerHalts", spec := "timerHalts", apart := false }
def TimerHaltsSaid : Prop := timerHaltsRow.holds Try.pinned (OpenSpec.ofChange timerHaltsSpec)

/-- ITS FALSE NEIGHBOUR: 'it returns false'. Refute it at one input. -/
def timerHaltsWrong : ChangeSpec := { name := "timerHalts", fn := fun _ => fun
  | [d] => { results := [.lit (.bool false)], args := [d] }
  | _ => none }
def TimerHaltsWrongFalsely : Prop := timerHaltsRow.holds Try.pinned (OpenSpec.ofChange timerHaltsWrong)

/- THE SECOND FORM. 'bulk': how many values and letters a reading holds, each counted each time it is reached (what is shared counts as often as it is met; a slice's spare places count too). A statement '..UptoSaid' is the law's where the arguments, and the package variables that the reading takes, are together of bulk at most 1048576: NARROWER than '..Said'. Prove '..Said' where nothing that the law and all that it calls make is longer than what came in: it says more and counts as full. Else prove '..UptoSaid'. A law counts once. -/
mutual
def uptoBulk {H : Type} : DataW H → Nat
  | .lit (.string bytes) => bytes.length + 1
  | .lit _ => 1
  | .nil => 1
  | .ptr d => uptoBulk d + 1
  | .slice elems spare => uptoBulkAll elems + uptoBulkAll spare + 1
  | .agg parts => uptoBulkAll parts + 1
  | .iface _ d => uptoBulk d + 1
  | .map entries => uptoBulkEntries entries + 1
  | .held _ => 1
def uptoBulkAll {H : Type} : List (DataW H) → Nat
  | [] => 0
  | d :: r => uptoBulk d + uptoBulkAll r
def uptoBulkEntries {H : Type} : List (Lit × DataW H) → Nat
  | [] => 0
  | x :: r => uptoBulkEntry x + uptoBulkEntries r
def uptoBulkEntry {H : Type} : Lit × DataW H → Nat
  | (.string bytes, d) => bytes.length + uptoBulk d + 1
  | (_, d) => uptoBulk d + 1
 end
def uptoSmall : (H : Type) → List (DataW H) → Bool := fun _ ds => decide (uptoBulkAll ds ≤ 1048576)
def OpenSpec.upto (s : _root_.Go.ChangeSpec) : _root_.Go.OpenSpec := { _root_.Go.OpenSpec.ofChange s with cond := some uptoSmall }

/-- 'comitialaw15.TimerPlays', WHERE WHAT IT READS IS OF BULK AT MOST 1048576: true; the input reads as it did. -/
def timerPlaysUptoRow : OpenClaim := { program := "ytjabihkfflnndaa", sum := "4a1d9548a4ce6902f3e8561c71f82fe22141800f4203aa87224131807a781c73", func := "comitia/comitialaw15.TimerPlays", spec := "timerPlays", apart := false, narrowed := true }
def TimerPlaysUptoSaid : Prop := timerPlaysUptoRow.holds Try.pinned (OpenSpec.upto timerPlaysSpec)

/-- 'comitialaw15.TimerSpans', WHERE WHAT IT READS IS OF BULK AT MOST 1048576: true; the input reads as it did. -/
def timerSpansUptoRow : OpenClaim := { program := "ytjabihkfflnndaa", sum := "4a1d9548a4ce6902f3e8561c71f82fe22141800f4203aa87224131807a781c73", func := "comitia/comitialaw15.TimerSpans", spec := "timerSpans", apart := false, narrowed := true }
def TimerSpansUptoSaid : Prop := timerSpansUptoRow.holds Try.pinned (OpenSpec.upto timerSpansSpec)

/-- 'comitialaw15.TimerFails', WHERE WHAT IT READS IS OF BULK AT MOST 1048576: true; the input reads as it did. -/
def timerFailsUptoRow : OpenClaim := { program := "ytjabihkfflnndaa", sum := "4a1d9548a4ce6902f3e8561c71f82fe22141800f4203aa87224131807a781c73", func := "comitia/comitialaw15.TimerFails", spec := "timerFails", apart := false, narrowed := true }
def TimerFailsUptoSaid : Prop := timerFailsUptoRow.holds Try.pinned (OpenSpec.upto timerFailsSpec)

/-- 'comitialaw15.TimerHalts', WHERE WHAT IT READS IS OF BULK AT MOST 1048576: true; the input reads as it did. -/
def timerHaltsUptoRow : OpenClaim := { program := "ytjabihkfflnndaa", sum := "4a1d9548a4ce6902f3e8561c71f82fe22141800f4203aa87224131807a781c73", func := "comitia/comitialaw15.TimerHalts", spec := "timerHalts", apart := false, narrowed := true }
def TimerHaltsUptoSaid : Prop := timerHaltsUptoRow.holds Try.pinned (OpenSpec.upto timerHaltsSpec)

end Rows
end Go.Proofs.Ytjabihkfflnndaa
