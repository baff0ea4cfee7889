/-
  NARROWER THAN 'FOR EVERY INPUT', by the rows' own cells (each row's printed sentence says how): MacKeys: laid · MacSigns: laid · MacHolds: laid · MacBent: laid.
  DERIVED. THE GIVEN ROWS OF THIS SEAT. 4 by the template 'for every input the law returns true; each argument reads behind the call as it read before'; 0 by the template 'total and deterministic' (their statements: YtfbjjlejmcpphaaDoorTotals.lean).
  GIVEN WITH THE SEED: the statements are not yours to turn. If you find one false, say at which input.
  Laid BY PROGRAM, IN A SANDBOX (cutbox-rows.mjs): the forced cells as the released guide's own fill.sh prints them over the translation 3452474d5cbb0a9f… (all of the seat's roots in one cut). By AI agents, Wed Nov 11 2026. No macro, syntax, notation, axiom, sorry.
-/
import Derived.Test.YtfbjjlejmcpphaaDoorChecked
import GoSem.Claim
import GoSem.ClaimJoined
import GoSem.ClaimMapViews
import Derived.JoinedTies
import Derived.KernelRfl
namespace Go.Proofs.YtfbjjlejmcpphaaDoor
/- THE CELL 'sum', in the pinned program and in every row, IS THE sha256 OF THE DUMP (.gsa) THAT YtfbjjlejmcpphaaDoorProg.lean LOADS. Nothing in Lean hashes anything: it is a label: what it is worth is what the hold of that sum in a sandbox is worth. -/
noncomputable def Tryd.pinned : Pinned := { name := "ytfbjjlejmcpphaadoor", sum := "3452474d5cbb0a9f433c9d96fa308458faade925c61ddeb2eb81009836d6d337", checked := Tryd.checked }
namespace Rows
def none {H : Type} : Left H := { results := [], args := [] }

/- WHAT THE LISTED PACKAGE-LEVEL VARIABLES READ AS WHEN THE CALL BEGINS. Each datum BY PROGRAM (the guide's laid-datum.mjs) off the statement by which the dump's own 'gosem.cut.vars' lays the variable. In a bare row this is a premise. The card (YtfbjjlejmcpphaaDoorCards.lean) ties it to the program's text. -/
def laid_comitia_blake_start {H : Type} : DataW H := .agg [.lit (.int .u32 1779033703), .lit (.int .u32 3144134277), .lit (.int .u32 1013904242), .lit (.int .u32 2773480762), .lit (.int .u32 1359893119), .lit (.int .u32 2600822924), .lit (.int .u32 528734635), .lit (.int .u32 1541459225)]
def laid_comitia_blake_rows {H : Type} : DataW H := .agg [.agg [.lit (.int .u8 0), .lit (.int .u8 1), .lit (.int .u8 2), .lit (.int .u8 3), .lit (.int .u8 4), .lit (.int .u8 5), .lit (.int .u8 6), .lit (.int .u8 7), .lit (.int .u8 8), .lit (.int .u8 9), .lit (.int .u8 10), .lit (.int .u8 11), .lit (.int .u8 12), .lit (.int .u8 13), .lit (.int .u8 14), .lit (.int .u8 15)], .agg [.lit (.int .u8 14), .lit (.int .u8 10), .lit (.int .u8 4), .lit (.int .u8 8), .lit (.int .u8 9), .lit (.int .u8 15), .lit (.int .u8 13), .lit (.int .u8 6), .lit (.int .u8 1), .lit (.int .u8 12), .lit (.int .u8 0), .lit (.int .u8 2), .lit (.int .u8 11), .lit (.int .u8 7), .lit (.int .u8 5), .lit (.int .u8 3)], .agg [.lit (.int .u8 11), .lit (.int .u8 8), .lit (.int .u8 12), .lit (.int .u8 0), .lit (.int .u8 5), .lit (.int .u8 2), .lit (.int .u8 15), .lit (.int .u8 13), .lit (.int .u8 10), .lit (.int .u8 14), .lit (.int .u8 3), .lit (.int .u8 6), .lit (.int .u8 7), .lit (.int .u8 1), .lit (.int .u8 9), .lit (.int .u8 4)], .agg [.lit (.int .u8 7), .lit (.int .u8 9), .lit (.int .u8 3), .lit (.int .u8 1), .lit (.int .u8 13), .lit (.int .u8 12), .lit (.int .u8 11), .lit (.int .u8 14), .lit (.int .u8 2), .lit (.int .u8 6), .lit (.int .u8 5), .lit (.int .u8 10), .lit (.int .u8 4), .lit (.int .u8 0), .lit (.int .u8 15), .lit (.int .u8 8)], .agg [.lit (.int .u8 9), .lit (.int .u8 0), .lit (.int .u8 5), .lit (.int .u8 7), .lit (.int .u8 2), .lit (.int .u8 4), .lit (.int .u8 10), .lit (.int .u8 15), .lit (.int .u8 14), .lit (.int .u8 1), .lit (.int .u8 11), .lit (.int .u8 12), .lit (.int .u8 6), .lit (.int .u8 8), .lit (.int .u8 3), .lit (.int .u8 13)], .agg [.lit (.int .u8 2), .lit (.int .u8 12), .lit (.int .u8 6), .lit (.int .u8 10), .lit (.int .u8 0), .lit (.int .u8 11), .lit (.int .u8 8), .lit (.int .u8 3), .lit (.int .u8 4), .lit (.int .u8 13), .lit (.int .u8 7), .lit (.int .u8 5), .lit (.int .u8 15), .lit (.int .u8 14), .lit (.int .u8 1), .lit (.int .u8 9)], .agg [.lit (.int .u8 12), .lit (.int .u8 5), .lit (.int .u8 1), .lit (.int .u8 15), .lit (.int .u8 14), .lit (.int .u8 13), .lit (.int .u8 4), .lit (.int .u8 10), .lit (.int .u8 0), .lit (.int .u8 7), .lit (.int .u8 6), .lit (.int .u8 3), .lit (.int .u8 9), .lit (.int .u8 2), .lit (.int .u8 8), .lit (.int .u8 11)], .agg [.lit (.int .u8 13), .lit (.int .u8 11), .lit (.int .u8 7), .lit (.int .u8 14), .lit (.int .u8 12), .lit (.int .u8 1), .lit (.int .u8 3), .lit (.int .u8 9), .lit (.int .u8 5), .lit (.int .u8 0), .lit (.int .u8 15), .lit (.int .u8 4), .lit (.int .u8 8), .lit (.int .u8 6), .lit (.int .u8 2), .lit (.int .u8 10)], .agg [.lit (.int .u8 6), .lit (.int .u8 15), .lit (.int .u8 14), .lit (.int .u8 9), .lit (.int .u8 11), .lit (.int .u8 3), .lit (.int .u8 0), .lit (.int .u8 8), .lit (.int .u8 12), .lit (.int .u8 2), .lit (.int .u8 13), .lit (.int .u8 7), .lit (.int .u8 1), .lit (.int .u8 4), .lit (.int .u8 10), .lit (.int .u8 5)], .agg [.lit (.int .u8 10), .lit (.int .u8 2), .lit (.int .u8 8), .lit (.int .u8 4), .lit (.int .u8 7), .lit (.int .u8 6), .lit (.int .u8 1), .lit (.int .u8 5), .lit (.int .u8 15), .lit (.int .u8 11), .lit (.int .u8 9), .lit (.int .u8 14), .lit (.int .u8 3), .lit (.int .u8 12), .lit (.int .u8 13), .lit (.int .u8 0)]]
def laid_comitia_blake_places {H : Type} : DataW H := .agg [.agg [.lit (.int .u8 0), .lit (.int .u8 4), .lit (.int .u8 8), .lit (.int .u8 12)], .agg [.lit (.int .u8 1), .lit (.int .u8 5), .lit (.int .u8 9), .lit (.int .u8 13)], .agg [.lit (.int .u8 2), .lit (.int .u8 6), .lit (.int .u8 10), .lit (.int .u8 14)], .agg [.lit (.int .u8 3), .lit (.int .u8 7), .lit (.int .u8 11), .lit (.int .u8 15)], .agg [.lit (.int .u8 0), .lit (.int .u8 5), .lit (.int .u8 10), .lit (.int .u8 15)], .agg [.lit (.int .u8 1), .lit (.int .u8 6), .lit (.int .u8 11), .lit (.int .u8 12)], .agg [.lit (.int .u8 2), .lit (.int .u8 7), .lit (.int .u8 8), .lit (.int .u8 13)], .agg [.lit (.int .u8 3), .lit (.int .u8 4), .lit (.int .u8 9), .lit (.int .u8 14)]]

/-- 'comitialaw03.MacKeys': WHATEVER THE INPUT: true; the input reads as it did. -/
def macKeysSpec : ChangeSpec := { name := "macKeys", fn := fun _ => fun
  | [d1, d2, d3] => { results := [.lit (.bool true)], args := [d1, d2, d3] }
  | _ => none }
def macKeysRow : OpenClaim := { program := "ytfbjjlejmcpphaadoor", sum := "3452474d5cbb0a9f433c9d96fa308458faade925c61ddeb2eb81009836d6d337", func := "comitia/comitialaw03.MacKeys", spec := "macKeys", recurses := true, named := ["comitia/blake.start", "comitia/blake.rows", "comitia/blake.places"], apart := false, laid := [("comitia/blake.start", laid_comitia_blake_start), ("comitia/blake.rows", laid_comitia_blake_rows), ("comitia/blake.places", laid_comitia_blake_places)] }
def MacKeysSaid : Prop := macKeysRow.holds Tryd.pinned (OpenSpec.ofChange macKeysSpec)

/-- ITS FALSE NEIGHBOUR: 'it returns false'. Refute it at one input. -/
def macKeysWrong : ChangeSpec := { name := "macKeys", fn := fun _ => fun
  | [d1, d2, d3] => { results := [.lit (.bool false)], args := [d1, d2, d3] }
  | _ => none }
def MacKeysWrongFalsely : Prop := macKeysRow.holds Tryd.pinned (OpenSpec.ofChange macKeysWrong)

/-- 'comitialaw03.MacSigns': WHATEVER THE INPUT: true; the input reads as it did. -/
def macSignsSpec : ChangeSpec := { name := "macSigns", fn := fun _ => fun
  | [d1, d2, d3] => { results := [.lit (.bool true)], args := [d1, d2, d3] }
  | _ => none }
def macSignsRow : OpenClaim := { program := "ytfbjjlejmcpphaadoor", sum := "3452474d5cbb0a9f433c9d96fa308458faade925c61ddeb2eb81009836d6d337", func := "comitia/comitialaw03.MacSigns", spec := "macSigns", recurses := true, named := ["comitia/blake.start", "comitia/blake.rows", "comitia/blake.places"], apart := false, laid := [("comitia/blake.start", laid_comitia_blake_start), ("comitia/blake.rows", laid_comitia_blake_rows), ("comitia/blake.places", laid_comitia_blake_places)] }
def MacSignsSaid : Prop := macSignsRow.holds Tryd.pinned (OpenSpec.ofChange macSignsSpec)

/-- ITS FALSE NEIGHBOUR: 'it returns false'. Refute it at one input. -/
def macSignsWrong : ChangeSpec := { name := "macSigns", fn := fun _ => fun
  | [d1, d2, d3] => { results := [.lit (.bool false)], args := [d1, d2, d3] }
  | _ => none }
def MacSignsWrongFalsely : Prop := macSignsRow.holds Tryd.pinned (OpenSpec.ofChange macSignsWrong)

/-- 'comitialaw03.MacHolds': WHATEVER THE INPUT: true; the input reads as it did. -/
def macHoldsSpec : ChangeSpec := { name := "macHolds", fn := fun _ => fun
  | [d1, d2, d3] => { results := [.lit (.bool true)], args := [d1, d2, d3] }
  | _ => none }
def macHoldsRow : OpenClaim := { program := "ytfbjjlejmcpphaadoor", sum := "3452474d5cbb0a9f433c9d96fa308458faade925c61ddeb2eb81009836d6d337", func := "comitia/comitialaw03.MacHolds", spec := "macHolds", recurses := true, named := ["comitia/blake.start", "comitia/blake.rows", "comitia/blake.places"], apart := false, laid := [("comitia/blake.start", laid_comitia_blake_start), ("comitia/blake.rows", laid_comitia_blake_rows), ("comitia/blake.places", laid_comitia_blake_places)] }
def MacHoldsSaid : Prop := macHoldsRow.holds Tryd.pinned (OpenSpec.ofChange macHoldsSpec)

/-- ITS FALSE NEIGHBOUR: 'it returns false'. Refute it at one input. -/
def macHoldsWrong : ChangeSpec := { name := "macHolds", fn := fun _ => fun
  | [d1, d2, d3] => { results := [.lit (.bool false)], args := [d1, d2, d3] }
  | _ => none }
def MacHoldsWrongFalsely : Prop := macHoldsRow.holds Tryd.pinned (OpenSpec.ofChange macHoldsWrong)

/-- 'comitialaw03.MacBent': WHATEVER THE INPUT: true; the input reads as it did. -/
def macBentSpec : ChangeSpec := { name := "macBent", fn := fun _ => fun
  | [d1, d2, d3] => { results := [.lit (.bool true)], args := [d1, d2, d3] }
  | _ => none }
def macBentRow : OpenClaim := { program := "ytfbjjlejmcpphaadoor", sum := "3452474d5cbb0a9f433c9d96fa308458faade925c61ddeb2eb81009836d6d337", func := "comitia/comitialaw03.MacBent", spec := "macBent", named := ["comitia/blake.start", "comitia/blake.rows", "comitia/blake.places"], apart := false, laid := [("comitia/blake.start", laid_comitia_blake_start), ("comitia/blake.rows", laid_comitia_blake_rows), ("comitia/blake.places", laid_comitia_blake_places)] }
def MacBentSaid : Prop := macBentRow.holds Tryd.pinned (OpenSpec.ofChange macBentSpec)

/-- ITS FALSE NEIGHBOUR: 'it returns false'. Refute it at one input. -/
def macBentWrong : ChangeSpec := { name := "macBent", fn := fun _ => fun
  | [d1, d2, d3] => { results := [.lit (.bool false)], args := [d1, d2, d3] }
  | _ => none }
def MacBentWrongFalsely : Prop := macBentRow.holds Tryd.pinned (OpenSpec.ofChange macBentWrong)

/- THE SECOND FORM. 'bulk': how many values and letters a reading holds, each counted each time it is reached (what is shared counts as often as it is met; a slice's spare places count too). A statement '..UptoSaid' is the law's where the arguments, and the package variables that the reading takes, are together of bulk at most 1048576: NARROWER than '..Said'. Prove '..Said' where nothing that the law and all that it calls make is longer than what came in: it says more and counts as full. Else prove '..UptoSaid'. A law counts once. -/
mutual
def uptoBulk {H : Type} : DataW H → Nat
  | .lit (.string bytes) => bytes.length + 1
  | .lit _ => 1
  | .nil => 1
  | .ptr d => uptoBulk d + 1
  | .slice elems spare => uptoBulkAll elems + uptoBulkAll spare + 1
  | .agg parts => uptoBulkAll parts + 1
  | .iface _ d => uptoBulk d + 1
  | .map entries => uptoBulkEntries entries + 1
  | .held _ => 1
def uptoBulkAll {H : Type} : List (DataW H) → Nat
  | [] => 0
  | d :: r => uptoBulk d + uptoBulkAll r
def uptoBulkEntries {H : Type} : List (Lit × DataW H) → Nat
  | [] => 0
  | x :: r => uptoBulkEntry x + uptoBulkEntries r
def uptoBulkEntry {H : Type} : Lit × DataW H → Nat
  | (.string bytes, d) => bytes.length + uptoBulk d + 1
  | (_, d) => uptoBulk d + 1
 end
def uptoSmall : (H : Type) → List (DataW H) → Bool := fun _ ds => decide (uptoBulkAll ds ≤ 1048576)
def OpenSpec.upto (s : _root_.Go.ChangeSpec) : _root_.Go.OpenSpec := { _root_.Go.OpenSpec.ofChange s with cond := some uptoSmall }

/-- 'comitialaw03.MacKeys', WHERE WHAT IT READS IS OF BULK AT MOST 1048576: true; the input reads as it did. -/
def macKeysUptoRow : OpenClaim := { program := "ytfbjjlejmcpphaadoor", sum := "3452474d5cbb0a9f433c9d96fa308458faade925c61ddeb2eb81009836d6d337", func := "comitia/comitialaw03.MacKeys", spec := "macKeys", recurses := true, named := ["comitia/blake.start", "comitia/blake.rows", "comitia/blake.places"], apart := false, laid := [("comitia/blake.start", laid_comitia_blake_start), ("comitia/blake.rows", laid_comitia_blake_rows), ("comitia/blake.places", laid_comitia_blake_places)], narrowed := true }
def MacKeysUptoSaid : Prop := macKeysUptoRow.holds Tryd.pinned (OpenSpec.upto macKeysSpec)

/-- 'comitialaw03.MacSigns', WHERE WHAT IT READS IS OF BULK AT MOST 1048576: true; the input reads as it did. -/
def macSignsUptoRow : OpenClaim := { program := "ytfbjjlejmcpphaadoor", sum := "3452474d5cbb0a9f433c9d96fa308458faade925c61ddeb2eb81009836d6d337", func := "comitia/comitialaw03.MacSigns", spec := "macSigns", recurses := true, named := ["comitia/blake.start", "comitia/blake.rows", "comitia/blake.places"], apart := false, laid := [("comitia/blake.start", laid_comitia_blake_start), ("comitia/blake.rows", laid_comitia_blake_rows), ("comitia/blake.places", laid_comitia_blake_places)], narrowed := true }
def MacSignsUptoSaid : Prop := macSignsUptoRow.holds Tryd.pinned (OpenSpec.upto macSignsSpec)

/-- 'comitialaw03.MacHolds', WHERE WHAT IT READS IS OF BULK AT MOST 1048576: true; the input reads as it did. -/
def macHoldsUptoRow : OpenClaim := { program := "ytfbjjlejmcpphaadoor", sum := "3452474d5cbb0a9f433c9d96fa308458faade925c61ddeb2eb81009836d6d337", func := "comitia/comitialaw03.MacHolds", spec := "macHolds", recurses := true, named := ["comitia/blake.start", "comitia/blake.rows", "comitia/blake.places"], apart := false, laid := [("comitia/blake.start", laid_comitia_blake_start), ("comitia/blake.rows", laid_comitia_blake_rows), ("comitia/blake.places", laid_comitia_blake_places)], narrowed := true }
def MacHoldsUptoSaid : Prop := macHoldsUptoRow.holds Tryd.pinned (OpenSpec.upto macHoldsSpec)

/-- 'comitialaw03.MacBent', WHERE WHAT IT READS IS OF BULK AT MOST 1048576: true; the input reads as it did. -/
def macBentUptoRow : OpenClaim := { program := "ytfbjjlejmcpphaadoor", sum := "3452474d5cbb0a9f433c9d96fa308458faade925c61ddeb2eb81009836d6d337", func := "comitia/comitialaw03.MacBent", spec := "macBent", named := ["comitia/blake.start", "comitia/blake.rows", "comitia/blake.places"], apart := false, laid := [("comitia/blake.start", laid_comitia_blake_start), ("comitia/blake.rows", laid_comitia_blake_rows), ("comitia/blake.places", laid_comitia_blake_places)], narrowed := true }
def MacBentUptoSaid : Prop := macBentUptoRow.holds Tryd.pinned (OpenSpec.upto macBentSpec)

end Rows
end Go.Proofs.YtfbjjlejmcpphaaDoor
