/-
  The walk of the reference's Split: the records of bytes.
-/
import Derived.Test.YtnahebfhhcebpaaKRBytes
import Derived.Test.YtnahebfhhcebpaaKERefS
import Derived.Test.YtnahebfhhcebpaaKPlanE
import Derived.Laws.AppendOwnNone
open Go Go.RowKit
namespace SS
open WW BB CC
/-- the records that are answered lie in a row of the call's own, nil if there are none -/
def RecsOwn (B : Nat) (t : TypeId) (w' : World) (u : Value) (l : List ByteArray) : Prop := w'.ownsRow B t 1 u l.length (l.map Value.string) ∧ (l = [] → u = .slice none 0 0)
theorem rd4_mul (b : ByteArray) (h0 : 0 < b.size) (h1 : 1 < b.size) (h2 : 2 < b.size) (h3 : 3 < b.size) :
    IntKind.i64.wrap (IntKind.i64.wrap (IntKind.i64.wrap (IntKind.i64.wrap (IntKind.i64.wrap (IntKind.i64.wrap (IntKind.i64.wrap (b[0].toNat : Int) * 256) + IntKind.i64.wrap (b[1].toNat : Int)) * 256) + IntKind.i64.wrap (b[2].toNat : Int)) * 256) + IntKind.i64.wrap (b[3].toNat : Int)) = (rd4 b : Int) := by
  have l0 := UInt8.toNat_lt b[0]
  have l1 := UInt8.toNat_lt b[1]
  have l2 := UInt8.toNat_lt b[2]
  have l3 := UInt8.toNat_lt b[3]
  have e : rd4 b = b[0].toNat * 16777216 + b[1].toNat * 65536 + b[2].toNat * 256 + b[3].toNat := by
    unfold rd4; rw [get_byte, get_byte, get_byte, get_byte]
  rw [e]
  generalize b[0].toNat = x0 at *
  generalize b[1].toNat = x1 at *
  generalize b[2].toNat = x2 at *
  generalize b[3].toNat = x3 at *
  rw [IntWalk.i64_in (x0 : Int) (by omega), IntWalk.i64_in (x1 : Int) (by omega), IntWalk.i64_in (x2 : Int) (by omega), IntWalk.i64_in (x3 : Int) (by omega), IntWalk.i64_in ((x0 : Int) * 256) (by omega), IntWalk.i64_in ((x0 : Int) * 256 + (x1 : Int)) (by omega),
    IntWalk.i64_in (((x0 : Int) * 256 + (x1 : Int)) * 256) (by omega), IntWalk.i64_in (((x0 : Int) * 256 + (x1 : Int)) * 256 + (x2 : Int)) (by omega), IntWalk.i64_in ((((x0 : Int) * 256 + (x1 : Int)) * 256 + (x2 : Int)) * 256) (by omega), IntWalk.i64_in ((((x0 : Int) * 256 + (x1 : Int)) * 256 + (x2 : Int)) * 256 + (x3 : Int)) (by omega)]
  omega
end SS
namespace Go.Proofs.Ytnahebfhhcebpaa
open SS CC WW BB
theorem sinfo_str : (Try.prog.info? 9).map (fun i => (i.zero, i.size, i.bytes)) = some (some (.string ⟨#[]⟩), 1, 16) := by kernel_rfl
end Go.Proofs.Ytnahebfhhcebpaa
