/-
  A ledger: entries, indexes, digests: lists alone (layer 13). No walk is here.
-/
import Derived.Test.YthajnkcipifhcaaGreatDoorKCallsW
import Derived.Test.YthajnkcipifhcaaGreatDoorKEText
import Derived.Test.YthajnkcipifhcaaGreatDoorKZMath
open Go Go.RowKit
namespace LE
open JJ CC WW BB
/-- where a client's number is first; -1 -/
def ixR (l : List Rq) (k : Int × Int) : Int := match l.findIdx? (fun r => decide (keyR r = k)) with | some i => (i : Int) | none => -1
/-- the digest behind entries -/
def digE (E : List Rq) : ByteArray := E.foldl (fun h r => dg ((⟨#[69]⟩ : ByteArray) ++ h ++ reqB r.1 r.2.1 r.2.2)) (dg ⟨#[108, 101, 100, 103, 101, 114]⟩)
end LE
