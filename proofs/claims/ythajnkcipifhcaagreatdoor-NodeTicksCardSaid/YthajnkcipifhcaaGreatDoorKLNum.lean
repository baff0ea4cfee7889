/-
  How many are enough: the code's Faults, Quorum, Weak, Leader.
-/
import Derived.Test.YthajnkcipifhcaaGreatDoorKLOpen
import Derived.BigQuiet
import Derived.WalkSmall
import Derived.Test.YthajnkcipifhcaaGreatDoorKCallsW
section
open Go Go.RowKit
namespace WW
open BB
/-- the faults that are borne -/
def faultsI (n : Int) : Int := if n < 1 then 0 else (n - 1) / 3
theorem row_keep {w w' : World} {e : TypeId} {lo k m : Nat} {sv : Value} {xs : List Value} (h : w.ownsRow lo e k sv m xs) (hk : ∀ c, sv.ownBlock = some c → w'.heap[c]? = w.heap[c]?) : w'.ownsRow lo e k sv m xs := by
  obtain ⟨h1, h2 | ⟨g, cap, cur, hv, hb, hc, rest⟩⟩ := h
  · exact ⟨h1, Or.inl h2⟩
  · subst hv
    exact ⟨h1, Or.inr ⟨g, cap, cur, rfl, hb, (hk g rfl).trans hc, rest⟩⟩
theorem below_drewI {B : Nat} {a w : World} (h : Below B a w) (n : Nat) : Below B a (w.drewN n) := h.trans ⟨rfl, rfl, rfl, Nat.le_refl _, fun _ _ => rfl⟩
end WW
namespace Go.Proofs.YthajnkcipifhcaaGreatDoor
open WW BB
theorem info_int : (Tryz.prog.info? 3).map (fun i => (i.zero, i.size, i.bytes)) = some (some (.int .i64 0), 1, 8) := by kernel_rfl
end Go.Proofs.YthajnkcipifhcaaGreatDoor
end
section
open Go Go.RowKit
namespace CC
open WW BB
theorem ba_toList {a b : ByteArray} (h : a.toList = b.toList) : a = b := by
  rw [ByteArray.toList_eq, ByteArray.toList_eq] at h
  cases a; cases b; congr 1; exact Array.toList_inj.1 h
end CC
namespace Go.Proofs.YthajnkcipifhcaaGreatDoor
open CC WW BB
end Go.Proofs.YthajnkcipifhcaaGreatDoor
end
section
open Go Go.RowKit
namespace WW
def quorumI (n : Int) : Int := (if n < 1 then 1 else n) - faultsI n
end WW
namespace Go.Proofs.YthajnkcipifhcaaGreatDoor
open WW BB
end Go.Proofs.YthajnkcipifhcaaGreatDoor
end
