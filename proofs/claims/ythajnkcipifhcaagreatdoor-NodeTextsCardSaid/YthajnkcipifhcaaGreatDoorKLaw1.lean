/-
  The walks of the laws BlakeSums and BlakeKeyed.
-/
import Derived.Test.YthajnkcipifhcaaGreatDoorKRefSum
import Derived.Test.YthajnkcipifhcaaGreatDoorKKeyed
import Derived.Deep.RegionHeld3
open Go Go.RowKit
namespace BB
theorem rk_eq (K s : ByteArray) (hk : K.size ≤ 32) : outS (rdone K.size (kblock K.data.toList ++ s.data.toList)) = kdg K s := by
  unfold kdg
  rw [done_eq _ _ (by simpa using hk)]
  simp
end BB
namespace Go.Proofs.YthajnkcipifhcaaGreatDoor
open BB
theorem rsum_kdg (K s : ByteArray) (hk : K.size ≤ 32) (hs : s.size < 1000000) (w : World) :
    Calls Tryz.prog 73 #[.string K, .string s] w fun e w' => e = .returned (.string (kdg K s)) ∧ Below w.heap.size w w' := by
  rw [← rk_eq K s hk]; exact rsum_any K s hk hs w
theorem rsum_dg (s : ByteArray) (hs : s.size < 1000000) (w : World) :
    Calls Tryz.prog 73 #[.string ⟨#[]⟩, .string s] w fun e w' => e = .returned (.string (dg s)) ∧ Below w.heap.size w w' :=
  rsum_kdg ⟨#[]⟩ s (Nat.zero_le _) hs w
end Go.Proofs.YthajnkcipifhcaaGreatDoor
