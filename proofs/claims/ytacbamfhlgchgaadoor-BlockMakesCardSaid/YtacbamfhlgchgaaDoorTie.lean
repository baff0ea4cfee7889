/-
  DERIVED. GIVEN WITH THE SEED: THE PROGRAM's TIES (one call each: nine closed facts by the kernel) AND EACH ROW's TIE, after the 31st guide's Derived/Test/Toyas{Tie, Card}.lean. No idea stands in it: it is a product of the set-up. Laid BY PROGRAM, IN A SANDBOX (cutbox-door.mjs). By AI agents, Wed Nov 11 2026. No macro, syntax, notation, axiom, sorry.
-/
import Derived.Test.YtacbamfhlgchgaaDoorRows
import Derived.LaidByTextLater
import Derived.SevenTiedAt
import Derived.LaidSub
import Derived.LaidOnce
namespace Go.Proofs.YtacbamfhlgchgaaDoor
open Go
set_option maxRecDepth 100000
theorem seatTie1 : Tryd.prog.laidByTextLater [("comitia/blake.start", Rows.laid_comitia_blake_start), ("comitia/blake.rows", Rows.laid_comitia_blake_rows), ("comitia/blake.places", Rows.laid_comitia_blake_places)] [.data, .data, .data] true :=
  Program.laidByTextLater_by_one 42 8 161 (by kernel_rfl) (by kernel_rfl) (by kernel_rfl) (by kernel_rfl) (by kernel_rfl) (by kernel_rfl) (fun _ _ => by kernel_rfl)
theorem noOwnUnsafe : Tryd.pinned.checked.prog.headLifts.contains "ownunsafe" = false := by kernel_rfl
theorem tie : Tryd.prog.laidByTextLater [("comitia/blake.start", Rows.laid_comitia_blake_start), ("comitia/blake.rows", Rows.laid_comitia_blake_rows), ("comitia/blake.places", Rows.laid_comitia_blake_places)] [.data, .data, .data] true :=
  Program.laidByTextLater.sub seatTie1 ["comitia/blake.start", "comitia/blake.rows", "comitia/blake.places"] (by kernel_rfl) (by kernel_rfl)
theorem blockMakes_row_tie : Rows.blockMakesRow.laidByTextAt .later Tryd.pinned [.data, .data, .data] true :=
  OpenClaim.laidByTextAt_later rfl rfl tie noOwnUnsafe
theorem blockMakesUpto_row_tie : Rows.blockMakesUptoRow.laidByTextAt .later Tryd.pinned [.data, .data, .data] true :=
  OpenClaim.laidByTextAt_later rfl rfl tie noOwnUnsafe
end Go.Proofs.YtacbamfhlgchgaaDoor
