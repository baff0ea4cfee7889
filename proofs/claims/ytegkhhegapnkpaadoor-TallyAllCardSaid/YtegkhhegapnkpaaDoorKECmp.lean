/-
  The walks of the closures by which signatures are sorted, and compared.
-/
import Derived.Test.YtegkhhegapnkpaaDoorKLNum
import Derived.Test.YtegkhhegapnkpaaDoorKERow
import Derived.Shelf.SlSortCmp.InsertionK
open Go Go.RowKit
namespace CC
open BB WW
def cmpI (x y : Int) : Int := if x < y then -1 else if y < x then 1 else 0
theorem ltOf_cmp : Go.Proofs.ltOf (fun x y : Sg => cmpI x.1 y.1) = ltS := by
  funext x y
  show decide ((if x.1 < y.1 then (-1 : Int) else if y.1 < x.1 then 1 else 0) < 0) = decide (x.1 < y.1)
  by_cases h1 : x.1 < y.1
  · rw [if_pos h1]; simp [h1]
  · rw [if_neg h1]
    by_cases h2 : y.1 < x.1
    · rw [if_pos h2]; simp [h1]
    · rw [if_neg h2]; simp [h1]
end CC
namespace Go.Proofs.YtegkhhegapnkpaaDoor
open CC WW BB Go.Lib Go.Sort Go.Shelf
set_option maxRecDepth 100000 in
theorem isnan_any (x : Int) (w : World) : Calls Tryd.prog 172 #[.int .i64 x] w fun e w' => e = .returned (.bool false) ∧ w = w' := by
  have t0 : (x == x) = true := by simp
  go_enter Tryd.func172, Tryd.ntmps172
  go_wp2_with fail
  go_ret
  exact ⟨by simp, rfl⟩
set_option maxRecDepth 100000 in
set_option maxHeartbeats 1000000 in
theorem compare_any (x y : Int) (w : World) : Calls Tryd.prog 146 #[.int .i64 x, .int .i64 y] w fun e w' => e = .returned (.int .i64 (cmpI x y)) ∧ w = w' := by
  unfold cmpI
  by_cases h1 : x < y
  · rw [if_pos h1]
    go_enter Tryd.func146, Tryd.ntmps146
    go_wp2_with fail
    refine (isnan_any x w).mono ?_
    rintro e w' ⟨rfl, rfl⟩
    go_wp2_with fail
    refine (isnan_any y w).mono ?_
    rintro e w' ⟨rfl, rfl⟩
    go_wp2_with fail
    go_ret
    exact ⟨rfl, rfl⟩
  · rw [if_neg h1]
    by_cases h2 : y < x
    · rw [if_pos h2]
      go_enter Tryd.func146, Tryd.ntmps146
      go_wp2_with fail
      refine (isnan_any x w).mono ?_
      rintro e w' ⟨rfl, rfl⟩
      go_wp2_with fail
      refine (isnan_any y w).mono ?_
      rintro e w' ⟨rfl, rfl⟩
      go_wp2_with fail
      go_ret
      exact ⟨rfl, rfl⟩
    · rw [if_neg h2]
      go_enter Tryd.func146, Tryd.ntmps146
      go_wp2_with fail
      refine (isnan_any x w).mono ?_
      rintro e w' ⟨rfl, rfl⟩
      go_wp2_with fail
      refine (isnan_any y w).mono ?_
      rintro e w' ⟨rfl, rfl⟩
      go_wp2_with fail
      go_ret
      exact ⟨rfl, rfl⟩
set_option maxRecDepth 100000 in
set_option maxHeartbeats 1000000 in
theorem make1_any (f g : Int) (x y : Value) (W : World) : Calls Tryd.prog 145 #[.agg #[.int .i64 f, x], .agg #[.int .i64 g, y]] W fun e w' => e = .returned (.int .i64 (cmpI f g)) ∧ ∃ q os', w' = grow (W.drewN q) os' := by
  obtain ⟨r, hr⟩ : ∃ r, cmpI f g = r := ⟨_, rfl⟩
  have HR := Lib.hid hr
  rw [hr]
  clear hr
  go_enter Tryd.func145, Tryd.ntmps145
  go_wp2_with fail
  refine (compare_any f g _).mono ?_
  rintro e w' ⟨rfl, rfl⟩
  rw [HR.out]
  go_wp2_with fail
  go_ret
  exact ⟨rfl, 0, _, by rw [alloc_eq_grow, alloc_eq_grow, grow_grow]; rfl⟩
set_option maxRecDepth 100000 in
set_option maxHeartbeats 1000000 in
theorem make2_any (f g : Int) (x y : Value) (W : World) : Calls Tryd.prog 148 #[.agg #[.int .i64 f, x], .agg #[.int .i64 g, y]] W fun e w' => e = .returned (.bool (f == g)) ∧ Below W.heap.size W w' := by
  have b2 := Lib.hid (((Below.refl W.heap.size W).alloc (Nat.le_refl _) (.cells #[.int .i64 f, x] 98)).alloc (by simp) (.cells #[.int .i64 g, y] 98))
  obtain ⟨r, hr⟩ : ∃ r, (f == g) = r := ⟨_, rfl⟩
  rw [hr]
  go_enter Tryd.func148, Tryd.ntmps148
  go_wp2_with fail
  go_ret
  exact ⟨rfl, b2.out⟩
theorem cmpLays (blk off size : Nat) (w : World) : CmpLays Tryd.prog 145 #[] encS 2 (fun x y => cmpI x.1 y.1) blk off size w :=
  fun _ _ _ _ x y => make1_any x.1 y.1 (tvS x) (tvS y) _
end Go.Proofs.YtegkhhegapnkpaaDoor
