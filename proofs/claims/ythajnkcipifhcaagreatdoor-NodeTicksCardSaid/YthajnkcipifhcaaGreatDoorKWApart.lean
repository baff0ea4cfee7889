/-
  The walk of the law WireApart.
-/
import Derived.Test.YthajnkcipifhcaaGreatDoorKRState
import Derived.Test.YthajnkcipifhcaaGreatDoorKPlanN
import Derived.Test.YthajnkcipifhcaaGreatDoorKCallsW
import Derived.OrdersHeld
import Derived.Deep.CutRange
import Derived.Deep.QuietTactic
import Derived.BigQuiet
open Go Go.RowKit
namespace WW
open BB
/-- a block's cells -/
abbrev bc (v p cv : Int) (k : ByteArray) (sv rv : Value) : List Value := [.int .i64 v, .int .i64 p, .int .i64 cv, .string k, sv, rv]
theorem flat_le (c : Nat) (l : List ByteArray) (h : ∀ x ∈ l, x.size ≤ c) : (flat l).length ≤ c * l.length := by
  induction l with
  | nil => simp [flat]
  | cons x l ih =>
    have h1 := h x (List.mem_cons_self ..)
    have h2 := ih fun y hy => h y (List.mem_cons_of_mem _ hy)
    have h3 := ba_list x
    have : flat (x :: l) = x.data.toList ++ flat l := rfl
    rw [this, List.length_append, List.length_cons, Nat.mul_add]; omega
/-- two blocks in boxes -/
structure Two2 (w : World) (g : Nat) (A B : List Value) (wr : World) : Prop where
  a : BoxAt w g A wr
  b : BoxAt w (g + 1) B wr
theorem Two2.on {w w1 w2 : World} {g : Nat} {A B : List Value} (h : Two2 w g A B w1) (hb : Below w1.heap.size w1 w2) : Two2 w g A B w2 := ⟨h.a.on hb, h.b.on hb⟩
end WW
namespace Go.Proofs.YthajnkcipifhcaaGreatDoor
open WW BB
end Go.Proofs.YthajnkcipifhcaaGreatDoor
