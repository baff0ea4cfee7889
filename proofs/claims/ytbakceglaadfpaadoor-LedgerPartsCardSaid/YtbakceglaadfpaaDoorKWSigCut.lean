/-
  The cuts of a tag and of a signature.
-/
import Derived.Test.YtbakceglaadfpaaDoorKWCutR
import Derived.Test.YtbakceglaadfpaaDoorKWstep
import Derived.OrdersHeld
import Derived.Test.YtbakceglaadfpaaDoorKPlanE
import Derived.Test.YtbakceglaadfpaaDoorKJBox
import Derived.Maps.AppendAt
import Derived.WideShapes
import Derived.Deep.CutRange
import Derived.Lib.SmallJoins
import Derived.Deep.RegionHeld3
section
open Go Go.RowKit
namespace WW
open BB
def zS : Nat → Value := fun _ => .string ⟨#[]⟩
/-- the loop's state: j of N are read -/
structure LInvS (t n o e : Nat) {δ : Type} (Spx : ByteArray → Option (ByteArray × δ)) (Rx : RelT δ) (w : World) (f : Nat → Value) (b0 : ByteArray) (N : Nat) (wr : World) (j : Nat) (b' : ByteArray) : Prop where
  kp : Keep t w wr
  small : b'.size ≤ 1000000
  ex : ∃ sv l xs, Blk wr t n (put f o sv) ∧ ElemsR e 1 zS Rx wr w.heap.size wr.heap.size sv l xs ∧ l.length = j ∧ repSp Spx N b0 = (match repSp Spx (N - j) b' with | none => none | some (r, l') => some (r, l ++ l'))
end WW
namespace Go.Proofs.YtbakceglaadfpaaDoor
open WW BB
end Go.Proofs.YtbakceglaadfpaaDoor
end
section
open Go Go.RowKit
namespace WW
open BB
def zG : Nat → Value := fun i => if i = 0 then .int .i64 0 else .slice none 0 0
/-- the loop's state: j of N are read -/
structure LInvG (t n o e : Nat) {δ : Type} (Spx : ByteArray → Option (ByteArray × δ)) (Rx : RelT δ) (w : World) (f : Nat → Value) (b0 : ByteArray) (N : Nat) (wr : World) (j : Nat) (b' : ByteArray) : Prop where
  kp : Keep t w wr
  small : b'.size ≤ 1000000
  ex : ∃ sv l xs, Blk wr t n (put f o sv) ∧ ElemsR e 2 zG Rx wr w.heap.size wr.heap.size sv l xs ∧ l.length = j ∧ repSp Spx N b0 = (match repSp Spx (N - j) b' with | none => none | some (r, l') => some (r, l ++ l'))
end WW
namespace Go.Proofs.YtbakceglaadfpaaDoor
open WW BB
end Go.Proofs.YtbakceglaadfpaaDoor
end
section
open Go Go.RowKit
namespace WW
open BB
def zQ : Nat → Value := fun i => if i = 0 then .int .i64 0 else if i = 1 then .int .i64 0 else .string ⟨#[]⟩
/-- the loop's state: j of N are read -/
structure LInvQ (t n o e : Nat) {δ : Type} (Spx : ByteArray → Option (ByteArray × δ)) (Rx : RelT δ) (w : World) (f : Nat → Value) (b0 : ByteArray) (N : Nat) (wr : World) (j : Nat) (b' : ByteArray) : Prop where
  kp : Keep t w wr
  small : b'.size ≤ 1000000
  ex : ∃ sv l xs, Blk wr t n (put f o sv) ∧ ElemsR e 3 zQ Rx wr w.heap.size wr.heap.size sv l xs ∧ l.length = j ∧ repSp Spx N b0 = (match repSp Spx (N - j) b' with | none => none | some (r, l') => some (r, l ++ l'))
end WW
namespace Go.Proofs.YtbakceglaadfpaaDoor
open WW BB
end Go.Proofs.YtbakceglaadfpaaDoor
end
section
open Go Go.RowKit
namespace Go.Proofs.YtbakceglaadfpaaDoor
open WW BB
theorem one_tag : ∀ (d : ByteArray) (w : World) (lo hi : Nat) (g : Nat → Value), strR 0 d w lo hi zS g → ∃ x, g 0 = .string x := fun d _ _ _ g h => ⟨d, by rw [show g = put zS 0 (.string d) from h]; simp [put]⟩
/-- a signature's tags, from cell o on -/
def sigR (o : Nat) : RelT (Int × List ByteArray) := seqR (numR o) (listR 9 1 zS (strR 0) (o + 1))
theorem sound_sig (o : Nat) : SoundR (sigR o) := (sound_num o).seq (sound_list (sound_str 0))
theorem one_sig : ∀ (d : Int × List ByteArray) (w : World) (lo hi : Nat) (g : Nat → Value), sigR 0 d w lo hi zG g → ∀ i, i < 2 → (g i).oneCell' = true := by
  rintro d w lo hi g ⟨g1, h1, sv, xs, h2, h3⟩ i hi
  subst h2
  rw [show g1 = put zG 0 (.int .i64 d.1) from h1]
  match i, hi with
  | 0, _ => rfl
  | 1, _ => rcases Joins.ownsRow_forms h3.row with ⟨rfl, _⟩ | ⟨g, cap, rfl⟩ <;> rfl
/-- a request, from cell o on -/
def reqR (o : Nat) : RelT (Int × Int × ByteArray) := fun d _ _ _ f f' => f' = put (put (put f o (.int .i64 d.1)) (o + 1) (.int .i64 d.2.1)) (o + 2) (.string d.2.2)
theorem sound_req (o : Nat) : SoundR (reqR o) := ⟨fun h _ => h, fun h _ _ => h⟩
theorem cutr_req {P : Program} {t n o : Nat} {v : Value} {W : World} (h : CutTo P t n v W reqSp (putReq o)) : CutR P t n v W (fun _ => True) reqI (reqR o) :=
  h.toR.map (g := fun d : Nat × Nat × ByteArray => ((d.1 : Int), (d.2.1 : Int), d.2.2)) (fun _ _ _ _ _ _ h => h)
theorem one_req : ∀ (d : Int × Int × ByteArray) (w : World) (lo hi : Nat) (g : Nat → Value), reqR 0 d w lo hi zQ g → ∀ i, i < 3 → (g i).oneCell' = true := by
  intro d w lo hi g h i hi
  rw [show g = _ from h]
  match i, hi with
  | 0, _ => rfl
  | 1, _ => rfl
  | 2, _ => rfl
end Go.Proofs.YtbakceglaadfpaaDoor
end
