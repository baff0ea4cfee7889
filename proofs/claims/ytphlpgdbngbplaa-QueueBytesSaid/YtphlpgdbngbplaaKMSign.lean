/-
  What signs.
-/
import Derived.Test.YtphlpgdbngbplaaKEText
import Derived.Test.YtphlpgdbngbplaaKJMath
import Derived.BigQuiet
import Derived.WalkSmall
import Derived.Deep.QuietTactic
import Derived.Deep.RegionHeld3
section
open Go Go.RowKit
namespace MM
open WW BB
/-- may there be n nodes? -/
def nodesB (n : Int) : Bool := decide (1 ≤ n) && decide (n ≤ 7)
/-- are there n nodes, and is this one of them? -/
def amongB (x n : Int) : Bool := nodesB n && (decide (0 ≤ x) && decide (x < n))
/-- a tag for each, of a tag's size -/
def shapedB (ts : List ByteArray) (n : Int) : Bool := decide ((ts.length : Int) = n) && ts.all (fun t => decide (t.size = 16))
/-- the signature holds -/
def holdsB (s : ByteArray) (d n : Int) (t : ByteArray) (f : Int) (ts : List ByteArray) : Bool :=
  amongB d n && (amongB f n && (shapedB ts n && ((ts.getD d.toNat ⟨#[]⟩).toList == (tagB s f d t).toList)))
theorem among_of {x n : Int} (h : amongB x n = true) : 1 ≤ n ∧ n ≤ 7 ∧ 0 ≤ x ∧ x < n := by
  simp only [amongB, nodesB, Bool.and_eq_true, decide_eq_true_eq] at h; omega
theorem among_mk {x n : Int} (h1 : 1 ≤ n) (h2 : n ≤ 7) (h3 : 0 ≤ x) (h4 : x < n) : amongB x n = true := by
  simp only [amongB, nodesB, Bool.and_eq_true, decide_eq_true_eq]; omega
/-- the box of a signature, and the tag of one node -/
def HoldsAt (w : World) (g : Nat) (f : Int) (tv : Value) (b i : Nat) (u : ByteArray) (w' : World) : Prop :=
  w'.cell? ⟨g, 0, none⟩ = some (.int .i64 f) ∧ w'.cell? ⟨g, 1, none⟩ = some tv ∧ w'.cell? ⟨b, i, none⟩ = some (.string u) ∧ Below g w w' ∧ g ≤ w'.heap.size
section
variable {w w' w2 : World} {g b i : Nat} {f : Int} {tv : Value} {u : ByteArray} {ts : List ByteArray}
theorem keepH (h : w'.cell? ⟨g, 0, none⟩ = some (.int .i64 f) ∧ w'.cell? ⟨g, 1, none⟩ = some tv ∧ w'.cell? ⟨b, i, none⟩ = some (.string u) ∧ Below g w w' ∧ g ≤ w'.heap.size) (hb : Below w'.heap.size w' w2) :
    w2.cell? ⟨g, 0, none⟩ = some (.int .i64 f) ∧ w2.cell? ⟨g, 1, none⟩ = some tv ∧ w2.cell? ⟨b, i, none⟩ = some (.string u) ∧ Below g w w2 ∧ g ≤ w2.heap.size := by
  have hl := World.block_lt_of_cell? w' _ h.1
  have hl2 := World.block_lt_of_cell? w' _ h.2.2.1
  exact ⟨(hb.cell (p := ⟨g, 0, none⟩) hl).trans h.1, (hb.cell (p := ⟨g, 1, none⟩) hl).trans h.2.1, (hb.cell (p := ⟨b, i, none⟩) hl2).trans h.2.2.1, h.2.2.2.1.trans (hb.mono h.2.2.2.2), Nat.le_trans h.2.2.2.2 hb.size⟩
theorem strs_now (hV : StrsAt w tv ts) (hg : w.heap.size = g) (h : Below g w w') : StrsAt w' tv ts := hV.later (by rw [hg]; exact h)
end
end MM
namespace Go.Proofs.Ytphlpgdbngbplaa
open MM WW BB
end Go.Proofs.Ytphlpgdbngbplaa
end
section
open Go Go.RowKit
namespace BB
theorem TBlk.blk {t : TypeId} {w : World} {b n : Nat} {f : Nat → Value} (h : TBlk t w b n f) : Blk w b n f := ⟨t, h⟩
theorem TBlk.set {t : TypeId} {w : World} {b n : Nat} {f : Nat → Value} (h : TBlk t w b n f) (i : Nat) (u : Value) : TBlk t (w.setCell ⟨b, i, none⟩ u) b n (put f i u) := by
  unfold TBlk at h ⊢
  unfold World.setCell
  simp only [Array.getElem?_modify, if_true, h, Option.map_some]
  simp [row_set]
theorem TBlk.below {t : TypeId} {w w' : World} {b n B : Nat} {f : Nat → Value} (h : TBlk t w b n f) (hs : Below B w w') (hb : b < B) : TBlk t w' b n f := (hs.block b hb).trans h
theorem TBlk.congr {t : TypeId} {w : World} {b n : Nat} {f : Nat → Value} (h : TBlk t w b n f) (g : Nat → Value) (e : ∀ i, i < n → f i = g i) : TBlk t w b n g := by
  unfold TBlk at h ⊢; rw [← row_congr n f g e]; exact h
theorem TBlk.lt {t : TypeId} {w : World} {b n : Nat} {f : Nat → Value} (h : TBlk t w b n f) : b < w.heap.size := h.blk.lt
theorem TBlk.set_other {t : TypeId} {w : World} {b n : Nat} {f : Nat → Value} (h : TBlk t w b n f) (a : Addr) (u : Value) (hb : b ≠ a.block) : TBlk t (w.setCell a u) b n f := (Below.heap_setCell w a u b hb).trans h
end BB
namespace MM
open WW BB
/-- the cells of a result that is a zero signature -/
def zS : Nat → Value := fun i => if i = 0 then .int .i64 0 else .slice none 0 0
theorem zS_row : #[.int .i64 0, .slice none 0 0] = row 2 zS := by rfl
/-- the first i tags -/
def tagsF (s : ByteArray) (f : Int) (t : ByteArray) (i : Nat) : Nat → Value := fun j => if j < i then .string (tagB s f (j : Int) t) else .string ⟨#[]⟩
theorem tagsF_put (s : ByteArray) (f : Int) (t : ByteArray) (i : Nat) : put (tagsF s f t i) i (.string (tagB s f (i : Int) t)) = tagsF s f t (i + 1) := by
  funext j
  unfold put tagsF
  by_cases h : j = i
  · subst h; simp
  · by_cases h2 : j < i
    · rw [if_neg h, if_pos h2, if_pos (by omega)]
    · rw [if_neg h, if_neg h2, if_neg (by omega)]
/-- the tags of a signature -/
def tagsL (s : ByteArray) (f : Int) (t : ByteArray) (n : Nat) : List ByteArray := (List.range n).map fun (j : Nat) => tagB s f (j : Int) t
theorem tagsL_len (s : ByteArray) (f : Int) (t : ByteArray) (n : Nat) : (tagsL s f t n).length = n := by simp [tagsL]
theorem tagsL_get (s : ByteArray) (f : Int) (t : ByteArray) (n i : Nat) (h : i < n) : (tagsL s f t n).getD i ⟨#[]⟩ = tagB s f (i : Int) t := by
  simp [tagsL, List.getD, h]
end MM
namespace Go.Proofs.Ytphlpgdbngbplaa
open MM WW BB
theorem info_str : (Try.prog.info? 9).map (fun i => (i.zero, i.size, i.bytes)) = some (some (.string ⟨#[]⟩), 1, 16) := by kernel_rfl
/-- where the loop stands -/
structure SgAt (w : World) (a : Nat) (s : ByteArray) (f : Int) (t : ByteArray) (n i : Nat) (wr : World) : Prop where
  below : Below a w wr
  ra : Blk wr a 2 zS
  rb : TBlk 9 wr (a + 1) n (tagsF s f t i)
/-- what is answered -/
def SignOk (w : World) (s : ByteArray) (f : Int) (t : ByteArray) (n : Nat) (e : Ending) (w' : World) : Prop :=
  ∃ b, w.heap.size ≤ b ∧ e = .returned (.tuple #[.agg #[.int .i64 f, .slice (some ⟨b, 0, none⟩) n n], .int .i64 0]) ∧ TBlk 9 w' b n (tagsF s f t n) ∧ Below w.heap.size w w'
end Go.Proofs.Ytphlpgdbngbplaa
end
