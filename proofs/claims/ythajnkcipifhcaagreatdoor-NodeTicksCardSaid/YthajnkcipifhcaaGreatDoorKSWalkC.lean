/-
  The walk of the code's Crash.
-/
import Derived.Test.YthajnkcipifhcaaGreatDoorKSRunM
import Derived.Test.YthajnkcipifhcaaGreatDoorKZRow
import Derived.Laws.IdiomCopy
import Derived.Laws.IdiomStrings
import Derived.Lib.AppendStr
import Derived.BigQuiet
section
open Go Go.RowKit
namespace SS
open WW BB FF
/-- the bytes bs lie in block b from off on -/
def BAt (w : World) (b off : Nat) (bs : ByteArray) : Prop := ∀ i, i < bs.size → w.cell? ⟨b, off + i, none⟩ = some (cb (sb bs.data.toList) i)
theorem sb_ext (bs : ByteArray) (i j k : Nat) (h : k < j - i) : sb (bs.extract i j).data.toList k = sb bs.data.toList (i + k) := by
  unfold sb
  rw [ext_list, List.getD_eq_getElem?_getD, List.getD_eq_getElem?_getD, List.getElem?_take_of_lt h, List.getElem?_drop]
theorem BAt.ext {w : World} {b off : Nat} {bs : ByteArray} (h : BAt w b off bs) (i j : Nat) (hj : j ≤ bs.size) : BAt w b (off + i) (bs.extract i j) := by
  intro k hk
  rw [ByteArray.size_extract] at hk
  rw [Nat.add_assoc, h (i + k) (by omega)]
  show some (Value.int .u8 ((sb bs.data.toList (i + k) : Nat) : Int)) = some (Value.int .u8 ((sb (bs.extract i j).data.toList k : Nat) : Int))
  rw [sb_ext bs i j k (by omega)]
theorem BAt.of_heap {w w' : World} {b off : Nat} {bs : ByteArray} (h : BAt w b off bs) (e : w'.heap[b]? = w.heap[b]?) : BAt w' b off bs := fun i hi => (World.cell?_of_block (a := ⟨b, off + i, none⟩) e).trans (h i hi)
theorem run_string_bat {P : Program} {w : World} {src dst e : TypeId} {b off cap : Nat} {bs : ByteArray} (h : BAt w b off bs) (hs : P.underlying src = some (.slice e)) (he : P.underlying e = some (.int .u8)) (hd : P.underlying dst = some .string) :
    (convert src dst (.slice (some ⟨b, off, none⟩) bs.size cap)).run P w = .ok (.string bs) w := by
  have hl := ba_list bs
  have := run_convert_bytes_back (P := P) w src dst e ⟨b, off, none⟩ cap bs.data.toList hs he hd (fun j hj => by
    rw [hl] at hj
    rw [Addr.add_lit, h j hj]
    show some (Value.int .u8 ((sb bs.data.toList j : Nat) : Int)) = _
    unfold sb
    rw [List.getD_eq_getElem?_getD, List.getElem?_eq_getElem (by rw [hl]; exact hj)]
    rfl)
  rw [hl] at this
  rw [this]
/-- v is a slice of the bytes bs, from the beginning of a block on (nil, if there are none), with room that may be written -/
def ByRow (w : World) (v : Value) (bs : ByteArray) : Prop :=
  (v = .slice none 0 0 ∧ bs.size = 0) ∨ ∃ b cap, v = .slice (some ⟨b, 0, none⟩) bs.size cap ∧ bs.size ≤ cap ∧ b < w.heap.size ∧ BAt w b 0 bs ∧ ∀ i, i < cap → (w.cell? ⟨b, i, none⟩).isSome = true ∧ w.frozen? ⟨b, i, none⟩ = false
theorem ByRow.of_heap {w w' : World} {v : Value} {bs : ByteArray} (h : ByRow w v bs) (hs : w.heap.size ≤ w'.heap.size) (e : ∀ b, v.ownBlock = some b → w'.heap[b]? = w.heap[b]?) : ByRow w' v bs := by
  rcases h with h | ⟨b, cap, rfl, h1, h2, h3, h4⟩
  · exact .inl h
  · have e := e b rfl
    exact .inr ⟨b, cap, rfl, h1, Nat.lt_of_lt_of_le h2 hs, h3.of_heap e, fun i hi => ⟨by rw [World.cell?_of_block (a := ⟨b, i, none⟩) e]; exact (h4 i hi).1, by rw [World.frozen?_of_block (a := ⟨b, i, none⟩) e]; exact (h4 i hi).2⟩⟩
theorem ByRow.lt {w : World} {v : Value} {bs : ByteArray} (h : ByRow w v bs) {b : Nat} (e : v.ownBlock = some b) : b < w.heap.size := by
  rcases h with ⟨rfl, _⟩ | ⟨b', cap, rfl, h1, h2, h3, h4⟩
  · cases e
  · obtain rfl : b' = b := by simpa [Value.ownBlock] using e
    exact h2
theorem ByRow.sl {w : World} {v : Value} {bs : ByteArray} (h : ByRow w v bs) : ∃ a0 cap, v = .slice a0 bs.size cap := by
  rcases h with ⟨rfl, h0⟩ | ⟨b', cap, rfl, _⟩
  · exact ⟨none, 0, by rw [h0]⟩
  · exact ⟨_, _, rfl⟩
/-- the first bytes alone -/
theorem ByRow.first {w : World} {a0 : Option Addr} {n cap : Nat} {bs : ByteArray} (h : ByRow w (.slice a0 n cap) bs) (k : Nat) (hk : k ≤ bs.size) : ByRow w (.slice a0 k cap) (bs.extract 0 k) := by
  have hz : (bs.extract 0 k).size = k := by rw [ByteArray.size_extract]; omega
  rcases h with ⟨e, h0⟩ | ⟨b', cap', e, h1, h2, h3, h4⟩
  · simp only [Value.slice.injEq] at e
    obtain ⟨rfl, rfl, rfl⟩ := e
    obtain rfl : k = 0 := by omega
    exact .inl ⟨rfl, hz⟩
  · simp only [Value.slice.injEq] at e
    obtain ⟨rfl, rfl, rfl⟩ := e
    refine .inr ⟨b', cap, by rw [hz], by omega, h2, ?_, h4⟩
    have := h3.ext 0 k hk
    simpa using this
section
variable {P : Program} (w : World)
end
end SS
end
section
open Go Go.RowKit
namespace SS
open RR FF CC WW BB
def logRow (v : Value) (n : Nat) (fu : Bool) (left : Int) (lo : Bool) : Nat → Value := rowL [v, .int .i64 (n : Int), .bool fu, .int .i64 left, .bool lo]
theorem log_cells {w : World} {g : Nat} {v : Value} {n : Nat} {fu lo : Bool} {left : Int} (h : Blk w g 5 (logRow v n fu left lo)) :
    w.cell? ⟨g, 0, none⟩ = some v ∧ w.cell? ⟨g, 1, none⟩ = some (.int .i64 (n : Int)) ∧ w.cell? ⟨g, 2, none⟩ = some (.bool fu) ∧ w.cell? ⟨g, 3, none⟩ = some (.int .i64 left) ∧ w.cell? ⟨g, 4, none⟩ = some (.bool lo) :=
  ⟨h.get 0 (by omega), h.get 1 (by omega), h.get 2 (by omega), h.get 3 (by omega), h.get 4 (by omega)⟩
section
variable {w : World} {g : Nat} {v : Value} {n : Nat} {fu lo : Bool} {left : Int}
theorem log_set0 (h : Blk w g 5 (logRow v n fu left lo)) (x : Value) : Blk (w.setCell ⟨g, 0, none⟩ x) g 5 (logRow x n fu left lo) :=
  (h.set 0 x).congr _ fun i hi => match i, hi with | 0, _ => rfl | 1, _ => rfl | 2, _ => rfl | 3, _ => rfl | 4, _ => rfl
theorem log_set1 (h : Blk w g 5 (logRow v n fu left lo)) (x : Nat) : Blk (w.setCell ⟨g, 1, none⟩ (.int .i64 (x : Int))) g 5 (logRow v x fu left lo) :=
  (h.set 1 (.int .i64 (x : Int))).congr _ fun i hi => match i, hi with | 0, _ => rfl | 1, _ => rfl | 2, _ => rfl | 3, _ => rfl | 4, _ => rfl
end
/-- what is known of a log's cells -/
structure LogIs (O : Nat → Prop) (w : World) (g : Nat) (s : Lg) (v : Value) (left : Int) : Prop where
  blk : Blk w g 5 (logRow v s.safe.size (decide (0 ≤ s.fuse)) left s.gone)
  row : ByRow w v (s.safe ++ s.wait)
  own : ∀ b, O b ↔ b = g ∨ v.ownBlock = some b
  ne : v.ownBlock ≠ some g
  left_ : 0 ≤ s.fuse → left = s.fuse
  lo : -9223372036854775808 ≤ left
  hi : left ≤ 9223372036854775807
def At9 (O : Nat → Prop) (w : World) (g : Nat) (s : Lg) : Prop := ∃ v left, LogIs O w g s v left
section
variable {O : Nat → Prop} {w w' : World} {g : Nat} {s s' : Lg} {v : Value} {left left' : Int}
theorem LogIs.keep (h : LogIs O w g s v left) (hk : Keeps O w w') : LogIs O w' g s v left :=
  ⟨h.blk.of_heap (hk.block g ((h.own g).2 (.inl rfl)) h.blk.lt), h.row.of_heap hk.b0.size fun b e => hk.block b ((h.own b).2 (.inr e)) (h.row.lt e), h.own, h.ne, h.left_, h.lo, h.hi⟩
theorem LogIs.low (h : LogIs O w g s v left) (hk : Below w.heap.size w w') : LogIs O w' g s v left := h.keep (Keeps.of hk)
theorem at9_keep (h : At9 O w g s) (hk : Keeps O w w') : At9 O w' g s := by
  obtain ⟨v, left, h⟩ := h
  exact ⟨v, left, h.keep hk⟩
theorem at9_lt (h : At9 O w g s) : ∀ b, O b → b < w.heap.size := by
  obtain ⟨v, left, h⟩ := h
  intro b hb
  rcases (h.own b).1 hb with rfl | e
  · exact h.blk.lt
  · exact h.row.lt e
/-- a call that writes the log's block alone -/
theorem LogIs.next (h : LogIs O w g s v left) (hB : Blk w' g 5 (logRow v s'.safe.size (decide (0 ≤ s'.fuse)) left' s'.gone)) (hk : ButR g w w') (he : s'.safe ++ s'.wait = s.safe ++ s.wait) (hl : 0 ≤ s'.fuse → left' = s'.fuse) (h1 : -9223372036854775808 ≤ left') (h2 : left' ≤ 9223372036854775807) : Next9 At9 O w g s' w' :=
  ⟨O, ⟨v, left', hB, by rw [he]; exact h.row.of_heap hk.b0.size fun b e => hk.block b (fun e' => h.ne (by rw [e, e'])) (h.row.lt e), h.own, h.ne, hl, h1, h2⟩, hk.sub fun b hb _ e => hb ((h.own b).2 (.inl e)), fun b hb => .inl hb⟩
end
end SS
namespace Go.Proofs.YthajnkcipifhcaaGreatDoor
open SS RR FF CC WW BB
theorem row5_ (a b c d e : Value) : (#[a, b, c, d, e] : Array Value) = row 5 (rowL [a, b, c, d, e]) := rfl
section
variable (O : Nat → Prop) (w : World) (g : Nat) (s : Lg) (n : Int)
set_option maxRecDepth 100000 in
theorem new9 : Calls Tryz.prog 11 #[] w (Made9 At9 ⟨⟨#[]⟩, ⟨#[]⟩, -1, false⟩ w) := by
  go_enter Tryz.func11, Tryz.ntmps11
  go_wp2_with fail
  go_ret
  refine ⟨w.heap.size, fun b => b = w.heap.size ∨ (Value.slice none 0 0).ownBlock = some b, rfl, ⟨.slice none 0 0, 0, Blk.new' rfl (row5_ _ _ _ _ _), .inl ⟨rfl, rfl⟩, fun _ => Iff.rfl, (fun h => by cases h), (fun h => absurd h (show ¬ (0 : Int) ≤ -1 by decide)), by decide, by decide⟩, fun x h => ?_, (Below.refl _ _).alloc (Nat.le_refl _) _⟩
  rcases h with h | h
  · rw [h]; exact Nat.le_refl _
  · cases h
end
end Go.Proofs.YthajnkcipifhcaaGreatDoor
end
section
open Go Go.RowKit
namespace SS
open RR FF CC WW BB
end SS
namespace Go.Proofs.YthajnkcipifhcaaGreatDoor
open SS RR FF CC WW BB
set_option maxRecDepth 100000 in
theorem possible_is (n : Int) (r : Bool) (hr : (decide (1 ≤ n) && decide (n ≤ 4000)) = r) (w : World) : Calls Tryz.prog 234 #[.int .i64 n] w fun e w' => e = .returned (.bool r) ∧ w' = w := by
  subst hr
  by_cases h1 : 1 ≤ n
  · have d1 : decide (1 ≤ n) = true := decide_eq_true h1
    go_enter Tryz.func234, Tryz.ntmps234
    go_wp2_with fail
    go_ret
    exact ⟨by rw [d1]; rfl, rfl⟩
  · have d1 : decide (1 ≤ n) = false := decide_eq_false h1
    go_enter Tryz.func234, Tryz.ntmps234
    go_wp2_with fail
    go_ret
    exact ⟨rfl, rfl⟩
end Go.Proofs.YthajnkcipifhcaaGreatDoor
end
section
open Go Go.RowKit
namespace SS
open RR FF CC WW BB
theorem ByRow.cap_le {w : World} {a0 : Option Addr} {n cap : Nat} {bs : ByteArray} (h : ByRow w (.slice a0 n cap) bs) : bs.size ≤ cap ∧ (if cap = 0 then a0 else a0.map (·.add 0)) = a0 := by
  rcases h with ⟨e, h0⟩ | ⟨b', cap', e, h1, h2, h3, h4⟩
  · simp only [Value.slice.injEq] at e
    obtain ⟨rfl, rfl, rfl⟩ := e
    exact ⟨by omega, rfl⟩
  · simp only [Value.slice.injEq] at e
    obtain ⟨rfl, rfl, rfl⟩ := e
    refine ⟨h1, ?_⟩
    split
    · rfl
    · rfl
end SS
namespace Go.Proofs.YthajnkcipifhcaaGreatDoor
open SS RR FF CC WW BB
section
variable (O : Nat → Prop) (w : World) (g : Nat) (s : Lg) (n : Int)
end
end Go.Proofs.YthajnkcipifhcaaGreatDoor
end
