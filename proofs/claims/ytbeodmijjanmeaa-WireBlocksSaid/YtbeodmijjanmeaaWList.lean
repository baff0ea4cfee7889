/-
  The walks of the lists that are written.
-/
import Derived.Test.YtbeodmijjanmeaaWBuild
import Derived.Test.YtbeodmijjanmeaaWCut
open Go Go.RowKit
namespace WW
open BB
/-- v is a slice of the strings l -/
def StrsAt (w : World) (v : Value) (l : List ByteArray) : Prop :=
  ∃ a0 cap, v = .slice a0 l.length cap ∧ (l = [] ∨ ∃ b off, a0 = some ⟨b, off, none⟩ ∧ b < w.heap.size ∧ ∀ i, i < l.length → w.cell? ⟨b, off + i, none⟩ = some (.string (l.getD i ⟨#[]⟩)))
theorem StrsAt.later {w w' : World} {v : Value} {l : List ByteArray} (h : StrsAt w v l) (hb : Below w.heap.size w w') : StrsAt w' v l := by
  obtain ⟨a0, cap, rfl, h | ⟨b, off, rfl, hl, hc⟩⟩ := h
  · exact ⟨a0, cap, rfl, Or.inl h⟩
  · exact ⟨_, cap, rfl, Or.inr ⟨b, off, rfl, Nat.lt_of_lt_of_le hl hb.size, fun i hi => (hb.cell (p := ⟨b, off + i, none⟩) hl).trans (hc i hi)⟩⟩
theorem isBuilder_on {T e : TypeId} {B b : Nat} {bs : List Value} {w w' : World} (h : Lib.IsBuilder T e B b bs w) (hb : Below w.heap.size w w') : Lib.IsBuilder T e B b bs w' := by
  have key : ∀ p, Lib.BuilderAt T e B b p bs w → Lib.BuilderAt T e B b p bs w' := by
    rintro p ⟨hB, v, hbk, ⟨hl, ho⟩, hne⟩
    have hlt : ∀ k o, w.heap[k]? = some o → k < w.heap.size := fun k o hk => by
      rcases Nat.lt_or_ge k w.heap.size with h | h
      · exact h
      · rw [Array.getElem?_eq_none h] at hk; cases hk
    refine ⟨hB, v, (hb.block b (hlt _ _ hbk)).trans hbk, ⟨hl, ?_⟩, hne⟩
    rcases ho with h0 | ⟨g, cap, cur, h1, h2, h3, h4⟩
    · exact Or.inl h0
    · exact Or.inr ⟨g, cap, cur, h1, h2, (hb.block g (hlt _ _ h3)).trans h3, h4⟩
  rcases h with h | h
  · exact Or.inl (key _ h)
  · exact Or.inr (key _ h)
/-- all bytes, one behind the other -/
def flat (xs : List ByteArray) : List UInt8 := xs.flatMap (·.data.toList)
/-- a list: how many, and each -/
def listL (xs : List ByteArray) : List UInt8 := (be4 xs.length).data.toList ++ flat xs
def listB (xs : List ByteArray) : ByteArray := ⟨(listL xs).toArray⟩
theorem flat_snoc (xs : List ByteArray) (i : Nat) (h : i < xs.length) : flat (xs.take (i + 1)) = flat (xs.take i) ++ (xs.getD i ⟨#[]⟩).data.toList := by
  unfold flat
  rw [List.take_succ_eq_append_getElem h, List.flatMap_append]
  simp [List.getD, List.getElem?_eq_getElem h]
theorem flat_take_le (xs : List ByteArray) (i : Nat) : (flat (xs.take i)).length ≤ (flat xs).length := by
  unfold flat
  conv => rhs; rw [← List.take_append_drop i xs, List.flatMap_append]
  simp
theorem be4_ne (n : Nat) (l : List UInt8) : (be4 n).data.toList ++ l ≠ [] := by simp [be4]
end WW
namespace Go.Proofs.Ytbeodmijjanmeaa
open WW BB
set_option maxRecDepth 100000 in
set_option maxHeartbeats 1000000 in
theorem tag_any (s : ByteArray) (w : World) : Calls Try.prog 70 #[.string s] w fun e w' => e = .returned (.string s) ∧ w = w' := by
  go_enter Try.func70, Try.ntmps70
  go_wp2_with fail
  go_ret
  exact ⟨rfl, rfl⟩
/-- what is written so far -/
structure LAt (w : World) (b : Nat) (xs : List ByteArray) (i : Nat) (wr : World) : Prop where
  below : Below w.heap.size w wr
  bld : Lib.IsBuilder 80 5 b b (Lib.byteCells ((be4 xs.length).data.toList ++ flat (xs.take i))) wr
  lt : b < wr.heap.size
theorem LAt.below' {w w1 : World} {b : Nat} {xs : List ByteArray} {i : Nat} (h : LAt w b xs i w1) : Below w.heap.size w w1 := h.below
theorem LAt.on {w w1 w2 : World} {b : Nat} {xs : List ByteArray} {i : Nat} (h : LAt w b xs i w1) (hb : Below w1.heap.size w1 w2) : LAt w b xs i w2 :=
  ⟨h.below.trans (hb.mono h.below.size), isBuilder_on h.bld hb, Nat.lt_of_lt_of_le h.lt hb.size⟩
set_option maxRecDepth 100000 in
set_option maxHeartbeats 2000000 in
theorem liststr_any (l : List ByteArray) (v : Value) (w : World) (hv : StrsAt w v l) (hs : (flat l).length ≤ 500000) (hn : l.length ≤ 1000) :
    Calls Try.prog 69 #[v, .func (.func 70) #[] #[]] w fun e w' => e = .returned (.string (listB l)) ∧ Below w.heap.size w w' := by
  have HV := Lib.hid hv
  have HS := Lib.hid hs
  have HN := Lib.hid hn
  obtain ⟨a0, cap, rfl, hx⟩ := hv
  clear hs hn hx
  go_enter Try.func69, Try.ntmps69
  go_wp2_with fail
  obtain ⟨b, hb⟩ : ∃ b, w.heap.size = b := ⟨_, rfl⟩
  have I0 : Lib.IsBuilder 80 5 b b [] (w.alloc (.cells #[.pointer none, .slice none 0 0] 80)) := by rw [← hb]; exact Lib.fresh_isBuilder _ _ w
  have b0 := (Below.refl w.heap.size w).alloc (Nat.le_refl _) (.cells #[.pointer none, .slice none 0 0] 80)
  have z0 : b < (w.alloc (.cells #[.pointer none, .slice none 0 0] 80)).heap.size := by rw [← hb]; simp
  have HB := Lib.hid hb
  rw [hb]
  clear hb
  generalize w.alloc (.cells #[.pointer none, .slice none 0 0] 80) = w1 at *
  refine (number_in l.length (by have := HN.out; omega) w1).mono ?_
  rintro e w2 ⟨rfl, hb2⟩
  have I2 := Lib.hid (isBuilder_on I0 hb2)
  have B2 := Lib.hid (b0.trans (hb2.mono b0.size))
  have Z2 := Lib.hid (Nat.lt_of_lt_of_le z0 hb2.size)
  clear I0 b0 z0 hb2
  go_wp2_with fail
  refine (writestr_any b b [] (be4 l.length) w2 I2.out (by show 0 + 4 ≤ _; omega) (Nat.le_of_lt Z2.out)).mono ?_
  rintro e w3 ⟨rfl, hI3, hb3⟩
  have L3 : Hid (LAt w b l 0 w3) := Lib.hid ⟨B2.out.trans (hb3.mono (by rw [HB.out]; exact Nat.le_refl _)), by simpa [flat, Lib.strCells_eq] using hI3, Nat.lt_of_lt_of_le Z2.out hb3.size⟩
  clear hI3 hb3 I2 B2 Z2
  go_wp2_with fail
  have L3' := L3.out
  clear L3
  go_loopw [14] (fun v wr => ∃ i : Nat, i ≤ l.length ∧ v = .int .i64 (i : Int) ∧ LAt w b l i wr) (fun v _ => l.length - (intOf v).toNat)
  case atStart => exact ⟨0, Nat.zero_le _, rfl, L3'⟩
  case round =>
    clear L3'
    clear w3
    obtain ⟨i, hi, rfl, hL⟩ := hrel
    have HL := Lib.hid hL
    by_cases hlt : i < l.length
    · have hlt' : (i : Int) < (l.length : Int) := by omega
      have i0 : (0 : Int) ≤ (i : Int) := by omega
      have ib : (i : Int) ≤ 1000 := by have := HN.out; omega
      obtain ⟨a1, cap1, he, hv | ⟨gb, off, rfl, hbw, hcell⟩⟩ := HV.out
      · rw [hv] at hlt; simp at hlt
      injection he with e1 _ e3
      subst e1 e3
      have hcl := (hL.below.cell (p := ⟨gb, off + i, none⟩) hbw).trans (hcell i hlt)
      have HFS := Lib.hid (flat_snoc l i hlt)
      have HLE := Lib.hid (flat_take_le l (i + 1))
      obtain ⟨s, hs⟩ : ∃ s, l.getD i ⟨#[]⟩ = s := ⟨_, rfl⟩
      rw [hs] at hcl HFS
      have HLT := Lib.hid hlt
      clear hs hL hi hlt hcell hbw
      go_wp2_with (go_at_call 70; refine (tag_any s _).mono ?_; rintro e w4 ⟨rfl, rfl⟩)
      refine (writestr_any b b _ s wr HL.out.bld (by have h1 := HLE.out; have h2 := HS.out; have h3 := HFS.out; rw [h3, List.length_append] at h1; have : s.data.toList.length = s.size := by rw [Array.length_toList]; rfl
                                                     rw [Lib.byteCells_length, List.length_append]; show 4 + _ + _ ≤ _; omega) (Nat.le_of_lt HL.out.lt)).mono ?_
      rintro e w5 ⟨rfl, hI5, hb5⟩
      have L5 : Hid (LAt w b l (i + 1) w5) := Lib.hid ⟨HL.out.below.trans (hb5.mono (by rw [HB.out]; exact Nat.le_refl _)), by rw [HFS.out, ← List.append_assoc, Lib.byteCells_append]; exact hI5, Nat.lt_of_lt_of_le HL.out.lt hb5.size⟩
      clear hI5 hb5 hcl
      go_wp2_with fail
      go_roundw
      case rel => exact ⟨i + 1, by have := HLT.out; omega, by go_num, L5.out⟩
      case measure => have := HLT.out; simp [intOf]; omega
    · obtain rfl : i = l.length := by omega
      have hlt' : ¬ (l.length : Int) < (l.length : Int) := by omega
      have hbs := hL.bld
      rw [List.take_length] at hbs
      have HBS := Lib.hid hbs
      clear hL hi hlt hbs
      go_wp2_with fail
      refine (bstring_any b b _ wr HBS.out (be4_ne _ _)).mono ?_
      rintro e w4 ⟨rfl, hb4⟩
      go_wp2_with fail
      go_ret
      exact ⟨rfl, HL.out.below.trans (hb4.mono (by rw [HB.out]; exact Nat.le_refl _))⟩
end Go.Proofs.Ytbeodmijjanmeaa
