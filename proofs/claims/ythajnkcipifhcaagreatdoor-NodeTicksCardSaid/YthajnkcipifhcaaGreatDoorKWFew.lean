/-
  The walks of the reference's FewSig, FewCert and FewBlock.
-/
import Derived.Test.YthajnkcipifhcaaGreatDoorKWFewS
import Derived.Lib.Builder
import Derived.Lib.AppendStr
import Derived.Lib.UnsafeStr
import Derived.Lib.MakeNoZero
import Derived.Laws.Externs
import Derived.Shelf.Strings.BuilderX
import Derived.RegionTactic
import Derived.Lib.Walk
import Derived.Lib.Slices
import Derived.Test.YthajnkcipifhcaaGreatDoorKCallsW
section
open Go Go.RowKit
namespace Go.Proofs.YthajnkcipifhcaaGreatDoor
open WW
theorem info_builder : (Tryz.prog.info? 252).map (·.size) = some 2 := by kernel_rfl
set_option maxHeartbeats 1000000 in
set_option maxRecDepth 100000 in
theorem copycheck_used (b : Nat) (w : World) (h0 : w.cell? ⟨b, 0, none⟩ = some (.pointer (some ⟨b, 0, none⟩))) :
    Calls Tryz.prog 266 #[.pointer (some ⟨b, 0, none⟩)] w fun e w' => e = .returned (.tuple #[]) ∧ w' = w := by
  obtain ⟨j, hj, hjs⟩ := Option.map_eq_some_iff.1 info_builder
  go_enter Tryz.func266, Tryz.ntmps266
  go_wp2
  rw [Lib.run_neq_ptr_same w _ Tryz.underlying250 hj]
  go_wp2
  go_end0
  exact ⟨rfl, rfl⟩
set_option maxHeartbeats 1000000 in
set_option maxRecDepth 100000 in
theorem copycheck_fresh (b : Nat) (w : World) (h0 : w.cell? ⟨b, 0, none⟩ = some (.pointer none)) (hsh : w.shape? b = some (252, 2)) (hfz : w.frozen? ⟨b, 0, none⟩ = false) :
    Calls Tryz.prog 266 #[.pointer (some ⟨b, 0, none⟩)] w fun e w' => e = .returned (.tuple #[]) ∧ w' = w.setCell ⟨b, 0, none⟩ (.pointer (some ⟨b, 0, none⟩)) := by
  obtain ⟨j, hj, hjs⟩ := Option.map_eq_some_iff.1 info_builder
  go_enter Tryz.func266, Tryz.ntmps266
  go_wp2
  rw [Lib.run_to_unsafe w ⟨b, 0, none⟩ Tryz.underlying250 Tryz.underlying333 hj (by rw [hjs]; decide) hsh (Nat.zero_lt_succ 1)]
  simp only [Result.andThen]
  rw [Oper.upon_value]
  go_wp2
  rw [run_callFunc_extern Tryz.func303 (by kernel_rfl) (by kernel_rfl) (by kernel_rfl) (e := Extern.AbiNoEscape.same) (by kernel_rfl)]
  rw [Lib.run_noEscape]
  simp only [Result.andThen]
  rw [Oper.upon_value]
  go_wp2
  rw [Lib.run_from_unsafe w ⟨b, 0, none⟩ Tryz.underlying333 Tryz.underlying250 hj hsh (by kernel_rfl)]
  simp only [Result.andThen]
  rw [Oper.upon_value]
  go_wp2
  go_end0
  exact ⟨rfl, rfl⟩
theorem copycheck_any (B b : Nat) (bs : List Value) (w : World) (h : Lib.IsBuilder 252 5 B b bs w) :
    Calls Tryz.prog 266 #[.pointer (some ⟨b, 0, none⟩)] w fun e w' => e = .returned (.tuple #[]) ∧ (Lib.BuilderAt 252 5 B b (.pointer (some ⟨b, 0, none⟩)) bs w' ∧ Below B w w') := by
  rcases h with h | h
  · refine (copycheck_fresh b w h.cell0 h.shape h.frozen0).mono ?_
    rintro e w' ⟨rfl, rfl⟩
    exact ⟨rfl, h.used _, (Below.refl B w).setCell (p := ⟨b, 0, none⟩) h.1 _⟩
  · refine (copycheck_used b w h.cell0).mono ?_
    rintro e w' ⟨rfl, rfl⟩
    exact ⟨rfl, h, Below.refl B _⟩
theorem info_u8 : (Tryz.prog.info? 5).map (fun i => (i.zero, i.size, i.bytes)) = some (some (.int .u8 0), 1, 1) := by kernel_rfl
theorem cells_u8 : Tryz.prog.cellsOf 5 = 1 := by kernel_rfl
set_option maxHeartbeats 2000000 in
set_option maxRecDepth 100000 in
theorem writestr_any (B b : Nat) (bs : List Value) (s : ByteArray) (w : World) (h : Lib.IsBuilder 252 5 B b bs w) (hlen : bs.length + s.size ≤ 1000000) (hBw : B ≤ w.heap.size) :
    Calls Tryz.prog 223 #[.pointer (some ⟨b, 0, none⟩), .string s] w fun e w' => e = .returned (.tuple #[.int .i64 s.size, .nilIface]) ∧ (Lib.IsBuilder 252 5 B b (bs ++ Lib.strCells s) w' ∧ Below B w w') := by
  obtain ⟨i0, hi, hz0, hz1, hz2⟩ := info_parts info_u8
  go_enter Tryz.func223, Tryz.ntmps223
  go_wp2_with fail
  refine (copycheck_any B b bs _ h).mono ?_
  rintro e w1 ⟨rfl, h1, hb1⟩
  obtain ⟨hB, v, hbk, hown, hne⟩ := h1
  have c0 : w1.cell? ⟨b, 0, none⟩ = some (.pointer (some ⟨b, 0, none⟩)) := by rw [Lib.cell_of_heap hbk]; rfl
  have c1 : w1.cell? ⟨b, 1, none⟩ = some v := by rw [Lib.cell_of_heap hbk]; rfl
  go_wp2_with (at_builtin; refine Lib.wpList_append_own_string _ rfl _ _ 99 9 rfl B 5 i0 (by kernel_rfl) (by kernel_rfl) hi hz0 hz1 hz2 _ _ _ rfl hown s rfl ?c3 ?c4 ?c5 ?_)
  case c3 => unfold maxLen; omega
  case c4 => omega
  case c5 => have := hb1.size; omega
  intro v' w2 hown' hgrow _
  have hlt : b < w1.heap.size := by
    rcases Nat.lt_or_ge b w1.heap.size with h' | h'
    · exact h'
    · simp [Array.getElem?_eq_none h'] at hbk
  have hb2 : w2.heap[b]? = some (.cells #[.pointer (some ⟨b, 0, none⟩), v] 252 (0, 0)) := by
    rw [hgrow.block b hlt (fun e => hne e.symm)]
    exact hbk
  have d0 : w2.cell? ⟨b, 0, none⟩ = some (.pointer (some ⟨b, 0, none⟩)) := by rw [Lib.cell_of_heap hb2]; rfl
  have d1 : w2.cell? ⟨b, 1, none⟩ = some v := by rw [Lib.cell_of_heap hb2]; rfl
  have f1 : w2.frozen? ⟨b, 1, none⟩ = false := Lib.frozen_of_heap hb2 1
  obtain ⟨ao, n', cap, rfl⟩ : ∃ ao n' cap, v' = .slice ao n' cap := by
    rcases hown'.2 with ⟨hv, _⟩ | ⟨g, cap, cur, hv, _⟩
    · exact ⟨_, _, _, hv⟩
    · exact ⟨_, _, _, hv⟩
  go_wp2
  go_ret2
  refine ⟨rfl, Or.inr ?_, ?_⟩
  · exact Lib.BuilderAt.put (T := 252) (e := 5) hB hb2 (bs' := bs ++ Lib.strCells s) (by simpa [Lib.strCells_length] using hown') (by decide)
  · exact (hb1.grown hgrow (by have := hb1.size; omega) (fun k hk => (hown.lt k hk).1)).setCell (p := ⟨b, 1, none⟩) hB _
set_option maxHeartbeats 2000000 in
set_option maxRecDepth 100000 in
theorem bstring_any (B b : Nat) (l : List UInt8) (w : World) (h : Lib.IsBuilder 252 5 B b (Lib.byteCells l) w) (h0 : l ≠ []) :
    Calls Tryz.prog 224 #[.pointer (some ⟨b, 0, none⟩)] w fun e w' => e = .returned (.string ⟨l.toArray⟩) ∧ Below B w w' := by
  obtain ⟨p, hB, v, hbk, hown, hne⟩ : ∃ p, Lib.BuilderAt 252 5 B b p (Lib.byteCells l) w := by
    rcases h with h | h
    · exact ⟨_, h⟩
    · exact ⟨_, h⟩
  have hl0 : l.length ≠ 0 := by simpa using h0
  rw [Lib.byteCells_length] at hown
  obtain ⟨g, cap, cur, rfl, hbg, hg, hnc, hcm, hcs, htake⟩ : ∃ g cap cur, v = .slice (some ⟨g, 0, none⟩) l.length cap ∧ B ≤ g ∧ w.heap[g]? = some (.cells cur 5 (0, 0)) ∧ l.length ≤ cap ∧ cap ≤ maxLen ∧ cur.size = cap * 1 ∧ cur.toList.take (l.length * 1) = Lib.byteCells l := by
    rcases hown.2 with ⟨_, hz⟩ | ⟨g, cap, cur, hv, r⟩
    · exact absurd hz hl0
    · exact ⟨g, cap, cur, hv, r⟩
  have c1 : w.drew.cell? ⟨b, 1, none⟩ = some (.slice (some ⟨g, 0, none⟩) l.length cap) := by
    have : w.drew.heap[b]? = some (.cells #[p, .slice (some ⟨g, 0, none⟩) l.length cap] 252 (0, 0)) := hbk
    rw [Lib.cell_of_heap this]; rfl
  have hSD : (Builtin.unsafeSliceData_ #[99] 292 #[.slice (some ⟨g, 0, none⟩) l.length cap]).run Tryz.prog w.drew = .ok (.pointer (some ⟨g, 0, none⟩)) w.drew :=
    Lib.run_unsafeSliceData_row _ _ _ _ _ _ (by omega)
  have hUS : (Builtin.unsafeString_ #[292, 3] 9 #[.pointer (some ⟨g, 0, none⟩), .int .i64 l.length]).run Tryz.prog w.drew = .ok (.string ⟨l.toArray⟩) (w.drew.freeze ⟨g, 0, none⟩ l.length) := by
    refine Lib.run_unsafeString_row w.drew 292 3 9 5 (by kernel_rfl) cells_u8 g cur.size (by have hg' : w.drew.heap[g]? = some (.cells cur 5 (0, 0)) := hg; simp [World.shape?, hg']) l h0 (by omega) (by unfold maxLen at hcm; omega) ?_
    intro j x hx
    exact hown.cells (g := g) rfl j (.int .u8 x.toNat) (by simp [Lib.byteCells, hx])
  go_enter Tryz.func224, Tryz.ntmps224
  go_wp2
  go_region
  all_goals (go_wp2; go_ret; exact ⟨rfl, Lib.below_freeze (Below.drew (Below.refl B w)) (p := ⟨g, 0, none⟩) hbg _⟩)
end Go.Proofs.YthajnkcipifhcaaGreatDoor
end
section
open Go Go.RowKit
namespace WW
open BB
theorem isBuilder_on {T e : TypeId} {B b : Nat} {bs : List Value} {w w' : World} (h : Lib.IsBuilder T e B b bs w) (hb : Below w.heap.size w w') : Lib.IsBuilder T e B b bs w' := by
  have key : ∀ p, Lib.BuilderAt T e B b p bs w → Lib.BuilderAt T e B b p bs w' := by
    rintro p ⟨hB, v, hbk, ⟨hl, ho⟩, hne⟩
    have hlt : ∀ k o, w.heap[k]? = some o → k < w.heap.size := fun k o hk => by
      rcases Nat.lt_or_ge k w.heap.size with h | h
      · exact h
      · rw [Array.getElem?_eq_none h] at hk; cases hk
    refine ⟨hB, v, (hb.block b (hlt _ _ hbk)).trans hbk, ⟨hl, ?_⟩, hne⟩
    rcases ho with h0 | ⟨g, cap, cur, h1, h2, h3, h4⟩
    · exact Or.inl h0
    · exact Or.inr ⟨g, cap, cur, h1, h2, (hb.block g (hlt _ _ h3)).trans h3, h4⟩
  rcases h with h | h
  · exact Or.inl (key _ h)
  · exact Or.inr (key _ h)
/-- all bytes, one behind the other -/
def flat (xs : List ByteArray) : List UInt8 := xs.flatMap (·.data.toList)
/-- a list: how many, and each -/
def listL (xs : List ByteArray) : List UInt8 := (be4 xs.length).data.toList ++ flat xs
def listB (xs : List ByteArray) : ByteArray := ⟨(listL xs).toArray⟩
theorem flat_snoc (xs : List ByteArray) (i : Nat) (h : i < xs.length) : flat (xs.take (i + 1)) = flat (xs.take i) ++ (xs.getD i ⟨#[]⟩).data.toList := by
  unfold flat
  rw [List.take_succ_eq_append_getElem h, List.flatMap_append]
  simp [List.getD, List.getElem?_eq_getElem h]
theorem flat_take_le (xs : List ByteArray) (i : Nat) : (flat (xs.take i)).length ≤ (flat xs).length := by
  unfold flat
  conv => rhs; rw [← List.take_append_drop i xs, List.flatMap_append]
  simp
theorem be4_ne (n : Nat) (l : List UInt8) : (be4 n).data.toList ++ l ≠ [] := by simp [be4]
end WW
namespace Go.Proofs.YthajnkcipifhcaaGreatDoor
open WW BB
set_option maxRecDepth 100000 in
set_option maxHeartbeats 1000000 in
theorem tag_any (s : ByteArray) (w : World) : Calls Tryz.prog 276 #[.string s] w fun e w' => e = .returned (.string s) ∧ w = w' := by
  go_enter Tryz.func276, Tryz.ntmps276
  go_wp2_with fail
  go_ret
  exact ⟨rfl, rfl⟩
/-- what is written so far -/
structure LAt (w : World) (b : Nat) (xs : List ByteArray) (i : Nat) (wr : World) : Prop where
  below : Below w.heap.size w wr
  bld : Lib.IsBuilder 252 5 b b (Lib.byteCells ((be4 xs.length).data.toList ++ flat (xs.take i))) wr
  lt : b < wr.heap.size
theorem LAt.below' {w w1 : World} {b : Nat} {xs : List ByteArray} {i : Nat} (h : LAt w b xs i w1) : Below w.heap.size w w1 := h.below
theorem LAt.on {w w1 w2 : World} {b : Nat} {xs : List ByteArray} {i : Nat} (h : LAt w b xs i w1) (hb : Below w1.heap.size w1 w2) : LAt w b xs i w2 :=
  ⟨h.below.trans (hb.mono h.below.size), isBuilder_on h.bld hb, Nat.lt_of_lt_of_le h.lt hb.size⟩
set_option maxRecDepth 100000 in
set_option maxHeartbeats 2000000 in
theorem liststr_any (l : List ByteArray) (v : Value) (w : World) (hv : StrsAt w v l) (hs : (flat l).length ≤ 500000) (hn : l.length ≤ 1000) :
    Calls Tryz.prog 275 #[v, .func (.func 276) #[] #[]] w fun e w' => e = .returned (.string (listB l)) ∧ Below w.heap.size w w' := by
  have HV := Lib.hid hv
  have HS := Lib.hid hs
  have HN := Lib.hid hn
  obtain ⟨a0, cap, rfl, hx⟩ := hv
  clear hs hn hx
  go_enter Tryz.func275, Tryz.ntmps275
  go_wp2_with fail
  obtain ⟨b, hb⟩ : ∃ b, w.heap.size = b := ⟨_, rfl⟩
  have I0 : Lib.IsBuilder 252 5 b b [] (w.alloc (.cells #[.pointer none, .slice none 0 0] 252)) := by rw [← hb]; exact Lib.fresh_isBuilder _ _ w
  have b0 := (Below.refl w.heap.size w).alloc (Nat.le_refl _) (.cells #[.pointer none, .slice none 0 0] 252)
  have z0 : b < (w.alloc (.cells #[.pointer none, .slice none 0 0] 252)).heap.size := by rw [← hb]; simp
  have HB := Lib.hid hb
  rw [hb]
  clear hb
  generalize w.alloc (.cells #[.pointer none, .slice none 0 0] 252) = w1 at *
  refine (number_in l.length (by have := HN.out; omega) w1).mono ?_
  rintro e w2 ⟨rfl, hb2⟩
  have I2 := Lib.hid (isBuilder_on I0 hb2)
  have B2 := Lib.hid (b0.trans (hb2.mono b0.size))
  have Z2 := Lib.hid (Nat.lt_of_lt_of_le z0 hb2.size)
  clear I0 b0 z0 hb2
  go_wp2_with fail
  refine (writestr_any b b [] (be4 l.length) w2 I2.out (by show 0 + 4 ≤ _; omega) (Nat.le_of_lt Z2.out)).mono ?_
  rintro e w3 ⟨rfl, hI3, hb3⟩
  have L3 : Hid (LAt w b l 0 w3) := Lib.hid ⟨B2.out.trans (hb3.mono (by rw [HB.out]; exact Nat.le_refl _)), by simpa [flat, Lib.strCells_eq] using hI3, Nat.lt_of_lt_of_le Z2.out hb3.size⟩
  clear hI3 hb3 I2 B2 Z2
  go_wp2_with fail
  have L3' := L3.out
  clear L3
  go_loopw [14] (fun v wr => ∃ i : Nat, i ≤ l.length ∧ v = .int .i64 (i : Int) ∧ LAt w b l i wr) (fun v _ => l.length - (intOf v).toNat)
  case atStart => exact ⟨0, Nat.zero_le _, rfl, L3'⟩
  case round =>
    clear L3'
    clear w3
    obtain ⟨i, hi, rfl, hL⟩ := hrel
    have HL := Lib.hid hL
    by_cases hlt : i < l.length
    · have hlt' : (i : Int) < (l.length : Int) := by omega
      have i0 : (0 : Int) ≤ (i : Int) := by omega
      have ib : (i : Int) ≤ 1000 := by have := HN.out; omega
      obtain ⟨a1, cap1, he, hv | ⟨gb, off, rfl, hbw, hcell⟩⟩ := HV.out
      · rw [hv] at hlt; simp at hlt
      injection he with e1 _ e3
      subst e1 e3
      have hcl := (hL.below.cell (p := ⟨gb, off + i, none⟩) hbw).trans (hcell i hlt)
      have HFS := Lib.hid (flat_snoc l i hlt)
      have HLE := Lib.hid (flat_take_le l (i + 1))
      obtain ⟨s, hs⟩ : ∃ s, l.getD i ⟨#[]⟩ = s := ⟨_, rfl⟩
      rw [hs] at hcl HFS
      have HLT := Lib.hid hlt
      clear hs hL hi hlt hcell hbw
      go_wp2_with (go_at_call 276; refine (tag_any s _).mono ?_; rintro e w4 ⟨rfl, rfl⟩)
      refine (writestr_any b b _ s wr HL.out.bld (by have h1 := HLE.out; have h2 := HS.out; have h3 := HFS.out; rw [h3, List.length_append] at h1; have : s.data.toList.length = s.size := by rw [Array.length_toList]; rfl
                                                     rw [Lib.byteCells_length, List.length_append]; show 4 + _ + _ ≤ _; omega) (Nat.le_of_lt HL.out.lt)).mono ?_
      rintro e w5 ⟨rfl, hI5, hb5⟩
      have L5 : Hid (LAt w b l (i + 1) w5) := Lib.hid ⟨HL.out.below.trans (hb5.mono (by rw [HB.out]; exact Nat.le_refl _)), by rw [HFS.out, ← List.append_assoc, Lib.byteCells_append]; exact hI5, Nat.lt_of_lt_of_le HL.out.lt hb5.size⟩
      clear hI5 hb5 hcl
      go_wp2_with fail
      go_roundw
      case rel => exact ⟨i + 1, by have := HLT.out; omega, by go_num, L5.out⟩
      case measure => have := HLT.out; simp [intOf]; omega
    · obtain rfl : i = l.length := by omega
      have hlt' : ¬ (l.length : Int) < (l.length : Int) := by omega
      have hbs := hL.bld
      rw [List.take_length] at hbs
      have HBS := Lib.hid hbs
      clear hL hi hlt hbs
      go_wp2_with fail
      refine (bstring_any b b _ wr HBS.out (be4_ne _ _)).mono ?_
      rintro e w4 ⟨rfl, hb4⟩
      go_wp2_with fail
      go_ret
      exact ⟨rfl, HL.out.below.trans (hb4.mono (by rw [HB.out]; exact Nat.le_refl _))⟩
end Go.Proofs.YthajnkcipifhcaaGreatDoor
end
section
open Go Go.RowKit
namespace WW
open BB
/-- a signature's bytes -/
def sigB (f : Int) (ts : List ByteArray) : ByteArray := num f ++ listB ts
/-- v is a slice of signatures -/
def SigsAt (w : World) (v : Value) (l : List (Int × List ByteArray)) : Prop :=
  ∃ a0 cap, v = .slice a0 l.length cap ∧ (l = [] ∨ ∃ b off, a0 = some ⟨b, off, none⟩ ∧ b < w.heap.size ∧
    ∀ i, i < l.length → ∃ tv, w.cell? ⟨b, off + i * 2, none⟩ = some (.int .i64 (l.getD i (0, [])).1) ∧ w.cell? ⟨b, off + i * 2 + 1, none⟩ = some tv ∧ StrsAt w tv (l.getD i (0, [])).2)
theorem SigsAt.later {w w' : World} {v : Value} {l : List (Int × List ByteArray)} (h : SigsAt w v l) (hb : Below w.heap.size w w') : SigsAt w' v l := by
  obtain ⟨a0, cap, rfl, h | ⟨b, off, rfl, hl, hc⟩⟩ := h
  · exact ⟨a0, cap, rfl, Or.inl h⟩
  · refine ⟨_, cap, rfl, Or.inr ⟨b, off, rfl, Nat.lt_of_lt_of_le hl hb.size, fun i hi => ?_⟩⟩
    obtain ⟨tv, h1, h2, h3⟩ := hc i hi
    exact ⟨tv, (hb.cell (p := ⟨b, off + i * 2, none⟩) hl).trans h1, (hb.cell (p := ⟨b, off + i * 2 + 1, none⟩) hl).trans h2, h3.later hb⟩
/-- the signatures' bytes -/
def sigsB (l : List (Int × List ByteArray)) : List ByteArray := l.map fun p => sigB p.1 p.2
theorem keep2 {w W w1 : World} {g : Nat} {v0 v1 : Value} {B : Nat} (h : W.cell? ⟨g, 0, none⟩ = some v0 ∧ W.cell? ⟨g, 1, none⟩ = some v1 ∧ Below B w W ∧ B ≤ W.heap.size) (hb : Below W.heap.size W w1) :
    w1.cell? ⟨g, 0, none⟩ = some v0 ∧ w1.cell? ⟨g, 1, none⟩ = some v1 ∧ Below B w w1 ∧ B ≤ w1.heap.size := by
  have hl := World.block_lt_of_cell? W _ h.1
  exact ⟨(hb.cell (p := ⟨g, 0, none⟩) hl).trans h.1, (hb.cell (p := ⟨g, 1, none⟩) hl).trans h.2.1, h.2.2.1.trans (hb.mono h.2.2.2), Nat.le_trans h.2.2.2 hb.size⟩
theorem flat_size (xs : List ByteArray) : (listB xs).size = 4 + (flat xs).length := by
  show (listL xs).toArray.size = _
  rw [List.size_toArray, listL, List.length_append]; rfl
end WW
namespace Go.Proofs.YthajnkcipifhcaaGreatDoor
open WW BB
set_option maxRecDepth 100000 in
set_option maxHeartbeats 2000000 in
theorem sig_any (f : Int) (tv : Value) (ts : List ByteArray) (w : World) (hv : StrsAt w tv ts) (hs : (flat ts).length ≤ 500000) (hn : ts.length ≤ 1000) :
    Calls Tryz.prog 228 #[.agg #[.int .i64 f, tv]] w fun e w' => e = .returned (.string (sigB f ts)) ∧ Below w.heap.size w w' := by
  have h1 : ¬ 9223372036854775807 < (num f).size + (listB ts).size := by rw [num_size, flat_size]; omega
  have HV := Lib.hid hv
  have HS := Lib.hid hs
  have HN := Lib.hid hn
  obtain ⟨a0, cap, rfl, hx⟩ := hv
  clear hs hn hx
  go_enter Tryz.func228, Tryz.ntmps228
  go_wp2_with fail
  have c0 := cell_new w #[.int .i64 f, .slice a0 ts.length cap] 39 0 _ rfl
  have c1 := cell_new w #[.int .i64 f, .slice a0 ts.length cap] 39 1 _ rfl
  have b0 : Below w.heap.size w (w.alloc (.cells #[.int .i64 f, .slice a0 ts.length cap] 39)) := (Below.refl _ _).alloc (Nat.le_refl _) _
  generalize w.alloc (.cells #[.int .i64 f, .slice a0 ts.length cap] 39) = w0 at *
  have z0 := b0.size
  obtain ⟨g, hg⟩ : ∃ g, w.heap.size = g := ⟨_, rfl⟩
  rw [hg] at c0 c1 b0 z0 ⊢
  have HG := Lib.hid hg
  clear hg
  have hst : w0.drew.cell? ⟨g, 0, none⟩ = some (.int .i64 f) ∧ w0.drew.cell? ⟨g, 1, none⟩ = some (.slice a0 ts.length cap) ∧ Below g w w0.drew ∧ g ≤ w0.drew.heap.size := ⟨c0, c1, b0.drew, z0⟩
  go_region_held3 (fun w' => w'.cell? ⟨g, 0, none⟩ = some (.int .i64 f) ∧ w'.cell? ⟨g, 1, none⟩ = some (.slice a0 ts.length cap) ∧ Below g w w' ∧ g ≤ w'.heap.size)
    (first | exact hst | exact hk)
    (first
      | (go_at_call 60; refine (number_any _ _).mono ?_; rintro e w1 ⟨rfl, hb1⟩; have hk := keep2 (w := w) (g := g) (v0 := .int .i64 f) (v1 := .slice a0 ts.length cap) (B := g) (by assumption) hb1; have HK := Lib.hid hk.2.2.1)
      | (go_at_call 275; refine (liststr_any ts _ _ (HV.out.later (by rw [HG.out]; exact HK.out)) HS.out HN.out).mono ?_; rintro e w1 ⟨rfl, hb1⟩; have hk := keep2 (w := w) (g := g) (v0 := .int .i64 f) (v1 := .slice a0 ts.length cap) (B := g) (by assumption) hb1))
  go_wp2_with fail
  go_ret
  exact ⟨rfl, by rw [HG.out]; exact hk.2.2.1⟩
set_option maxRecDepth 100000 in
set_option maxHeartbeats 2000000 in
theorem listsig_any (l : List (Int × List ByteArray)) (v : Value) (w : World) (hv : SigsAt w v l) (hs : (flat (sigsB l)).length ≤ 500000) (hn : l.length ≤ 1000) (hsm : ∀ i, i < l.length → (flat (l.getD i (0, [])).2).length ≤ 500000 ∧ (l.getD i (0, [])).2.length ≤ 1000) :
    Calls Tryz.prog 227 #[v, .func (.func 228) #[] #[]] w fun e w' => e = .returned (.string (listB (sigsB l))) ∧ Below w.heap.size w w' := by
  have HV := Lib.hid hv
  have HS := Lib.hid hs
  have HN := Lib.hid hn
  have HM := Lib.hid hsm
  have hXL : (sigsB l).length = l.length := by simp [sigsB]
  have HXL := Lib.hid hXL
  obtain ⟨a0, cap, rfl, hx⟩ := hv
  clear hs hn hx hsm hXL
  go_enter Tryz.func227, Tryz.ntmps227
  go_wp2_with fail
  obtain ⟨b, hb⟩ : ∃ b, w.heap.size = b := ⟨_, rfl⟩
  have I0 : Lib.IsBuilder 252 5 b b [] (w.alloc (.cells #[.pointer none, .slice none 0 0] 252)) := by rw [← hb]; exact Lib.fresh_isBuilder _ _ w
  have b0 := (Below.refl w.heap.size w).alloc (Nat.le_refl _) (.cells #[.pointer none, .slice none 0 0] 252)
  have z0 : b < (w.alloc (.cells #[.pointer none, .slice none 0 0] 252)).heap.size := by rw [← hb]; simp
  have HB := Lib.hid hb
  rw [hb]
  clear hb
  generalize w.alloc (.cells #[.pointer none, .slice none 0 0] 252) = w1 at *
  refine (number_in l.length (by have := HN.out; omega) w1).mono ?_
  rintro e w2 ⟨rfl, hb2⟩
  have I2 := Lib.hid (isBuilder_on I0 hb2)
  have B2 := Lib.hid (b0.trans (hb2.mono b0.size))
  have Z2 := Lib.hid (Nat.lt_of_lt_of_le z0 hb2.size)
  clear I0 b0 z0 hb2
  go_wp2_with fail
  refine (writestr_any b b [] (be4 l.length) w2 I2.out (by show 0 + 4 ≤ _; omega) (Nat.le_of_lt Z2.out)).mono ?_
  rintro e w3 ⟨rfl, hI3, hb3⟩
  have L3 : Hid (LAt w b (sigsB l) 0 w3) := Lib.hid ⟨B2.out.trans (hb3.mono (by rw [HB.out]; exact Nat.le_refl _)), by rw [HXL.out]; simpa [flat, Lib.strCells_eq] using hI3, Nat.lt_of_lt_of_le Z2.out hb3.size⟩
  clear hI3 hb3 I2 B2 Z2
  go_wp2_with fail
  have L3' := L3.out
  clear L3
  go_loopw [14] (fun v wr => ∃ i : Nat, i ≤ l.length ∧ v = .int .i64 (i : Int) ∧ LAt w b (sigsB l) i wr) (fun v _ => l.length - (intOf v).toNat)
  case atStart => exact ⟨0, Nat.zero_le _, rfl, L3'⟩
  case round =>
    clear L3'
    clear w3
    obtain ⟨i, hi, rfl, hL⟩ := hrel
    have HL := Lib.hid hL
    by_cases hlt : i < l.length
    · have hlt' : (i : Int) < (l.length : Int) := by omega
      have i0 : (0 : Int) ≤ (i : Int) := by omega
      have ib : (i : Int) ≤ 1000 := by have := HN.out; omega
      obtain ⟨a1, cap1, he, hv | ⟨gb, off, rfl, hbw, hcell⟩⟩ := HV.out
      · rw [hv] at hlt; simp at hlt
      injection he with e1 _ e3
      subst e1 e3
      obtain ⟨tv, hc0, hc1, hts⟩ := hcell i hlt
      have hcl0 := (hL.below.cell (p := ⟨gb, off + i * 2, none⟩) hbw).trans hc0
      have hcl1 := (hL.below.cell (p := ⟨gb, off + i * 2 + 1, none⟩) hbw).trans hc1
      have HTS := Lib.hid (hts.later hL.below')
      have HFS := Lib.hid (flat_snoc (sigsB l) i (by rw [HXL.out]; exact hlt))
      have HLE := Lib.hid (flat_take_le (sigsB l) (i + 1))
      have hgs : (sigsB l).getD i ⟨#[]⟩ = sigB (l.getD i (0, [])).1 (l.getD i (0, [])).2 := by simp [sigsB, List.getD, List.getElem?_eq_getElem hlt]
      have HMi := Lib.hid (HM.out i hlt)
      obtain ⟨f, hf⟩ : ∃ f, (l.getD i (0, [])).1 = f := ⟨_, rfl⟩
      obtain ⟨ts, ht⟩ : ∃ ts, (l.getD i (0, [])).2 = ts := ⟨_, rfl⟩
      rw [hf] at hcl0 hgs
      rw [ht] at HTS HMi hgs
      obtain ⟨s, hs⟩ : ∃ s, sigB f ts = s := ⟨_, rfl⟩
      rw [hgs, hs] at HFS
      have HSS := Lib.hid hs
      have HLT := Lib.hid hlt
      obtain ⟨ta, tcap, htv, _⟩ := HTS.out
      subst htv
      clear hgs hf ht hs hL hi hlt hcell hbw hc0 hc1 hts
      have bA := (Below.refl wr.heap.size wr).alloc (Nat.le_refl _) (.cells #[.int .i64 f, .slice ta ts.length tcap] 39)
      have LA := Lib.hid (HL.out.on bA)
      have TA := Lib.hid (HTS.out.later bA)
      clear bA
      go_wp2_with fail
      generalize wr.alloc (.cells #[.int .i64 f, .slice ta ts.length tcap] 39) = wq at *
      refine (sig_any f _ ts wq TA.out HMi.out.1 HMi.out.2).mono ?_
      rintro e w4 ⟨rfl, hb4⟩
      rw [HSS.out]
      have L4 := Lib.hid (LA.out.on hb4)
      clear hb4
      go_wp2_with fail
      refine (writestr_any b b _ s w4 L4.out.bld (by have h1 := HLE.out; have h2 := HS.out; have h3 := HFS.out; rw [h3, List.length_append] at h1; have : s.data.toList.length = s.size := by rw [Array.length_toList]; rfl
                                                     rw [Lib.byteCells_length, List.length_append]; show 4 + _ + _ ≤ _; omega) (Nat.le_of_lt L4.out.lt)).mono ?_
      rintro e w5 ⟨rfl, hI5, hb5⟩
      have L5 : Hid (LAt w b (sigsB l) (i + 1) w5) := Lib.hid ⟨L4.out.below.trans (hb5.mono (by rw [HB.out]; exact Nat.le_refl _)), by rw [HFS.out, ← List.append_assoc, Lib.byteCells_append]; exact hI5, Nat.lt_of_lt_of_le L4.out.lt hb5.size⟩
      clear hI5 hb5 hcl0 hcl1
      go_wp2_with fail
      go_roundw
      case rel => exact ⟨i + 1, by have := HLT.out; omega, by go_num, L5.out⟩
      case measure => have := HLT.out; simp [intOf]; omega
    · obtain rfl : i = l.length := by omega
      have hlt' : ¬ (l.length : Int) < (l.length : Int) := by omega
      have hbs := hL.bld
      rw [← HXL.out, List.take_length] at hbs
      have HBS := Lib.hid hbs
      clear hL hi hlt hbs
      go_wp2_with fail
      refine (bstring_any b b _ wr HBS.out (be4_ne _ _)).mono ?_
      rintro e w4 ⟨rfl, hb4⟩
      go_wp2_with fail
      go_ret
      exact ⟨rfl, HL.out.below.trans (hb4.mono (by rw [HB.out]; exact Nat.le_refl _))⟩
end Go.Proofs.YthajnkcipifhcaaGreatDoor
end
section
open Go Go.RowKit
namespace WW
open BB
/-- v is a slice of requests -/
def ReqsAt (w : World) (v : Value) (l : List (Int × Int × ByteArray)) : Prop :=
  ∃ a0 cap, v = .slice a0 l.length cap ∧ (l = [] ∨ ∃ b off, a0 = some ⟨b, off, none⟩ ∧ b < w.heap.size ∧
    ∀ i, i < l.length → w.cell? ⟨b, off + i * 3, none⟩ = some (.int .i64 (l.getD i (0, 0, ⟨#[]⟩)).1) ∧ w.cell? ⟨b, off + i * 3 + 1, none⟩ = some (.int .i64 (l.getD i (0, 0, ⟨#[]⟩)).2.1) ∧ w.cell? ⟨b, off + i * 3 + 2, none⟩ = some (.string (l.getD i (0, 0, ⟨#[]⟩)).2.2))
theorem ReqsAt.later {w w' : World} {v : Value} {l : List (Int × Int × ByteArray)} (h : ReqsAt w v l) (hb : Below w.heap.size w w') : ReqsAt w' v l := by
  obtain ⟨a0, cap, rfl, h | ⟨b, off, rfl, hl, hc⟩⟩ := h
  · exact ⟨a0, cap, rfl, Or.inl h⟩
  · refine ⟨_, cap, rfl, Or.inr ⟨b, off, rfl, Nat.lt_of_lt_of_le hl hb.size, fun i hi => ?_⟩⟩
    obtain ⟨h1, h2, h3⟩ := hc i hi
    exact ⟨(hb.cell (p := ⟨b, off + i * 3, none⟩) hl).trans h1, (hb.cell (p := ⟨b, off + i * 3 + 1, none⟩) hl).trans h2, (hb.cell (p := ⟨b, off + i * 3 + 2, none⟩) hl).trans h3⟩
/-- the requests' bytes -/
def reqsB (l : List (Int × Int × ByteArray)) : List ByteArray := l.map fun p => reqB p.1 p.2.1 p.2.2
end WW
namespace Go.Proofs.YthajnkcipifhcaaGreatDoor
open WW BB
set_option maxRecDepth 100000 in
set_option maxHeartbeats 2000000 in
theorem listreq_any (l : List (Int × Int × ByteArray)) (v : Value) (w : World) (hv : ReqsAt w v l) (hs : (flat (reqsB l)).length ≤ 500000) (hn : l.length ≤ 1000) (hsm : ∀ i, i < l.length → (l.getD i (0, 0, ⟨#[]⟩)).2.2.size ≤ 500000) :
    Calls Tryz.prog 162 #[v, .func (.func 61) #[] #[]] w fun e w' => e = .returned (.string (listB (reqsB l))) ∧ Below w.heap.size w w' := by
  have HV := Lib.hid hv
  have HS := Lib.hid hs
  have HN := Lib.hid hn
  have HM := Lib.hid hsm
  have hXL : (reqsB l).length = l.length := by simp [reqsB]
  have HXL := Lib.hid hXL
  obtain ⟨a0, cap, rfl, hx⟩ := hv
  clear hs hn hx hsm hXL
  go_enter Tryz.func162, Tryz.ntmps162
  go_wp2_with fail
  obtain ⟨b, hb⟩ : ∃ b, w.heap.size = b := ⟨_, rfl⟩
  have I0 : Lib.IsBuilder 252 5 b b [] (w.alloc (.cells #[.pointer none, .slice none 0 0] 252)) := by rw [← hb]; exact Lib.fresh_isBuilder _ _ w
  have b0 := (Below.refl w.heap.size w).alloc (Nat.le_refl _) (.cells #[.pointer none, .slice none 0 0] 252)
  have z0 : b < (w.alloc (.cells #[.pointer none, .slice none 0 0] 252)).heap.size := by rw [← hb]; simp
  have HB := Lib.hid hb
  rw [hb]
  clear hb
  generalize w.alloc (.cells #[.pointer none, .slice none 0 0] 252) = w1 at *
  refine (number_in l.length (by have := HN.out; omega) w1).mono ?_
  rintro e w2 ⟨rfl, hb2⟩
  have I2 := Lib.hid (isBuilder_on I0 hb2)
  have B2 := Lib.hid (b0.trans (hb2.mono b0.size))
  have Z2 := Lib.hid (Nat.lt_of_lt_of_le z0 hb2.size)
  clear I0 b0 z0 hb2
  go_wp2_with fail
  refine (writestr_any b b [] (be4 l.length) w2 I2.out (by show 0 + 4 ≤ _; omega) (Nat.le_of_lt Z2.out)).mono ?_
  rintro e w3 ⟨rfl, hI3, hb3⟩
  have L3 : Hid (LAt w b (reqsB l) 0 w3) := Lib.hid ⟨B2.out.trans (hb3.mono (by rw [HB.out]; exact Nat.le_refl _)), by rw [HXL.out]; simpa [flat, Lib.strCells_eq] using hI3, Nat.lt_of_lt_of_le Z2.out hb3.size⟩
  clear hI3 hb3 I2 B2 Z2
  go_wp2_with fail
  have L3' := L3.out
  clear L3
  go_loopw [14] (fun v wr => ∃ i : Nat, i ≤ l.length ∧ v = .int .i64 (i : Int) ∧ LAt w b (reqsB l) i wr) (fun v _ => l.length - (intOf v).toNat)
  case atStart => exact ⟨0, Nat.zero_le _, rfl, L3'⟩
  case round =>
    clear L3'
    clear w3
    obtain ⟨i, hi, rfl, hL⟩ := hrel
    have HL := Lib.hid hL
    by_cases hlt : i < l.length
    · have hlt' : (i : Int) < (l.length : Int) := by omega
      have i0 : (0 : Int) ≤ (i : Int) := by omega
      have ib : (i : Int) ≤ 1000 := by have := HN.out; omega
      obtain ⟨a1, cap1, he, hv | ⟨gb, off, rfl, hbw, hcell⟩⟩ := HV.out
      · rw [hv] at hlt; simp at hlt
      injection he with e1 _ e3
      subst e1 e3
      obtain ⟨hc0, hc1, hc2⟩ := hcell i hlt
      have hcl0 := (hL.below.cell (p := ⟨gb, off + i * 3, none⟩) hbw).trans hc0
      have hcl1 := (hL.below.cell (p := ⟨gb, off + i * 3 + 1, none⟩) hbw).trans hc1
      have hcl2 := (hL.below.cell (p := ⟨gb, off + i * 3 + 2, none⟩) hbw).trans hc2
      have HFS := Lib.hid (flat_snoc (reqsB l) i (by rw [HXL.out]; exact hlt))
      have HLE := Lib.hid (flat_take_le (reqsB l) (i + 1))
      have hgs : (reqsB l).getD i ⟨#[]⟩ = reqB (l.getD i (0, 0, ⟨#[]⟩)).1 (l.getD i (0, 0, ⟨#[]⟩)).2.1 (l.getD i (0, 0, ⟨#[]⟩)).2.2 := by simp [reqsB, List.getD, List.getElem?_eq_getElem hlt]
      have HMi := Lib.hid (HM.out i hlt)
      obtain ⟨c, hf⟩ : ∃ c, (l.getD i (0, 0, ⟨#[]⟩)).1 = c := ⟨_, rfl⟩
      obtain ⟨q, hq⟩ : ∃ q, (l.getD i (0, 0, ⟨#[]⟩)).2.1 = q := ⟨_, rfl⟩
      obtain ⟨x, ht⟩ : ∃ x, (l.getD i (0, 0, ⟨#[]⟩)).2.2 = x := ⟨_, rfl⟩
      rw [hf] at hcl0 hgs
      rw [hq] at hcl1 hgs
      rw [ht] at hcl2 HMi hgs
      obtain ⟨s, hs⟩ : ∃ s, reqB c q x = s := ⟨_, rfl⟩
      rw [hgs, hs] at HFS
      have HSS := Lib.hid hs
      have HLT := Lib.hid hlt
      clear hgs hf hq ht hs hL hi hlt hcell hbw hc0 hc1 hc2
      have bA := (Below.refl wr.heap.size wr).alloc (Nat.le_refl _) (.cells #[.int .i64 c, .int .i64 q, .string x] 41)
      have LA := Lib.hid (HL.out.on bA)
      clear bA
      go_wp2_with fail
      generalize wr.alloc (.cells #[.int .i64 c, .int .i64 q, .string x] 41) = wq at *
      refine (request_any c q x (by have := HMi.out; omega) wq).mono ?_
      rintro e w4 ⟨rfl, hb4⟩
      rw [HSS.out]
      have L4 := Lib.hid (LA.out.on hb4)
      clear hb4
      go_wp2_with fail
      refine (writestr_any b b _ s w4 L4.out.bld (by have h1 := HLE.out; have h2 := HS.out; have h3 := HFS.out; rw [h3, List.length_append] at h1; have : s.data.toList.length = s.size := by rw [Array.length_toList]; rfl
                                                     rw [Lib.byteCells_length, List.length_append]; show 4 + _ + _ ≤ _; omega) (Nat.le_of_lt L4.out.lt)).mono ?_
      rintro e w5 ⟨rfl, hI5, hb5⟩
      have L5 : Hid (LAt w b (reqsB l) (i + 1) w5) := Lib.hid ⟨L4.out.below.trans (hb5.mono (by rw [HB.out]; exact Nat.le_refl _)), by rw [HFS.out, ← List.append_assoc, Lib.byteCells_append]; exact hI5, Nat.lt_of_lt_of_le L4.out.lt hb5.size⟩
      clear hI5 hb5 hcl0 hcl1 hcl2
      go_wp2_with fail
      go_roundw
      case rel => exact ⟨i + 1, by have := HLT.out; omega, by go_num, L5.out⟩
      case measure => have := HLT.out; simp [intOf]; omega
    · obtain rfl : i = l.length := by omega
      have hlt' : ¬ (l.length : Int) < (l.length : Int) := by omega
      have hbs := hL.bld
      rw [← HXL.out, List.take_length] at hbs
      have HBS := Lib.hid hbs
      clear hL hi hlt hbs
      go_wp2_with fail
      refine (bstring_any b b _ wr HBS.out (be4_ne _ _)).mono ?_
      rintro e w4 ⟨rfl, hb4⟩
      go_wp2_with fail
      go_ret
      exact ⟨rfl, HL.out.below.trans (hb4.mono (by rw [HB.out]; exact Nat.le_refl _))⟩
end Go.Proofs.YthajnkcipifhcaaGreatDoor
end
section
open Go Go.RowKit
namespace WW
open BB
/-- a certificate's bytes -/
def certB (v : Int) (k : ByteArray) (l : List (Int × List ByteArray)) : ByteArray := num v ++ k ++ listB (sigsB l)
/-- a block's bytes -/
def blockB (v p cv : Int) (k : ByteArray) (l : List (Int × List ByteArray)) (m : List (Int × Int × ByteArray)) : ByteArray := num v ++ num p ++ certB cv k l ++ listB (reqsB m)
/-- signatures of a size that is looked at -/
def SmallS (l : List (Int × List ByteArray)) : Prop := l.length ≤ 1000 ∧ (flat (sigsB l)).length ≤ 500000 ∧ ∀ i, i < l.length → (flat (l.getD i (0, [])).2).length ≤ 500000 ∧ (l.getD i (0, [])).2.length ≤ 1000
def SmallR (l : List (Int × Int × ByteArray)) : Prop := l.length ≤ 1000 ∧ (flat (reqsB l)).length ≤ 500000 ∧ ∀ i, i < l.length → (l.getD i (0, 0, ⟨#[]⟩)).2.2.size ≤ 500000
theorem certB_size (v : Int) (k : ByteArray) (l : List (Int × List ByteArray)) : (certB v k l).size = 8 + k.size + (flat (sigsB l)).length := by
  simp only [certB, ByteArray.size_append, num_size, flat_size]; omega
theorem keep6 {w W w1 : World} {g : Nat} {v0 v1 v2 v3 v4 v5 : Value} {B : Nat} (h : W.cell? ⟨g, 0, none⟩ = some v0 ∧ W.cell? ⟨g, 1, none⟩ = some v1 ∧ W.cell? ⟨g, 2, none⟩ = some v2 ∧ W.cell? ⟨g, 3, none⟩ = some v3 ∧ W.cell? ⟨g, 4, none⟩ = some v4 ∧ W.cell? ⟨g, 5, none⟩ = some v5 ∧ Below B w W ∧ B ≤ W.heap.size) (hb : Below W.heap.size W w1) :
    w1.cell? ⟨g, 0, none⟩ = some v0 ∧ w1.cell? ⟨g, 1, none⟩ = some v1 ∧ w1.cell? ⟨g, 2, none⟩ = some v2 ∧ w1.cell? ⟨g, 3, none⟩ = some v3 ∧ w1.cell? ⟨g, 4, none⟩ = some v4 ∧ w1.cell? ⟨g, 5, none⟩ = some v5 ∧ Below B w w1 ∧ B ≤ w1.heap.size := by
  obtain ⟨h0, h1, h2, h3, h4, h5, h6, h7⟩ := h
  have hl := World.block_lt_of_cell? W _ h0
  exact ⟨(hb.cell (p := ⟨g, 0, none⟩) hl).trans h0, (hb.cell (p := ⟨g, 1, none⟩) hl).trans h1, (hb.cell (p := ⟨g, 2, none⟩) hl).trans h2, (hb.cell (p := ⟨g, 3, none⟩) hl).trans h3, (hb.cell (p := ⟨g, 4, none⟩) hl).trans h4, (hb.cell (p := ⟨g, 5, none⟩) hl).trans h5, h6.trans (hb.mono h7), Nat.le_trans h7 hb.size⟩
end WW
namespace Go.Proofs.YthajnkcipifhcaaGreatDoor
open WW BB
set_option maxRecDepth 100000 in
set_option maxHeartbeats 2000000 in
theorem cert_any (v : Int) (k : ByteArray) (sv : Value) (l : List (Int × List ByteArray)) (w : World) (hv : SigsAt w sv l) (hk : k.size ≤ 1000000) (hs : SmallS l) :
    Calls Tryz.prog 165 #[.agg #[.int .i64 v, .string k, sv]] w fun e w' => e = .returned (.string (certB v k l)) ∧ Below w.heap.size w w' := by
  have h1 : ¬ 9223372036854775807 < (num v).size + k.size := by rw [num_size]; omega
  have h2 : ¬ 9223372036854775807 < (num v).size + k.size + (listB (sigsB l)).size := by rw [num_size, flat_size]; have := hs.2.1; omega
  have HV := Lib.hid hv
  have HS := Lib.hid hs
  obtain ⟨a0, cap, rfl, hx⟩ := hv
  clear hs hx hk
  go_enter Tryz.func165, Tryz.ntmps165
  go_wp2_with fail
  have c0 := cell_new w #[.int .i64 v, .string k, .slice a0 l.length cap] 33 0 _ rfl
  have c1 := cell_new w #[.int .i64 v, .string k, .slice a0 l.length cap] 33 1 _ rfl
  have c2 := cell_new w #[.int .i64 v, .string k, .slice a0 l.length cap] 33 2 _ rfl
  have b0 : Below w.heap.size w (w.alloc (.cells #[.int .i64 v, .string k, .slice a0 l.length cap] 33)) := (Below.refl _ _).alloc (Nat.le_refl _) _
  generalize w.alloc (.cells #[.int .i64 v, .string k, .slice a0 l.length cap] 33) = w0 at *
  have z0 := b0.size
  obtain ⟨g, hg⟩ : ∃ g, w.heap.size = g := ⟨_, rfl⟩
  rw [hg] at c0 c1 c2 b0 z0 ⊢
  have HG := Lib.hid hg
  clear hg
  have hst := start3 c0 c1 c2 b0 z0
  go_region_held3 (fun w' => w'.cell? ⟨g, 0, none⟩ = some (.int .i64 v) ∧ w'.cell? ⟨g, 1, none⟩ = some (.string k) ∧ w'.cell? ⟨g, 2, none⟩ = some (.slice a0 l.length cap) ∧ Below g w w' ∧ g ≤ w'.heap.size)
    (first | exact hst | exact hk)
    (first
      | (go_at_call 60; refine (number_any _ _).mono ?_; rintro e w1 ⟨rfl, hb1⟩; have hk := keep3 (w := w) (g := g) (v0 := .int .i64 v) (v1 := .string k) (v2 := .slice a0 l.length cap) (B := g) (by assumption) hb1; have HK := Lib.hid hk.2.2.2.1)
      | (go_at_call 227; refine (listsig_any l _ _ (HV.out.later (by rw [HG.out]; exact HK.out)) HS.out.2.1 HS.out.1 HS.out.2.2).mono ?_; rintro e w1 ⟨rfl, hb1⟩; have hk := keep3 (w := w) (g := g) (v0 := .int .i64 v) (v1 := .string k) (v2 := .slice a0 l.length cap) (B := g) (by assumption) hb1))
  go_wp2_with fail
  go_ret
  exact ⟨rfl, by rw [HG.out]; exact hk.2.2.2.1⟩
set_option maxRecDepth 100000 in
set_option maxHeartbeats 4000000 in
theorem block_any (v p cv : Int) (k : ByteArray) (sv rv : Value) (l : List (Int × List ByteArray)) (m : List (Int × Int × ByteArray)) (w : World) (hv : SigsAt w sv l) (hr : ReqsAt w rv m) (hk : k.size ≤ 1000000) (hs : SmallS l) (hm : SmallR m) :
    Calls Tryz.prog 178 #[.agg #[.int .i64 v, .int .i64 p, .int .i64 cv, .string k, sv, rv]] w fun e w' => e = .returned (.string (blockB v p cv k l m)) ∧ Below w.heap.size w w' := by
  have h1 : ¬ 9223372036854775807 < (num v).size + (num p).size := by rw [num_size, num_size]; omega
  have h2 : ¬ 9223372036854775807 < (num v).size + (num p).size + (certB cv k l).size := by rw [num_size, num_size, certB_size]; have := hs.2.1; omega
  have h3 : ¬ 9223372036854775807 < (num v).size + (num p).size + (certB cv k l).size + (listB (reqsB m)).size := by rw [num_size, num_size, certB_size, flat_size]; have := hs.2.1; have := hm.2.1; omega
  have HV := Lib.hid hv
  have HR := Lib.hid hr
  have HS := Lib.hid hs
  have HM := Lib.hid hm
  have HKZ := Lib.hid hk
  obtain ⟨a0, cap, rfl, hx⟩ := hv
  obtain ⟨a1, cap1, rfl, hx1⟩ := hr
  clear hs hx hk hm hx1
  go_enter Tryz.func178, Tryz.ntmps178
  go_wp2_with fail
  have c0 := cell_new w #[.int .i64 v, .int .i64 p, .int .i64 cv, .string k, .slice a0 l.length cap, .slice a1 m.length cap1] 36 0 _ rfl
  have c1 := cell_new w #[.int .i64 v, .int .i64 p, .int .i64 cv, .string k, .slice a0 l.length cap, .slice a1 m.length cap1] 36 1 _ rfl
  have c2 := cell_new w #[.int .i64 v, .int .i64 p, .int .i64 cv, .string k, .slice a0 l.length cap, .slice a1 m.length cap1] 36 2 _ rfl
  have c3 := cell_new w #[.int .i64 v, .int .i64 p, .int .i64 cv, .string k, .slice a0 l.length cap, .slice a1 m.length cap1] 36 3 _ rfl
  have c4 := cell_new w #[.int .i64 v, .int .i64 p, .int .i64 cv, .string k, .slice a0 l.length cap, .slice a1 m.length cap1] 36 4 _ rfl
  have c5 := cell_new w #[.int .i64 v, .int .i64 p, .int .i64 cv, .string k, .slice a0 l.length cap, .slice a1 m.length cap1] 36 5 _ rfl
  have b0 : Below w.heap.size w (w.alloc (.cells #[.int .i64 v, .int .i64 p, .int .i64 cv, .string k, .slice a0 l.length cap, .slice a1 m.length cap1] 36)) := (Below.refl _ _).alloc (Nat.le_refl _) _
  generalize w.alloc (.cells #[.int .i64 v, .int .i64 p, .int .i64 cv, .string k, .slice a0 l.length cap, .slice a1 m.length cap1] 36) = w0 at *
  have z0 := b0.size
  obtain ⟨g, hg⟩ : ∃ g, w.heap.size = g := ⟨_, rfl⟩
  rw [hg] at c0 c1 c2 c3 c4 c5 b0 z0 ⊢
  have HG := Lib.hid hg
  clear hg
  have hst : w0.drew.cell? ⟨g, 0, none⟩ = some (.int .i64 v) ∧ w0.drew.cell? ⟨g, 1, none⟩ = some (.int .i64 p) ∧ w0.drew.cell? ⟨g, 2, none⟩ = some (.int .i64 cv) ∧ w0.drew.cell? ⟨g, 3, none⟩ = some (.string k) ∧ w0.drew.cell? ⟨g, 4, none⟩ = some (.slice a0 l.length cap) ∧ w0.drew.cell? ⟨g, 5, none⟩ = some (.slice a1 m.length cap1) ∧ Below g w w0.drew ∧ g ≤ w0.drew.heap.size := ⟨c0, c1, c2, c3, c4, c5, b0.drew, z0⟩
  go_region_held3 (fun w' => w'.cell? ⟨g, 0, none⟩ = some (.int .i64 v) ∧ w'.cell? ⟨g, 1, none⟩ = some (.int .i64 p) ∧ w'.cell? ⟨g, 2, none⟩ = some (.int .i64 cv) ∧ w'.cell? ⟨g, 3, none⟩ = some (.string k) ∧ w'.cell? ⟨g, 4, none⟩ = some (.slice a0 l.length cap) ∧ w'.cell? ⟨g, 5, none⟩ = some (.slice a1 m.length cap1) ∧ Below g w w' ∧ g ≤ w'.heap.size)
    (first | exact hst | exact hk)
    (first
      | (go_at_call 60; refine (number_any _ _).mono ?_; rintro e w1 ⟨rfl, hb1⟩; have hk := keep6 (w := w) (g := g) (v0 := .int .i64 v) (v1 := .int .i64 p) (v2 := .int .i64 cv) (v3 := .string k) (v4 := .slice a0 l.length cap) (v5 := .slice a1 m.length cap1) (B := g) (by assumption) hb1; have HK := Lib.hid hk.2.2.2.2.2.2.1)
      | (go_at_call 165; refine (cert_any cv k _ l _ (HV.out.later (by rw [HG.out]; exact HK.out)) HKZ.out HS.out).mono ?_; rintro e w1 ⟨rfl, hb1⟩; have hk := keep6 (w := w) (g := g) (v0 := .int .i64 v) (v1 := .int .i64 p) (v2 := .int .i64 cv) (v3 := .string k) (v4 := .slice a0 l.length cap) (v5 := .slice a1 m.length cap1) (B := g) (by assumption) hb1; have HK := Lib.hid hk.2.2.2.2.2.2.1)
      | (go_at_call 162; refine (listreq_any m _ _ (HR.out.later (by rw [HG.out]; exact HK.out)) HM.out.2.1 HM.out.1 HM.out.2.2).mono ?_; rintro e w1 ⟨rfl, hb1⟩; have hk := keep6 (w := w) (g := g) (v0 := .int .i64 v) (v1 := .int .i64 p) (v2 := .int .i64 cv) (v3 := .string k) (v4 := .slice a0 l.length cap) (v5 := .slice a1 m.length cap1) (B := g) (by assumption) hb1))
  go_wp2_with fail
  go_ret
  exact ⟨rfl, by rw [HG.out]; exact hk.2.2.2.2.2.2.1⟩
end Go.Proofs.YthajnkcipifhcaaGreatDoor
end
section
open Go Go.RowKit
namespace WW
open BB
/-- a certificate of a size that is looked at -/
def fewCert (k : ByteArray) (l : List (Int × List ByteArray)) : Bool := (l.take 20).all (fun p => fewSig p.2) && (decide (l.length ≤ 10) && decide (k.size ≤ 50))
/-- a block of a size that is looked at -/
def fewBlock (k : ByteArray) (l : List (Int × List ByteArray)) (m : List (Int × Int × ByteArray)) : Bool := (m.take 20).all (fun p => decide (p.2.2.size ≤ 60)) && (decide (m.length ≤ 6) && fewCert k l)
/-- the tags of each signature are no more than fit into memory -/
def MemS (l : List (Int × List ByteArray)) : Prop := l.length ≤ 9223372036854775807 ∧ ∀ i, i < l.length → (l.getD i (0, [])).2.length ≤ 9223372036854775807
end WW
namespace Go.Proofs.YthajnkcipifhcaaGreatDoor
open WW BB
end Go.Proofs.YthajnkcipifhcaaGreatDoor
end
