/-
  The walks of the reference's Sig, Cert, requests, Block and Core.
-/
import Derived.Test.YtigoaokpodggcaaDoorKWCutR
import Derived.Deep.RegionHeld3
import Derived.Deep.CutRange
open Go Go.RowKit
namespace WW
open BB
theorem catB_size (xs : List ByteArray) : (catB xs).size = (flat xs).length := by
  show (flat xs).toArray.size = _; simp
theorem catB_snoc (xs : List ByteArray) (i : Nat) (h : i < xs.length) : catB (xs.take (i + 1)) = catB (xs.take i) ++ xs.getD i ⟨#[]⟩ := by
  apply ba_ext
  rw [ByteArray.data_append, Array.toList_append]
  show flat (xs.take (i + 1)) = flat (xs.take i) ++ _
  exact flat_snoc xs i h
theorem take_room (pre : ByteArray) (xs : List ByteArray) (i : Nat) (h : i < xs.length) (hp : pre.size ≤ 2000000) (hs : (flat xs).length ≤ 500000) : ¬ 9223372036854775807 < (pre ++ catB (xs.take i)).size + (xs.getD i ⟨#[]⟩).size := by
  have h1 := flat_take_le xs (i + 1)
  rw [flat_snoc xs i h, List.length_append, ba_list] at h1
  rw [ByteArray.size_append, catB_size]
  omega
theorem app_nil (a : ByteArray) : a ++ catB [] = a := ba_ext (by rw [ByteArray.data_append, Array.toList_append]; simp [catB, flat])
theorem getD_map {α : Type} (l : List α) (g : α → ByteArray) (i : Nat) (d : α) (h : i < l.length) : (l.map g).getD i ⟨#[]⟩ = g (l.getD i d) := by
  rw [List.getD_eq_getElem?_getD, List.getElem?_eq_getElem (by simpa using h), List.getD_eq_getElem?_getD, List.getElem?_eq_getElem h]; simp
theorem box2_on {w w1 w2 : World} {g : Nat} {v0 v1 : Value} (h : w1.cell? ⟨g, 0, none⟩ = some v0 ∧ w1.cell? ⟨g, 1, none⟩ = some v1 ∧ BoxAt w g [v0, v1] w1) (hb : Below w1.heap.size w1 w2) : w2.cell? ⟨g, 0, none⟩ = some v0 ∧ w2.cell? ⟨g, 1, none⟩ = some v1 ∧ BoxAt w g [v0, v1] w2 :=
  ⟨(h.2.2.on hb).cell 0 _ rfl, (h.2.2.on hb).cell 1 _ rfl, h.2.2.on hb⟩
theorem box3_on {w w1 w2 : World} {g : Nat} {v0 v1 v2 : Value} (h : w1.cell? ⟨g, 0, none⟩ = some v0 ∧ w1.cell? ⟨g, 1, none⟩ = some v1 ∧ w1.cell? ⟨g, 2, none⟩ = some v2 ∧ BoxAt w g [v0, v1, v2] w1) (hb : Below w1.heap.size w1 w2) : w2.cell? ⟨g, 0, none⟩ = some v0 ∧ w2.cell? ⟨g, 1, none⟩ = some v1 ∧ w2.cell? ⟨g, 2, none⟩ = some v2 ∧ BoxAt w g [v0, v1, v2] w2 :=
  ⟨(h.2.2.2.on hb).cell 0 _ rfl, (h.2.2.2.on hb).cell 1 _ rfl, (h.2.2.2.on hb).cell 2 _ rfl, h.2.2.2.on hb⟩
end WW
namespace Go.Proofs.YtigoaokpodggcaaDoor
open WW BB
set_option maxRecDepth 100000 in
set_option maxHeartbeats 4000000 in
theorem rsig_any (f : Int) (tv : Value) (ts : List ByteArray) (w : World) (hv : StrsAt w tv ts) (hs : (flat ts).length ≤ 500000) (hn : ts.length ≤ 1000) :
    Calls Tryd.prog 39 #[.agg #[.int .i64 f, tv]] w fun e w' => e = .returned (.string (sigB f ts)) ∧ Below w.heap.size w w' := by
  have hfin : sigB f ts = num f ++ num (ts.length : Int) ++ catB ts := by
    unfold sigB; rw [listB_cat, num_nat _ (by omega), ByteArray.append_assoc]
  rw [hfin]
  have h1 : ¬ 9223372036854775807 < (num f).size + (num (ts.length : Int)).size := by rw [num_size, num_size]; omega
  have hps : (num f ++ num (ts.length : Int)).size ≤ 2000000 := by rw [ByteArray.size_append, num_size, num_size]; omega
  have HV := Lib.hid hv
  have HS := Lib.hid hs
  have HN := Lib.hid hn
  have HPS := Lib.hid hps
  obtain ⟨a0, cap, rfl, _⟩ := hv
  clear hs hfin hps
  go_enter Tryd.func39, Tryd.ntmps39
  go_wp2_with fail
  have B0 := box_mk w [.int .i64 f, .slice a0 ts.length cap] 35
  rw [show [Value.int .i64 f, .slice a0 ts.length cap].toArray = #[.int .i64 f, .slice a0 ts.length cap] from rfl] at B0
  obtain ⟨g, hg⟩ : ∃ g, w.heap.size = g := ⟨_, rfl⟩
  rw [hg] at B0 ⊢
  have HG := Lib.hid hg
  clear hg
  generalize w.alloc (.cells #[.int .i64 f, .slice a0 ts.length cap] 35) = w0 at *
  have hst : w0.drew.cell? ⟨g, 0, none⟩ = some (.int .i64 f) ∧ w0.drew.cell? ⟨g, 1, none⟩ = some (.slice a0 ts.length cap) ∧ BoxAt w g [.int .i64 f, .slice a0 ts.length cap] w0.drew := by
    have := B0.on (Below.refl w0.heap.size w0).drew
    exact ⟨this.cell 0 _ rfl, this.cell 1 _ rfl, this⟩
  go_region_held3 (fun w' => w'.cell? ⟨g, 0, none⟩ = some (.int .i64 f) ∧ w'.cell? ⟨g, 1, none⟩ = some (.slice a0 ts.length cap) ∧ BoxAt w g [.int .i64 f, .slice a0 ts.length cap] w')
    (first | exact hk | exact hst)
    (first | (go_at_call 45; refine (rnumber_any _ _).mono ?_; rintro e w1 ⟨rfl, hb1⟩; have hk := box2_on (by first | exact hk | exact hst) hb1))
  have HK := Lib.hid hk.2.2
  clear hst hk
  go_wp2_with fail
  go_loopw [3, 4] (fun vb vi wr => ∃ i : Nat, i ≤ ts.length ∧ vi = .int .i64 (i : Int) ∧ vb = .string (num f ++ num (ts.length : Int) ++ catB (ts.take i)) ∧ BoxAt w g [.int .i64 f, .slice a0 ts.length cap] wr) (fun _ v _ => ts.length - (intOf v).toNat)
  case atStart => exact ⟨0, Nat.zero_le _, rfl, by rw [List.take_zero, app_nil], HK.out⟩
  case round =>
    clear HK
    obtain ⟨i, hi, rfl, rfl, hbox⟩ := hrel
    have HBX := Lib.hid hbox
    have c1 := hbox.cell 1 _ rfl
    have i0 : (0 : Int) ≤ (i : Int) := by omega
    have ib : (i : Int) ≤ 1000 := by omega
    clear hbox
    by_cases hlt : i < ts.length
    · have hlt' : (i : Int) < (ts.length : Int) := by omega
      obtain ⟨x1, y1, he, hv | ⟨gb, off, rfl, hbw, hcell⟩⟩ := HV.out
      · rw [hv] at hlt; simp at hlt
      injection he with e1 _ e3
      subst e1 e3
      have hc := (HBX.out.below.cell (p := ⟨gb, off + i, none⟩) hbw).trans (hcell i hlt)
      have hroom := take_room (num f ++ num (ts.length : Int)) ts i hlt HPS.out HS.out
      have hsn := catB_snoc ts i hlt
      obtain ⟨s, hs⟩ : ∃ s, ts.getD i ⟨#[]⟩ = s := ⟨_, rfl⟩
      obtain ⟨B, hB⟩ : ∃ B, num f ++ num (ts.length : Int) ++ catB (ts.take i) = B := ⟨_, rfl⟩
      rw [hs] at hc hroom hsn
      rw [hB] at hroom ⊢
      have HSN := Lib.hid (show num f ++ num (ts.length : Int) ++ catB (ts.take (i + 1)) = B ++ s by rw [hsn, ← hB]; simp only [ByteArray.append_assoc])
      have HLT := Lib.hid hlt
      clear hs hB hsn hlt hi hcell hbw
      go_wp2_with fail
      go_roundw
      case rel => exact ⟨i + 1, by have := HLT.out; omega, by go_num, by rw [HSN.out], HBX.out⟩
      case measure => have := HLT.out; simp [intOf]; omega
    · obtain rfl : i = ts.length := by omega
      have hlt' : ¬ (ts.length : Int) < (ts.length : Int) := by omega
      rw [List.take_length]
      clear hlt hi
      go_wp2_with fail
      go_ret
      exact ⟨rfl, HBX.out.below⟩
end Go.Proofs.YtigoaokpodggcaaDoor
