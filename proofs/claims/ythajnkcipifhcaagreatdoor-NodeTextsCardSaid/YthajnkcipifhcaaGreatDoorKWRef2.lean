/-
  The walks of the reference's requests, Block and Core; of wire.Core.
-/
import Derived.Test.YthajnkcipifhcaaGreatDoorKRState
import Derived.Deep.RegionHeld3
import Derived.Deep.CutRange
section
open Go Go.RowKit
namespace WW
open BB
theorem catB_size (xs : List ByteArray) : (catB xs).size = (flat xs).length := by
  show (flat xs).toArray.size = _; simp
theorem catB_snoc (xs : List ByteArray) (i : Nat) (h : i < xs.length) : catB (xs.take (i + 1)) = catB (xs.take i) ++ xs.getD i ⟨#[]⟩ := by
  apply ba_ext
  rw [ByteArray.data_append, Array.toList_append]
  show flat (xs.take (i + 1)) = flat (xs.take i) ++ _
  exact flat_snoc xs i h
theorem take_room (pre : ByteArray) (xs : List ByteArray) (i : Nat) (h : i < xs.length) (hp : pre.size ≤ 2000000) (hs : (flat xs).length ≤ 500000) : ¬ 9223372036854775807 < (pre ++ catB (xs.take i)).size + (xs.getD i ⟨#[]⟩).size := by
  have h1 := flat_take_le xs (i + 1)
  rw [flat_snoc xs i h, List.length_append, ba_list] at h1
  rw [ByteArray.size_append, catB_size]
  omega
theorem app_nil (a : ByteArray) : a ++ catB [] = a := ba_ext (by rw [ByteArray.data_append, Array.toList_append]; simp [catB, flat])
theorem getD_map {α : Type} (l : List α) (g : α → ByteArray) (i : Nat) (d : α) (h : i < l.length) : (l.map g).getD i ⟨#[]⟩ = g (l.getD i d) := by
  rw [List.getD_eq_getElem?_getD, List.getElem?_eq_getElem (by simpa using h), List.getD_eq_getElem?_getD, List.getElem?_eq_getElem h]; simp
end WW
namespace Go.Proofs.YthajnkcipifhcaaGreatDoor
open WW BB
end Go.Proofs.YthajnkcipifhcaaGreatDoor
end
section
open Go Go.RowKit
namespace WW
open BB
theorem box6_on {w w1 w2 : World} {g : Nat} {v0 v1 v2 v3 v4 v5 : Value} (h : w1.cell? ⟨g, 0, none⟩ = some v0 ∧ w1.cell? ⟨g, 1, none⟩ = some v1 ∧ w1.cell? ⟨g, 2, none⟩ = some v2 ∧ w1.cell? ⟨g, 3, none⟩ = some v3 ∧ w1.cell? ⟨g, 4, none⟩ = some v4 ∧ w1.cell? ⟨g, 5, none⟩ = some v5 ∧ BoxAt w g [v0, v1, v2, v3, v4, v5] w1) (hb : Below w1.heap.size w1 w2) :
    w2.cell? ⟨g, 0, none⟩ = some v0 ∧ w2.cell? ⟨g, 1, none⟩ = some v1 ∧ w2.cell? ⟨g, 2, none⟩ = some v2 ∧ w2.cell? ⟨g, 3, none⟩ = some v3 ∧ w2.cell? ⟨g, 4, none⟩ = some v4 ∧ w2.cell? ⟨g, 5, none⟩ = some v5 ∧ BoxAt w g [v0, v1, v2, v3, v4, v5] w2 :=
  have k := h.2.2.2.2.2.2.on hb
  ⟨k.cell 0 _ rfl, k.cell 1 _ rfl, k.cell 2 _ rfl, k.cell 3 _ rfl, k.cell 4 _ rfl, k.cell 5 _ rfl, k⟩
/-- a block's core -/
def coreB (v p cv : Int) (k : ByteArray) (m : List (Int × Int × ByteArray)) : ByteArray := num v ++ num p ++ num cv ++ k ++ listB (reqsB m)
end WW
namespace Go.Proofs.YthajnkcipifhcaaGreatDoor
open WW BB
set_option maxRecDepth 100000 in
set_option maxHeartbeats 4000000 in
theorem rreqs_any (rv : Value) (m : List (Int × Int × ByteArray)) (w : World) (hv : ReqsAt w rv m) (hss : SmallR m) :
    Calls Tryz.prog 124 #[rv] w fun e w' => e = .returned (.string (listB (reqsB m))) ∧ Below w.heap.size w w' := by
  have hn := hss.1
  have hs := hss.2.1
  have hfin : listB (reqsB m) = num (m.length : Int) ++ catB (reqsB m) := by
    rw [listB_cat, show (reqsB m).length = m.length by unfold reqsB; rw [List.length_map], num_nat m.length (by omega)]
  rw [hfin]
  have hps : (num (m.length : Int)).size ≤ 2000000 := by rw [num_size]; omega
  have HV := Lib.hid hv
  have HS := Lib.hid hs
  have HN := Lib.hid hss
  have HPS := Lib.hid hps
  obtain ⟨a0, cap, rfl, _⟩ := hv
  clear hs hss hfin hps
  go_enter Tryz.func124, Tryz.ntmps124
  go_wp2_with fail
  refine (rnumber_any _ _).mono ?_
  rintro e w0 ⟨rfl, hb0⟩
  have B0 := Lib.hid hb0
  clear hb0
  go_wp2_with fail
  go_loopw [3, 4] (fun vb vi wr => ∃ i : Nat, i ≤ m.length ∧ vi = .int .i64 (i : Int) ∧ vb = .string (num (m.length : Int) ++ catB ((reqsB m).take i)) ∧ Below w.heap.size w wr) (fun _ v _ => m.length - (intOf v).toNat)
  case atStart => exact ⟨0, Nat.zero_le _, rfl, by rw [List.take_zero, app_nil], B0.out⟩
  case round =>
    clear B0
    obtain ⟨i, hi, rfl, rfl, hbox⟩ := hrel
    have HBX := Lib.hid hbox
    have i0 : (0 : Int) ≤ (i : Int) := by omega
    have ib : (i : Int) ≤ 1000 := by omega
    clear hbox
    by_cases hlt : i < m.length
    · have hlt' : (i : Int) < (m.length : Int) := by omega
      obtain ⟨x1, y1, he, hv | ⟨gb, off, rfl, hbw, hcell⟩⟩ := HV.out
      · rw [hv] at hlt; simp at hlt
      injection he with e1 _ e3
      subst e1 e3
      obtain ⟨hc0, hc1, hc2⟩ := hcell i hlt
      have hcl0 := (HBX.out.cell (p := ⟨gb, off + i * 3, none⟩) hbw).trans hc0
      have hcl1 := (HBX.out.cell (p := ⟨gb, off + i * 3 + 1, none⟩) hbw).trans hc1
      have hcl2 := (HBX.out.cell (p := ⟨gb, off + i * 3 + 2, none⟩) hbw).trans hc2
      have hsl : (reqsB m).length = m.length := by unfold reqsB; rw [List.length_map]
      have hroom := take_room (num (m.length : Int)) (reqsB m) i (by omega) HPS.out HS.out
      have hsn := catB_snoc (reqsB m) i (by omega)
      have hgd : (reqsB m).getD i ⟨#[]⟩ = reqB (m.getD i (0, 0, ⟨#[]⟩)).1 (m.getD i (0, 0, ⟨#[]⟩)).2.1 (m.getD i (0, 0, ⟨#[]⟩)).2.2 := getD_map m _ i (0, 0, ⟨#[]⟩) hlt
      have hsm := HN.out.2.2 i hlt
      obtain ⟨r, hr⟩ : ∃ r, (m.getD i (0, 0, ⟨#[]⟩)) = r := ⟨_, rfl⟩
      rw [hr] at hcl0 hcl1 hcl2 hgd hsm
      obtain ⟨rc, rq, rs⟩ := r
      have HRS := Lib.hid (rrequest_any rc rq rs (by have : rs.size ≤ 500000 := hsm; omega) wr)
      obtain ⟨B, hB⟩ : ∃ B, num (m.length : Int) ++ catB ((reqsB m).take i) = B := ⟨_, rfl⟩
      rw [hgd] at hroom hsn
      rw [hB] at hroom ⊢
      have HSN := Lib.hid (show num (m.length : Int) ++ catB ((reqsB m).take (i + 1)) = B ++ reqB rc rq rs by rw [hsn, ← hB]; simp only [ByteArray.append_assoc])
      have HLT := Lib.hid hlt
      clear hr hB hsn hgd hsl hsm hlt hi hcell hbw hc0 hc1 hc2
      dsimp only at hcl0 hcl1 hcl2 hroom
      go_wp2_with fail
      refine HRS.out.mono ?_
      rintro e w4 ⟨rfl, hb4⟩
      have HB4 := Lib.hid (HBX.out.trans (hb4.mono HBX.out.size))
      clear hb4 HRS
      generalize reqB rc rq rs = s at *
      go_wp2_with fail
      go_roundw
      case rel => exact ⟨i + 1, by have := HLT.out; omega, by go_num, by rw [HSN.out], HB4.out⟩
      case measure => have := HLT.out; simp [intOf]; omega
    · obtain rfl : i = m.length := by omega
      have hlt' : ¬ (m.length : Int) < (m.length : Int) := by omega
      rw [List.take_of_length_le (l := reqsB m) (by unfold reqsB; rw [List.length_map]; exact Nat.le_refl _)]
      clear hlt hi
      go_wp2_with fail
      go_ret
      exact ⟨rfl, HBX.out⟩
set_option maxRecDepth 100000 in
set_option maxHeartbeats 4000000 in
theorem rcore_any (v p cv : Int) (k : ByteArray) (sv rv : Value) (l : List (Int × List ByteArray)) (m : List (Int × Int × ByteArray)) (w : World) (hv : SigsAt w sv l) (hr : ReqsAt w rv m) (hk : k.size ≤ 1000000) (hs : SmallS l) (hm : SmallR m) :
    Calls Tryz.prog 74 #[.agg #[.int .i64 v, .int .i64 p, .int .i64 cv, .string k, sv, rv]] w fun e w' => e = .returned (.string (coreB v p cv k m)) ∧ Below w.heap.size w w' := by
  have h1 : ¬ 9223372036854775807 < (num v).size + (num p).size := by rw [num_size, num_size]; omega
  have h2 : ¬ 9223372036854775807 < (num v).size + (num p).size + (num cv).size := by rw [num_size, num_size, num_size]; omega
  have h3 : ¬ 9223372036854775807 < (num v).size + (num p).size + (num cv).size + k.size := by rw [num_size, num_size, num_size]; omega
  have h4 : ¬ 9223372036854775807 < (num v).size + (num p).size + (num cv).size + k.size + (listB (reqsB m)).size := by rw [num_size, num_size, num_size, flat_size]; have := hm.2.1; omega
  have HV := Lib.hid hv
  have HR := Lib.hid hr
  have HS := Lib.hid hs
  have HM := Lib.hid hm
  have HKZ := Lib.hid hk
  obtain ⟨a0, cap, rfl, hx⟩ := hv
  obtain ⟨a1, cap1, rfl, hx1⟩ := hr
  clear hs hx hk hm hx1
  go_enter Tryz.func74, Tryz.ntmps74
  go_wp2_with fail
  have B0 := box_mk w [.int .i64 v, .int .i64 p, .int .i64 cv, .string k, .slice a0 l.length cap, .slice a1 m.length cap1] 36
  rw [show [Value.int .i64 v, .int .i64 p, .int .i64 cv, .string k, .slice a0 l.length cap, .slice a1 m.length cap1].toArray = #[.int .i64 v, .int .i64 p, .int .i64 cv, .string k, .slice a0 l.length cap, .slice a1 m.length cap1] from rfl] at B0
  obtain ⟨g, hg⟩ : ∃ g, w.heap.size = g := ⟨_, rfl⟩
  rw [hg] at B0 ⊢
  have HG := Lib.hid hg
  clear hg
  generalize w.alloc (.cells #[.int .i64 v, .int .i64 p, .int .i64 cv, .string k, .slice a0 l.length cap, .slice a1 m.length cap1] 36) = w0 at *
  have hst : w0.drew.cell? ⟨g, 0, none⟩ = some (.int .i64 v) ∧ w0.drew.cell? ⟨g, 1, none⟩ = some (.int .i64 p) ∧ w0.drew.cell? ⟨g, 2, none⟩ = some (.int .i64 cv) ∧ w0.drew.cell? ⟨g, 3, none⟩ = some (.string k) ∧ w0.drew.cell? ⟨g, 4, none⟩ = some (.slice a0 l.length cap) ∧ w0.drew.cell? ⟨g, 5, none⟩ = some (.slice a1 m.length cap1) ∧ BoxAt w g [.int .i64 v, .int .i64 p, .int .i64 cv, .string k, .slice a0 l.length cap, .slice a1 m.length cap1] w0.drew := by
    have := B0.on (Below.refl w0.heap.size w0).drew
    exact ⟨this.cell 0 _ rfl, this.cell 1 _ rfl, this.cell 2 _ rfl, this.cell 3 _ rfl, this.cell 4 _ rfl, this.cell 5 _ rfl, this⟩
  go_region_held3 (fun w' => w'.cell? ⟨g, 0, none⟩ = some (.int .i64 v) ∧ w'.cell? ⟨g, 1, none⟩ = some (.int .i64 p) ∧ w'.cell? ⟨g, 2, none⟩ = some (.int .i64 cv) ∧ w'.cell? ⟨g, 3, none⟩ = some (.string k) ∧ w'.cell? ⟨g, 4, none⟩ = some (.slice a0 l.length cap) ∧ w'.cell? ⟨g, 5, none⟩ = some (.slice a1 m.length cap1) ∧ BoxAt w g [.int .i64 v, .int .i64 p, .int .i64 cv, .string k, .slice a0 l.length cap, .slice a1 m.length cap1] w')
    (first | exact hk | exact hst)
    (first
      | (go_at_call 62; refine (rnumber_any _ _).mono ?_; rintro e w1 ⟨rfl, hb1⟩; have hk := box6_on (by first | exact hk | exact hst) hb1)
      | (go_at_call 124; refine (rreqs_any _ m _ (HR.out.later hk.2.2.2.2.2.2.below) HM.out).mono ?_; rintro e w1 ⟨rfl, hb1⟩; have hk := box6_on hk hb1))
  go_wp2_with fail
  go_ret
  exact ⟨rfl, hk.2.2.2.2.2.2.below⟩
set_option maxRecDepth 100000 in
set_option maxHeartbeats 4000000 in
theorem core_any (v p cv : Int) (k : ByteArray) (sv rv : Value) (l : List (Int × List ByteArray)) (m : List (Int × Int × ByteArray)) (w : World) (hv : SigsAt w sv l) (hr : ReqsAt w rv m) (hk : k.size ≤ 1000000) (hs : SmallS l) (hm : SmallR m) :
    Calls Tryz.prog 103 #[.agg #[.int .i64 v, .int .i64 p, .int .i64 cv, .string k, sv, rv]] w fun e w' => e = .returned (.string (coreB v p cv k m)) ∧ Below w.heap.size w w' := by
  have h1 : ¬ 9223372036854775807 < (num v).size + (num p).size := by rw [num_size, num_size]; omega
  have h2 : ¬ 9223372036854775807 < (num v).size + (num p).size + (num cv).size := by rw [num_size, num_size, num_size]; omega
  have h3 : ¬ 9223372036854775807 < (num v).size + (num p).size + (num cv).size + k.size := by rw [num_size, num_size, num_size]; omega
  have h4 : ¬ 9223372036854775807 < (num v).size + (num p).size + (num cv).size + k.size + (listB (reqsB m)).size := by rw [num_size, num_size, num_size, flat_size]; have := hm.2.1; omega
  have HV := Lib.hid hv
  have HR := Lib.hid hr
  have HS := Lib.hid hs
  have HM := Lib.hid hm
  have HKZ := Lib.hid hk
  obtain ⟨a0, cap, rfl, hx⟩ := hv
  obtain ⟨a1, cap1, rfl, hx1⟩ := hr
  clear hs hx hk hm hx1
  go_enter Tryz.func103, Tryz.ntmps103
  go_wp2_with fail
  have B0 := box_mk w [.int .i64 v, .int .i64 p, .int .i64 cv, .string k, .slice a0 l.length cap, .slice a1 m.length cap1] 36
  rw [show [Value.int .i64 v, .int .i64 p, .int .i64 cv, .string k, .slice a0 l.length cap, .slice a1 m.length cap1].toArray = #[.int .i64 v, .int .i64 p, .int .i64 cv, .string k, .slice a0 l.length cap, .slice a1 m.length cap1] from rfl] at B0
  obtain ⟨g, hg⟩ : ∃ g, w.heap.size = g := ⟨_, rfl⟩
  rw [hg] at B0 ⊢
  have HG := Lib.hid hg
  clear hg
  generalize w.alloc (.cells #[.int .i64 v, .int .i64 p, .int .i64 cv, .string k, .slice a0 l.length cap, .slice a1 m.length cap1] 36) = w0 at *
  have hst : w0.drew.cell? ⟨g, 0, none⟩ = some (.int .i64 v) ∧ w0.drew.cell? ⟨g, 1, none⟩ = some (.int .i64 p) ∧ w0.drew.cell? ⟨g, 2, none⟩ = some (.int .i64 cv) ∧ w0.drew.cell? ⟨g, 3, none⟩ = some (.string k) ∧ w0.drew.cell? ⟨g, 4, none⟩ = some (.slice a0 l.length cap) ∧ w0.drew.cell? ⟨g, 5, none⟩ = some (.slice a1 m.length cap1) ∧ BoxAt w g [.int .i64 v, .int .i64 p, .int .i64 cv, .string k, .slice a0 l.length cap, .slice a1 m.length cap1] w0.drew := by
    have := B0.on (Below.refl w0.heap.size w0).drew
    exact ⟨this.cell 0 _ rfl, this.cell 1 _ rfl, this.cell 2 _ rfl, this.cell 3 _ rfl, this.cell 4 _ rfl, this.cell 5 _ rfl, this⟩
  go_region_held3 (fun w' => w'.cell? ⟨g, 0, none⟩ = some (.int .i64 v) ∧ w'.cell? ⟨g, 1, none⟩ = some (.int .i64 p) ∧ w'.cell? ⟨g, 2, none⟩ = some (.int .i64 cv) ∧ w'.cell? ⟨g, 3, none⟩ = some (.string k) ∧ w'.cell? ⟨g, 4, none⟩ = some (.slice a0 l.length cap) ∧ w'.cell? ⟨g, 5, none⟩ = some (.slice a1 m.length cap1) ∧ BoxAt w g [.int .i64 v, .int .i64 p, .int .i64 cv, .string k, .slice a0 l.length cap, .slice a1 m.length cap1] w')
    (first | exact hk | exact hst)
    (first
      | (go_at_call 60; refine (number_any _ _).mono ?_; rintro e w1 ⟨rfl, hb1⟩; have hk := box6_on (by first | exact hk | exact hst) hb1)
      | (go_at_call 162; refine (listreq_any m _ _ (HR.out.later hk.2.2.2.2.2.2.below) HM.out.2.1 HM.out.1 HM.out.2.2).mono ?_; rintro e w1 ⟨rfl, hb1⟩; have hk := box6_on hk hb1))
  go_wp2_with fail
  go_ret
  exact ⟨rfl, hk.2.2.2.2.2.2.below⟩
end Go.Proofs.YthajnkcipifhcaaGreatDoor
end
