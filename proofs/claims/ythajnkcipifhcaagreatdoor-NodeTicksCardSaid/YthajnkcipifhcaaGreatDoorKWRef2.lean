/-
  The walks of the reference's requests, Block and Core; of wire.Core.
-/
import Derived.Test.YthajnkcipifhcaaGreatDoorKRState
import Derived.Deep.RegionHeld3
import Derived.Deep.CutRange
section
open Go Go.RowKit
namespace WW
open BB
theorem app_nil (a : ByteArray) : a ++ catB [] = a := ba_ext (by rw [ByteArray.data_append, Array.toList_append]; simp [catB, flat])
end WW
namespace Go.Proofs.YthajnkcipifhcaaGreatDoor
open WW BB
end Go.Proofs.YthajnkcipifhcaaGreatDoor
end
section
open Go Go.RowKit
namespace WW
open BB
theorem box6_on {w w1 w2 : World} {g : Nat} {v0 v1 v2 v3 v4 v5 : Value} (h : w1.cell? ⟨g, 0, none⟩ = some v0 ∧ w1.cell? ⟨g, 1, none⟩ = some v1 ∧ w1.cell? ⟨g, 2, none⟩ = some v2 ∧ w1.cell? ⟨g, 3, none⟩ = some v3 ∧ w1.cell? ⟨g, 4, none⟩ = some v4 ∧ w1.cell? ⟨g, 5, none⟩ = some v5 ∧ BoxAt w g [v0, v1, v2, v3, v4, v5] w1) (hb : Below w1.heap.size w1 w2) :
    w2.cell? ⟨g, 0, none⟩ = some v0 ∧ w2.cell? ⟨g, 1, none⟩ = some v1 ∧ w2.cell? ⟨g, 2, none⟩ = some v2 ∧ w2.cell? ⟨g, 3, none⟩ = some v3 ∧ w2.cell? ⟨g, 4, none⟩ = some v4 ∧ w2.cell? ⟨g, 5, none⟩ = some v5 ∧ BoxAt w g [v0, v1, v2, v3, v4, v5] w2 :=
  have k := h.2.2.2.2.2.2.on hb
  ⟨k.cell 0 _ rfl, k.cell 1 _ rfl, k.cell 2 _ rfl, k.cell 3 _ rfl, k.cell 4 _ rfl, k.cell 5 _ rfl, k⟩
/-- a block's core -/
def coreB (v p cv : Int) (k : ByteArray) (m : List (Int × Int × ByteArray)) : ByteArray := num v ++ num p ++ num cv ++ k ++ listB (reqsB m)
end WW
namespace Go.Proofs.YthajnkcipifhcaaGreatDoor
open WW BB
set_option maxRecDepth 100000 in
set_option maxHeartbeats 4000000 in
theorem core_any (v p cv : Int) (k : ByteArray) (sv rv : Value) (l : List (Int × List ByteArray)) (m : List (Int × Int × ByteArray)) (w : World) (hv : SigsAt w sv l) (hr : ReqsAt w rv m) (hk : k.size ≤ 1000000) (hs : SmallS l) (hm : SmallR m) :
    Calls Tryz.prog 103 #[.agg #[.int .i64 v, .int .i64 p, .int .i64 cv, .string k, sv, rv]] w fun e w' => e = .returned (.string (coreB v p cv k m)) ∧ Below w.heap.size w w' := by
  have h1 : ¬ 9223372036854775807 < (num v).size + (num p).size := by rw [num_size, num_size]; omega
  have h2 : ¬ 9223372036854775807 < (num v).size + (num p).size + (num cv).size := by rw [num_size, num_size, num_size]; omega
  have h3 : ¬ 9223372036854775807 < (num v).size + (num p).size + (num cv).size + k.size := by rw [num_size, num_size, num_size]; omega
  have h4 : ¬ 9223372036854775807 < (num v).size + (num p).size + (num cv).size + k.size + (listB (reqsB m)).size := by rw [num_size, num_size, num_size, flat_size]; have := hm.2.1; omega
  have HV := Lib.hid hv
  have HR := Lib.hid hr
  have HS := Lib.hid hs
  have HM := Lib.hid hm
  have HKZ := Lib.hid hk
  obtain ⟨a0, cap, rfl, hx⟩ := hv
  obtain ⟨a1, cap1, rfl, hx1⟩ := hr
  clear hs hx hk hm hx1
  go_enter Tryz.func103, Tryz.ntmps103
  go_wp2_with fail
  have B0 := box_mk w [.int .i64 v, .int .i64 p, .int .i64 cv, .string k, .slice a0 l.length cap, .slice a1 m.length cap1] 36
  rw [show [Value.int .i64 v, .int .i64 p, .int .i64 cv, .string k, .slice a0 l.length cap, .slice a1 m.length cap1].toArray = #[.int .i64 v, .int .i64 p, .int .i64 cv, .string k, .slice a0 l.length cap, .slice a1 m.length cap1] from rfl] at B0
  obtain ⟨g, hg⟩ : ∃ g, w.heap.size = g := ⟨_, rfl⟩
  rw [hg] at B0 ⊢
  have HG := Lib.hid hg
  clear hg
  generalize w.alloc (.cells #[.int .i64 v, .int .i64 p, .int .i64 cv, .string k, .slice a0 l.length cap, .slice a1 m.length cap1] 36) = w0 at *
  have hst : w0.drew.cell? ⟨g, 0, none⟩ = some (.int .i64 v) ∧ w0.drew.cell? ⟨g, 1, none⟩ = some (.int .i64 p) ∧ w0.drew.cell? ⟨g, 2, none⟩ = some (.int .i64 cv) ∧ w0.drew.cell? ⟨g, 3, none⟩ = some (.string k) ∧ w0.drew.cell? ⟨g, 4, none⟩ = some (.slice a0 l.length cap) ∧ w0.drew.cell? ⟨g, 5, none⟩ = some (.slice a1 m.length cap1) ∧ BoxAt w g [.int .i64 v, .int .i64 p, .int .i64 cv, .string k, .slice a0 l.length cap, .slice a1 m.length cap1] w0.drew := by
    have := B0.on (Below.refl w0.heap.size w0).drew
    exact ⟨this.cell 0 _ rfl, this.cell 1 _ rfl, this.cell 2 _ rfl, this.cell 3 _ rfl, this.cell 4 _ rfl, this.cell 5 _ rfl, this⟩
  go_region_held3 (fun w' => w'.cell? ⟨g, 0, none⟩ = some (.int .i64 v) ∧ w'.cell? ⟨g, 1, none⟩ = some (.int .i64 p) ∧ w'.cell? ⟨g, 2, none⟩ = some (.int .i64 cv) ∧ w'.cell? ⟨g, 3, none⟩ = some (.string k) ∧ w'.cell? ⟨g, 4, none⟩ = some (.slice a0 l.length cap) ∧ w'.cell? ⟨g, 5, none⟩ = some (.slice a1 m.length cap1) ∧ BoxAt w g [.int .i64 v, .int .i64 p, .int .i64 cv, .string k, .slice a0 l.length cap, .slice a1 m.length cap1] w')
    (first | exact hk | exact hst)
    (first
      | (go_at_call 60; refine (number_any _ _).mono ?_; rintro e w1 ⟨rfl, hb1⟩; have hk := box6_on (by first | exact hk | exact hst) hb1)
      | (go_at_call 162; refine (listreq_any m _ _ (HR.out.later hk.2.2.2.2.2.2.below) HM.out.2.1 HM.out.1 HM.out.2.2).mono ?_; rintro e w1 ⟨rfl, hb1⟩; have hk := box6_on hk hb1))
  go_wp2_with fail
  go_ret
  exact ⟨rfl, hk.2.2.2.2.2.2.below⟩
end Go.Proofs.YthajnkcipifhcaaGreatDoor
end
