/-
  The walks of a block's digest (the code's, and the reference's), of its parent, and of the first block's digest.
-/
import Derived.Test.YthajnkcipifhcaaGreatDoorKLNum
import Derived.Test.YthajnkcipifhcaaGreatDoorKWFew
import Derived.Test.YthajnkcipifhcaaGreatDoorKWMsgLaw
import Derived.Test.YthajnkcipifhcaaGreatDoorKEText
import Derived.Test.YthajnkcipifhcaaGreatDoorKMSign
import Derived.Test.YthajnkcipifhcaaGreatDoorKWRef2
section
open Go Go.RowKit
namespace CC
open MM WW BB
structure GAt (w : World) (e : TypeId) (out : List Int) (u : Value) (wr : World) : Prop where
  below : Below w.heap.size w wr
  own : wr.ownsRow w.heap.size e 1 u out.length (out.map (Value.int .i64))
theorem GAt.on {w w1 w2 : World} {e : TypeId} {out : List Int} {u : Value} (h : GAt w e out u w1) (hb : Below w1.heap.size w1 w2) : GAt w e out u w2 :=
  ⟨h.below.trans (hb.mono h.below.size), row_keep h.own fun c hc => hb.block c (h.own.lt c hc).2⟩
end CC
namespace Go.Proofs.YthajnkcipifhcaaGreatDoor
open CC MM WW BB
theorem tabs_on {w w' : World} (h : Tabs w) (hb : Below w.heap.size w w') : Tabs w' := h.below hb (Nat.le_refl _)
end Go.Proofs.YthajnkcipifhcaaGreatDoor
end
section
open Go Go.RowKit
namespace CC
open MM WW BB
theorem sigs_nil (w : World) : SigsAt w (.slice none 0 0) [] := ⟨none, 0, rfl, Or.inl rfl⟩
end CC
namespace Go.Proofs.YthajnkcipifhcaaGreatDoor
open CC MM WW BB
end Go.Proofs.YthajnkcipifhcaaGreatDoor
end
section
open Go Go.RowKit
namespace JJ
open CC MM WW BB
/-- what a block's digest is of -/
def digB (v p cv : Int) (k : ByteArray) (m : List (Int × Int × ByteArray)) : ByteArray := ⟨#[66]⟩ ++ coreB v p cv k m
/-- a block's digest -/
def digD (v p cv : Int) (k : ByteArray) (m : List (Int × Int × ByteArray)) : ByteArray := dg (digB v p cv k m)
theorem digD_size (v p cv : Int) (k : ByteArray) (m : List (Int × Int × ByteArray)) : (digD v p cv k m).size = 32 := dsize _
theorem coreB_size (v p cv : Int) (k : ByteArray) (m : List (Int × Int × ByteArray)) : (coreB v p cv k m).size = 16 + k.size + (flat (reqsB m)).length := by
  simp only [coreB, ByteArray.size_append, num_size, flat_size]; omega
theorem digB_size (v p cv : Int) (k : ByteArray) (m : List (Int × Int × ByteArray)) : (digB v p cv k m).size = 17 + k.size + (flat (reqsB m)).length := by
  simp only [digB, ByteArray.size_append, coreB_size, show (⟨#[66]⟩ : ByteArray).size = 1 from rfl]; omega
end JJ
namespace Go.Proofs.YthajnkcipifhcaaGreatDoor
open JJ CC MM WW BB
set_option maxRecDepth 100000 in
set_option maxHeartbeats 2000000 in
theorem bdigest_any (v p cv : Int) (k : ByteArray) (sv rv : Value) (l : List (Int × List ByteArray)) (m : List (Int × Int × ByteArray)) (w : World) (hv : SigsAt w sv l) (hr : ReqsAt w rv m) (hk : k.size ≤ 1000) (hs : SmallS l) (hm : SmallR m) (hT : Tabs w) :
    Calls Tryz.prog 59 #[.agg #[.int .i64 v, .int .i64 p, .int .i64 cv, .string k, sv, rv]] w fun e w' => e = .returned (.string (digD v p cv k m)) ∧ Below w.heap.size w w' := by
  have h1 : ¬ 9223372036854775807 < (⟨#[66]⟩ : ByteArray).size + (coreB v p cv k m).size := by rw [coreB_size, show (⟨#[66]⟩ : ByteArray).size = 1 from rfl]; have := hm.2.1; omega
  have h2 : (digB v p cv k m).size < 1099511627776 := by rw [digB_size]; have := hm.2.1; omega
  have H2 := Lib.hid h2
  have HV := Lib.hid hv
  have HR := Lib.hid hr
  have HS := Lib.hid hs
  have HM := Lib.hid hm
  have HK := Lib.hid hk
  have HT := Lib.hid hT
  obtain ⟨a0, cap, rfl, _⟩ := hv
  obtain ⟨a1, cap1, rfl, _⟩ := hr
  clear hs hm hk hT h2
  have b1 := Lib.hid ((Below.refl w.heap.size w).alloc (Nat.le_refl _) (.cells #[.int .i64 v, .int .i64 p, .int .i64 cv, .string k, .slice a0 l.length cap, .slice a1 m.length cap1] 36))
  go_enter Tryz.func59, Tryz.ntmps59
  go_wp2_with fail
  refine (core_any v p cv k _ _ l m _ (HV.out.later b1.out) (HR.out.later b1.out) (by have := HK.out; omega) HS.out HM.out).mono ?_
  rintro e w2 ⟨rfl, hb2⟩
  have B2 := Lib.hid (b1.out.trans (hb2.mono b1.out.size))
  clear hb2 b1
  go_wp2_with fail
  refine (sum_any (digB v p cv k m) H2.out _ (tabs_on HT.out B2.out)).mono ?_
  rintro e w3 ⟨rfl, hb3⟩
  have B3 := Lib.hid (B2.out.trans (hb3.mono B2.out.size))
  go_wp2_with fail
  go_ret
  exact ⟨rfl, B3.out⟩
end Go.Proofs.YthajnkcipifhcaaGreatDoor
end
