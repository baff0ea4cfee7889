/-
  The walk of what the laws of blocks ask first.
-/
import Derived.Test.YtacbamfhlgchgaaDoorKJCopy
import Derived.Test.YtacbamfhlgchgaaDoorKJUnlike
import Derived.Test.YtacbamfhlgchgaaDoorKESig
import Derived.Test.YtacbamfhlgchgaaDoorKWLawB
import Derived.Test.YtacbamfhlgchgaaDoorKERight
import Derived.Test.YtacbamfhlgchgaaDoorKPlanE
import Derived.Test.YtacbamfhlgchgaaDoorKJFirst
section
open Go Go.RowKit
namespace JJ
open CC BB WW MM
/-- what Make answers -/
def MadeB (w : World) (v p cv : Int) (k : ByteArray) (l : List (Int × List ByteArray)) (m : List Rq) (e : Ending) (w' : World) : Prop :=
  ∃ a0 c0 a1 c1, e = .returned (.agg #[.int .i64 v, .int .i64 p, .int .i64 cv, .string k, .slice a0 l.length c0, .slice a1 m.length c1]) ∧ SigsAt w' (.slice a0 l.length c0) l ∧ ReqsAt w' (.slice a1 m.length c1) m ∧ Below w.heap.size w w'
theorem reqs_shape {w : World} {v : Value} {m : List Rq} (h : ReqsAt w v m) : ∃ a c, v = .slice a m.length c := by
  obtain ⟨a, c, rfl, _⟩ := h; exact ⟨a, c, rfl⟩
theorem reqs_upd {w w' : World} {b : Nat} {v : Value} {l : List Rq} (h : ReqsAt w v l) (hn : ∀ c, v.ownBlock = some c → c ≠ b) (hu : Upd b w w') : ReqsAt w' v l := by
  obtain ⟨a0, cap, rfl, h | ⟨g, off, rfl, hl, hc⟩⟩ := h
  · exact ⟨a0, cap, rfl, Or.inl h⟩
  · refine ⟨_, cap, rfl, Or.inr ⟨g, off, rfl, by rw [hu.size]; exact hl, fun i hi => ?_⟩⟩
    obtain ⟨h1, h2, h3⟩ := hc i hi
    have e := hu.block g (hn g rfl)
    exact ⟨(World.cell?_of_block (w := w) (a := ⟨g, off + i * 3, none⟩) e).trans h1, (World.cell?_of_block (w := w) (a := ⟨g, off + i * 3 + 1, none⟩) e).trans h2, (World.cell?_of_block (w := w) (a := ⟨g, off + i * 3 + 2, none⟩) e).trans h3⟩
end JJ
namespace Go.Proofs.YtacbamfhlgchgaaDoor
open JJ CC WW BB MM
set_option maxRecDepth 100000 in
set_option maxHeartbeats 8000000 in
theorem make6_any (v n cv : Int) (k : ByteArray) (sv rv : Value) (l : List (Int × List ByteArray)) (m : List Rq) (w : World) (hv : SigsAt w sv l) (hr : ReqsAt w rv m) (hl : l.length ≤ 1000) (ht : ∀ p ∈ l, p.2.length ≤ 1000) (hm : m.length ≤ 1000) (h64 : ∀ r ∈ m, In64 (keyR r)) :
    Calls Tryd.prog 6 #[.int .i64 v, .int .i64 n, .agg #[.int .i64 cv, .string k, sv], rv] w (MadeB w v (leaderI v n) cv k l (onceN 3 m)) := by
  have HV := Lib.hid hv
  have HR := Lib.hid hr
  have HL := Lib.hid hl
  have HT := Lib.hid ht
  have HM := Lib.hid hm
  have H64 := Lib.hid h64
  obtain ⟨a0, cap, rfl, _⟩ := hv
  obtain ⟨a1, cap1, rfl, _⟩ := hr
  clear hl ht hm h64
  obtain ⟨g, hg⟩ : ∃ g, w.heap.size = g := ⟨_, rfl⟩
  have k0 : Blk ((w.alloc (.cells #[.int .i64 cv, .string k, .slice a0 l.length cap] 24)).alloc (.cells #[.int .i64 0, .int .i64 0, .int .i64 0, .string ⟨#[]⟩, .slice none 0 0, .slice none 0 0] 29)) g 3 (cC (.int .i64 cv) k (.slice a0 l.length cap)) := (Blk.new' hg.symm (cC_row _ _ _)).alloc _
  have r0 : Blk ((w.alloc (.cells #[.int .i64 cv, .string k, .slice a0 l.length cap] 24)).alloc (.cells #[.int .i64 0, .int .i64 0, .int .i64 0, .string ⟨#[]⟩, .slice none 0 0, .slice none 0 0] 29)) (g + 1) 6 zB := Blk.new' (by simp; omega) zB_row
  have b0 := ((Below.refl w.heap.size w).alloc (Nat.le_refl _) (.cells #[.int .i64 cv, .string k, .slice a0 l.length cap] 24)).alloc (by simp) (.cells #[.int .i64 0, .int .i64 0, .int .i64 0, .string ⟨#[]⟩, .slice none 0 0, .slice none 0 0] 29)
  go_enter Tryd.func6, Tryd.ntmps6
  go_wp2_with fail
  rw [hg] at b0
  have HG := Lib.hid hg
  clear hg
  generalize (w.alloc (.cells #[.int .i64 cv, .string k, .slice a0 l.length cap] 24)).alloc (.cells #[.int .i64 0, .int .i64 0, .int .i64 0, .string ⟨#[]⟩, .slice none 0 0, .slice none 0 0] 29) = w0 at *
  have K0 := Lib.hid k0
  have R0 := Lib.hid r0
  have B0 := Lib.hid b0
  have c0 : w0.cell? ⟨g, 0, none⟩ = some (.int .i64 cv) := k0.get 0 (by omega)
  have c1 : w0.cell? ⟨g, 1, none⟩ = some (.string k) := k0.get 1 (by omega)
  have c2 : w0.cell? ⟨g, 2, none⟩ = some (.slice a0 l.length cap) := k0.get 2 (by omega)
  clear k0 b0 r0
  refine chain_abs (fun wx => wx.cell? ⟨g, 0, none⟩ = some (.int .i64 cv) ∧ wx.cell? ⟨g, 1, none⟩ = some (.string k) ∧ wx.cell? ⟨g, 2, none⟩ = some (.slice a0 l.length cap) ∧ Below w0.heap.size w0 wx) [0, 1, 2, 6] [4] [3] 5 [7, 8, 9] (by kernel_rfl) (by kernel_rfl) (fun _ _ d _ _ h => by cases d <;> exact h) fun w2 hs2 => ⟨⟨(hs2.cell _).trans c0, (hs2.cell _).trans c1, (hs2.cell _).trans c2, hs2.below _⟩, ?_⟩
  simp only [pick, List.filterMap, List.getElem?_toArray, List.getElem?_cons_zero, List.getElem?_cons_succ]
  iterate 4 (refine free_run ?_ rfl ?_ ?_; rotate_left; (focus (intro w'; go_simp; exact rfl)); simp only [Act.put, List.setIfInBounds_toArray, List.set_cons_zero, List.set_cons_succ])
  iterate 1 (refine held_run ?_ rfl ?_ ?_; rotate_left; (focus (intro w' hS; obtain ⟨hS1, hS2, hS3, _⟩ := hS; go_simp; exact rfl)); simp only [Act.put, List.setIfInBounds_toArray, List.set_cons_zero, List.set_cons_succ])
  have B2 := Lib.hid (hs2.below w0.heap.size)
  obtain ⟨c0, c1, c2⟩ : w2.cell? ⟨g, 0, none⟩ = some (.int .i64 cv) ∧ w2.cell? ⟨g, 1, none⟩ = some (.string k) ∧ w2.cell? ⟨g, 2, none⟩ = some (.slice a0 l.length cap) := ⟨(hs2.cell _).trans c0, (hs2.cell _).trans c1, (hs2.cell _).trans c2⟩
  clear hs2
  refine ch_call _ rfl rfl (by go_simp) (cleader_any v n w2) (fun w' hR => by subst hR; exact ⟨c0, c1, c2, B2.out⟩) fun w3 hR => ?_
  subst hR
  simp only [Act.put, List.setIfInBounds_toArray, wpCh]
  clear c0 c1 c2
  go_wp2_with fail
  refine (copied_any cv k _ l w2 (HV.out.later ((HG.out.symm ▸ B0.out).trans (B2.out.mono (by have := B0.out.size; have := HG.out; omega)))) HL.out HT.out).mono ?_
  rintro e w4 ⟨d0, dcap, rfl, hs4, hb4⟩
  have HS4 := Lib.hid hs4
  have B4 := Lib.hid (B2.out.trans (hb4.mono B2.out.size))
  clear hs4 hb4
  go_wp2_with fail
  refine (unlike_any m _ 3 w4 (HR.out.later ((HG.out.symm ▸ B0.out).trans (B4.out.mono (by have := B0.out.size; have := HG.out; omega)))) HM.out (by omega) H64.out).mono ?_
  rintro e w5 ⟨u, rfl, hr5, hn5, hb5⟩
  obtain ⟨e0, ecap, rfl⟩ := reqs_shape hr5
  have HS5 := Lib.hid (HS4.out.later hb5)
  have HR5 := Lib.hid hr5
  have HN5 := Lib.hid hn5
  have B5 := Lib.hid (B4.out.trans (hb5.mono B4.out.size))
  have RR := Lib.hid (R0.out.below B5.out R0.out.lt)
  have Z4 := Lib.hid (Nat.le_trans R0.out.lt B4.out.size)
  clear hr5 hn5 hb5
  have c0 : w5.cell? ⟨g + 1, 0, none⟩ = some (.int .i64 0) := RR.out.get 0 (by omega)
  have g0 := RR.out.frz 0
  have c1 : w5.cell? ⟨g + 1, 1, none⟩ = some (.int .i64 0) := RR.out.get 1 (by omega)
  have g1 := RR.out.frz 1
  have c2 : w5.cell? ⟨g + 1, 2, none⟩ = some (.int .i64 0) := RR.out.get 2 (by omega)
  have g2 := RR.out.frz 2
  have c3 : w5.cell? ⟨g + 1, 3, none⟩ = some (.string ⟨#[]⟩) := RR.out.get 3 (by omega)
  have g3 := RR.out.frz 3
  have c4 : w5.cell? ⟨g + 1, 4, none⟩ = some (.slice none 0 0) := RR.out.get 4 (by omega)
  have g4 := RR.out.frz 4
  have c5 : w5.cell? ⟨g + 1, 5, none⟩ = some (.slice none 0 0) := RR.out.get 5 (by omega)
  have g5 := RR.out.frz 5
  go_wp2_with fail
  obtain ⟨⟨q0, q1, q2, q3, q4, q5⟩, qu⟩ := setB RR.out (.int .i64 v) (.int .i64 (leaderI v n)) (.int .i64 cv) (.string k) (.slice d0 l.length dcap) (.slice e0 (onceN 3 m).length ecap)
  refine bodyPost_ret (v := .agg #[.int .i64 v, .int .i64 (leaderI v n), .int .i64 cv, .string k, .slice d0 l.length dcap, .slice e0 (onceN 3 m).length ecap]) (by simp [results, Tryd.results6, go_sem, q0, q1, q2, q3, q4, q5]) rfl ?_
  refine ⟨d0, dcap, e0, ecap, rfl, ?_, ?_, ?_⟩
  · exact (HS5.out.keep (by rw [qu.size]; exact Nat.le_refl _) fun c hc _ => qu.block c (by have := Nat.le_trans R0.out.lt B2.out.size; omega)).sigs
  · exact reqs_upd HR5.out (fun c hc => by have := HN5.out c hc; have := Z4.out; omega) qu
  · exact HG.out ▸ ((B0.out.trans (B5.out.mono (by have := B0.out.size; have := HG.out; omega))).trans (qu.below (Nat.le_succ _)))
end Go.Proofs.YtacbamfhlgchgaaDoor
end
section
open Go Go.RowKit
namespace JJ
open CC BB WW MM
theorem right_64 {v p cv : Int} {k : ByteArray} {l : List (Int × List ByteArray)} {m : List Rq} (h : rightBlock v p cv k l m = true) : ∀ r ∈ m, In64 (keyR r) := by
  unfold rightBlock at h
  simp only [Bool.and_eq_true, decide_eq_true_eq, List.all_eq_true] at h
  intro r hr
  have := h.2 r hr
  unfold rightR at this
  unfold In64 keyR
  constructor
  · constructor <;> (show _ ≤ _; omega)
  · constructor <;> (show _ ≤ _; omega)
theorem sigsB_le {l : List (Int × List ByteArray)} (h : SmallS l) : (flat (sigsB l)).length ≤ 500000 := h.2.1
theorem certB_small {v : Int} {k : ByteArray} {l : List (Int × List ByteArray)} (hk : k.size ≤ 1000) (h : SmallS l) : (certB v k l).size ≤ 1000000 := by
  rw [certB_size]; have := h.2.1; omega
/-- a block of a size that is read -/
def SmallB (k : ByteArray) (l : List (Int × List ByteArray)) (m : List Rq) : Prop := k.size ≤ 1000 ∧ SmallS l ∧ SmallR m ∧ (flat (sigsB l)).length + (flat (reqsB m)).length ≤ 900000
theorem SmallB.block {v p cv : Int} {k : ByteArray} {l : List (Int × List ByteArray)} {m : List Rq} (h : SmallB k l m) : (blockB v p cv k l m).size ≤ 1000000 := by
  obtain ⟨h1, _, _, h2⟩ := h
  unfold blockB
  simp only [ByteArray.size_append, num_size, certB_size, flat_size]
  omega
theorem right_smallB6 {v p cv : Int} {k : ByteArray} {l : List (Int × List ByteArray)} {m : List Rq} (h : rightBlock v p cv k l m = true) : SmallB k l m := by
  obtain ⟨h1, h2, h3, _, h5⟩ := right_smallB h
  refine ⟨by omega, h1, h2, ?_⟩
  unfold rightBlock at h
  simp only [Bool.and_eq_true, decide_eq_true_eq, List.all_eq_true] at h
  have := flat_le 72 (reqsB m) (fun x hx => by
    unfold reqsB at hx
    obtain ⟨p, hp, rfl⟩ := List.mem_map.1 hx
    have h4 := (h.2 p hp).2.2.2.2
    rw [reqB_size]; omega)
  have e : (reqsB m).length = m.length := by unfold reqsB; rw [List.length_map]
  have := h1.2.1
  omega
/-- the six cells of a block's box, and what was as it was -/
def Six (base g : Nat) (v0 v1 v2 v3 v4 v5 : Value) (w w' : World) : Prop :=
  w'.cell? ⟨g, 0, none⟩ = some v0 ∧ w'.cell? ⟨g, 1, none⟩ = some v1 ∧ w'.cell? ⟨g, 2, none⟩ = some v2 ∧ w'.cell? ⟨g, 3, none⟩ = some v3 ∧ w'.cell? ⟨g, 4, none⟩ = some v4 ∧ w'.cell? ⟨g, 5, none⟩ = some v5 ∧ Below base w w' ∧ base ≤ w'.heap.size
theorem Six.on {base g : Nat} {v0 v1 v2 v3 v4 v5 : Value} {w w1 w2 : World} (h : Six base g v0 v1 v2 v3 v4 v5 w w1) (hb : Below w1.heap.size w1 w2) : Six base g v0 v1 v2 v3 v4 v5 w w2 := keep6 h hb
theorem Six.below {base g : Nat} {v0 v1 v2 v3 v4 v5 : Value} {w w1 : World} (h : Six base g v0 v1 v2 v3 v4 v5 w w1) : Below base w w1 := h.2.2.2.2.2.2.1
theorem Six.same {base g : Nat} {v0 v1 v2 v3 v4 v5 : Value} {w w1 w2 : World} (h : Six base g v0 v1 v2 v3 v4 v5 w w1) (hs : Same w1 w2) : Six base g v0 v1 v2 v3 v4 v5 w w2 := h.on (hs.below _)
theorem Six.mk {w : World} (v0 v1 v2 v3 v4 v5 : Value) (t : TypeId) : Six w.heap.size w.heap.size v0 v1 v2 v3 v4 v5 w (w.alloc (.cells #[v0, v1, v2, v3, v4, v5] t)) := by
  have k := box_mk w [v0, v1, v2, v3, v4, v5] t
  exact ⟨k.cell 0 _ rfl, k.cell 1 _ rfl, k.cell 2 _ rfl, k.cell 3 _ rfl, k.cell 4 _ rfl, k.cell 5 _ rfl, k.below, k.below.size⟩
end JJ
namespace Go.Proofs.YtacbamfhlgchgaaDoor
open JJ CC WW BB MM
set_option maxRecDepth 100000 in
set_option maxHeartbeats 8000000 in
/-- one that isn't right -/
theorem well_bad (s : ByteArray) (d n v p cv : Int) (k : ByteArray) (sv rv : Value) (l : List (Int × List ByteArray)) (m : List Rq) (w : World) (hv : SigsAt w sv l) (hr : ReqsAt w rv m) (hs : SmallB k l m) (hbad : rightBlock v p cv k l m = false) :
    Calls Tryd.prog 10 #[.string s, .int .i64 d, .int .i64 n, .agg #[.int .i64 v, .int .i64 p, .int .i64 cv, .string k, sv, rv]] w fun e w' => e = .returned (.int .i64 2) ∧ Below w.heap.size w w' := by
  have HV := Lib.hid hv
  have HR := Lib.hid hr
  have HS := Lib.hid hs
  obtain ⟨a0, cap, rfl, _⟩ := hv
  obtain ⟨a1, cap1, rfl, _⟩ := hr
  have HB := Lib.hid (fun wx (hb : Below w.heap.size w wx) => hbad ▸ bright_any v p cv k _ _ l m wx (HV.out.later hb) (HR.out.later hb) hs.1 hs.2.1 hs.2.2.1 hs.block)
  clear hs
  have S0 := Lib.hid (Six.mk (w := w) (.int .i64 v) (.int .i64 p) (.int .i64 cv) (.string k) (.slice a0 l.length cap) (.slice a1 m.length cap1) 29)
  go_enter Tryd.func10, Tryd.ntmps10
  go_wp2_with fail
  generalize w.alloc (.cells #[.int .i64 v, .int .i64 p, .int .i64 cv, .string k, .slice a0 l.length cap, .slice a1 m.length cap1] 29) = w0 at *
  obtain ⟨g, hg⟩ : ∃ g, w.heap.size = g := ⟨_, rfl⟩
  have HG := Lib.hid hg
  rw [hg] at S0 HB ⊢
  clear hg
  refine plan_abs (Six g g (.int .i64 v) (.int .i64 p) (.int .i64 cv) (.string k) (.slice a0 l.length cap) (.slice a1 m.length cap1) w) [(true, 0), (false, 1), (true, 2), (true, 3), (true, 4), (true, 5), (true, 6), (true, 7), (true, 8), (true, 9), (true, 10), (true, 11), (true, 12), (true, 13), (true, 14), (true, 15)] (by kernel_rfl) (by kernel_rfl) (fun _ _ d _ _ h => by cases d <;> exact h) fun w2 hs2 => ⟨S0.out.same hs2, ?_⟩
  have S2 := Lib.hid (S0.out.same hs2)
  clear hs2
  refine pl_run _ ?_ rfl rfl ?_ ?_; rotate_left
  · intro w' hS; obtain ⟨q0, q1, q2, q3, q4, q5, _⟩ := hS; go_simp; exact rfl
  simp only [Act.put, List.setIfInBounds_toArray, List.set_cons_zero, List.set_cons_succ, List.getElem_toArray, List.getElem_cons_zero]
  refine pl_call1 _ rfl rfl (by go_simp) (HB.out w2 S2.out.below) (fun w' hb => S2.out.on hb) fun w3 hb3 => ?_
  have S3 := Lib.hid (S2.out.on hb3)
  clear hb3
  simp only [Act.put, List.setIfInBounds_toArray, List.set_cons_zero, List.set_cons_succ, List.getElem_toArray, List.getElem_cons_zero, List.getElem_cons_succ]
  iterate 2 (refine pl_run _ ?_ rfl rfl ?_ ?_; rotate_left; (focus (intro w' hS; go_simp; exact rfl)); simp only [Act.put, List.setIfInBounds_toArray, List.set_cons_zero, List.set_cons_succ, List.getElem_toArray, List.getElem_cons_zero, List.getElem_cons_succ])
  iterate 11 (refine pl_off _ rfl rfl ?_; simp only [Act.put, List.setIfInBounds_toArray, List.set_cons_zero, List.set_cons_succ, List.getElem_toArray, List.getElem_cons_zero, List.getElem_cons_succ])
  refine pl_run _ ?_ rfl rfl ?_ ?_; rotate_left
  · intro w' hS; go_simp; exact rfl
  simp only [Act.put, List.setIfInBounds_toArray, List.set_cons_zero, List.set_cons_succ, List.getElem_toArray, List.getElem_cons_zero, List.getElem_cons_succ]
  refine pl_end ?_
  go_wp2_with fail
  go_ret
  exact ⟨rfl, by rw [HG.out]; exact S3.out.below⟩
set_option maxRecDepth 100000 in
set_option maxHeartbeats 8000000 in
/-- one that is well -/
theorem well_ok (s : ByteArray) (d n v p cv : Int) (k : ByteArray) (sv rv : Value) (l : List (Int × List ByteArray)) (m : List Rq) (w : World) (hv : SigsAt w sv l) (hr : ReqsAt w rv m) (hz : s.size ≤ 1000) (hs : SmallB k l m) (h1 : rightBlock v p cv k l m = true) (h2 : twiceR m = false) (hn : 1 ≤ n ∧ n ≤ 7) (hd : 0 ≤ d ∧ d < n) (hp : p = leaderI v n) (hh : certHolds s d n cv k l = true) (hT : Tabs w) :
    Calls Tryd.prog 10 #[.string s, .int .i64 d, .int .i64 n, .agg #[.int .i64 v, .int .i64 p, .int .i64 cv, .string k, sv, rv]] w fun e w' => e = .returned (.int .i64 0) ∧ Below w.heap.size w w' := by
  have HV := Lib.hid hv
  have HR := Lib.hid hr
  have HS := Lib.hid hs
  obtain ⟨a0, cap, rfl, _⟩ := hv
  obtain ⟨a1, cap1, rfl, _⟩ := hr
  have HB := Lib.hid (fun wx (hb : Below w.heap.size w wx) => h1 ▸ bright_any v p cv k _ _ l m wx (HV.out.later hb) (HR.out.later hb) hs.1 hs.2.1 hs.2.2.1 hs.block)
  have HU := Lib.hid (fun wx (hb : Below w.heap.size w wx) => unlike_any m _ m.length wx (HR.out.later hb) hs.2.2.1.1 hs.2.2.1.1 (right_64 h1))
  have HC := Lib.hid (fun wx (hb : Below w.heap.size w wx) => chold_is true s d n cv k _ l hh wx (HV.out.later hb) (by omega) hz hs.1 hs.2.1 (certB_small hs.1 hs.2.1) (tabs_on hT hb))
  have HNB := Lib.hid (show nodesB n = true by simp [nodesB, hn.1, hn.2])
  have HLN := Lib.hid (show (onceN m.length m).length = m.length by
    have e := onceN_whole m
    rw [h2, decide_eq_false_iff_not] at e
    have := onceN_sub m.length m
    omega)
  have t1 : ¬ d < 0 := by omega
  have t2 : ¬ d ≥ n := by omega
  have t3 : (p != leaderI v n) = false := by rw [hp]; simp
  clear hs h1 h2 hn hd hp hh hT hz
  have S0 := Lib.hid (Six.mk (w := w) (.int .i64 v) (.int .i64 p) (.int .i64 cv) (.string k) (.slice a0 l.length cap) (.slice a1 m.length cap1) 29)
  go_enter Tryd.func10, Tryd.ntmps10
  go_wp2_with fail
  generalize w.alloc (.cells #[.int .i64 v, .int .i64 p, .int .i64 cv, .string k, .slice a0 l.length cap, .slice a1 m.length cap1] 29) = w0 at *
  obtain ⟨g, hg⟩ : ∃ g, w.heap.size = g := ⟨_, rfl⟩
  have HG := Lib.hid hg
  rw [hg] at S0 HB HU HC ⊢
  clear hg
  refine plan_abs (Six g g (.int .i64 v) (.int .i64 p) (.int .i64 cv) (.string k) (.slice a0 l.length cap) (.slice a1 m.length cap1) w) [(true, 0), (false, 1), (true, 2), (true, 3), (true, 4), (true, 5), (true, 6), (true, 7), (true, 8), (true, 11), (true, 12), (true, 13), (false, 9), (true, 10), (true, 14), (true, 15)] (by kernel_rfl) (by kernel_rfl) (fun _ _ d _ _ h => by cases d <;> exact h) fun w2 hs2 => ⟨S0.out.same hs2, ?_⟩
  have S2 := Lib.hid (S0.out.same hs2)
  clear hs2
  (refine pl_run _ ?_ rfl rfl ?_ ?_; rotate_left; (focus (intro w' hS; obtain ⟨q0, q1, q2, q3, q4, q5, _⟩ := hS; go_simp; exact rfl)); simp only [Act.put, List.setIfInBounds_toArray, List.set_cons_zero, List.set_cons_succ, List.getElem_toArray, List.getElem_cons_zero])
  refine pl_call1 _ rfl rfl (by go_simp) (HB.out w2 S2.out.below) (fun w' hb => S2.out.on hb) fun w3 hb3 => ?_
  have S3 := Lib.hid (S2.out.on hb3)
  clear hb3
  simp only [Act.put, List.setIfInBounds_toArray, List.set_cons_zero, List.set_cons_succ, List.getElem_toArray, List.getElem_cons_zero, List.getElem_cons_succ]
  iterate 10 (refine pl_run _ ?_ rfl rfl ?_ ?_; rotate_left; (focus (intro w' hS; obtain ⟨q0, q1, q2, q3, q4, q5, _⟩ := hS; go_simp; exact rfl)); simp only [Act.put, List.setIfInBounds_toArray, List.set_cons_zero, List.set_cons_succ, List.getElem_toArray, List.getElem_cons_zero, List.getElem_cons_succ])
  refine pl_call _ rfl rfl (by go_simp) ((HU.out w3 S3.out.below).mono fun e w' h => ?_) (R := fun u w' => ReqsAt w' u (onceN m.length m) ∧ Below w3.heap.size w3 w') (fun u w' h => S3.out.on h.2) fun u w4 h4 => ?_
  · obtain ⟨u, he, hu, _, hb⟩ := h
    exact ⟨u, he, hu, hb⟩
  obtain ⟨u0, ucap, rfl⟩ := reqs_shape h4.1
  have S4 := Lib.hid (S3.out.on h4.2)
  clear h4
  rw [HLN.out]
  have t4 : ¬ (m.length : Int) < (m.length : Int) := by omega
  simp only [Act.put, List.setIfInBounds_toArray, List.set_cons_zero, List.set_cons_succ, List.getElem_toArray, List.getElem_cons_zero, List.getElem_cons_succ]
  iterate 3 (refine pl_run _ ?_ rfl rfl ?_ ?_; rotate_left; (focus (intro w' hS; obtain ⟨q0, q1, q2, q3, q4, q5, _⟩ := hS; go_simp; exact rfl)); simp only [Act.put, List.setIfInBounds_toArray, List.set_cons_zero, List.set_cons_succ, List.getElem_toArray, List.getElem_cons_zero, List.getElem_cons_succ])
  refine pl_end ?_
  go_wp2_with fail
  refine (nodes_any n w4).mono ?_
  rintro e w5 ⟨rfl, rfl⟩
  rw [HNB.out]
  go_wp2_with fail
  refine plan_abs (Six g g (.int .i64 v) (.int .i64 p) (.int .i64 cv) (.string k) (.slice a0 l.length cap) (.slice a1 m.length cap1) w) [(true, 0), (true, 1), (true, 2), (true, 3), (true, 4), (false, 5), (true, 6)] (by kernel_rfl) (by kernel_rfl) (fun _ _ d _ _ h => by cases d <;> exact h) fun w6 hs6 => ⟨S4.out.same hs6, ?_⟩
  have S6 := Lib.hid (S4.out.same hs6)
  clear hs6
  iterate 5 (refine pl_run _ ?_ rfl rfl ?_ ?_; rotate_left; (focus (intro w' hS; obtain ⟨q0, q1, q2, q3, q4, q5, _⟩ := hS; go_simp; exact rfl)); simp only [Act.put, List.setIfInBounds_toArray, List.set_cons_zero, List.set_cons_succ, List.getElem_toArray, List.getElem_cons_zero, List.getElem_cons_succ])
  refine pl_call1 _ rfl rfl (by go_simp) (cleader_any v n w6) (fun w' hb => by subst hb; exact S6.out) fun w7 hb7 => ?_
  subst hb7
  simp only [Act.put, List.setIfInBounds_toArray, List.set_cons_zero, List.set_cons_succ, List.getElem_toArray, List.getElem_cons_zero, List.getElem_cons_succ]
  iterate 1 (refine pl_run _ ?_ rfl rfl ?_ ?_; rotate_left; (focus (intro w' hS; obtain ⟨q0, q1, q2, q3, q4, q5, _⟩ := hS; go_simp; exact rfl)); simp only [Act.put, List.setIfInBounds_toArray, List.set_cons_zero, List.set_cons_succ, List.getElem_toArray, List.getElem_cons_zero, List.getElem_cons_succ])
  refine pl_end ?_
  have q := S6.out
  obtain ⟨q0, q1, q2, q3, q4, q5, _⟩ := q
  go_wp2_with fail
  refine (HC.out w6 S6.out.below).mono ?_
  rintro e w8 ⟨rfl, hb8⟩
  have S8 := Lib.hid (S6.out.on hb8)
  clear hb8 q0 q1 q2 q3 q4 q5
  go_wp2_with fail
  go_ret
  exact ⟨rfl, by rw [HG.out]; exact S8.out.below⟩
end Go.Proofs.YtacbamfhlgchgaaDoor
end
section
open Go Go.RowKit
namespace JJ
open CC BB WW MM
theorem small_none : SmallB ⟨#[]⟩ [] [] := by
  refine ⟨by decide, ⟨by simp, by simp [sigsB, flat], by simp⟩, ⟨by simp, by simp [reqsB, flat], by simp⟩, by simp [sigsB, reqsB, flat]⟩
theorem reqs_nil (w : World) : ReqsAt w (.slice none 0 0) [] := ⟨none, 0, rfl, Or.inl rfl⟩
end JJ
namespace Go.Proofs.YtacbamfhlgchgaaDoor
open JJ CC WW BB MM
set_option maxRecDepth 100000 in
set_option maxHeartbeats 2000000 in
theorem awake6_any (w : World) (hT : Tabs w) : Calls Tryd.prog 4 #[] w fun e w' => e = .returned (.bool true) ∧ Below w.heap.size w w' := by
  have HT := Lib.hid hT
  clear hT
  go_enter Tryd.func4, Tryd.ntmps4
  go_wp2_with fail
  refine (bfirst_any w HT.out).mono ?_
  rintro e w1 ⟨rfl, hb1⟩
  have B1 := Lib.hid hb1
  clear hb1
  obtain ⟨F, hF⟩ : ∃ F, firstD = F := ⟨_, rfl⟩
  have t0 : ((F.size : Int) == 32) = true := by rw [← hF, firstD_size]; rfl
  rw [hF]
  clear hF
  go_wp2_with fail
  refine (well_bad ⟨#[]⟩ 0 1 0 0 0 ⟨#[]⟩ _ _ [] [] w1 (sigs_nil _) (reqs_nil _) small_none (by simp [rightBlock])).mono ?_
  rintro e w2 ⟨rfl, hb2⟩
  have B2 := Lib.hid (B1.out.trans (hb2.mono B1.out.size))
  clear hb2
  go_wp2_with fail
  go_ret
  exact ⟨rfl, B2.out⟩
end Go.Proofs.YtacbamfhlgchgaaDoor
end
