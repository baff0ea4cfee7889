/-
  The certificate of the votes of the first nodes, one behind the other; blocks that are made of it. No walk is here.
-/
import Derived.Test.YtagbkocpjjdppaaGreatDoorKJCopy
import Derived.Test.YtagbkocpjjdppaaGreatDoorKJUnlike
import Derived.Test.YtagbkocpjjdppaaGreatDoorKLLawC
import Derived.Test.YtagbkocpjjdppaaGreatDoorKWLawB
import Derived.Test.YtagbkocpjjdppaaGreatDoorKERight
import Derived.Test.YtagbkocpjjdppaaGreatDoorKPlanE
import Derived.Test.YtagbkocpjjdppaaGreatDoorKELawF
import Derived.Test.YtagbkocpjjdppaaGreatDoorKJBox
import Derived.Test.YtagbkocpjjdppaaGreatDoorKWFewB
import Derived.Test.YtagbkocpjjdppaaGreatDoorKEVotes
section
open Go Go.RowKit
namespace JJ
open CC BB WW MM
/-- what Make answers -/
def MadeB (w : World) (v p cv : Int) (k : ByteArray) (l : List (Int × List ByteArray)) (m : List Rq) (e : Ending) (w' : World) : Prop :=
  ∃ a0 c0 a1 c1, e = .returned (.agg #[.int .i64 v, .int .i64 p, .int .i64 cv, .string k, .slice a0 l.length c0, .slice a1 m.length c1]) ∧ SigsAt w' (.slice a0 l.length c0) l ∧ ReqsAt w' (.slice a1 m.length c1) m ∧ Below w.heap.size w w'
theorem reqs_shape {w : World} {v : Value} {m : List Rq} (h : ReqsAt w v m) : ∃ a c, v = .slice a m.length c := by
  obtain ⟨a, c, rfl, _⟩ := h; exact ⟨a, c, rfl⟩
theorem reqs_upd {w w' : World} {b : Nat} {v : Value} {l : List Rq} (h : ReqsAt w v l) (hn : ∀ c, v.ownBlock = some c → c ≠ b) (hu : Upd b w w') : ReqsAt w' v l := by
  obtain ⟨a0, cap, rfl, h | ⟨g, off, rfl, hl, hc⟩⟩ := h
  · exact ⟨a0, cap, rfl, Or.inl h⟩
  · refine ⟨_, cap, rfl, Or.inr ⟨g, off, rfl, by rw [hu.size]; exact hl, fun i hi => ?_⟩⟩
    obtain ⟨h1, h2, h3⟩ := hc i hi
    have e := hu.block g (hn g rfl)
    exact ⟨(World.cell?_of_block (w := w) (a := ⟨g, off + i * 3, none⟩) e).trans h1, (World.cell?_of_block (w := w) (a := ⟨g, off + i * 3 + 1, none⟩) e).trans h2, (World.cell?_of_block (w := w) (a := ⟨g, off + i * 3 + 2, none⟩) e).trans h3⟩
end JJ
namespace Go.Proofs.YtagbkocpjjdppaaGreatDoor
open JJ CC WW BB MM
set_option maxRecDepth 100000 in
set_option maxHeartbeats 8000000 in
theorem make6_any (v n cv : Int) (k : ByteArray) (sv rv : Value) (l : List (Int × List ByteArray)) (m : List Rq) (w : World) (hv : SigsAt w sv l) (hr : ReqsAt w rv m) (hl : l.length ≤ 1000) (ht : ∀ p ∈ l, p.2.length ≤ 1000) (hm : m.length ≤ 1000) (h64 : ∀ r ∈ m, In64 (keyR r)) :
    Calls Tryz.prog 14 #[.int .i64 v, .int .i64 n, .agg #[.int .i64 cv, .string k, sv], rv] w (MadeB w v (leaderI v n) cv k l (onceN 3 m)) := by
  have HV := Lib.hid hv
  have HR := Lib.hid hr
  have HL := Lib.hid hl
  have HT := Lib.hid ht
  have HM := Lib.hid hm
  have H64 := Lib.hid h64
  obtain ⟨a0, cap, rfl, _⟩ := hv
  obtain ⟨a1, cap1, rfl, _⟩ := hr
  clear hl ht hm h64
  obtain ⟨g, hg⟩ : ∃ g, w.heap.size = g := ⟨_, rfl⟩
  have k0 : Blk ((w.alloc (.cells #[.int .i64 cv, .string k, .slice a0 l.length cap] 24)).alloc (.cells #[.int .i64 0, .int .i64 0, .int .i64 0, .string ⟨#[]⟩, .slice none 0 0, .slice none 0 0] 27)) g 3 (cC (.int .i64 cv) k (.slice a0 l.length cap)) := (Blk.new' hg.symm (cC_row _ _ _)).alloc _
  have r0 : Blk ((w.alloc (.cells #[.int .i64 cv, .string k, .slice a0 l.length cap] 24)).alloc (.cells #[.int .i64 0, .int .i64 0, .int .i64 0, .string ⟨#[]⟩, .slice none 0 0, .slice none 0 0] 27)) (g + 1) 6 zB := Blk.new' (by simp; omega) zB_row
  have b0 := ((Below.refl w.heap.size w).alloc (Nat.le_refl _) (.cells #[.int .i64 cv, .string k, .slice a0 l.length cap] 24)).alloc (by simp) (.cells #[.int .i64 0, .int .i64 0, .int .i64 0, .string ⟨#[]⟩, .slice none 0 0, .slice none 0 0] 27)
  go_enter Tryz.func14, Tryz.ntmps14
  go_wp2_with fail
  rw [hg] at b0
  have HG := Lib.hid hg
  clear hg
  generalize (w.alloc (.cells #[.int .i64 cv, .string k, .slice a0 l.length cap] 24)).alloc (.cells #[.int .i64 0, .int .i64 0, .int .i64 0, .string ⟨#[]⟩, .slice none 0 0, .slice none 0 0] 27) = w0 at *
  have K0 := Lib.hid k0
  have R0 := Lib.hid r0
  have B0 := Lib.hid b0
  have c0 : w0.cell? ⟨g, 0, none⟩ = some (.int .i64 cv) := k0.get 0 (by omega)
  have c1 : w0.cell? ⟨g, 1, none⟩ = some (.string k) := k0.get 1 (by omega)
  have c2 : w0.cell? ⟨g, 2, none⟩ = some (.slice a0 l.length cap) := k0.get 2 (by omega)
  clear k0 b0 r0
  refine chain_abs (fun wx => wx.cell? ⟨g, 0, none⟩ = some (.int .i64 cv) ∧ wx.cell? ⟨g, 1, none⟩ = some (.string k) ∧ wx.cell? ⟨g, 2, none⟩ = some (.slice a0 l.length cap) ∧ Below w0.heap.size w0 wx) [0, 1, 2, 6] [4] [3] 5 [7, 8, 9] (by kernel_rfl) (by kernel_rfl) (fun _ _ d _ _ h => by cases d <;> exact h) fun w2 hs2 => ⟨⟨(hs2.cell _).trans c0, (hs2.cell _).trans c1, (hs2.cell _).trans c2, hs2.below _⟩, ?_⟩
  simp only [pick, List.filterMap, List.getElem?_toArray, List.getElem?_cons_zero, List.getElem?_cons_succ]
  iterate 4 (refine free_run ?_ rfl ?_ ?_; rotate_left; (focus (intro w'; go_simp; exact rfl)); simp only [Act.put, List.setIfInBounds_toArray, List.set_cons_zero, List.set_cons_succ])
  iterate 1 (refine held_run ?_ rfl ?_ ?_; rotate_left; (focus (intro w' hS; obtain ⟨hS1, hS2, hS3, _⟩ := hS; go_simp; exact rfl)); simp only [Act.put, List.setIfInBounds_toArray, List.set_cons_zero, List.set_cons_succ])
  have B2 := Lib.hid (hs2.below w0.heap.size)
  obtain ⟨c0, c1, c2⟩ : w2.cell? ⟨g, 0, none⟩ = some (.int .i64 cv) ∧ w2.cell? ⟨g, 1, none⟩ = some (.string k) ∧ w2.cell? ⟨g, 2, none⟩ = some (.slice a0 l.length cap) := ⟨(hs2.cell _).trans c0, (hs2.cell _).trans c1, (hs2.cell _).trans c2⟩
  clear hs2
  refine ch_call _ rfl rfl (by go_simp) (cleader_any v n w2) (fun w' hR => by subst hR; exact ⟨c0, c1, c2, B2.out⟩) fun w3 hR => ?_
  subst hR
  simp only [Act.put, List.setIfInBounds_toArray, wpCh]
  clear c0 c1 c2
  go_wp2_with fail
  refine (copied_any cv k _ l w2 (HV.out.later ((HG.out.symm ▸ B0.out).trans (B2.out.mono (by have := B0.out.size; have := HG.out; omega)))) HL.out HT.out).mono ?_
  rintro e w4 ⟨d0, dcap, rfl, hs4, hb4⟩
  have HS4 := Lib.hid hs4
  have B4 := Lib.hid (B2.out.trans (hb4.mono B2.out.size))
  clear hs4 hb4
  go_wp2_with fail
  refine (unlike_any m _ 3 w4 (HR.out.later ((HG.out.symm ▸ B0.out).trans (B4.out.mono (by have := B0.out.size; have := HG.out; omega)))) HM.out (by omega) H64.out).mono ?_
  rintro e w5 ⟨u, rfl, hr5, hn5, hb5⟩
  obtain ⟨e0, ecap, rfl⟩ := reqs_shape hr5
  have HS5 := Lib.hid (HS4.out.later hb5)
  have HR5 := Lib.hid hr5
  have HN5 := Lib.hid hn5
  have B5 := Lib.hid (B4.out.trans (hb5.mono B4.out.size))
  have RR := Lib.hid (R0.out.below B5.out R0.out.lt)
  have Z4 := Lib.hid (Nat.le_trans R0.out.lt B4.out.size)
  clear hr5 hn5 hb5
  have c0 : w5.cell? ⟨g + 1, 0, none⟩ = some (.int .i64 0) := RR.out.get 0 (by omega)
  have g0 := RR.out.frz 0
  have c1 : w5.cell? ⟨g + 1, 1, none⟩ = some (.int .i64 0) := RR.out.get 1 (by omega)
  have g1 := RR.out.frz 1
  have c2 : w5.cell? ⟨g + 1, 2, none⟩ = some (.int .i64 0) := RR.out.get 2 (by omega)
  have g2 := RR.out.frz 2
  have c3 : w5.cell? ⟨g + 1, 3, none⟩ = some (.string ⟨#[]⟩) := RR.out.get 3 (by omega)
  have g3 := RR.out.frz 3
  have c4 : w5.cell? ⟨g + 1, 4, none⟩ = some (.slice none 0 0) := RR.out.get 4 (by omega)
  have g4 := RR.out.frz 4
  have c5 : w5.cell? ⟨g + 1, 5, none⟩ = some (.slice none 0 0) := RR.out.get 5 (by omega)
  have g5 := RR.out.frz 5
  go_wp2_with fail
  obtain ⟨⟨q0, q1, q2, q3, q4, q5⟩, qu⟩ := setB RR.out (.int .i64 v) (.int .i64 (leaderI v n)) (.int .i64 cv) (.string k) (.slice d0 l.length dcap) (.slice e0 (onceN 3 m).length ecap)
  refine bodyPost_ret (v := .agg #[.int .i64 v, .int .i64 (leaderI v n), .int .i64 cv, .string k, .slice d0 l.length dcap, .slice e0 (onceN 3 m).length ecap]) (by simp [results, Tryz.results14, go_sem, q0, q1, q2, q3, q4, q5]) rfl ?_
  refine ⟨d0, dcap, e0, ecap, rfl, ?_, ?_, ?_⟩
  · exact (HS5.out.keep (by rw [qu.size]; exact Nat.le_refl _) fun c hc _ => qu.block c (by have := Nat.le_trans R0.out.lt B2.out.size; omega)).sigs
  · exact reqs_upd HR5.out (fun c hc => by have := HN5.out c hc; have := Z4.out; omega) qu
  · exact HG.out ▸ ((B0.out.trans (B5.out.mono (by have := B0.out.size; have := HG.out; omega))).trans (qu.below (Nat.le_succ _)))
end Go.Proofs.YtagbkocpjjdppaaGreatDoor
end
section
open Go Go.RowKit
namespace JJ
open CC BB WW MM
theorem right_64 {v p cv : Int} {k : ByteArray} {l : List (Int × List ByteArray)} {m : List Rq} (h : rightBlock v p cv k l m = true) : ∀ r ∈ m, In64 (keyR r) := by
  unfold rightBlock at h
  simp only [Bool.and_eq_true, decide_eq_true_eq, List.all_eq_true] at h
  intro r hr
  have := h.2 r hr
  unfold rightR at this
  unfold In64 keyR
  constructor
  · constructor <;> (show _ ≤ _; omega)
  · constructor <;> (show _ ≤ _; omega)
theorem sigsB_le {l : List (Int × List ByteArray)} (h : SmallS l) : (flat (sigsB l)).length ≤ 500000 := h.2.1
theorem certB_small {v : Int} {k : ByteArray} {l : List (Int × List ByteArray)} (hk : k.size ≤ 1000) (h : SmallS l) : (certB v k l).size ≤ 1000000 := by
  rw [certB_size]; have := h.2.1; omega
/-- a block of a size that is read -/
def SmallB (k : ByteArray) (l : List (Int × List ByteArray)) (m : List Rq) : Prop := k.size ≤ 1000 ∧ SmallS l ∧ SmallR m ∧ (flat (sigsB l)).length + (flat (reqsB m)).length ≤ 900000
theorem SmallB.block {v p cv : Int} {k : ByteArray} {l : List (Int × List ByteArray)} {m : List Rq} (h : SmallB k l m) : (blockB v p cv k l m).size ≤ 1000000 := by
  obtain ⟨h1, _, _, h2⟩ := h
  unfold blockB
  simp only [ByteArray.size_append, num_size, certB_size, flat_size]
  omega
theorem right_smallB6 {v p cv : Int} {k : ByteArray} {l : List (Int × List ByteArray)} {m : List Rq} (h : rightBlock v p cv k l m = true) : SmallB k l m := by
  obtain ⟨h1, h2, h3, _, h5⟩ := right_smallB h
  refine ⟨by omega, h1, h2, ?_⟩
  unfold rightBlock at h
  simp only [Bool.and_eq_true, decide_eq_true_eq, List.all_eq_true] at h
  have := flat_le 72 (reqsB m) (fun x hx => by
    unfold reqsB at hx
    obtain ⟨p, hp, rfl⟩ := List.mem_map.1 hx
    have h4 := (h.2 p hp).2.2.2.2
    rw [reqB_size]; omega)
  have e : (reqsB m).length = m.length := by unfold reqsB; rw [List.length_map]
  have := h1.2.1
  omega
/-- the six cells of a block's box, and what was as it was -/
def Six (base g : Nat) (v0 v1 v2 v3 v4 v5 : Value) (w w' : World) : Prop :=
  w'.cell? ⟨g, 0, none⟩ = some v0 ∧ w'.cell? ⟨g, 1, none⟩ = some v1 ∧ w'.cell? ⟨g, 2, none⟩ = some v2 ∧ w'.cell? ⟨g, 3, none⟩ = some v3 ∧ w'.cell? ⟨g, 4, none⟩ = some v4 ∧ w'.cell? ⟨g, 5, none⟩ = some v5 ∧ Below base w w' ∧ base ≤ w'.heap.size
theorem Six.on {base g : Nat} {v0 v1 v2 v3 v4 v5 : Value} {w w1 w2 : World} (h : Six base g v0 v1 v2 v3 v4 v5 w w1) (hb : Below w1.heap.size w1 w2) : Six base g v0 v1 v2 v3 v4 v5 w w2 := keep6 h hb
theorem Six.below {base g : Nat} {v0 v1 v2 v3 v4 v5 : Value} {w w1 : World} (h : Six base g v0 v1 v2 v3 v4 v5 w w1) : Below base w w1 := h.2.2.2.2.2.2.1
theorem Six.same {base g : Nat} {v0 v1 v2 v3 v4 v5 : Value} {w w1 w2 : World} (h : Six base g v0 v1 v2 v3 v4 v5 w w1) (hs : Same w1 w2) : Six base g v0 v1 v2 v3 v4 v5 w w2 := h.on (hs.below _)
theorem Six.mk {w : World} (v0 v1 v2 v3 v4 v5 : Value) (t : TypeId) : Six w.heap.size w.heap.size v0 v1 v2 v3 v4 v5 w (w.alloc (.cells #[v0, v1, v2, v3, v4, v5] t)) := by
  have k := box_mk w [v0, v1, v2, v3, v4, v5] t
  exact ⟨k.cell 0 _ rfl, k.cell 1 _ rfl, k.cell 2 _ rfl, k.cell 3 _ rfl, k.cell 4 _ rfl, k.cell 5 _ rfl, k.below, k.below.size⟩
end JJ
namespace Go.Proofs.YtagbkocpjjdppaaGreatDoor
open JJ CC WW BB MM
set_option maxRecDepth 100000 in
set_option maxHeartbeats 8000000 in
/-- one that isn't right -/
theorem well_bad (s : ByteArray) (d n v p cv : Int) (k : ByteArray) (sv rv : Value) (l : List (Int × List ByteArray)) (m : List Rq) (w : World) (hv : SigsAt w sv l) (hr : ReqsAt w rv m) (hs : SmallB k l m) (hbad : rightBlock v p cv k l m = false) :
    Calls Tryz.prog 16 #[.string s, .int .i64 d, .int .i64 n, .agg #[.int .i64 v, .int .i64 p, .int .i64 cv, .string k, sv, rv]] w fun e w' => e = .returned (.int .i64 2) ∧ Below w.heap.size w w' := by
  have HV := Lib.hid hv
  have HR := Lib.hid hr
  have HS := Lib.hid hs
  obtain ⟨a0, cap, rfl, _⟩ := hv
  obtain ⟨a1, cap1, rfl, _⟩ := hr
  have HB := Lib.hid (fun wx (hb : Below w.heap.size w wx) => hbad ▸ bright_any v p cv k _ _ l m wx (HV.out.later hb) (HR.out.later hb) hs.1 hs.2.1 hs.2.2.1 hs.block)
  clear hs
  have S0 := Lib.hid (Six.mk (w := w) (.int .i64 v) (.int .i64 p) (.int .i64 cv) (.string k) (.slice a0 l.length cap) (.slice a1 m.length cap1) 27)
  go_enter Tryz.func16, Tryz.ntmps16
  go_wp2_with fail
  generalize w.alloc (.cells #[.int .i64 v, .int .i64 p, .int .i64 cv, .string k, .slice a0 l.length cap, .slice a1 m.length cap1] 27) = w0 at *
  obtain ⟨g, hg⟩ : ∃ g, w.heap.size = g := ⟨_, rfl⟩
  have HG := Lib.hid hg
  rw [hg] at S0 HB ⊢
  clear hg
  refine plan_abs (Six g g (.int .i64 v) (.int .i64 p) (.int .i64 cv) (.string k) (.slice a0 l.length cap) (.slice a1 m.length cap1) w) [(true, 0), (false, 1), (true, 2), (true, 3), (true, 4), (true, 5), (true, 6), (true, 7), (true, 8), (true, 9), (true, 10), (true, 11), (true, 12), (true, 13), (true, 14), (true, 15)] (by kernel_rfl) (by kernel_rfl) (fun _ _ d _ _ h => by cases d <;> exact h) fun w2 hs2 => ⟨S0.out.same hs2, ?_⟩
  have S2 := Lib.hid (S0.out.same hs2)
  clear hs2
  refine pl_run _ ?_ rfl rfl ?_ ?_; rotate_left
  · intro w' hS; obtain ⟨q0, q1, q2, q3, q4, q5, _⟩ := hS; go_simp; exact rfl
  simp only [Act.put, List.setIfInBounds_toArray, List.set_cons_zero, List.set_cons_succ, List.getElem_toArray, List.getElem_cons_zero]
  refine pl_call1 _ rfl rfl (by go_simp) (HB.out w2 S2.out.below) (fun w' hb => S2.out.on hb) fun w3 hb3 => ?_
  have S3 := Lib.hid (S2.out.on hb3)
  clear hb3
  simp only [Act.put, List.setIfInBounds_toArray, List.set_cons_zero, List.set_cons_succ, List.getElem_toArray, List.getElem_cons_zero, List.getElem_cons_succ]
  iterate 2 (refine pl_run _ ?_ rfl rfl ?_ ?_; rotate_left; (focus (intro w' hS; go_simp; exact rfl)); simp only [Act.put, List.setIfInBounds_toArray, List.set_cons_zero, List.set_cons_succ, List.getElem_toArray, List.getElem_cons_zero, List.getElem_cons_succ])
  iterate 11 (refine pl_off _ rfl rfl ?_; simp only [Act.put, List.setIfInBounds_toArray, List.set_cons_zero, List.set_cons_succ, List.getElem_toArray, List.getElem_cons_zero, List.getElem_cons_succ])
  refine pl_run _ ?_ rfl rfl ?_ ?_; rotate_left
  · intro w' hS; go_simp; exact rfl
  simp only [Act.put, List.setIfInBounds_toArray, List.set_cons_zero, List.set_cons_succ, List.getElem_toArray, List.getElem_cons_zero, List.getElem_cons_succ]
  refine pl_end ?_
  go_wp2_with fail
  go_ret
  exact ⟨rfl, by rw [HG.out]; exact S3.out.below⟩
set_option maxRecDepth 100000 in
set_option maxHeartbeats 8000000 in
/-- one that is well -/
theorem well_ok (s : ByteArray) (d n v p cv : Int) (k : ByteArray) (sv rv : Value) (l : List (Int × List ByteArray)) (m : List Rq) (w : World) (hv : SigsAt w sv l) (hr : ReqsAt w rv m) (hz : s.size ≤ 1000) (hs : SmallB k l m) (h1 : rightBlock v p cv k l m = true) (h2 : twiceR m = false) (hn : 1 ≤ n ∧ n ≤ 7) (hd : 0 ≤ d ∧ d < n) (hp : p = leaderI v n) (hh : certHolds s d n cv k l = true) (hT : Tabs w) :
    Calls Tryz.prog 16 #[.string s, .int .i64 d, .int .i64 n, .agg #[.int .i64 v, .int .i64 p, .int .i64 cv, .string k, sv, rv]] w fun e w' => e = .returned (.int .i64 0) ∧ Below w.heap.size w w' := by
  have HV := Lib.hid hv
  have HR := Lib.hid hr
  have HS := Lib.hid hs
  obtain ⟨a0, cap, rfl, _⟩ := hv
  obtain ⟨a1, cap1, rfl, _⟩ := hr
  have HB := Lib.hid (fun wx (hb : Below w.heap.size w wx) => h1 ▸ bright_any v p cv k _ _ l m wx (HV.out.later hb) (HR.out.later hb) hs.1 hs.2.1 hs.2.2.1 hs.block)
  have HU := Lib.hid (fun wx (hb : Below w.heap.size w wx) => unlike_any m _ m.length wx (HR.out.later hb) hs.2.2.1.1 hs.2.2.1.1 (right_64 h1))
  have HC := Lib.hid (fun wx (hb : Below w.heap.size w wx) => chold_is true s d n cv k _ l hh wx (HV.out.later hb) (by omega) hz hs.1 hs.2.1 (certB_small hs.1 hs.2.1) (tabs_on hT hb))
  have HNB := Lib.hid (show nodesB n = true by simp [nodesB, hn.1, hn.2])
  have HLN := Lib.hid (show (onceN m.length m).length = m.length by
    have e := onceN_whole m
    rw [h2, decide_eq_false_iff_not] at e
    have := onceN_sub m.length m
    omega)
  have t1 : ¬ d < 0 := by omega
  have t2 : ¬ d ≥ n := by omega
  have t3 : (p != leaderI v n) = false := by rw [hp]; simp
  clear hs h1 h2 hn hd hp hh hT hz
  have S0 := Lib.hid (Six.mk (w := w) (.int .i64 v) (.int .i64 p) (.int .i64 cv) (.string k) (.slice a0 l.length cap) (.slice a1 m.length cap1) 27)
  go_enter Tryz.func16, Tryz.ntmps16
  go_wp2_with fail
  generalize w.alloc (.cells #[.int .i64 v, .int .i64 p, .int .i64 cv, .string k, .slice a0 l.length cap, .slice a1 m.length cap1] 27) = w0 at *
  obtain ⟨g, hg⟩ : ∃ g, w.heap.size = g := ⟨_, rfl⟩
  have HG := Lib.hid hg
  rw [hg] at S0 HB HU HC ⊢
  clear hg
  refine plan_abs (Six g g (.int .i64 v) (.int .i64 p) (.int .i64 cv) (.string k) (.slice a0 l.length cap) (.slice a1 m.length cap1) w) [(true, 0), (false, 1), (true, 2), (true, 3), (true, 4), (true, 5), (true, 6), (true, 7), (true, 8), (true, 11), (true, 12), (true, 13), (false, 9), (true, 10), (true, 14), (true, 15)] (by kernel_rfl) (by kernel_rfl) (fun _ _ d _ _ h => by cases d <;> exact h) fun w2 hs2 => ⟨S0.out.same hs2, ?_⟩
  have S2 := Lib.hid (S0.out.same hs2)
  clear hs2
  (refine pl_run _ ?_ rfl rfl ?_ ?_; rotate_left; (focus (intro w' hS; obtain ⟨q0, q1, q2, q3, q4, q5, _⟩ := hS; go_simp; exact rfl)); simp only [Act.put, List.setIfInBounds_toArray, List.set_cons_zero, List.set_cons_succ, List.getElem_toArray, List.getElem_cons_zero])
  refine pl_call1 _ rfl rfl (by go_simp) (HB.out w2 S2.out.below) (fun w' hb => S2.out.on hb) fun w3 hb3 => ?_
  have S3 := Lib.hid (S2.out.on hb3)
  clear hb3
  simp only [Act.put, List.setIfInBounds_toArray, List.set_cons_zero, List.set_cons_succ, List.getElem_toArray, List.getElem_cons_zero, List.getElem_cons_succ]
  iterate 10 (refine pl_run _ ?_ rfl rfl ?_ ?_; rotate_left; (focus (intro w' hS; obtain ⟨q0, q1, q2, q3, q4, q5, _⟩ := hS; go_simp; exact rfl)); simp only [Act.put, List.setIfInBounds_toArray, List.set_cons_zero, List.set_cons_succ, List.getElem_toArray, List.getElem_cons_zero, List.getElem_cons_succ])
  refine pl_call _ rfl rfl (by go_simp) ((HU.out w3 S3.out.below).mono fun e w' h => ?_) (R := fun u w' => ReqsAt w' u (onceN m.length m) ∧ Below w3.heap.size w3 w') (fun u w' h => S3.out.on h.2) fun u w4 h4 => ?_
  · obtain ⟨u, he, hu, _, hb⟩ := h
    exact ⟨u, he, hu, hb⟩
  obtain ⟨u0, ucap, rfl⟩ := reqs_shape h4.1
  have S4 := Lib.hid (S3.out.on h4.2)
  clear h4
  rw [HLN.out]
  have t4 : ¬ (m.length : Int) < (m.length : Int) := by omega
  simp only [Act.put, List.setIfInBounds_toArray, List.set_cons_zero, List.set_cons_succ, List.getElem_toArray, List.getElem_cons_zero, List.getElem_cons_succ]
  iterate 3 (refine pl_run _ ?_ rfl rfl ?_ ?_; rotate_left; (focus (intro w' hS; obtain ⟨q0, q1, q2, q3, q4, q5, _⟩ := hS; go_simp; exact rfl)); simp only [Act.put, List.setIfInBounds_toArray, List.set_cons_zero, List.set_cons_succ, List.getElem_toArray, List.getElem_cons_zero, List.getElem_cons_succ])
  refine pl_end ?_
  go_wp2_with fail
  refine (nodes_any n w4).mono ?_
  rintro e w5 ⟨rfl, rfl⟩
  rw [HNB.out]
  go_wp2_with fail
  refine plan_abs (Six g g (.int .i64 v) (.int .i64 p) (.int .i64 cv) (.string k) (.slice a0 l.length cap) (.slice a1 m.length cap1) w) [(true, 0), (true, 1), (true, 2), (true, 3), (true, 4), (false, 5), (true, 6)] (by kernel_rfl) (by kernel_rfl) (fun _ _ d _ _ h => by cases d <;> exact h) fun w6 hs6 => ⟨S4.out.same hs6, ?_⟩
  have S6 := Lib.hid (S4.out.same hs6)
  clear hs6
  iterate 5 (refine pl_run _ ?_ rfl rfl ?_ ?_; rotate_left; (focus (intro w' hS; obtain ⟨q0, q1, q2, q3, q4, q5, _⟩ := hS; go_simp; exact rfl)); simp only [Act.put, List.setIfInBounds_toArray, List.set_cons_zero, List.set_cons_succ, List.getElem_toArray, List.getElem_cons_zero, List.getElem_cons_succ])
  refine pl_call1 _ rfl rfl (by go_simp) (cleader_any v n w6) (fun w' hb => by subst hb; exact S6.out) fun w7 hb7 => ?_
  subst hb7
  simp only [Act.put, List.setIfInBounds_toArray, List.set_cons_zero, List.set_cons_succ, List.getElem_toArray, List.getElem_cons_zero, List.getElem_cons_succ]
  iterate 1 (refine pl_run _ ?_ rfl rfl ?_ ?_; rotate_left; (focus (intro w' hS; obtain ⟨q0, q1, q2, q3, q4, q5, _⟩ := hS; go_simp; exact rfl)); simp only [Act.put, List.setIfInBounds_toArray, List.set_cons_zero, List.set_cons_succ, List.getElem_toArray, List.getElem_cons_zero, List.getElem_cons_succ])
  refine pl_end ?_
  have q := S6.out
  obtain ⟨q0, q1, q2, q3, q4, q5, _⟩ := q
  go_wp2_with fail
  refine (HC.out w6 S6.out.below).mono ?_
  rintro e w8 ⟨rfl, hb8⟩
  have S8 := Lib.hid (S6.out.on hb8)
  clear hb8 q0 q1 q2 q3 q4 q5
  go_wp2_with fail
  go_ret
  exact ⟨rfl, by rw [HG.out]; exact S8.out.below⟩
end Go.Proofs.YtagbkocpjjdppaaGreatDoor
end
section
open Go Go.RowKit
namespace JJ
open CC BB WW MM
theorem small_none : SmallB ⟨#[]⟩ [] [] := by
  refine ⟨by decide, ⟨by simp, by simp [sigsB, flat], by simp⟩, ⟨by simp, by simp [reqsB, flat], by simp⟩, by simp [sigsB, reqsB, flat]⟩
theorem reqs_nil (w : World) : ReqsAt w (.slice none 0 0) [] := ⟨none, 0, rfl, Or.inl rfl⟩
end JJ
namespace Go.Proofs.YtagbkocpjjdppaaGreatDoor
open JJ CC WW BB MM
set_option maxRecDepth 100000 in
set_option maxHeartbeats 2000000 in
theorem awake6_any (w : World) (hT : Tabs w) : Calls Tryz.prog 5 #[] w fun e w' => e = .returned (.bool true) ∧ Below w.heap.size w w' := by
  have HT := Lib.hid hT
  clear hT
  go_enter Tryz.func5, Tryz.ntmps5
  go_wp2_with fail
  refine (bfirst_any w HT.out).mono ?_
  rintro e w1 ⟨rfl, hb1⟩
  have B1 := Lib.hid hb1
  clear hb1
  obtain ⟨F, hF⟩ : ∃ F, firstD = F := ⟨_, rfl⟩
  have t0 : ((F.size : Int) == 32) = true := by rw [← hF, firstD_size]; rfl
  rw [hF]
  clear hF
  go_wp2_with fail
  refine (well_bad ⟨#[]⟩ 0 1 0 0 0 ⟨#[]⟩ _ _ [] [] w1 (sigs_nil _) (reqs_nil _) small_none (by simp [rightBlock])).mono ?_
  rintro e w2 ⟨rfl, hb2⟩
  have B2 := Lib.hid (B1.out.trans (hb2.mono B1.out.size))
  clear hb2
  go_wp2_with fail
  go_ret
  exact ⟨rfl, B2.out⟩
end Go.Proofs.YtagbkocpjjdppaaGreatDoor
end
section
open Go Go.RowKit
namespace JJ
open CC BB WW MM
theorem few_smallB {k : ByteArray} {l : List (Int × List ByteArray)} {m : List Rq} (h : fewBlock k l m = true) : SmallB k l m := by
  obtain ⟨h1, h2, h3, _, _⟩ := few_block h
  obtain ⟨h4, h5⟩ := few_flat h
  exact ⟨by omega, h1, h2, by omega⟩
theorem few_one {f : Int} {ts : List ByteArray} (h : fewSig ts = true) : SmallS [(f, ts)] := by
  have : fewCert ⟨#[]⟩ [(f, ts)] = true := by unfold fewCert; simp [h]; exact Nat.zero_le _
  exact (few_smallS this).1
theorem cells6 {w w' : World} {g y : Nat} {v0 v1 v2 v3 v4 v5 u0 u1 u2 u3 u4 u5 : Value} (h : BS w g [v0, v1, v2, v3, v4, v5] y [u0, u1, u2, u3, u4, u5] w') :
    (w'.cell? ⟨g, 0, none⟩ = some v0 ∧ w'.cell? ⟨g, 1, none⟩ = some v1 ∧ w'.cell? ⟨g, 2, none⟩ = some v2 ∧ w'.cell? ⟨g, 3, none⟩ = some v3 ∧ w'.cell? ⟨g, 4, none⟩ = some v4 ∧ w'.cell? ⟨g, 5, none⟩ = some v5) ∧
    w'.cell? ⟨y, 0, none⟩ = some u0 ∧ w'.cell? ⟨y, 1, none⟩ = some u1 ∧ w'.cell? ⟨y, 2, none⟩ = some u2 ∧ w'.cell? ⟨y, 3, none⟩ = some u3 ∧ w'.cell? ⟨y, 4, none⟩ = some u4 ∧ w'.cell? ⟨y, 5, none⟩ = some u5 :=
  ⟨⟨h.a.cell 0 _ rfl, h.a.cell 1 _ rfl, h.a.cell 2 _ rfl, h.a.cell 3 _ rfl, h.a.cell 4 _ rfl, h.a.cell 5 _ rfl⟩, h.b 0 _ rfl, h.b 1 _ rfl, h.b 2 _ rfl, h.b 3 _ rfl, h.b 4 _ rfl, h.b 5 _ rfl⟩
/-- the cells of a block -/
def bC (v p cv : Value) (k : ByteArray) (s r : Value) : Nat → Value := fun i => if i = 0 then v else if i = 1 then p else if i = 2 then cv else if i = 3 then .string k else if i = 4 then s else r
theorem bC_row (v p cv : Value) (k : ByteArray) (s r : Value) : #[v, p, cv, .string k, s, r] = row 6 (bC v p cv k s r) := by rfl
end JJ
namespace Go.Proofs.YtagbkocpjjdppaaGreatDoor
open JJ CC WW BB MM
theorem fewblock6_is (v p cv : Int) (k : ByteArray) (sv rv : Value) (l : List (Int × List ByteArray)) (m : List Rq) (b : Bool) (hb : fewBlock k l m = b) (w : World) (hv : SigsAt w sv l) (hr : ReqsAt w rv m) (hn : MemS l) (hk : k.size ≤ 9223372036854775807) (hm : m.length ≤ 9223372036854775807) :
    Calls Tryz.prog 6 #[.agg #[.int .i64 v, .int .i64 p, .int .i64 cv, .string k, sv, rv]] w fun e w' => e = .returned (.bool b) ∧ Below w.heap.size w w' := hb ▸ fewblock_any v p cv k sv rv l m w hv hr hn hk hm
set_option maxRecDepth 100000 in
set_option maxHeartbeats 8000000 in
/-- a block, or a signature, that is large -/
theorem lawd_big (v p cv : Int) (k : ByteArray) (sv rv : Value) (l : List (Int × List ByteArray)) (m : List Rq) (f : Int) (tv : Value) (ts : List ByteArray) (w : World) (hv : SigsAt w sv l) (hr : ReqsAt w rv m) (hn : MemS l) (hk : k.size ≤ 9223372036854775807) (hm : m.length ≤ 9223372036854775807) (ht : StrsAt w tv ts) (hts : ts.length ≤ 9223372036854775807)
    (h : fewBlock k l m = false ∨ fewBlock k l m = true ∧ fewSig ts = false) (hT : Tabs w) :
    Calls Tryz.prog 3 #[.agg #[.int .i64 v, .int .i64 p, .int .i64 cv, .string k, sv, rv], .agg #[.int .i64 f, tv]] w fun e w' => e = .returned (.bool true) ∧ Below w.heap.size w w' := by
  have HV := Lib.hid hv
  have HR := Lib.hid hr
  have HN := Lib.hid (And.intro hn (And.intro hk hm))
  have HTS := Lib.hid (And.intro ht hts)
  have HT := Lib.hid hT
  obtain ⟨a0, cap, rfl, _⟩ := hv
  obtain ⟨a1, cap1, rfl, _⟩ := hr
  obtain ⟨a2, cap2, rfl, _⟩ := ht
  clear hn hk hm hts hT
  have K0 := Lib.hid (BS.mk2 w [.int .i64 v, .int .i64 p, .int .i64 cv, .string k, .slice a0 l.length cap, .slice a1 m.length cap1] [.int .i64 f, .slice a2 ts.length cap2] 27 30)
  have b1 := Lib.hid (((Below.refl w.heap.size w).alloc (Nat.le_refl _) (.cells #[.int .i64 v, .int .i64 p, .int .i64 cv, .string k, .slice a0 l.length cap, .slice a1 m.length cap1] 27)).alloc (by simp) (.cells #[.int .i64 f, .slice a2 ts.length cap2] 30))
  rcases h with h | ⟨h, h2⟩
  all_goals
    have HF := Lib.hid h
    try have HG := Lib.hid h2
    clear h
    try clear h2
    go_enter Tryz.func3, Tryz.ntmps3
    go_wp2_with fail
    refine (awake6_any _ (tabs_on HT.out b1.out)).mono ?_
    rintro e w2 ⟨rfl, hb2⟩
    have B2 := Lib.hid (b1.out.trans (hb2.mono b1.out.size))
    have K2 := Lib.hid (K0.out.on hb2)
    have c0 := K2.out.a.cell 0 _ rfl
    have c1 := K2.out.a.cell 1 _ rfl
    have c2 := K2.out.a.cell 2 _ rfl
    have c3 := K2.out.a.cell 3 _ rfl
    have c4 := K2.out.a.cell 4 _ rfl
    have c5 := K2.out.a.cell 5 _ rfl
    clear hb2 b1
    go_wp2_with fail
    refine (fewblock6_is v p cv k _ _ l m _ HF.out w2 (HV.out.later B2.out) (HR.out.later B2.out) HN.out.1 HN.out.2.1 HN.out.2.2).mono ?_
    rintro e w3 ⟨rfl, hb3⟩
    have B3 := Lib.hid (B2.out.trans (hb3.mono B2.out.size))
    have K3 := Lib.hid (K2.out.on hb3)
    clear hb3 c0 c1 c2 c3 c4 c5
  · go_wp2_with fail
    refine (awake6_any _ (tabs_on HT.out B3.out)).mono ?_
    rintro e w4 ⟨rfl, hb4⟩
    have B4 := Lib.hid (B3.out.trans (hb4.mono B3.out.size))
    clear hb4
    go_wp2_with fail
    go_ret
    exact ⟨rfl, B4.out⟩
  · have d0 := K3.out.b 0 _ rfl
    have d1 := K3.out.b 1 _ rfl
    go_wp2_with fail
    refine (fewsig5_is f _ ts _ HG.out w3 (HTS.out.1.later B3.out) HTS.out.2).mono ?_
    rintro e w4 ⟨rfl, hb4⟩
    have B4 := Lib.hid (B3.out.trans (hb4.mono B3.out.size))
    clear hb4 d0 d1
    go_wp2_with fail
    refine (awake6_any _ (tabs_on HT.out B4.out)).mono ?_
    rintro e w5 ⟨rfl, hb5⟩
    have B5 := Lib.hid (B4.out.trans (hb5.mono B4.out.size))
    clear hb5
    go_wp2_with fail
    go_ret
    exact ⟨rfl, B5.out⟩
set_option maxRecDepth 100000 in
set_option maxHeartbeats 16000000 in
theorem lawd_in (v p cv : Int) (k : ByteArray) (sv rv : Value) (l : List (Int × List ByteArray)) (m : List Rq) (f : Int) (tv : Value) (ts : List ByteArray) (w : World) (hv : SigsAt w sv l) (hr : ReqsAt w rv m) (hn : MemS l) (hk : k.size ≤ 9223372036854775807) (hm : m.length ≤ 9223372036854775807) (ht : StrsAt w tv ts) (hts : ts.length ≤ 9223372036854775807)
    (h1 : fewBlock k l m = true) (h2 : fewSig ts = true) (hT : Tabs w) :
    Calls Tryz.prog 3 #[.agg #[.int .i64 v, .int .i64 p, .int .i64 cv, .string k, sv, rv], .agg #[.int .i64 f, tv]] w fun e w' => e = .returned (.bool true) ∧ Below w.heap.size w w' := by
  have HV := Lib.hid hv
  have HR := Lib.hid hr
  have HN := Lib.hid (And.intro hn (And.intro hk hm))
  have HTS := Lib.hid (And.intro ht hts)
  have HT := Lib.hid hT
  have HF := Lib.hid h1
  have HG := Lib.hid h2
  have HSB := Lib.hid (few_smallB h1)
  obtain ⟨a0, cap, rfl, _⟩ := hv
  obtain ⟨a1, cap1, rfl, _⟩ := hr
  obtain ⟨a2, cap2, rfl, _⟩ := ht
  clear hn hk hm hts hT h1 h2
  have K0 := Lib.hid (BS.mk2 w [.int .i64 v, .int .i64 p, .int .i64 cv, .string k, .slice a0 l.length cap, .slice a1 m.length cap1] [.int .i64 f, .slice a2 ts.length cap2] 27 30)
  have b1 := Lib.hid (((Below.refl w.heap.size w).alloc (Nat.le_refl _) (.cells #[.int .i64 v, .int .i64 p, .int .i64 cv, .string k, .slice a0 l.length cap, .slice a1 m.length cap1] 27)).alloc (by simp) (.cells #[.int .i64 f, .slice a2 ts.length cap2] 30))
  go_enter Tryz.func3, Tryz.ntmps3
  go_wp2_with fail
  refine (awake6_any _ (tabs_on HT.out b1.out)).mono ?_
  rintro e w2 ⟨rfl, hb2⟩
  have K2 := Lib.hid (K0.out.on hb2)
  obtain ⟨g, hg⟩ : ∃ g, w.heap.size = g := ⟨_, rfl⟩
  have HGG := Lib.hid hg
  rw [hg] at K2 ⊢
  have c0 := K2.out.a.cell 0 _ rfl
  have c1 := K2.out.a.cell 1 _ rfl
  have c2 := K2.out.a.cell 2 _ rfl
  have c3 := K2.out.a.cell 3 _ rfl
  have c4 := K2.out.a.cell 4 _ rfl
  have c5 := K2.out.a.cell 5 _ rfl
  clear hb2 b1 hg
  go_wp2_with fail
  refine (fewblock6_is v p cv k _ _ l m _ HF.out w2 (HV.out.later K2.out.a.below) (HR.out.later K2.out.a.below) HN.out.1 HN.out.2.1 HN.out.2.2).mono ?_
  rintro e w3 ⟨rfl, hb3⟩
  have K3 := Lib.hid (K2.out.on hb3)
  clear hb3 c0 c1 c2 c3 c4 c5
  have d0 := K3.out.b 0 _ rfl
  have d1 := K3.out.b 1 _ rfl
  go_wp2_with fail
  refine (fewsig5_is f _ ts _ HG.out w3 (HTS.out.1.later K3.out.a.below) HTS.out.2).mono ?_
  rintro e w4 ⟨rfl, hb4⟩
  have K4 := Lib.hid (K3.out.on hb4)
  clear hb4 d0 d1
  have c0 := K4.out.a.cell 0 _ rfl
  have c1 := K4.out.a.cell 1 _ rfl
  have c2 := K4.out.a.cell 2 _ rfl
  have c3 := K4.out.a.cell 3 _ rfl
  have c4 := K4.out.a.cell 4 _ rfl
  have c5 := K4.out.a.cell 5 _ rfl
  have d0 := K4.out.b 0 _ rfl
  have d1 := K4.out.b 1 _ rfl
  go_upto_region 4 with fail
  have K5 := Lib.hid (show BS w g [.int .i64 v, .int .i64 p, .int .i64 cv, .string k, .slice a0 l.length cap, .slice a1 m.length cap1] (g + 1) [.int .i64 f, .slice a2 ts.length cap2] (w4.alloc (.cells #[.int .i64 v, .int .i64 p, .int .i64 cv, .string k, .slice a0 l.length cap, .slice a1 m.length cap1] 27)) from K4.out.on ((Below.refl _ _).alloc (Nat.le_refl _) _))
  have Y5 : Blk (w4.alloc (.cells #[.int .i64 v, .int .i64 p, .int .i64 cv, .string k, .slice a0 l.length cap, .slice a1 m.length cap1] 27)) w4.heap.size 6 (bC (.int .i64 v) (.int .i64 p) (.int .i64 cv) k (.slice a0 l.length cap) (.slice a1 m.length cap1)) := Blk.new' rfl (bC_row _ _ _ _ _ _)
  have Z5 : g + 1 < w4.heap.size := K4.out.lt
  generalize w4.alloc (.cells #[.int .i64 v, .int .i64 p, .int .i64 cv, .string k, .slice a0 l.length cap, .slice a1 m.length cap1] 27) = w5 at *
  obtain ⟨y, hy⟩ : ∃ y, w4.heap.size = y := ⟨_, rfl⟩
  rw [hy] at Y5 Z5 ⊢
  have HZ5 := Lib.hid Z5
  have HY5 := Lib.hid Y5
  clear hy c0 c1 c2 c3 c4 c5 d0 d1 Y5 Z5
  have c2 := K5.out.a.cell 2 _ rfl
  have c3 := K5.out.a.cell 3 _ rfl
  have d0 := K5.out.b 0 _ rfl
  have d1 := K5.out.b 1 _ rfl
  have Y6 := Lib.hid (HY5.out.alloc (.cells #[.int .i64 f, .slice a2 ts.length cap2] 30))
  have q2 : (w5.alloc (.cells #[.int .i64 f, .slice a2 ts.length cap2] 30)).cell? ⟨y, 2, none⟩ = some (.int .i64 cv) := Y6.out.get 2 (by omega)
  have f2 := Y6.out.frz 2
  have q3 : (w5.alloc (.cells #[.int .i64 f, .slice a2 ts.length cap2] 30)).cell? ⟨y, 3, none⟩ = some (.string k) := Y6.out.get 3 (by omega)
  have f3 := Y6.out.frz 3
  have q4 : (w5.alloc (.cells #[.int .i64 f, .slice a2 ts.length cap2] 30)).cell? ⟨y, 4, none⟩ = some (.slice a0 l.length cap) := Y6.out.get 4 (by omega)
  have f4 := Y6.out.frz 4
  go_upto_region 5 with fail
  have E6 := Lib.hid (show Below w5.heap.size w5 (w5.alloc (.cells #[.int .i64 f, .slice a2 ts.length cap2] 30)) from (Below.refl _ _).alloc (Nat.le_refl _) _)
  have X6 := Lib.hid (show BoxAt w5 w5.heap.size [.int .i64 f, .slice a2 ts.length cap2] (w5.alloc (.cells #[.int .i64 f, .slice a2 ts.length cap2] 30)) from box_mk w5 [.int .i64 f, .slice a2 ts.length cap2] 30)
  have HZZ := Lib.hid HY5.out.lt
  obtain ⟨z, hz⟩ : ∃ z, w5.heap.size = z := ⟨_, rfl⟩
  have K6 := Lib.hid (K5.out.a.on E6.out)
  rw [hz] at HZZ X6 ⊢
  clear hz q2 f2 q3 f3 q4 f4 c2 c3 d0 d1
  generalize w5.alloc (.cells #[.int .i64 f, .slice a2 ts.length cap2] 30) = w6 at *
  have Y7 := Lib.hid ((((Y6.out.set 2 (.int .i64 cv)).set 3 (.string k)).set 4 (.slice (some ⟨z, 0, none⟩) 1 1)).congr (bC (.int .i64 v) (.int .i64 p) (.int .i64 cv) k (.slice (some ⟨z, 0, none⟩) 1 1) (.slice a1 m.length cap1)) (fun i hi => by
    match i, hi with
    | 0, _ => rfl
    | 1, _ => rfl
    | 2, _ => rfl
    | 3, _ => rfl
    | 4, _ => rfl
    | 5, _ => rfl))
  have U7 := Lib.hid (((Upd.set w6 y 2 (.int .i64 cv)).trans (Upd.set _ y 3 (.string k))).trans (Upd.set _ y 4 (.slice (some ⟨z, 0, none⟩) 1 1)))
  generalize ((w6.setCell ⟨y, 2, none⟩ (.int .i64 cv)).setCell ⟨y, 3, none⟩ (.string k)).setCell ⟨y, 4, none⟩ (.slice (some ⟨z, 0, none⟩) 1 1) = w7 at *
  have K7 := Lib.hid (show BS w g [.int .i64 v, .int .i64 p, .int .i64 cv, .string k, .slice a0 l.length cap, .slice a1 m.length cap1] y [.int .i64 v, .int .i64 p, .int .i64 cv, .string k, .slice (some ⟨z, 0, none⟩) 1 1, .slice a1 m.length cap1] w7 from
    ⟨box_upd K6.out U7.out (by have := HZ5.out; omega) (by have := HZ5.out; have := HGG.out; omega), fun i u hu => by
      match i, hu with
      | 0, hu => simp at hu; subst hu; exact Y7.out.get 0 (by omega)
      | 1, hu => simp at hu; subst hu; exact Y7.out.get 1 (by omega)
      | 2, hu => simp at hu; subst hu; exact Y7.out.get 2 (by omega)
      | 3, hu => simp at hu; subst hu; exact Y7.out.get 3 (by omega)
      | 4, hu => simp at hu; subst hu; exact Y7.out.get 4 (by omega)
      | 5, hu => simp at hu; subst hu; exact Y7.out.get 5 (by omega)
      | j + 6, hu => simp at hu, Y7.out.lt⟩)
  have HS7 := Lib.hid (show SigsAt w7 (.slice (some ⟨z, 0, none⟩) 1 1) [(f, ts)] from
    sigs_one ((World.cell?_of_block (w := w6) (a := ⟨z, 0, none⟩) (U7.out.block z (by have := HZZ.out; omega))).trans (X6.out.cell 0 _ rfl)) ((World.cell?_of_block (w := w6) (a := ⟨z, 1, none⟩) (U7.out.block z (by have := HZZ.out; omega))).trans (X6.out.cell 1 _ rfl)) (HTS.out.1.later K7.out.a.below))
  have HB7 := Lib.hid (fun wx (hb : Below w7.heap.size w7 wx) => And.intro (K7.out.a.below.trans (hb.mono K7.out.a.below.size)) (HS7.out.later hb))
  clear K5 K6 Y6 Y7 X6 U7 E6 HY5 HS7 HZZ HZ5
  obtain ⟨D, hD⟩ : ∃ D, digD v p cv k m = D := ⟨_, rfl⟩
  obtain ⟨F, hF⟩ : ∃ F, firstD = F := ⟨_, rfl⟩
  have CD := Lib.hid (fun wx (hb : Below w7.heap.size w7 wx) => hD ▸ bdigest_any v p cv k _ _ l m wx (HV.out.later (HB7.out wx hb).1) (HR.out.later (HB7.out wx hb).1) HSB.out.1 HSB.out.2.1 HSB.out.2.2.1 (tabs_on HT.out (HB7.out wx hb).1))
  have CR := Lib.hid (fun wx (hb : Below w7.heap.size w7 wx) => hD ▸ rbdigest_any v p cv k _ _ l m wx (HV.out.later (HB7.out wx hb).1) (HR.out.later (HB7.out wx hb).1) HSB.out.1 HSB.out.2.1 HSB.out.2.2.1)
  have CC' := Lib.hid (fun wx (hb : Below w7.heap.size w7 wx) => hD ▸ bdigest_any v p cv k _ _ [(f, ts)] m wx (HB7.out wx hb).2 (HR.out.later (HB7.out wx hb).1) HSB.out.1 (few_one HG.out) HSB.out.2.2.1 (tabs_on HT.out (HB7.out wx hb).1))
  have CF := Lib.hid (fun wx (hb : Below w7.heap.size w7 wx) => hF ▸ bfirst_any wx (tabs_on HT.out (HB7.out wx hb).1))
  have CG := Lib.hid (fun wx => hF ▸ rfirst_any wx)
  clear hD hF HB7
  refine plan_abs (fun wx => BS w g [.int .i64 v, .int .i64 p, .int .i64 cv, .string k, .slice a0 l.length cap, .slice a1 m.length cap1] y [.int .i64 v, .int .i64 p, .int .i64 cv, .string k, .slice (some ⟨z, 0, none⟩) 1 1, .slice a1 m.length cap1] wx) [(true, 0), (true, 2), (false, 1), (false, 3), (true, 4), (true, 5), (true, 6), (true, 8), (false, 7), (false, 9), (true, 10), (true, 11), (true, 12), (true, 13), (true, 15), (true, 16), (true, 17), (false, 14), (true, 18), (true, 19), (true, 20), (false, 21), (false, 22), (true, 23), (true, 24), (true, 25)] (by kernel_rfl) (by kernel_rfl) (fun _ _ d _ _ h => by cases d <;> exact h) fun w8 hs8 => ⟨K7.out.same hs8, ?_⟩
  have K8 := Lib.hid (K7.out.same hs8)
  have L8 := Lib.hid (hs8.below w7.heap.size)
  clear hs8
  iterate 2 (refine pl_run _ ?_ rfl rfl ?_ ?_; rotate_left; (focus (intro w' hS; obtain ⟨⟨q0, q1, q2, q3, q4, q5⟩, y0, y1, y2, y3, y4, y5⟩ := cells6 hS; go_simp; exact rfl)); simp only [Act.put, List.setIfInBounds_toArray, List.set_cons_zero, List.set_cons_succ, List.getElem_toArray, List.getElem_cons_zero, List.getElem_cons_succ])
  refine pl_call1 _ rfl rfl (by go_simp) (CD.out w8 L8.out) (fun w' hb => K8.out.on hb) fun w9 hb9 => ?_
  have K9 := Lib.hid (K8.out.on hb9)
  have L9 := Lib.hid (L8.out.trans (hb9.mono L8.out.size))
  clear hb9
  simp only [Act.put, List.setIfInBounds_toArray, List.set_cons_zero, List.set_cons_succ, List.getElem_toArray, List.getElem_cons_zero, List.getElem_cons_succ]
  refine pl_call1 _ rfl rfl (by go_simp) (CR.out w9 L9.out) (fun w' hb => K9.out.on hb) fun w10 hb10 => ?_
  have K10 := Lib.hid (K9.out.on hb10)
  have L10 := Lib.hid (L9.out.trans (hb10.mono L9.out.size))
  clear hb10
  simp only [Act.put, List.setIfInBounds_toArray, List.set_cons_zero, List.set_cons_succ, List.getElem_toArray, List.getElem_cons_zero, List.getElem_cons_succ]
  iterate 4 (refine pl_run _ ?_ rfl rfl ?_ ?_; rotate_left; (focus (intro w' hS; obtain ⟨⟨q0, q1, q2, q3, q4, q5⟩, y0, y1, y2, y3, y4, y5⟩ := cells6 hS; go_simp; exact rfl)); simp only [Act.put, List.setIfInBounds_toArray, List.set_cons_zero, List.set_cons_succ, List.getElem_toArray, List.getElem_cons_zero, List.getElem_cons_succ])
  refine pl_call1 _ rfl rfl (by go_simp) (CC'.out w10 L10.out) (fun w' hb => K10.out.on hb) fun w11 hb11 => ?_
  have K11 := Lib.hid (K10.out.on hb11)
  have L11 := Lib.hid (L10.out.trans (hb11.mono L10.out.size))
  clear hb11
  simp only [Act.put, List.setIfInBounds_toArray, List.set_cons_zero, List.set_cons_succ, List.getElem_toArray, List.getElem_cons_zero, List.getElem_cons_succ]
  refine pl_call1 _ rfl rfl (by go_simp) (CD.out w11 L11.out) (fun w' hb => K11.out.on hb) fun w12 hb12 => ?_
  have K12 := Lib.hid (K11.out.on hb12)
  have L12 := Lib.hid (L11.out.trans (hb12.mono L11.out.size))
  clear hb12
  simp only [Act.put, List.setIfInBounds_toArray, List.set_cons_zero, List.set_cons_succ, List.getElem_toArray, List.getElem_cons_zero, List.getElem_cons_succ]
  iterate 7 (refine pl_run _ ?_ rfl rfl ?_ ?_; rotate_left; (focus (intro w' hS; obtain ⟨⟨q0, q1, q2, q3, q4, q5⟩, y0, y1, y2, y3, y4, y5⟩ := cells6 hS; go_simp; exact rfl)); simp only [Act.put, List.setIfInBounds_toArray, List.set_cons_zero, List.set_cons_succ, List.getElem_toArray, List.getElem_cons_zero, List.getElem_cons_succ])
  refine pl_call1 _ rfl rfl (by go_simp) (parent_any v p cv k a0 a1 l.length cap m.length cap1 w12) (fun w' hb => K12.out.on hb) fun w13 hb13 => ?_
  have K13 := Lib.hid (K12.out.on hb13)
  have L13 := Lib.hid (L12.out.trans (hb13.mono L12.out.size))
  clear hb13
  simp only [Act.put, List.setIfInBounds_toArray, List.set_cons_zero, List.set_cons_succ, List.getElem_toArray, List.getElem_cons_zero, List.getElem_cons_succ]
  iterate 3 (refine pl_run _ ?_ rfl rfl ?_ ?_; rotate_left; (focus (intro w' hS; obtain ⟨⟨q0, q1, q2, q3, q4, q5⟩, y0, y1, y2, y3, y4, y5⟩ := cells6 hS; go_simp; exact rfl)); simp only [Act.put, List.setIfInBounds_toArray, List.set_cons_zero, List.set_cons_succ, List.getElem_toArray, List.getElem_cons_zero, List.getElem_cons_succ])
  refine pl_call1 _ rfl rfl (by go_simp) (CF.out w13 L13.out) (fun w' hb => K13.out.on hb) fun w14 hb14 => ?_
  have K14 := Lib.hid (K13.out.on hb14)
  clear hb14
  simp only [Act.put, List.setIfInBounds_toArray, List.set_cons_zero, List.set_cons_succ, List.getElem_toArray, List.getElem_cons_zero, List.getElem_cons_succ]
  refine pl_call1 _ rfl rfl (by go_simp) (CG.out w14) (fun w' hb => K14.out.on hb) fun w15 hb15 => ?_
  have K15 := Lib.hid (K14.out.on hb15)
  clear hb15
  simp only [Act.put, List.setIfInBounds_toArray, List.set_cons_zero, List.set_cons_succ, List.getElem_toArray, List.getElem_cons_zero, List.getElem_cons_succ]
  iterate 3 (refine pl_run _ ?_ rfl rfl ?_ ?_; rotate_left; (focus (intro w' hS; obtain ⟨⟨q0, q1, q2, q3, q4, q5⟩, y0, y1, y2, y3, y4, y5⟩ := cells6 hS; go_simp; exact rfl)); simp only [Act.put, List.setIfInBounds_toArray, List.set_cons_zero, List.set_cons_succ, List.getElem_toArray, List.getElem_cons_zero, List.getElem_cons_succ])
  refine pl_end ?_
  go_wp2_with fail
  go_ret
  exact ⟨rfl, K15.out.a.below⟩
theorem lawd_card (v p cv : Int) (k : ByteArray) (sv rv : Value) (l : List (Int × List ByteArray)) (m : List Rq) (f : Int) (tv : Value) (ts : List ByteArray) (w : World) (hv : SigsAt w sv l) (hr : ReqsAt w rv m) (hn : MemS l) (hk : k.size ≤ 9223372036854775807) (hm : m.length ≤ 9223372036854775807) (ht : StrsAt w tv ts) (hts : ts.length ≤ 9223372036854775807) (hT : Tabs w) :
    Calls Tryz.prog 3 #[.agg #[.int .i64 v, .int .i64 p, .int .i64 cv, .string k, sv, rv], .agg #[.int .i64 f, tv]] w fun e w' => e = .returned (.bool true) ∧ Below w.heap.size w w' := by
  rcases h1 : fewBlock k l m with _ | _
  · exact lawd_big v p cv k sv rv l m f tv ts w hv hr hn hk hm ht hts (Or.inl h1) hT
  · rcases h2 : fewSig ts with _ | _
    · exact lawd_big v p cv k sv rv l m f tv ts w hv hr hn hk hm ht hts (Or.inr ⟨h1, h2⟩) hT
    · exact lawd_in v p cv k sv rv l m f tv ts w hv hr hn hk hm ht hts h1 h2 hT
end Go.Proofs.YtagbkocpjjdppaaGreatDoor
end
section
open Go Go.RowKit
namespace JJ
open MM WW BB CC
/-- the votes of the j first nodes -/
def votesJ (s : ByteArray) (n : Nat) (t : ByteArray) (j : Nat) : List (Int × List ByteArray) := (List.range j).map (voteB s n t)
theorem votesJ_len (s : ByteArray) (n : Nat) (t : ByteArray) (j : Nat) : (votesJ s n t j).length = j := by unfold votesJ; simp
theorem votesJ_succ (s : ByteArray) (n : Nat) (t : ByteArray) (j : Nat) : votesJ s n t (j + 1) = votesJ s n t j ++ [voteB s n t j] := by
  unfold votesJ; rw [List.range_succ, List.map_append]; rfl
theorem votesJ_mem {s : ByteArray} {n : Nat} {t : ByteArray} {j : Nat} {p : Int × List ByteArray} (h : p ∈ votesJ s n t j) : ∃ k, k < j ∧ p = voteB s n t k := by
  unfold votesJ at h
  obtain ⟨k, hk, rfl⟩ := List.mem_map.1 h
  exact ⟨k, List.mem_range.1 hk, rfl⟩
theorem votesJ_pair (s : ByteArray) (n : Nat) (t : ByteArray) (j : Nat) : (votesJ s n t j).Pairwise (fun p q => p.1 < q.1) := by
  unfold votesJ
  rw [List.pairwise_map]
  exact List.Pairwise.imp (fun {a b} h => by show (a : Int) < (b : Int); omega) List.pairwise_lt_range
theorem votesJ_right {s : ByteArray} {n : Nat} {t : ByteArray} {j : Nat} {v : Int} {K : ByteArray} (hj : j ≤ n) (hn : n ≤ 7) (hv : 0 ≤ v ∧ v ≤ 1000000) (hK : K.size = 32) : rightCert v K (votesJ s n t j) = true := by
  unfold rightCert
  rw [Bool.and_eq_true, okTo_iff]
  refine ⟨by simp [hv.1, hv.2, hK, votesJ_len]; omega, fun i hi => ?_, rises_of (votesJ_pair s n t j) _ (Nat.le_refl _)⟩
  obtain ⟨k, hk', he⟩ := votesJ_mem (show (votesJ s n t j).getD i (0, []) ∈ votesJ s n t j by rw [List.getD_eq_getElem?_getD, List.getElem?_eq_getElem hi]; exact List.getElem_mem hi)
  rw [he]
  unfold rightSig
  simp only [Bool.and_eq_true, decide_eq_true_eq, List.all_eq_true]
  refine ⟨fun x hx => tags_16 _ _ _ _ x (List.mem_of_mem_take hx), ⟨⟨?_, ?_⟩, ?_⟩⟩
  · show (0 : Int) ≤ (k : Int); omega
  · show (k : Int) < 7; omega
  · show (tagsTo s (k : Int) t n).length ≤ 7; rw [tags_len]; exact hn
theorem votesJ_good {s : ByteArray} {n j : Nat} {v : Int} {K : ByteArray} (hj : j ≤ n) (hn : 1 ≤ n ∧ n ≤ 7) (hv : 0 ≤ v ∧ v ≤ 1000000) (hK : K.size = 32) (i : Nat) (hi : i < n) :
    goodL s (i : Int) (n : Int) v K (votesJ s n (textB v K) j) = (votesJ s n (textB v K) j).map fun p => p.1 := by
  unfold goodL
  rw [if_pos (votesJ_right hj hn.2 hv hK)]
  unfold goodTo
  rw [List.take_length, List.filter_eq_self.2 fun p hp => ?_]
  obtain ⟨k, hk', rfl⟩ := votesJ_mem hp
  have hkn : k < n := by omega
  unfold holdsB
  have h1 : amongB (i : Int) (n : Int) = true := among_mk (by omega) (by omega) (by omega) (by omega)
  have h2 : amongB (voteB s n (textB v K) k).1 (n : Int) = true := among_mk (by omega) (by omega) (by show (0 : Int) ≤ (k : Int); omega) (by show (k : Int) < _; omega)
  have h3 : shapedB (voteB s n (textB v K) k).2 (n : Int) = true := by
    unfold shapedB
    rw [Bool.and_eq_true, decide_eq_true_eq, List.all_eq_true]
    refine ⟨by show ((tagsTo s (k : Int) (textB v K) n).length : Int) = _; rw [tags_len], fun x hx => ?_⟩
    have := tags_16 _ _ _ _ x hx
    simpa using this
  rw [h1, h2, h3, Bool.true_and, Bool.true_and, Bool.true_and, beq_iff_eq]
  show ((tagsTo s (k : Int) (textB v K) n).getD (i : Int).toNat ⟨#[]⟩).toList = _
  rw [Int.toNat_natCast, tags_get _ _ _ _ _ hi]
  rfl
theorem quorum_nat (n : Nat) (h : 1 ≤ n ∧ n ≤ 7) : quorumI (n : Int) = ((n - (n - 1) / 3 : Nat) : Int) := by
  obtain ⟨h1, h2⟩ := h
  have : n = 1 ∨ n = 2 ∨ n = 3 ∨ n = 4 ∨ n = 5 ∨ n = 6 ∨ n = 7 := by omega
  rcases this with rfl | rfl | rfl | rfl | rfl | rfl | rfl <;> decide
/-- a quorum's votes hold for each node -/
theorem votesJ_holds {s : ByteArray} {n : Nat} {v : Int} {K : ByteArray} (hn : 1 ≤ n ∧ n ≤ 7) (hv : 1 ≤ v ∧ v ≤ 1000000) (hK : K.size = 32) (i : Nat) (hi : i < n) :
    certHolds s (i : Int) (n : Int) v K (votesJ s n (textB v K) (n - (n - 1) / 3)) = true := by
  unfold certHolds
  rw [if_neg (by omega), votesJ_good (by omega) hn ⟨by omega, hv.2⟩ hK i hi, List.length_map, votesJ_len, decide_eq_true_eq, quorum_nat n hn]
  exact Int.le_refl _
theorem first_holds (s : ByteArray) (d n : Int) : certHolds s d n 0 firstD [] = true := by unfold certHolds; simp
theorem leader_in {v n : Int} (hn : 1 ≤ n ∧ n ≤ 7) : 0 ≤ leaderI v n ∧ leaderI v n ≤ 6 := by
  unfold leaderI
  split
  · omega
  · have := Int.emod_nonneg v (show n ≠ 0 by omega)
    have := Int.emod_lt_of_pos v (show 0 < n by omega)
    omega
/-- what stands on the first certificate is right -/
theorem first_right {v n : Int} {l : List Rq} (hv : 1 ≤ v ∧ v ≤ 1000000) (hn : 1 ≤ n ∧ n ≤ 7) (h : ∀ r ∈ l, rightR r.1 r.2.1 r.2.2) : rightBlock v (leaderI v n) 0 firstD [] (onceN 3 l) = true := by
  have hl := leader_in (v := v) hn
  have hc : rightCert 0 firstD [] = true := by unfold rightCert; simp [firstD_size, okTo]
  have h3 := onceN_len 3 l
  unfold rightBlock
  simp only [Bool.and_eq_true, decide_eq_true_eq, List.all_eq_true]
  exact ⟨⟨hv.1, hv.2, hl.1, hl.2, hc, by omega, h3⟩, fun r hr => h r (onceN_mem 3 l r hr)⟩
/-- what stands on it, with votes -/
theorem next_right {v v2 : Int} {n : Nat} {K s t : ByteArray} {j : Nat} (hv : 1 ≤ v) (h2 : v < v2 ∧ v2 ≤ 1000000) (hn : 1 ≤ n ∧ n ≤ 7) (hj : j ≤ n) (hK : K.size = 32) : rightBlock v2 (leaderI v2 (n : Int)) v K (votesJ s n t j) (onceN 3 []) = true := by
  have hl := leader_in (v := v2) (n := (n : Int)) ⟨by omega, by omega⟩
  have hc : rightCert v K (votesJ s n t j) = true := votesJ_right hj hn.2 ⟨by omega, by omega⟩ hK
  unfold rightBlock
  simp only [Bool.and_eq_true, decide_eq_true_eq, List.all_eq_true]
  exact ⟨⟨by omega, by omega, hl.1, hl.2, hc, h2.1, by simp [onceN]⟩, fun r hr => by simp [onceN] at hr⟩
end JJ
end
