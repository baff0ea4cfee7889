/-
  Regions that draw their order: reads, then two calls of function values one behind the other, then operations that touch no memory; or one call that is guarded. No program is named here.
-/
import Derived.Test.YtacnbpmoceocbaaKWWholeB
import Derived.Deep.RegionHeld3
import Derived.Test.YtacnbpmoceocbaaKWOne
import Derived.Test.YtacnbpmoceocbaaKHeld
import Derived.Test.YtacnbpmoceocbaaKWReqCut
import Derived.OrdersHeld
section
open Go Go.RowKit
namespace WW
open BB
theorem few_flat {k : ByteArray} {l : List (Int × List ByteArray)} {m : List (Int × Int × ByteArray)} (h : fewBlock k l m = true) : (flat (sigsB l)).length ≤ 3080 ∧ (flat (reqsB m)).length ≤ 432 := by
  unfold fewBlock at h
  rw [Bool.and_eq_true, Bool.and_eq_true] at h
  obtain ⟨h1, h2, h3⟩ := h
  unfold fewCert at h3
  simp only [Bool.and_eq_true, decide_eq_true_eq, List.all_eq_true] at h1 h2 h3
  obtain ⟨h4, h5, h6⟩ := h3
  rw [List.take_of_length_le (by omega)] at h1 h4
  constructor
  · have := flat_le 308 (sigsB l) (fun x hx => by
      unfold sigsB at hx
      obtain ⟨p, hp, rfl⟩ := List.mem_map.1 hx
      have h4 := fewsig_flat p.2 (h4 p hp)
      show (num p.1 ++ listB p.2).size ≤ 308
      rw [ByteArray.size_append, flat_size, num_size]
      omega)
    have e : (sigsB l).length = l.length := by unfold sigsB; rw [List.length_map]
    omega
  · have := flat_le 72 (reqsB m) (fun x hx => by
      unfold reqsB at hx
      obtain ⟨p, hp, rfl⟩ := List.mem_map.1 hx
      have h4 := h1 p hp
      rw [reqB_size]; omega)
    have e : (reqsB m).length = m.length := by unfold reqsB; rw [List.length_map]
    omega
theorem blockRd_some {b r : ByteArray} {d : BlockD} (h : blockI b = some (r, d)) (h0 : r.size = 0) : blockRd b = some d := by unfold blockRd; rw [h]; exact if_pos h0
theorem blockRd_put {c : BlockD} (h : blockOk c) : blockRd (blockD c) = some c := by
  have := codec_block.put c ⟨#[]⟩ h
  rw [ba_nil] at this
  exact blockRd_some this rfl
theorem blockRd_sound {b : ByteArray} {c : BlockD} (h : blockRd b = some c) : b = blockD c ∧ blockOk c := by
  unfold blockRd at h
  rcases h1 : blockI b with _ | ⟨r, d⟩
  · rw [h1] at h; cases h
  rw [h1] at h
  dsimp only at h
  split at h
  · rename_i h0
    injection h with h
    subst h
    obtain ⟨e1, e2⟩ := codec_block.sound _ _ _ h1
    exact ⟨by rw [e1, nil_size r h0, ba_nil], e2⟩
  · cases h
theorem right_smallB {v p cv : Int} {k : ByteArray} {l : List (Int × List ByteArray)} {m : List (Int × Int × ByteArray)} (h : rightBlock v p cv k l m = true) : SmallS l ∧ SmallR m ∧ k.size = 32 ∧ MemS l ∧ m.length ≤ 3 := by
  unfold rightBlock at h
  simp only [Bool.and_eq_true, decide_eq_true_eq, List.all_eq_true] at h
  obtain ⟨⟨_, _, _, _, h5, _, h7⟩, h8⟩ := h
  obtain ⟨a1, a2, a3, a4⟩ := right_small h5
  refine ⟨a1, ⟨by omega, ?_, fun i hi => ?_⟩, a2, a4, h7⟩
  · have := flat_le 72 (reqsB m) (fun x hx => by
      unfold reqsB at hx
      obtain ⟨p, hp, rfl⟩ := List.mem_map.1 hx
      have h4 := (h8 p hp).2.2.2.2
      rw [reqB_size]; omega)
    have e : (reqsB m).length = m.length := by unfold reqsB; rw [List.length_map]
    omega
  · have := (h8 _ (show m.getD i (0, 0, ⟨#[]⟩) ∈ m by rw [List.getD_eq_getElem?_getD, List.getElem?_eq_getElem hi]; exact List.getElem_mem hi)).2.2.2.2
    omega
theorem two6_on {w w5 w1 w2 : World} {g y : Nat} {v0 v1 v2 v3 v4 v5 : Value} {cs : List Value} (h : w1.cell? ⟨g, 0, none⟩ = some v0 ∧ w1.cell? ⟨g, 1, none⟩ = some v1 ∧ w1.cell? ⟨g, 2, none⟩ = some v2 ∧ w1.cell? ⟨g, 3, none⟩ = some v3 ∧ w1.cell? ⟨g, 4, none⟩ = some v4 ∧ w1.cell? ⟨g, 5, none⟩ = some v5 ∧ BoxAt w g [v0, v1, v2, v3, v4, v5] w1 ∧ BoxAt w5 y cs w1) (hb : Below w1.heap.size w1 w2) :
    w2.cell? ⟨g, 0, none⟩ = some v0 ∧ w2.cell? ⟨g, 1, none⟩ = some v1 ∧ w2.cell? ⟨g, 2, none⟩ = some v2 ∧ w2.cell? ⟨g, 3, none⟩ = some v3 ∧ w2.cell? ⟨g, 4, none⟩ = some v4 ∧ w2.cell? ⟨g, 5, none⟩ = some v5 ∧ BoxAt w g [v0, v1, v2, v3, v4, v5] w2 ∧ BoxAt w5 y cs w2 :=
  have k := h.2.2.2.2.2.2.1.on hb
  ⟨k.cell 0 _ rfl, k.cell 1 _ rfl, k.cell 2 _ rfl, k.cell 3 _ rfl, k.cell 4 _ rfl, k.cell 5 _ rfl, k, h.2.2.2.2.2.2.2.on hb⟩
end WW
namespace Go.Proofs.Ytacnbpmoceocbaa
open WW BB
theorem blockans_some {w w' : World} {d : BlockD} {e : Ending} (h : BlockAns w (some d) e w') : ∃ sv rv, e = .returned (.tuple #[.agg #[.int .i64 d.1.1.1, .int .i64 d.1.1.2, .int .i64 d.1.2.1.1, .string d.1.2.1.2, sv, rv], .int .i64 0]) ∧ SigsAt w' sv d.1.2.2 ∧ ReqsAt w' rv d.2 := by
  obtain ⟨f', lo, hi, rfl, _, _, hR⟩ := h
  obtain ⟨sv, rv, hf, hsv, hrv⟩ := blockR_cells hR
  refine ⟨sv, rv, ?_, hsv, hrv⟩
  rw [hf]; rfl
set_option maxRecDepth 100000 in
theorem zeroblock_zero (w : World) : Calls Try.prog 32 #[.agg #[.int .i64 0, .int .i64 0, .int .i64 0, .string ⟨#[]⟩, .slice none 0 0, .slice none 0 0]] w fun e w' => e = .returned (.bool true) ∧ Below w.heap.size w w' := by
  go_enter Try.func32, Try.ntmps32
  go_wp2_with fail
  have k := box_mk w [.int .i64 0, .int .i64 0, .int .i64 0, .string ⟨#[]⟩, .slice none 0 0, .slice none 0 0] 31
  have K := Lib.hid (show BoxAt w w.heap.size [.int .i64 0, .int .i64 0, .int .i64 0, .string ⟨#[]⟩, .slice none 0 0, .slice none 0 0] (w.alloc (.cells #[.int .i64 0, .int .i64 0, .int .i64 0, .string ⟨#[]⟩, .slice none 0 0, .slice none 0 0] 31)) from k)
  clear k
  generalize w.alloc (.cells #[.int .i64 0, .int .i64 0, .int .i64 0, .string ⟨#[]⟩, .slice none 0 0, .slice none 0 0] 31) = w0 at *
  refine (zerocert_zero _).mono ?_
  rintro e w1 ⟨rfl, hb1⟩
  have K := Lib.hid (K.out.on hb1)
  have c5 := K.out.cell 5 _ rfl
  clear hb1
  go_wp2_with fail
  go_ret
  exact ⟨rfl, K.out.below⟩
set_option maxRecDepth 100000 in
set_option maxHeartbeats 8000000 in
theorem blocks_many (v p cv : Int) (k : ByteArray) (sv rv : Value) (l : List (Int × List ByteArray)) (m : List (Int × Int × ByteArray)) (w : World) (hv : SigsAt w sv l) (hr : ReqsAt w rv m) (hn : MemS l) (hk : k.size ≤ 9223372036854775807) (hm : m.length ≤ 9223372036854775807) (h1 : fewBlock k l m = false) :
    Calls Try.prog 7 #[.agg #[.int .i64 v, .int .i64 p, .int .i64 cv, .string k, sv, rv]] w fun e w' => e = .returned (.bool true) ∧ Below w.heap.size w w' := by
  have HF := Lib.hid (fun wx (hb : Below w.heap.size w wx) => fewblock_any v p cv k sv rv l m wx (hv.later hb) (hr.later hb) hn hk hm)
  have HF := HF.out
  simp only [h1] at HF
  have HF := Lib.hid HF
  clear hn hk hm h1
  obtain ⟨a0, cap, rfl, _⟩ := hv
  obtain ⟨a1, cap1, rfl, _⟩ := hr
  go_enter Try.func7, Try.ntmps7
  go_wp2_with fail
  have K := Lib.hid (show BoxAt w w.heap.size [.int .i64 v, .int .i64 p, .int .i64 cv, .string k, .slice a0 l.length cap, .slice a1 m.length cap1] (w.alloc (.cells #[.int .i64 v, .int .i64 p, .int .i64 cv, .string k, .slice a0 l.length cap, .slice a1 m.length cap1] 31)) from box_mk w [.int .i64 v, .int .i64 p, .int .i64 cv, .string k, .slice a0 l.length cap, .slice a1 m.length cap1] 31)
  obtain ⟨g, hg⟩ : ∃ g, w.heap.size = g := ⟨_, rfl⟩
  rw [hg] at K ⊢
  have HG := Lib.hid hg
  clear hg
  generalize w.alloc (.cells #[.int .i64 v, .int .i64 p, .int .i64 cv, .string k, .slice a0 l.length cap, .slice a1 m.length cap1] 31) = w0 at *
  refine (awake2_any _).mono ?_
  rintro e wn ⟨rfl, hbn⟩
  have K := Lib.hid (K.out.on hbn)
  clear hbn
  have c0 := K.out.cell 0 _ rfl
  have c1 := K.out.cell 1 _ rfl
  have c2 := K.out.cell 2 _ rfl
  have c3 := K.out.cell 3 _ rfl
  have c4 := K.out.cell 4 _ rfl
  have c5 := K.out.cell 5 _ rfl
  go_wp2_with fail
  clear c0 c1 c2 c3 c4 c5
  refine (HF.out _ K.out.below).mono ?_
  rintro e wn ⟨rfl, hbn⟩
  have K := Lib.hid (K.out.on hbn)
  clear hbn
  go_wp2_with fail
  refine (awake2_any _).mono ?_
  rintro e wn ⟨rfl, hbn⟩
  have K := Lib.hid (K.out.on hbn)
  clear hbn
  go_wp2_with fail
  go_ret
  exact ⟨rfl, by rw [HG.out]; exact HG.out ▸ K.out.below⟩
set_option maxRecDepth 100000 in
set_option maxHeartbeats 8000000 in
theorem blocks_right (v p cv : Int) (k : ByteArray) (sv rv : Value) (l : List (Int × List ByteArray)) (m : List (Int × Int × ByteArray)) (w : World) (hv : SigsAt w sv l) (hr : ReqsAt w rv m) (hn : MemS l) (hk : k.size ≤ 9223372036854775807) (hm : m.length ≤ 9223372036854775807) (h1 : fewBlock k l m = true) (h2 : rightBlock v p cv k l m = true) :
    Calls Try.prog 7 #[.agg #[.int .i64 v, .int .i64 p, .int .i64 cv, .string k, sv, rv]] w fun e w' => e = .returned (.bool true) ∧ Below w.heap.size w w' := by
  have HF := Lib.hid (fun wx (hb : Below w.heap.size w wx) => fewblock_any v p cv k sv rv l m wx (hv.later hb) (hr.later hb) hn hk hm)
  have HF := HF.out
  simp only [h1] at HF
  have HF := Lib.hid HF
  have HC := Lib.hid (fun wx (hb : Below w.heap.size w wx) => block_any v p cv k sv rv l m wx (hv.later hb) (hr.later hb) (by have := (few_block h1).2.2.1; omega) (few_block h1).1 (few_block h1).2.1)
  have HR := Lib.hid (fun wx (hb : Below w.heap.size w wx) => rblock_any v p cv k sv rv l m wx (hv.later hb) (hr.later hb) (by have := (few_block h1).2.2.1; omega) (few_block h1).1 (few_block h1).2.1)
  have HO := Lib.hid (fun wx (hb : Below w.heap.size w wx) => core_any v p cv k sv rv l m wx (hv.later hb) (hr.later hb) (by have := (few_block h1).2.2.1; omega) (few_block h1).1 (few_block h1).2.1)
  have HQ := Lib.hid (fun wx (hb : Below w.heap.size w wx) => rcore_any v p cv k sv rv l m wx (hv.later hb) (hr.later hb) (by have := (few_block h1).2.2.1; omega) (few_block h1).1 (few_block h1).2.1)
  have HI := Lib.hid (fun wx (hb : Below w.heap.size w wx) => rightblock_any v p cv k sv rv l m wx (hv.later hb) (hr.later hb) hn)
  have hbz : (blockB v p cv k l m).size ≤ 1000000 := by
    unfold blockB
    rw [ByteArray.size_append, ByteArray.size_append, ByteArray.size_append, num_size, num_size, certB_size, flat_size]
    have := (few_block h1).2.2.1; have := (few_flat h1).1; have := (few_flat h1).2; omega
  have HRD := Lib.hid (fun wx => read_block (blockB v p cv k l m) hbz wx)
  have HI := HI.out
  simp only [h2] at HI
  have HI := Lib.hid HI
  have HRD := HRD.out
  rw [show blockRd (blockB v p cv k l m) = some (((v, p), ((cv, k), l)), m) from blockRd_put (c := (((v, p), ((cv, k), l)), m)) h2] at HRD
  have HRD := Lib.hid HRD
  have H2 := Lib.hid h2
  clear hn hk hm h1 h2 hbz
  obtain ⟨a0, cap, rfl, _⟩ := hv
  obtain ⟨a1, cap1, rfl, _⟩ := hr
  go_enter Try.func7, Try.ntmps7
  go_wp2_with fail
  have K := Lib.hid (show BoxAt w w.heap.size [.int .i64 v, .int .i64 p, .int .i64 cv, .string k, .slice a0 l.length cap, .slice a1 m.length cap1] (w.alloc (.cells #[.int .i64 v, .int .i64 p, .int .i64 cv, .string k, .slice a0 l.length cap, .slice a1 m.length cap1] 31)) from box_mk w [.int .i64 v, .int .i64 p, .int .i64 cv, .string k, .slice a0 l.length cap, .slice a1 m.length cap1] 31)
  obtain ⟨g, hg⟩ : ∃ g, w.heap.size = g := ⟨_, rfl⟩
  rw [hg] at K ⊢
  have HG := Lib.hid hg
  clear hg
  generalize w.alloc (.cells #[.int .i64 v, .int .i64 p, .int .i64 cv, .string k, .slice a0 l.length cap, .slice a1 m.length cap1] 31) = w0 at *
  refine (awake2_any _).mono ?_
  rintro e wn ⟨rfl, hbn⟩
  have K := Lib.hid (K.out.on hbn)
  clear hbn
  have c0 := K.out.cell 0 _ rfl
  have c1 := K.out.cell 1 _ rfl
  have c2 := K.out.cell 2 _ rfl
  have c3 := K.out.cell 3 _ rfl
  have c4 := K.out.cell 4 _ rfl
  have c5 := K.out.cell 5 _ rfl
  go_wp2_with fail
  clear c0 c1 c2 c3 c4 c5
  refine (HF.out _ K.out.below).mono ?_
  rintro e wn ⟨rfl, hbn⟩
  have K := Lib.hid (K.out.on hbn)
  clear hbn
  have c0 := K.out.cell 0 _ rfl
  have c1 := K.out.cell 1 _ rfl
  have c2 := K.out.cell 2 _ rfl
  have c3 := K.out.cell 3 _ rfl
  have c4 := K.out.cell 4 _ rfl
  have c5 := K.out.cell 5 _ rfl
  go_wp2_with fail
  clear c0 c1 c2 c3 c4 c5
  refine (HC.out _ K.out.below).mono ?_
  rintro e wn ⟨rfl, hbn⟩
  have K := Lib.hid (K.out.on hbn)
  clear hbn
  obtain ⟨B, hB⟩ : ∃ B, blockB v p cv k l m = B := ⟨_, rfl⟩
  have HRD := HRD.out
  have HR := HR.out
  rw [hB] at HRD HR ⊢
  have HBE := Lib.hid hB
  clear hB
  have HRD := Lib.hid HRD
  have HR := Lib.hid HR
  obtain ⟨C, hC⟩ : ∃ C, coreB v p cv k m = C := ⟨_, rfl⟩
  have HO := HO.out
  have HQ := HQ.out
  rw [hC] at HO HQ
  have HO := Lib.hid HO
  have HQ := Lib.hid HQ
  clear hC
  go_wp2_with fail
  refine (HRD.out _).mono ?_
  rintro e w5 ⟨he, hb5⟩
  have K := Lib.hid (K.out.on hb5)
  clear hb5
  obtain ⟨xv, xr, rfl, hx, hxr⟩ := blockans_some he
  have HXC := Lib.hid (fun wx (hb : Below w5.heap.size w5 wx) => rblock_any v p cv k xv xr l m wx (hx.later hb) (hxr.later hb) (by have := (right_smallB H2.out).2.2.1; omega) (right_smallB H2.out).1 (right_smallB H2.out).2.1)
  have HXC := HXC.out
  rw [HBE.out] at HXC
  have HXC := Lib.hid HXC
  clear he
  dsimp only at *
  obtain ⟨xa, xcap, rfl, _⟩ := hx
  obtain ⟨ya, ycap, rfl, _⟩ := hxr
  have KA := Lib.hid (K.out.on ((Below.refl _ _).alloc (Nat.le_refl _) (.cells #[.int .i64 v, .int .i64 p, .int .i64 cv, .string k, .slice xa l.length xcap, .slice ya m.length ycap] 31)))
  have Y := Lib.hid (show BoxAt w5 w5.heap.size [.int .i64 v, .int .i64 p, .int .i64 cv, .string k, .slice xa l.length xcap, .slice ya m.length ycap] (w5.alloc (.cells #[.int .i64 v, .int .i64 p, .int .i64 cv, .string k, .slice xa l.length xcap, .slice ya m.length ycap] 31)) from box_mk w5 [.int .i64 v, .int .i64 p, .int .i64 cv, .string k, .slice xa l.length xcap, .slice ya m.length ycap] 31)
  have c0 := KA.out.cell 0 _ rfl
  have c1 := KA.out.cell 1 _ rfl
  have c2 := KA.out.cell 2 _ rfl
  have c3 := KA.out.cell 3 _ rfl
  have c4 := KA.out.cell 4 _ rfl
  have c5 := KA.out.cell 5 _ rfl
  go_wp2_with fail
  clear c0 c1 c2 c3 c4 c5
  generalize w5.alloc (.cells #[.int .i64 v, .int .i64 p, .int .i64 cv, .string k, .slice xa l.length xcap, .slice ya m.length ycap] 31) = w6 at *
  obtain ⟨y, hy⟩ : ∃ y, w5.heap.size = y := ⟨_, rfl⟩
  have HY := Lib.hid hy
  rw [hy] at Y ⊢
  clear hy
  have hk : w6.drew.cell? ⟨g, 0, none⟩ = some (.int .i64 v) ∧ w6.drew.cell? ⟨g, 1, none⟩ = some (.int .i64 p) ∧ w6.drew.cell? ⟨g, 2, none⟩ = some (.int .i64 cv) ∧ w6.drew.cell? ⟨g, 3, none⟩ = some (.string k) ∧ w6.drew.cell? ⟨g, 4, none⟩ = some (.slice a0 l.length cap) ∧ w6.drew.cell? ⟨g, 5, none⟩ = some (.slice a1 m.length cap1) ∧ BoxAt w g [.int .i64 v, .int .i64 p, .int .i64 cv, .string k, .slice a0 l.length cap, .slice a1 m.length cap1] w6.drew ∧ BoxAt w5 y [.int .i64 v, .int .i64 p, .int .i64 cv, .string k, .slice xa l.length xcap, .slice ya m.length ycap] w6.drew := by
    have a := KA.out.on (Below.refl w6.heap.size w6).drew
    have b := Y.out.on (Below.refl w6.heap.size w6).drew
    exact ⟨a.cell 0 _ rfl, a.cell 1 _ rfl, a.cell 2 _ rfl, a.cell 3 _ rfl, a.cell 4 _ rfl, a.cell 5 _ rfl, a, b⟩
  go_region_held3 (fun w' => w'.cell? ⟨g, 0, none⟩ = some (.int .i64 v) ∧ w'.cell? ⟨g, 1, none⟩ = some (.int .i64 p) ∧ w'.cell? ⟨g, 2, none⟩ = some (.int .i64 cv) ∧ w'.cell? ⟨g, 3, none⟩ = some (.string k) ∧ w'.cell? ⟨g, 4, none⟩ = some (.slice a0 l.length cap) ∧ w'.cell? ⟨g, 5, none⟩ = some (.slice a1 m.length cap1) ∧ BoxAt w g [.int .i64 v, .int .i64 p, .int .i64 cv, .string k, .slice a0 l.length cap, .slice a1 m.length cap1] w' ∧ BoxAt w5 y [.int .i64 v, .int .i64 p, .int .i64 cv, .string k, .slice xa l.length xcap, .slice ya m.length ycap] w')
    (first | exact hk)
    (first
      | (go_at_call 29; refine (HR.out _ hk.2.2.2.2.2.2.1.below).mono ?_; rintro e wn ⟨rfl, hbn⟩; have hk := two6_on hk hbn)
      | (go_at_call 30; refine (HO.out _ hk.2.2.2.2.2.2.1.below).mono ?_; rintro e wn ⟨rfl, hbn⟩; have hk := two6_on hk hbn)
      | (go_at_call 31; refine (HQ.out _ hk.2.2.2.2.2.2.1.below).mono ?_; rintro e wn ⟨rfl, hbn⟩; have hk := two6_on hk hbn))
  have KA := Lib.hid hk.2.2.2.2.2.2.1
  have Y := Lib.hid hk.2.2.2.2.2.2.2
  clear hk
  have c0 := KA.out.cell 0 _ rfl
  have c1 := KA.out.cell 1 _ rfl
  have c2 := KA.out.cell 2 _ rfl
  have c3 := KA.out.cell 3 _ rfl
  have c4 := KA.out.cell 4 _ rfl
  have c5 := KA.out.cell 5 _ rfl
  have d0 := Y.out.cell 0 _ rfl
  have d1 := Y.out.cell 1 _ rfl
  have d2 := Y.out.cell 2 _ rfl
  have d3 := Y.out.cell 3 _ rfl
  have d4 := Y.out.cell 4 _ rfl
  have d5 := Y.out.cell 5 _ rfl
  go_wp2_with fail
  clear c0 c1 c2 c3 c4 c5
  clear d0 d1 d2 d3 d4 d5
  refine (HI.out _ KA.out.below).mono ?_
  rintro e wn ⟨rfl, hbn⟩
  have KA := Lib.hid (KA.out.on hbn)
  have Y := Lib.hid (Y.out.on hbn)
  clear hbn
  have c0 := KA.out.cell 0 _ rfl
  have c1 := KA.out.cell 1 _ rfl
  have c2 := KA.out.cell 2 _ rfl
  have c3 := KA.out.cell 3 _ rfl
  have c4 := KA.out.cell 4 _ rfl
  have c5 := KA.out.cell 5 _ rfl
  have d0 := Y.out.cell 0 _ rfl
  have d1 := Y.out.cell 1 _ rfl
  have d2 := Y.out.cell 2 _ rfl
  have d3 := Y.out.cell 3 _ rfl
  have d4 := Y.out.cell 4 _ rfl
  have d5 := Y.out.cell 5 _ rfl
  go_wp2_with fail
  clear c0 c1 c2 c3 c4 c5
  clear d0 d1 d2 d3 d4 d5
  refine (HXC.out _ Y.out.below).mono ?_
  rintro e wn ⟨rfl, hbn⟩
  have KA := Lib.hid (KA.out.on hbn)
  have Y := Lib.hid (Y.out.on hbn)
  clear hbn
  have c0 := KA.out.cell 0 _ rfl
  have c1 := KA.out.cell 1 _ rfl
  have c2 := KA.out.cell 2 _ rfl
  have c3 := KA.out.cell 3 _ rfl
  have c4 := KA.out.cell 4 _ rfl
  have c5 := KA.out.cell 5 _ rfl
  have d0 := Y.out.cell 0 _ rfl
  have d1 := Y.out.cell 1 _ rfl
  have d2 := Y.out.cell 2 _ rfl
  have d3 := Y.out.cell 3 _ rfl
  have d4 := Y.out.cell 4 _ rfl
  have d5 := Y.out.cell 5 _ rfl
  go_wp2_with fail
  go_ret
  exact ⟨rfl, by rw [HG.out]; exact HG.out ▸ KA.out.below⟩
set_option maxRecDepth 100000 in
set_option maxHeartbeats 8000000 in
theorem blocks_form (v p cv : Int) (k : ByteArray) (sv rv : Value) (l : List (Int × List ByteArray)) (m : List (Int × Int × ByteArray)) (w : World) (hv : SigsAt w sv l) (hr : ReqsAt w rv m) (hn : MemS l) (hk : k.size ≤ 9223372036854775807) (hm : m.length ≤ 9223372036854775807) (h1 : fewBlock k l m = true) (h2 : rightBlock v p cv k l m = false) (h3 : blockRd (blockB v p cv k l m) = none) :
    Calls Try.prog 7 #[.agg #[.int .i64 v, .int .i64 p, .int .i64 cv, .string k, sv, rv]] w fun e w' => e = .returned (.bool true) ∧ Below w.heap.size w w' := by
  have HF := Lib.hid (fun wx (hb : Below w.heap.size w wx) => fewblock_any v p cv k sv rv l m wx (hv.later hb) (hr.later hb) hn hk hm)
  have HF := HF.out
  simp only [h1] at HF
  have HF := Lib.hid HF
  have HC := Lib.hid (fun wx (hb : Below w.heap.size w wx) => block_any v p cv k sv rv l m wx (hv.later hb) (hr.later hb) (by have := (few_block h1).2.2.1; omega) (few_block h1).1 (few_block h1).2.1)
  have HR := Lib.hid (fun wx (hb : Below w.heap.size w wx) => rblock_any v p cv k sv rv l m wx (hv.later hb) (hr.later hb) (by have := (few_block h1).2.2.1; omega) (few_block h1).1 (few_block h1).2.1)
  have HO := Lib.hid (fun wx (hb : Below w.heap.size w wx) => core_any v p cv k sv rv l m wx (hv.later hb) (hr.later hb) (by have := (few_block h1).2.2.1; omega) (few_block h1).1 (few_block h1).2.1)
  have HQ := Lib.hid (fun wx (hb : Below w.heap.size w wx) => rcore_any v p cv k sv rv l m wx (hv.later hb) (hr.later hb) (by have := (few_block h1).2.2.1; omega) (few_block h1).1 (few_block h1).2.1)
  have HI := Lib.hid (fun wx (hb : Below w.heap.size w wx) => rightblock_any v p cv k sv rv l m wx (hv.later hb) (hr.later hb) hn)
  have hbz : (blockB v p cv k l m).size ≤ 1000000 := by
    unfold blockB
    rw [ByteArray.size_append, ByteArray.size_append, ByteArray.size_append, num_size, num_size, certB_size, flat_size]
    have := (few_block h1).2.2.1; have := (few_flat h1).1; have := (few_flat h1).2; omega
  have HRD := Lib.hid (fun wx => read_block (blockB v p cv k l m) hbz wx)
  have HI := HI.out
  simp only [h2] at HI
  have HI := Lib.hid HI
  have HRD := HRD.out
  rw [h3] at HRD
  have HRD := Lib.hid HRD
  clear hn hk hm h1 h2 h3 hbz
  obtain ⟨a0, cap, rfl, _⟩ := hv
  obtain ⟨a1, cap1, rfl, _⟩ := hr
  go_enter Try.func7, Try.ntmps7
  go_wp2_with fail
  have K := Lib.hid (show BoxAt w w.heap.size [.int .i64 v, .int .i64 p, .int .i64 cv, .string k, .slice a0 l.length cap, .slice a1 m.length cap1] (w.alloc (.cells #[.int .i64 v, .int .i64 p, .int .i64 cv, .string k, .slice a0 l.length cap, .slice a1 m.length cap1] 31)) from box_mk w [.int .i64 v, .int .i64 p, .int .i64 cv, .string k, .slice a0 l.length cap, .slice a1 m.length cap1] 31)
  obtain ⟨g, hg⟩ : ∃ g, w.heap.size = g := ⟨_, rfl⟩
  rw [hg] at K ⊢
  have HG := Lib.hid hg
  clear hg
  generalize w.alloc (.cells #[.int .i64 v, .int .i64 p, .int .i64 cv, .string k, .slice a0 l.length cap, .slice a1 m.length cap1] 31) = w0 at *
  refine (awake2_any _).mono ?_
  rintro e wn ⟨rfl, hbn⟩
  have K := Lib.hid (K.out.on hbn)
  clear hbn
  have c0 := K.out.cell 0 _ rfl
  have c1 := K.out.cell 1 _ rfl
  have c2 := K.out.cell 2 _ rfl
  have c3 := K.out.cell 3 _ rfl
  have c4 := K.out.cell 4 _ rfl
  have c5 := K.out.cell 5 _ rfl
  go_wp2_with fail
  clear c0 c1 c2 c3 c4 c5
  refine (HF.out _ K.out.below).mono ?_
  rintro e wn ⟨rfl, hbn⟩
  have K := Lib.hid (K.out.on hbn)
  clear hbn
  have c0 := K.out.cell 0 _ rfl
  have c1 := K.out.cell 1 _ rfl
  have c2 := K.out.cell 2 _ rfl
  have c3 := K.out.cell 3 _ rfl
  have c4 := K.out.cell 4 _ rfl
  have c5 := K.out.cell 5 _ rfl
  go_wp2_with fail
  clear c0 c1 c2 c3 c4 c5
  refine (HC.out _ K.out.below).mono ?_
  rintro e wn ⟨rfl, hbn⟩
  have K := Lib.hid (K.out.on hbn)
  clear hbn
  obtain ⟨B, hB⟩ : ∃ B, blockB v p cv k l m = B := ⟨_, rfl⟩
  have HRD := HRD.out
  have HR := HR.out
  rw [hB] at HRD HR ⊢
  have HBE := Lib.hid hB
  clear hB
  have HRD := Lib.hid HRD
  have HR := Lib.hid HR
  obtain ⟨C, hC⟩ : ∃ C, coreB v p cv k m = C := ⟨_, rfl⟩
  have HO := HO.out
  have HQ := HQ.out
  rw [hC] at HO HQ
  have HO := Lib.hid HO
  have HQ := Lib.hid HQ
  clear hC
  go_wp2_with fail
  refine (HRD.out _).mono ?_
  rintro e w5 ⟨he, hb5⟩
  have K := Lib.hid (K.out.on hb5)
  clear hb5
  obtain rfl : e = .returned (.tuple #[.agg #[.int .i64 0, .int .i64 0, .int .i64 0, .string ⟨#[]⟩, .slice none 0 0, .slice none 0 0], .int .i64 2]) := he
  have KA := Lib.hid (K.out.on ((Below.refl _ _).alloc (Nat.le_refl _) (.cells #[.int .i64 0, .int .i64 0, .int .i64 0, .string ⟨#[]⟩, .slice none 0 0, .slice none 0 0] 31)))
  have Y := Lib.hid (show BoxAt w5 w5.heap.size [.int .i64 0, .int .i64 0, .int .i64 0, .string ⟨#[]⟩, .slice none 0 0, .slice none 0 0] (w5.alloc (.cells #[.int .i64 0, .int .i64 0, .int .i64 0, .string ⟨#[]⟩, .slice none 0 0, .slice none 0 0] 31)) from box_mk w5 [.int .i64 0, .int .i64 0, .int .i64 0, .string ⟨#[]⟩, .slice none 0 0, .slice none 0 0] 31)
  have c0 := KA.out.cell 0 _ rfl
  have c1 := KA.out.cell 1 _ rfl
  have c2 := KA.out.cell 2 _ rfl
  have c3 := KA.out.cell 3 _ rfl
  have c4 := KA.out.cell 4 _ rfl
  have c5 := KA.out.cell 5 _ rfl
  go_wp2_with fail
  clear c0 c1 c2 c3 c4 c5
  generalize w5.alloc (.cells #[.int .i64 0, .int .i64 0, .int .i64 0, .string ⟨#[]⟩, .slice none 0 0, .slice none 0 0] 31) = w6 at *
  obtain ⟨y, hy⟩ : ∃ y, w5.heap.size = y := ⟨_, rfl⟩
  have HY := Lib.hid hy
  rw [hy] at Y ⊢
  clear hy
  have hk : w6.drew.cell? ⟨g, 0, none⟩ = some (.int .i64 v) ∧ w6.drew.cell? ⟨g, 1, none⟩ = some (.int .i64 p) ∧ w6.drew.cell? ⟨g, 2, none⟩ = some (.int .i64 cv) ∧ w6.drew.cell? ⟨g, 3, none⟩ = some (.string k) ∧ w6.drew.cell? ⟨g, 4, none⟩ = some (.slice a0 l.length cap) ∧ w6.drew.cell? ⟨g, 5, none⟩ = some (.slice a1 m.length cap1) ∧ BoxAt w g [.int .i64 v, .int .i64 p, .int .i64 cv, .string k, .slice a0 l.length cap, .slice a1 m.length cap1] w6.drew ∧ BoxAt w5 y [.int .i64 0, .int .i64 0, .int .i64 0, .string ⟨#[]⟩, .slice none 0 0, .slice none 0 0] w6.drew := by
    have a := KA.out.on (Below.refl w6.heap.size w6).drew
    have b := Y.out.on (Below.refl w6.heap.size w6).drew
    exact ⟨a.cell 0 _ rfl, a.cell 1 _ rfl, a.cell 2 _ rfl, a.cell 3 _ rfl, a.cell 4 _ rfl, a.cell 5 _ rfl, a, b⟩
  go_region_held3 (fun w' => w'.cell? ⟨g, 0, none⟩ = some (.int .i64 v) ∧ w'.cell? ⟨g, 1, none⟩ = some (.int .i64 p) ∧ w'.cell? ⟨g, 2, none⟩ = some (.int .i64 cv) ∧ w'.cell? ⟨g, 3, none⟩ = some (.string k) ∧ w'.cell? ⟨g, 4, none⟩ = some (.slice a0 l.length cap) ∧ w'.cell? ⟨g, 5, none⟩ = some (.slice a1 m.length cap1) ∧ BoxAt w g [.int .i64 v, .int .i64 p, .int .i64 cv, .string k, .slice a0 l.length cap, .slice a1 m.length cap1] w' ∧ BoxAt w5 y [.int .i64 0, .int .i64 0, .int .i64 0, .string ⟨#[]⟩, .slice none 0 0, .slice none 0 0] w')
    (first | exact hk)
    (first
      | (go_at_call 29; refine (HR.out _ hk.2.2.2.2.2.2.1.below).mono ?_; rintro e wn ⟨rfl, hbn⟩; have hk := two6_on hk hbn)
      | (go_at_call 30; refine (HO.out _ hk.2.2.2.2.2.2.1.below).mono ?_; rintro e wn ⟨rfl, hbn⟩; have hk := two6_on hk hbn)
      | (go_at_call 31; refine (HQ.out _ hk.2.2.2.2.2.2.1.below).mono ?_; rintro e wn ⟨rfl, hbn⟩; have hk := two6_on hk hbn))
  have KA := Lib.hid hk.2.2.2.2.2.2.1
  have Y := Lib.hid hk.2.2.2.2.2.2.2
  clear hk
  have c0 := KA.out.cell 0 _ rfl
  have c1 := KA.out.cell 1 _ rfl
  have c2 := KA.out.cell 2 _ rfl
  have c3 := KA.out.cell 3 _ rfl
  have c4 := KA.out.cell 4 _ rfl
  have c5 := KA.out.cell 5 _ rfl
  have d0 := Y.out.cell 0 _ rfl
  have d1 := Y.out.cell 1 _ rfl
  have d2 := Y.out.cell 2 _ rfl
  have d3 := Y.out.cell 3 _ rfl
  have d4 := Y.out.cell 4 _ rfl
  have d5 := Y.out.cell 5 _ rfl
  go_wp2_with fail
  clear c0 c1 c2 c3 c4 c5
  clear d0 d1 d2 d3 d4 d5
  refine (HI.out _ KA.out.below).mono ?_
  rintro e wn ⟨rfl, hbn⟩
  have KA := Lib.hid (KA.out.on hbn)
  have Y := Lib.hid (Y.out.on hbn)
  clear hbn
  have c0 := KA.out.cell 0 _ rfl
  have c1 := KA.out.cell 1 _ rfl
  have c2 := KA.out.cell 2 _ rfl
  have c3 := KA.out.cell 3 _ rfl
  have c4 := KA.out.cell 4 _ rfl
  have c5 := KA.out.cell 5 _ rfl
  have d0 := Y.out.cell 0 _ rfl
  have d1 := Y.out.cell 1 _ rfl
  have d2 := Y.out.cell 2 _ rfl
  have d3 := Y.out.cell 3 _ rfl
  have d4 := Y.out.cell 4 _ rfl
  have d5 := Y.out.cell 5 _ rfl
  go_wp2_with fail
  clear c0 c1 c2 c3 c4 c5
  clear d0 d1 d2 d3 d4 d5
  refine (zeroblock_zero _).mono ?_
  rintro e wn ⟨rfl, hbn⟩
  have KA := Lib.hid (KA.out.on hbn)
  have Y := Lib.hid (Y.out.on hbn)
  clear hbn
  have c0 := KA.out.cell 0 _ rfl
  have c1 := KA.out.cell 1 _ rfl
  have c2 := KA.out.cell 2 _ rfl
  have c3 := KA.out.cell 3 _ rfl
  have c4 := KA.out.cell 4 _ rfl
  have c5 := KA.out.cell 5 _ rfl
  have d0 := Y.out.cell 0 _ rfl
  have d1 := Y.out.cell 1 _ rfl
  have d2 := Y.out.cell 2 _ rfl
  have d3 := Y.out.cell 3 _ rfl
  have d4 := Y.out.cell 4 _ rfl
  have d5 := Y.out.cell 5 _ rfl
  go_wp2_with fail
  go_ret
  exact ⟨rfl, by rw [HG.out]; exact HG.out ▸ KA.out.below⟩
set_option maxRecDepth 100000 in
set_option maxHeartbeats 8000000 in
theorem blocks_other (v p cv : Int) (k : ByteArray) (sv rv : Value) (l : List (Int × List ByteArray)) (m : List (Int × Int × ByteArray)) (w : World) (hv : SigsAt w sv l) (hr : ReqsAt w rv m) (hn : MemS l) (hk : k.size ≤ 9223372036854775807) (hm : m.length ≤ 9223372036854775807) (h1 : fewBlock k l m = true) (h2 : rightBlock v p cv k l m = false) (d : BlockD) (h3 : blockRd (blockB v p cv k l m) = some d) :
    Calls Try.prog 7 #[.agg #[.int .i64 v, .int .i64 p, .int .i64 cv, .string k, sv, rv]] w fun e w' => e = .returned (.bool true) ∧ Below w.heap.size w w' := by
  have HF := Lib.hid (fun wx (hb : Below w.heap.size w wx) => fewblock_any v p cv k sv rv l m wx (hv.later hb) (hr.later hb) hn hk hm)
  have HF := HF.out
  simp only [h1] at HF
  have HF := Lib.hid HF
  have HC := Lib.hid (fun wx (hb : Below w.heap.size w wx) => block_any v p cv k sv rv l m wx (hv.later hb) (hr.later hb) (by have := (few_block h1).2.2.1; omega) (few_block h1).1 (few_block h1).2.1)
  have HR := Lib.hid (fun wx (hb : Below w.heap.size w wx) => rblock_any v p cv k sv rv l m wx (hv.later hb) (hr.later hb) (by have := (few_block h1).2.2.1; omega) (few_block h1).1 (few_block h1).2.1)
  have HO := Lib.hid (fun wx (hb : Below w.heap.size w wx) => core_any v p cv k sv rv l m wx (hv.later hb) (hr.later hb) (by have := (few_block h1).2.2.1; omega) (few_block h1).1 (few_block h1).2.1)
  have HQ := Lib.hid (fun wx (hb : Below w.heap.size w wx) => rcore_any v p cv k sv rv l m wx (hv.later hb) (hr.later hb) (by have := (few_block h1).2.2.1; omega) (few_block h1).1 (few_block h1).2.1)
  have HI := Lib.hid (fun wx (hb : Below w.heap.size w wx) => rightblock_any v p cv k sv rv l m wx (hv.later hb) (hr.later hb) hn)
  have hbz : (blockB v p cv k l m).size ≤ 1000000 := by
    unfold blockB
    rw [ByteArray.size_append, ByteArray.size_append, ByteArray.size_append, num_size, num_size, certB_size, flat_size]
    have := (few_block h1).2.2.1; have := (few_flat h1).1; have := (few_flat h1).2; omega
  have HRD := Lib.hid (fun wx => read_block (blockB v p cv k l m) hbz wx)
  have HI := HI.out
  simp only [h2] at HI
  have HI := Lib.hid HI
  have HRD := HRD.out
  rw [h3] at HRD
  have HRD := Lib.hid HRD
  have H3 := Lib.hid (blockRd_sound h3)
  clear hn hk hm h1 h2 h3 hbz
  obtain ⟨a0, cap, rfl, _⟩ := hv
  obtain ⟨a1, cap1, rfl, _⟩ := hr
  go_enter Try.func7, Try.ntmps7
  go_wp2_with fail
  have K := Lib.hid (show BoxAt w w.heap.size [.int .i64 v, .int .i64 p, .int .i64 cv, .string k, .slice a0 l.length cap, .slice a1 m.length cap1] (w.alloc (.cells #[.int .i64 v, .int .i64 p, .int .i64 cv, .string k, .slice a0 l.length cap, .slice a1 m.length cap1] 31)) from box_mk w [.int .i64 v, .int .i64 p, .int .i64 cv, .string k, .slice a0 l.length cap, .slice a1 m.length cap1] 31)
  obtain ⟨g, hg⟩ : ∃ g, w.heap.size = g := ⟨_, rfl⟩
  rw [hg] at K ⊢
  have HG := Lib.hid hg
  clear hg
  generalize w.alloc (.cells #[.int .i64 v, .int .i64 p, .int .i64 cv, .string k, .slice a0 l.length cap, .slice a1 m.length cap1] 31) = w0 at *
  refine (awake2_any _).mono ?_
  rintro e wn ⟨rfl, hbn⟩
  have K := Lib.hid (K.out.on hbn)
  clear hbn
  have c0 := K.out.cell 0 _ rfl
  have c1 := K.out.cell 1 _ rfl
  have c2 := K.out.cell 2 _ rfl
  have c3 := K.out.cell 3 _ rfl
  have c4 := K.out.cell 4 _ rfl
  have c5 := K.out.cell 5 _ rfl
  go_wp2_with fail
  clear c0 c1 c2 c3 c4 c5
  refine (HF.out _ K.out.below).mono ?_
  rintro e wn ⟨rfl, hbn⟩
  have K := Lib.hid (K.out.on hbn)
  clear hbn
  have c0 := K.out.cell 0 _ rfl
  have c1 := K.out.cell 1 _ rfl
  have c2 := K.out.cell 2 _ rfl
  have c3 := K.out.cell 3 _ rfl
  have c4 := K.out.cell 4 _ rfl
  have c5 := K.out.cell 5 _ rfl
  go_wp2_with fail
  clear c0 c1 c2 c3 c4 c5
  refine (HC.out _ K.out.below).mono ?_
  rintro e wn ⟨rfl, hbn⟩
  have K := Lib.hid (K.out.on hbn)
  clear hbn
  obtain ⟨B, hB⟩ : ∃ B, blockB v p cv k l m = B := ⟨_, rfl⟩
  have HRD := HRD.out
  have HR := HR.out
  rw [hB] at HRD HR ⊢
  have HBE := Lib.hid hB
  clear hB
  have HRD := Lib.hid HRD
  have HR := Lib.hid HR
  obtain ⟨C, hC⟩ : ∃ C, coreB v p cv k m = C := ⟨_, rfl⟩
  have HO := HO.out
  have HQ := HQ.out
  rw [hC] at HO HQ
  have HO := Lib.hid HO
  have HQ := Lib.hid HQ
  clear hC
  go_wp2_with fail
  refine (HRD.out _).mono ?_
  rintro e w5 ⟨he, hb5⟩
  have K := Lib.hid (K.out.on hb5)
  clear hb5
  obtain ⟨xv, xr, rfl, hx, hxr⟩ := blockans_some he
  obtain ⟨⟨⟨dv, dp⟩, ⟨⟨dc, dk⟩, dl⟩⟩, dm⟩ := d
  have h4 : rightBlock dv dp dc dk dl dm = true := H3.out.2
  have h5 : blockB dv dp dc dk dl dm = B := by rw [← HBE.out]; exact H3.out.1.symm
  have HXC := Lib.hid (fun wx (hb : Below w5.heap.size w5 wx) => rblock_any dv dp dc dk xv xr dl dm wx (hx.later hb) (hxr.later hb) (by have := (right_smallB h4).2.2.1; omega) (right_smallB h4).1 (right_smallB h4).2.1)
  have HXI := Lib.hid (fun wx (hb : Below w5.heap.size w5 wx) => rightblock_any dv dp dc dk xv xr dl dm wx (hx.later hb) (hxr.later hb) (right_smallB h4).2.2.2.1)
  have HXI := HXI.out
  simp only [h4] at HXI
  have HXI := Lib.hid HXI
  have HXC := HXC.out
  rw [h5] at HXC
  have HXC := Lib.hid HXC
  clear he h4 h5 H3
  dsimp only at *
  obtain ⟨xa, xcap, rfl, _⟩ := hx
  obtain ⟨ya, ycap, rfl, _⟩ := hxr
  have KA := Lib.hid (K.out.on ((Below.refl _ _).alloc (Nat.le_refl _) (.cells #[.int .i64 dv, .int .i64 dp, .int .i64 dc, .string dk, .slice xa dl.length xcap, .slice ya dm.length ycap] 31)))
  have Y := Lib.hid (show BoxAt w5 w5.heap.size [.int .i64 dv, .int .i64 dp, .int .i64 dc, .string dk, .slice xa dl.length xcap, .slice ya dm.length ycap] (w5.alloc (.cells #[.int .i64 dv, .int .i64 dp, .int .i64 dc, .string dk, .slice xa dl.length xcap, .slice ya dm.length ycap] 31)) from box_mk w5 [.int .i64 dv, .int .i64 dp, .int .i64 dc, .string dk, .slice xa dl.length xcap, .slice ya dm.length ycap] 31)
  have c0 := KA.out.cell 0 _ rfl
  have c1 := KA.out.cell 1 _ rfl
  have c2 := KA.out.cell 2 _ rfl
  have c3 := KA.out.cell 3 _ rfl
  have c4 := KA.out.cell 4 _ rfl
  have c5 := KA.out.cell 5 _ rfl
  go_wp2_with fail
  clear c0 c1 c2 c3 c4 c5
  generalize w5.alloc (.cells #[.int .i64 dv, .int .i64 dp, .int .i64 dc, .string dk, .slice xa dl.length xcap, .slice ya dm.length ycap] 31) = w6 at *
  obtain ⟨y, hy⟩ : ∃ y, w5.heap.size = y := ⟨_, rfl⟩
  have HY := Lib.hid hy
  rw [hy] at Y ⊢
  clear hy
  have hk : w6.drew.cell? ⟨g, 0, none⟩ = some (.int .i64 v) ∧ w6.drew.cell? ⟨g, 1, none⟩ = some (.int .i64 p) ∧ w6.drew.cell? ⟨g, 2, none⟩ = some (.int .i64 cv) ∧ w6.drew.cell? ⟨g, 3, none⟩ = some (.string k) ∧ w6.drew.cell? ⟨g, 4, none⟩ = some (.slice a0 l.length cap) ∧ w6.drew.cell? ⟨g, 5, none⟩ = some (.slice a1 m.length cap1) ∧ BoxAt w g [.int .i64 v, .int .i64 p, .int .i64 cv, .string k, .slice a0 l.length cap, .slice a1 m.length cap1] w6.drew ∧ BoxAt w5 y [.int .i64 dv, .int .i64 dp, .int .i64 dc, .string dk, .slice xa dl.length xcap, .slice ya dm.length ycap] w6.drew := by
    have a := KA.out.on (Below.refl w6.heap.size w6).drew
    have b := Y.out.on (Below.refl w6.heap.size w6).drew
    exact ⟨a.cell 0 _ rfl, a.cell 1 _ rfl, a.cell 2 _ rfl, a.cell 3 _ rfl, a.cell 4 _ rfl, a.cell 5 _ rfl, a, b⟩
  go_region_held3 (fun w' => w'.cell? ⟨g, 0, none⟩ = some (.int .i64 v) ∧ w'.cell? ⟨g, 1, none⟩ = some (.int .i64 p) ∧ w'.cell? ⟨g, 2, none⟩ = some (.int .i64 cv) ∧ w'.cell? ⟨g, 3, none⟩ = some (.string k) ∧ w'.cell? ⟨g, 4, none⟩ = some (.slice a0 l.length cap) ∧ w'.cell? ⟨g, 5, none⟩ = some (.slice a1 m.length cap1) ∧ BoxAt w g [.int .i64 v, .int .i64 p, .int .i64 cv, .string k, .slice a0 l.length cap, .slice a1 m.length cap1] w' ∧ BoxAt w5 y [.int .i64 dv, .int .i64 dp, .int .i64 dc, .string dk, .slice xa dl.length xcap, .slice ya dm.length ycap] w')
    (first | exact hk)
    (first
      | (go_at_call 29; refine (HR.out _ hk.2.2.2.2.2.2.1.below).mono ?_; rintro e wn ⟨rfl, hbn⟩; have hk := two6_on hk hbn)
      | (go_at_call 30; refine (HO.out _ hk.2.2.2.2.2.2.1.below).mono ?_; rintro e wn ⟨rfl, hbn⟩; have hk := two6_on hk hbn)
      | (go_at_call 31; refine (HQ.out _ hk.2.2.2.2.2.2.1.below).mono ?_; rintro e wn ⟨rfl, hbn⟩; have hk := two6_on hk hbn))
  have KA := Lib.hid hk.2.2.2.2.2.2.1
  have Y := Lib.hid hk.2.2.2.2.2.2.2
  clear hk
  have c0 := KA.out.cell 0 _ rfl
  have c1 := KA.out.cell 1 _ rfl
  have c2 := KA.out.cell 2 _ rfl
  have c3 := KA.out.cell 3 _ rfl
  have c4 := KA.out.cell 4 _ rfl
  have c5 := KA.out.cell 5 _ rfl
  have d0 := Y.out.cell 0 _ rfl
  have d1 := Y.out.cell 1 _ rfl
  have d2 := Y.out.cell 2 _ rfl
  have d3 := Y.out.cell 3 _ rfl
  have d4 := Y.out.cell 4 _ rfl
  have d5 := Y.out.cell 5 _ rfl
  go_wp2_with fail
  clear c0 c1 c2 c3 c4 c5
  clear d0 d1 d2 d3 d4 d5
  refine (HI.out _ KA.out.below).mono ?_
  rintro e wn ⟨rfl, hbn⟩
  have KA := Lib.hid (KA.out.on hbn)
  have Y := Lib.hid (Y.out.on hbn)
  clear hbn
  have c0 := KA.out.cell 0 _ rfl
  have c1 := KA.out.cell 1 _ rfl
  have c2 := KA.out.cell 2 _ rfl
  have c3 := KA.out.cell 3 _ rfl
  have c4 := KA.out.cell 4 _ rfl
  have c5 := KA.out.cell 5 _ rfl
  have d0 := Y.out.cell 0 _ rfl
  have d1 := Y.out.cell 1 _ rfl
  have d2 := Y.out.cell 2 _ rfl
  have d3 := Y.out.cell 3 _ rfl
  have d4 := Y.out.cell 4 _ rfl
  have d5 := Y.out.cell 5 _ rfl
  go_wp2_with fail
  clear c0 c1 c2 c3 c4 c5
  clear d0 d1 d2 d3 d4 d5
  refine (HXI.out _ Y.out.below).mono ?_
  rintro e wn ⟨rfl, hbn⟩
  have KA := Lib.hid (KA.out.on hbn)
  have Y := Lib.hid (Y.out.on hbn)
  clear hbn
  have c0 := KA.out.cell 0 _ rfl
  have c1 := KA.out.cell 1 _ rfl
  have c2 := KA.out.cell 2 _ rfl
  have c3 := KA.out.cell 3 _ rfl
  have c4 := KA.out.cell 4 _ rfl
  have c5 := KA.out.cell 5 _ rfl
  have d0 := Y.out.cell 0 _ rfl
  have d1 := Y.out.cell 1 _ rfl
  have d2 := Y.out.cell 2 _ rfl
  have d3 := Y.out.cell 3 _ rfl
  have d4 := Y.out.cell 4 _ rfl
  have d5 := Y.out.cell 5 _ rfl
  go_wp2_with fail
  clear c0 c1 c2 c3 c4 c5
  clear d0 d1 d2 d3 d4 d5
  refine (HXC.out _ Y.out.below).mono ?_
  rintro e wn ⟨rfl, hbn⟩
  have KA := Lib.hid (KA.out.on hbn)
  have Y := Lib.hid (Y.out.on hbn)
  clear hbn
  have c0 := KA.out.cell 0 _ rfl
  have c1 := KA.out.cell 1 _ rfl
  have c2 := KA.out.cell 2 _ rfl
  have c3 := KA.out.cell 3 _ rfl
  have c4 := KA.out.cell 4 _ rfl
  have c5 := KA.out.cell 5 _ rfl
  have d0 := Y.out.cell 0 _ rfl
  have d1 := Y.out.cell 1 _ rfl
  have d2 := Y.out.cell 2 _ rfl
  have d3 := Y.out.cell 3 _ rfl
  have d4 := Y.out.cell 4 _ rfl
  have d5 := Y.out.cell 5 _ rfl
  go_wp2_with fail
  go_ret
  exact ⟨rfl, by rw [HG.out]; exact HG.out ▸ KA.out.below⟩
theorem blocks_walk (v p cv : Int) (k : ByteArray) (sv rv : Value) (l : List (Int × List ByteArray)) (m : List (Int × Int × ByteArray)) (w : World) (hv : SigsAt w sv l) (hr : ReqsAt w rv m) (hn : MemS l) (hk : k.size ≤ 9223372036854775807) (hm : m.length ≤ 9223372036854775807) :
    Calls Try.prog 7 #[.agg #[.int .i64 v, .int .i64 p, .int .i64 cv, .string k, sv, rv]] w fun e w' => e = .returned (.bool true) ∧ Below w.heap.size w w' := by
  rcases h1 : fewBlock k l m with _ | _
  · exact blocks_many v p cv k sv rv l m w hv hr hn hk hm h1
  rcases h2 : rightBlock v p cv k l m with _ | _
  · rcases h3 : blockRd (blockB v p cv k l m) with _ | d
    · exact blocks_form v p cv k sv rv l m w hv hr hn hk hm h1 h2 h3
    · exact blocks_other v p cv k sv rv l m w hv hr hn hk hm h1 h2 d h3
  · exact blocks_right v p cv k sv rv l m w hv hr hn hk hm h1 h2
end Go.Proofs.Ytacnbpmoceocbaa
end
section
open Go Go.RowKit
namespace WW
open BB
section
variable {α : Type} {A : ByteArray → Option (ByteArray × α)} {ea : α → ByteArray} {oa : α → Prop}
/-- a part: a mark, 0 where nothing is; 1, and the thing, that isn't zero -/
def partSp (nz : α → Bool) (A : ByteArray → Option (ByteArray × α)) (b : ByteArray) : Option (ByteArray × Option α) :=
  if b.size = 0 then none
  else if b.data.toList.getD 0 0 = 0 then some (b.extract 1 b.size, none)
  else if b.data.toList.getD 0 0 = 1 then mapSp some (filtSp A nz) (b.extract 1 b.size)
  else none
def encPart (ea : α → ByteArray) : Option α → ByteArray
  | none => ⟨#[0]⟩
  | some a => ⟨#[1]⟩ ++ ea a
def okPart (nz : α → Bool) (oa : α → Prop) : Option α → Prop
  | none => True
  | some a => oa a ∧ nz a = true
theorem one_list (x : UInt8) (r : ByteArray) : ((⟨#[x]⟩ : ByteArray) ++ r).data.toList = x :: r.data.toList := by rw [ByteArray.data_append, Array.toList_append]; rfl
theorem one_size (x : UInt8) (r : ByteArray) : ((⟨#[x]⟩ : ByteArray) ++ r).size = 1 + r.size := by rw [ByteArray.size_append]; rfl
theorem one_drop (x : UInt8) (r : ByteArray) : ((⟨#[x]⟩ : ByteArray) ++ r).extract 1 ((⟨#[x]⟩ : ByteArray) ++ r).size = r := by
  apply ba_ext
  have hr := ba_list r
  rw [ByteArray.data_extract, Array.toList_extract, one_list, one_size, List.extract_eq_take_drop]
  show List.take (1 + r.size - 1) r.data.toList = r.data.toList
  exact List.take_of_length_le (by omega)
theorem one_split (b : ByteArray) (x : UInt8) (h0 : b.size ≠ 0) (hx : b.data.toList.getD 0 0 = x) : b = ⟨#[x]⟩ ++ b.extract 1 b.size := by
  apply ba_ext
  have hl := ba_list b
  rw [one_list, ByteArray.data_extract, Array.toList_extract, List.extract_eq_take_drop]
  rcases hb : b.data.toList with _ | ⟨y, t⟩
  · rw [hb] at hl; simp at hl; omega
  · rw [hb] at hx hl
    have hy : y = x := by simpa using hx
    subst hy
    simp only [List.drop_succ_cons, List.drop_zero]
    rw [List.take_of_length_le (by simp at hl; omega)]
theorem Codec.part (h : Codec A ea oa) (nz : α → Bool) : Codec (partSp nz A) (encPart ea) (okPart nz oa) where
  put := fun x r hx => by
    rcases x with _ | a
    · unfold partSp encPart
      rw [if_neg (by rw [one_size]; omega), if_pos (by rw [one_list]; rfl), one_drop]
    · have e : encPart ea (some a) ++ r = ⟨#[1]⟩ ++ (ea a ++ r) := by unfold encPart; rw [ByteArray.append_assoc]
      rw [e]
      unfold partSp
      rw [if_neg (by rw [one_size]; omega), if_neg (by rw [one_list]; show ¬ (1 : UInt8) = 0; decide), if_pos (by rw [one_list]; rfl), one_drop]
      exact map_some ((h.filt nz).put a r hx)
  sound := fun b r x hb => by
    unfold partSp at hb
    split at hb
    · cases hb
    · rename_i h0
      split at hb
      · rename_i hm
        injection hb with hb
        injection hb with h1 h2
        subst h2
        exact ⟨by rw [← h1]; exact one_split b 0 h0 hm, trivial⟩
      · split at hb
        · rename_i hm
          obtain ⟨a, h1, rfl⟩ := map_inv hb
          obtain ⟨e, o1, o2⟩ := (h.filt nz).sound _ _ _ h1
          refine ⟨?_, o1, o2⟩
          have := one_split b 1 h0 hm
          rw [e] at this
          rw [this]; unfold encPart; rw [ByteArray.append_assoc]
        · cases hb
end
theorem codec_text (fits : Nat → Bool) : Codec (textSp fits) txt (fun s => fits s.size = true ∧ s.size ≤ 2147483647) where
  put := fun s r h => by rw [textSp_put fits s r h.2, if_pos h.1]
  sound := fun b r s h => by
    obtain ⟨h1, h2, h3⟩ := textSp_sound h
    exact ⟨h1, h2, h3⟩
/-- a part, or nothing -/
def partR {α : Type} (R : RelT α) : RelT (Option α) := fun x w lo hi f f' => match x with | none => f' = f | some d => R d w lo hi f f'
theorem sound_part {α : Type} {R : RelT α} (h : SoundR R) : SoundR (partR R) :=
  ⟨fun {d} _ _ _ _ _ _ hr hk => by cases d with | none => exact hr | some d => exact h.keep hr hk, fun {d} _ _ _ _ _ _ _ hr hl hh => by cases d with | none => exact hr | some d => exact h.wide hr hl hh⟩
/-- what isn't zero -/
def nzB (x : BlockD) : Bool := !(decide (x.1.1.1 = 0) && (decide (x.1.1.2 = 0) && (decide (x.1.2.1.1 = 0) && (decide (x.1.2.1.2.size = 0) && (decide (x.1.2.2.length = 0) && decide (x.2.length = 0))))))
def nzC (c : CertD) : Bool := !(decide (c.1.1 = 0) && (decide (c.1.2.size = 0) && decide (c.2.length = 0)))
def nzS (s : Int × List ByteArray) : Bool := !(decide (s.1 = 0) && decide (s.2.length = 0))
def nzR (r : Int × Int × ByteArray) : Bool := !(decide (r.1 = 0) && (decide (r.2.1 = 0) && decide (r.2.2.size = 0)))
def sigD (s : Int × List ByteArray) : ByteArray := sigB s.1 s.2
def reqD (r : Int × Int × ByteArray) : ByteArray := reqB r.1 r.2.1 r.2.2
def sigOk (s : Int × List ByteArray) : Prop := rightSig s.1 s.2 = true
def reqOk (r : Int × Int × ByteArray) : Prop := rightR r.1 r.2.1 r.2.2
def fitsH (d : Nat) : Bool := decide (d = 0) || decide (d = 32)
def fitsT (d : Nat) : Bool := decide (d = 0) || decide (d = 16)
abbrev MsgD := (((((((((Int × Int) × Int) × Int) × ByteArray) × Option BlockD) × Option CertD) × Option (Int × List ByteArray)) × Option (Int × Int × ByteArray)) × Int) × ByteArray
/-- a message -/
def msgI : ByteArray → Option (ByteArray × MsgD) :=
  seqSp (seqSp (seqSp (seqSp (seqSp (seqSp (seqSp (seqSp (seqSp (seqSp (numI 1 7) (numI 0 20)) (numI 0 20)) (numI 0 1000000)) (textSp fitsH)) (partSp nzB blockI)) (partSp nzC certI)) (partSp nzS sigI)) (partSp nzR reqI)) (numI 0 2147483647)) (textSp fitsT)
def msgD (m : MsgD) : ByteArray :=
  num m.1.1.1.1.1.1.1.1.1.1 ++ num m.1.1.1.1.1.1.1.1.1.2 ++ num m.1.1.1.1.1.1.1.1.2 ++ num m.1.1.1.1.1.1.1.2 ++ txt m.1.1.1.1.1.1.2 ++ encPart blockD m.1.1.1.1.1.2 ++ encPart certD m.1.1.1.1.2 ++ encPart sigD m.1.1.1.2 ++ encPart reqD m.1.1.2 ++ num m.1.2 ++ txt m.2
def msgOk (m : MsgD) : Prop :=
  ((((((((((1 ≤ m.1.1.1.1.1.1.1.1.1.1 ∧ m.1.1.1.1.1.1.1.1.1.1 ≤ 7) ∧ 0 ≤ m.1.1.1.1.1.1.1.1.1.2 ∧ m.1.1.1.1.1.1.1.1.1.2 ≤ 20) ∧ 0 ≤ m.1.1.1.1.1.1.1.1.2 ∧ m.1.1.1.1.1.1.1.1.2 ≤ 20) ∧ 0 ≤ m.1.1.1.1.1.1.1.2 ∧ m.1.1.1.1.1.1.1.2 ≤ 1000000) ∧ fitsH m.1.1.1.1.1.1.2.size = true ∧ m.1.1.1.1.1.1.2.size ≤ 2147483647) ∧ okPart nzB blockOk m.1.1.1.1.1.2) ∧ okPart nzC certOk m.1.1.1.1.2) ∧ okPart nzS sigOk m.1.1.1.2) ∧ okPart nzR reqOk m.1.1.2) ∧ 0 ≤ m.1.2 ∧ m.1.2 ≤ 2147483647) ∧ fitsT m.2.size = true ∧ m.2.size ≤ 2147483647
theorem codec_msg : Codec msgI msgD msgOk :=
  (((((((((((codec_num 1 7 (by omega) (by omega)).seq (codec_num 0 20 (by omega) (by omega))).seq (codec_num 0 20 (by omega) (by omega))).seq (codec_num 0 1000000 (by omega) (by omega))).seq (codec_text fitsH)).seq (codec_block.part nzB)).seq (codec_cert.part nzC)).seq (codec_sig.part nzS)).seq (codec_req.part nzR)).seq (codec_num 0 2147483647 (by omega) (by omega))).seq (codec_text fitsT))
end WW
end
section
open Go Go.RowKit
namespace BB
open WW
section
variable {P : Program} {ops : Array Oper} {md : Region.Mode} {w : World} {Q : Exit → Act → World → Prop}
theorem op_callv {i : Nat} {x : Operand} {xs : Array Operand} {tys : Array TypeId} {o : Oper} {a : Act} {w : World} {K : Act → World → Prop} {R : Ending → World → Prop} (v : Value) (args : Array Value) (ho : ops[i]? = some o) (hg : Region.wanted o (yielded ops a.tmps) = true)
    (hop : o.op = .call { callee := .value x, args := xs, argTypes := tys }) (hx : a.eval x = v) (has : xs.map a.eval = args) (hc : CallsV P v args w R) (hR : ∀ e w', R e w' → ∃ u, e = .returned u) (hK : ∀ u w', R (.returned u) w' → K (a.put o.dst u) w') : wpOp P ops Q i K a w := by
  obtain ⟨k, env, hv, hk, hc⟩ := hc
  have hrun := run_enter (P := P) (w := w) (o := o) (a := a) hop (hx.trans hv) hk
  unfold wpOp; simp only [ho, hg, if_true]
  left; unfold Oper.wp; rw [hrun, has]
  refine hc.mono fun e w' hr => ?_
  obtain ⟨u, rfl⟩ := hR e w' hr
  exact hK u w' hr
/-- c1 alone, c2 alone, then tl -/
def twoC (md : Region.Mode) (ops : Array Oper) (c1 c2 : Nat) (tl : List Nat) (li : Array Bool) : Bool :=
  decide (Region.ready md ops li = [c1]) && decide (Region.ready md ops (li.setIfInBounds c1 true) = [c2]) && preB md ops (fun li => decide (Region.ready md ops li = [])) tl ((li.setIfInBounds c1 true).setIfInBounds c2 true)
theorem two_callv {id : Nat} {a a1 : Act} {l : List Oper} (hd tl : List Nat) (c1 c2 : Nat) (o1 o2 : Oper) (d1 d2 : Nat) (x1 x2 : Operand) (xs1 xs2 : Array Operand) (ty1 ty2 : Array TypeId) (S : World → Prop) (v1 : Value) (args1 args2 : Array Value) (R1 : Ending → World → Prop) (R2 : Value → World → Ending → World → Prop) (hm : P.follows .mixedOrders = true)
    (hB : (Region.noSelect l.toArray && preB .any l.toArray (twoC .any l.toArray c1 c2 tl) hd (Array.replicate l.toArray.size false) && decide (hd.length + (tl.length + 2) = l.toArray.size)) = true)
    (hQ : ∀ c a d v w, Q (.panic c) (Act.put a d v) w → Q (.panic c) a w) (ho1 : l.toArray[c1]? = some o1) (ho2 : l.toArray[c2]? = some o2) (hg : o1.guard = none ∧ o2.guard = none) (hd1 : o1.dst = some d1) (hd2 : o2.dst = some d2)
    (hp1 : o1.op = .call { callee := .value x1, args := xs1, argTypes := ty1 }) (hp2 : o2.op = .call { callee := .value x2, args := xs2, argTypes := ty2 })
    (hS : S { w with drawn := w.drawn + 1 }) (hread : wpHeldG P l.toArray S (fun a' => a' = a1) (pick l.toArray hd) a)
    (hx1 : a1.eval x1 = v1) (ha1 : xs1.map a1.eval = args1) (hc1 : CallsV P v1 args1 { w with drawn := w.drawn + 1 } R1) (hR1 : ∀ e w', R1 e w' → ∃ u, e = .returned u)
    (h2 : ∀ u w1, R1 (.returned u) w1 → S w1 ∧ ((a1.put (some d1) u).eval x2 = u ∧ xs2.map (a1.put (some d1) u).eval = args2) ∧ CallsV P u args2 w1 (R2 u w1) ∧ (∀ e w', R2 u w1 e w' → ∃ u2, e = .returned u2) ∧
      ∀ u2 w2, R2 u w1 (.returned u2) w2 → S w2 ∧ wpHeldG P l.toArray S (fun a' => Q .normal a' w2) (pick l.toArray tl) ((a1.put (some d1) u).put (some d2) u2)) :
    (Code.region id l.toArray true).wp P Q a w := by
  simp only [Bool.and_eq_true, decide_eq_true_eq] at hB
  obtain ⟨⟨hsel, hp⟩, hsz⟩ := hB
  refine wp_region_held (S := S) hm ?_
  have key := wpAnyH_of_heldg (Q := Q) (S := S) (w := { w with drawn := w.drawn + 1 }) (k := twoC .any l.toArray c1 c2 tl) (K := fun a' => a' = a1) (g := tl.length + 2) hsel hQ hS
    (fun li a' hk ha' => ?_) hd (Array.replicate l.toArray.size false) a hp hread
  · rw [hsz] at key; exact key
  subst ha'
  simp only [twoC, Bool.and_eq_true, decide_eq_true_eq] at hk
  obtain ⟨⟨r0, r1⟩, r2⟩ := hk
  refine wpAnyH_all r0 (by simp) fun i hi => ?_
  obtain rfl : i = c1 := by simpa using hi
  refine op_callv v1 args1 ho1 (by simp [Region.wanted, hg.1]) hp1 hx1 ha1 hc1 hR1 fun u w1 hr => ?_
  obtain ⟨hs1, ⟨e1, e2⟩, hc2, hR2, hk2⟩ := h2 u w1 hr
  refine ⟨hs1, wpAnyH_all r1 (by simp) fun j hj => ?_⟩
  obtain rfl : j = c2 := by simpa using hj
  rw [hd1]
  refine op_callv u args2 ho2 (by simp [Region.wanted, hg.2]) hp2 e1 e2 hc2 hR2 fun u2 w2 hr2 => ?_
  obtain ⟨hs2, htail⟩ := hk2 u2 w2 hr2
  refine ⟨hs2, ?_⟩
  rw [hd2]
  have tail := wpAnyH_of_heldg (Q := Q) (S := S) (w := w2) (k := fun li => decide (Region.ready .any l.toArray li = [])) (K := fun a' => Q .normal a' w2) (g := 0) hsel hQ hs2
    (fun li a' hk ha' => wpAnyH_done (by simpa using hk) ha' _) tl _ _ r2 htail
  simpa using tail
/-- one call of a function value, that may be guarded -/
theorem one_callv {id : Nat} {a a1 : Act} {l : List Oper} (hd tl : List Nat) (c : Nat) (oc : Oper) (dc : Nat) (x : Operand) (xs : Array Operand) (tys : Array TypeId) (v : Value) (args : Array Value) (R : Ending → World → Prop) (S : World → Prop) (hm : P.follows .mixedOrders = true)
    (hB : (Region.noSelect l.toArray && preB .any l.toArray (oneB .any l.toArray c tl) hd (Array.replicate l.toArray.size false) && decide (hd.length + (tl.length + 1) = l.toArray.size)) = true)
    (hQ : ∀ c a d v w, Q (.panic c) (Act.put a d v) w → Q (.panic c) a w) (hoc : l.toArray[c]? = some oc) (hdc : oc.dst = some dc) (hop : oc.op = .call { callee := .value x, args := xs, argTypes := tys }) (hS : S { w with drawn := w.drawn + 1 })
    (hread : wpHeldG P l.toArray S (fun a' => a' = a1) (pick l.toArray hd) a) (hgc : Region.wanted oc (yielded l.toArray a1.tmps) = true)
    (hx : a1.eval x = v) (has : xs.map a1.eval = args) (hc : CallsV P v args { w with drawn := w.drawn + 1 } R) (hR : ∀ e w', R e w' → ∃ u, e = .returned u)
    (htail : ∀ u w', R (.returned u) w' → S w' ∧ wpHeldG P l.toArray S (fun a' => Q .normal a' w') (pick l.toArray tl) (a1.put (some dc) u)) :
    (Code.region id l.toArray true).wp P Q a w := by
  simp only [Bool.and_eq_true, decide_eq_true_eq] at hB
  obtain ⟨⟨hsel, hp⟩, hsz⟩ := hB
  -- the reads, with the world as it is
  refine wp_region_held (S := S) hm ?_
  have key := wpAnyH_of_heldg (Q := Q) (S := S) (w := { w with drawn := w.drawn + 1 }) (k := oneB .any l.toArray c tl) (K := fun a' => a' = a1) (g := tl.length + 1) hsel hQ hS
    (fun listed a' hk ha' => ?_) hd (Array.replicate l.toArray.size false) a hp hread
  · rw [hsz] at key; exact key
  subst ha'
  simp only [oneB, Bool.and_eq_true, decide_eq_true_eq] at hk
  obtain ⟨r0, r1⟩ := hk
  refine wpAnyH_all r0 (by simp) fun i hi => ?_
  obtain rfl : i = c := by simpa using hi
  refine op_callv v args hoc hgc hop hx has hc hR fun u w' hr => ?_
  obtain ⟨hs, ht⟩ := htail u w' hr
  refine ⟨hs, ?_⟩
  rw [hdc]
  have tail := wpAnyH_of_heldg (Q := Q) (S := S) (w := w') (k := fun li => decide (Region.ready .any l.toArray li = [])) (K := fun a' => Q .normal a' w') (g := 0) hsel hQ hs
    (fun listed a' hk ha' => wpAnyH_done (by simpa using hk) ha' _) tl _ _ r1 ht
  simpa using tail
end
end BB
end
