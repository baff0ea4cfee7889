/-
  The walk of the law WireBlocks.
-/
import Derived.Test.YtbeodmijjanmeaaWLawC
import Derived.Test.YtbeodmijjanmeaaWWholeB
import Derived.Deep.RegionHeld3
open Go Go.RowKit
namespace WW
open BB
theorem few_flat {k : ByteArray} {l : List (Int × List ByteArray)} {m : List (Int × Int × ByteArray)} (h : fewBlock k l m = true) : (flat (sigsB l)).length ≤ 3080 ∧ (flat (reqsB m)).length ≤ 432 := by
  unfold fewBlock at h
  rw [Bool.and_eq_true, Bool.and_eq_true] at h
  obtain ⟨h1, h2, h3⟩ := h
  unfold fewCert at h3
  simp only [Bool.and_eq_true, decide_eq_true_eq, List.all_eq_true] at h1 h2 h3
  obtain ⟨h4, h5, h6⟩ := h3
  rw [List.take_of_length_le (by omega)] at h1 h4
  constructor
  · have := flat_le 308 (sigsB l) (fun x hx => by
      unfold sigsB at hx
      obtain ⟨p, hp, rfl⟩ := List.mem_map.1 hx
      have h4 := fewsig_flat p.2 (h4 p hp)
      show (num p.1 ++ listB p.2).size ≤ 308
      rw [ByteArray.size_append, flat_size, num_size]
      omega)
    have e : (sigsB l).length = l.length := by unfold sigsB; rw [List.length_map]
    omega
  · have := flat_le 72 (reqsB m) (fun x hx => by
      unfold reqsB at hx
      obtain ⟨p, hp, rfl⟩ := List.mem_map.1 hx
      have h4 := h1 p hp
      rw [reqB_size]; omega)
    have e : (reqsB m).length = m.length := by unfold reqsB; rw [List.length_map]
    omega
theorem blockRd_some {b r : ByteArray} {d : BlockD} (h : blockI b = some (r, d)) (h0 : r.size = 0) : blockRd b = some d := by unfold blockRd; rw [h]; exact if_pos h0
theorem blockRd_put {c : BlockD} (h : blockOk c) : blockRd (blockD c) = some c := by
  have := codec_block.put c ⟨#[]⟩ h
  rw [ba_nil] at this
  exact blockRd_some this rfl
theorem blockRd_sound {b : ByteArray} {c : BlockD} (h : blockRd b = some c) : b = blockD c ∧ blockOk c := by
  unfold blockRd at h
  rcases h1 : blockI b with _ | ⟨r, d⟩
  · rw [h1] at h; cases h
  rw [h1] at h
  dsimp only at h
  split at h
  · rename_i h0
    injection h with h
    subst h
    obtain ⟨e1, e2⟩ := codec_block.sound _ _ _ h1
    exact ⟨by rw [e1, nil_size r h0, ba_nil], e2⟩
  · cases h
theorem right_smallB {v p cv : Int} {k : ByteArray} {l : List (Int × List ByteArray)} {m : List (Int × Int × ByteArray)} (h : rightBlock v p cv k l m = true) : SmallS l ∧ SmallR m ∧ k.size = 32 ∧ MemS l ∧ m.length ≤ 3 := by
  unfold rightBlock at h
  simp only [Bool.and_eq_true, decide_eq_true_eq, List.all_eq_true] at h
  obtain ⟨⟨_, _, _, _, h5, _, h7⟩, h8⟩ := h
  obtain ⟨a1, a2, a3, a4⟩ := right_small h5
  refine ⟨a1, ⟨by omega, ?_, fun i hi => ?_⟩, a2, a4, h7⟩
  · have := flat_le 72 (reqsB m) (fun x hx => by
      unfold reqsB at hx
      obtain ⟨p, hp, rfl⟩ := List.mem_map.1 hx
      have h4 := (h8 p hp).2.2.2.2
      rw [reqB_size]; omega)
    have e : (reqsB m).length = m.length := by unfold reqsB; rw [List.length_map]
    omega
  · have := (h8 _ (show m.getD i (0, 0, ⟨#[]⟩) ∈ m by rw [List.getD_eq_getElem?_getD, List.getElem?_eq_getElem hi]; exact List.getElem_mem hi)).2.2.2.2
    omega
theorem two6_on {w w5 w1 w2 : World} {g y : Nat} {v0 v1 v2 v3 v4 v5 : Value} {cs : List Value} (h : w1.cell? ⟨g, 0, none⟩ = some v0 ∧ w1.cell? ⟨g, 1, none⟩ = some v1 ∧ w1.cell? ⟨g, 2, none⟩ = some v2 ∧ w1.cell? ⟨g, 3, none⟩ = some v3 ∧ w1.cell? ⟨g, 4, none⟩ = some v4 ∧ w1.cell? ⟨g, 5, none⟩ = some v5 ∧ BoxAt w g [v0, v1, v2, v3, v4, v5] w1 ∧ BoxAt w5 y cs w1) (hb : Below w1.heap.size w1 w2) :
    w2.cell? ⟨g, 0, none⟩ = some v0 ∧ w2.cell? ⟨g, 1, none⟩ = some v1 ∧ w2.cell? ⟨g, 2, none⟩ = some v2 ∧ w2.cell? ⟨g, 3, none⟩ = some v3 ∧ w2.cell? ⟨g, 4, none⟩ = some v4 ∧ w2.cell? ⟨g, 5, none⟩ = some v5 ∧ BoxAt w g [v0, v1, v2, v3, v4, v5] w2 ∧ BoxAt w5 y cs w2 :=
  have k := h.2.2.2.2.2.2.1.on hb
  ⟨k.cell 0 _ rfl, k.cell 1 _ rfl, k.cell 2 _ rfl, k.cell 3 _ rfl, k.cell 4 _ rfl, k.cell 5 _ rfl, k, h.2.2.2.2.2.2.2.on hb⟩
end WW
namespace Go.Proofs.Ytbeodmijjanmeaa
open WW BB
theorem blockans_some {w w' : World} {d : BlockD} {e : Ending} (h : BlockAns w (some d) e w') : ∃ sv rv, e = .returned (.tuple #[.agg #[.int .i64 d.1.1.1, .int .i64 d.1.1.2, .int .i64 d.1.2.1.1, .string d.1.2.1.2, sv, rv], .int .i64 0]) ∧ SigsAt w' sv d.1.2.2 ∧ ReqsAt w' rv d.2 := by
  obtain ⟨f', lo, hi, rfl, _, _, hR⟩ := h
  obtain ⟨sv, rv, hf, hsv, hrv⟩ := blockR_cells hR
  refine ⟨sv, rv, ?_, hsv, hrv⟩
  rw [hf]; rfl
set_option maxRecDepth 100000 in
theorem zeroblock_zero (w : World) : Calls Try.prog 32 #[.agg #[.int .i64 0, .int .i64 0, .int .i64 0, .string ⟨#[]⟩, .slice none 0 0, .slice none 0 0]] w fun e w' => e = .returned (.bool true) ∧ Below w.heap.size w w' := by
  go_enter Try.func32, Try.ntmps32
  go_wp2_with fail
  have k := box_mk w [.int .i64 0, .int .i64 0, .int .i64 0, .string ⟨#[]⟩, .slice none 0 0, .slice none 0 0] 31
  have K := Lib.hid (show BoxAt w w.heap.size [.int .i64 0, .int .i64 0, .int .i64 0, .string ⟨#[]⟩, .slice none 0 0, .slice none 0 0] (w.alloc (.cells #[.int .i64 0, .int .i64 0, .int .i64 0, .string ⟨#[]⟩, .slice none 0 0, .slice none 0 0] 31)) from k)
  clear k
  generalize w.alloc (.cells #[.int .i64 0, .int .i64 0, .int .i64 0, .string ⟨#[]⟩, .slice none 0 0, .slice none 0 0] 31) = w0 at *
  refine (zerocert_zero _).mono ?_
  rintro e w1 ⟨rfl, hb1⟩
  have K := Lib.hid (K.out.on hb1)
  have c5 := K.out.cell 5 _ rfl
  clear hb1
  go_wp2_with fail
  go_ret
  exact ⟨rfl, K.out.below⟩
set_option maxRecDepth 100000 in
set_option maxHeartbeats 8000000 in
theorem blocks_many (v p cv : Int) (k : ByteArray) (sv rv : Value) (l : List (Int × List ByteArray)) (m : List (Int × Int × ByteArray)) (w : World) (hv : SigsAt w sv l) (hr : ReqsAt w rv m) (hn : MemS l) (hk : k.size ≤ 9223372036854775807) (hm : m.length ≤ 9223372036854775807) (h1 : fewBlock k l m = false) :
    Calls Try.prog 7 #[.agg #[.int .i64 v, .int .i64 p, .int .i64 cv, .string k, sv, rv]] w fun e w' => e = .returned (.bool true) ∧ Below w.heap.size w w' := by
  have HF := Lib.hid (fun wx (hb : Below w.heap.size w wx) => fewblock_any v p cv k sv rv l m wx (hv.later hb) (hr.later hb) hn hk hm)
  have HF := HF.out
  simp only [h1] at HF
  have HF := Lib.hid HF
  clear hn hk hm h1
  obtain ⟨a0, cap, rfl, _⟩ := hv
  obtain ⟨a1, cap1, rfl, _⟩ := hr
  go_enter Try.func7, Try.ntmps7
  go_wp2_with fail
  have K := Lib.hid (show BoxAt w w.heap.size [.int .i64 v, .int .i64 p, .int .i64 cv, .string k, .slice a0 l.length cap, .slice a1 m.length cap1] (w.alloc (.cells #[.int .i64 v, .int .i64 p, .int .i64 cv, .string k, .slice a0 l.length cap, .slice a1 m.length cap1] 31)) from box_mk w [.int .i64 v, .int .i64 p, .int .i64 cv, .string k, .slice a0 l.length cap, .slice a1 m.length cap1] 31)
  obtain ⟨g, hg⟩ : ∃ g, w.heap.size = g := ⟨_, rfl⟩
  rw [hg] at K ⊢
  have HG := Lib.hid hg
  clear hg
  generalize w.alloc (.cells #[.int .i64 v, .int .i64 p, .int .i64 cv, .string k, .slice a0 l.length cap, .slice a1 m.length cap1] 31) = w0 at *
  refine (awake_any _).mono ?_
  rintro e wn ⟨rfl, hbn⟩
  have K := Lib.hid (K.out.on hbn)
  clear hbn
  have c0 := K.out.cell 0 _ rfl
  have c1 := K.out.cell 1 _ rfl
  have c2 := K.out.cell 2 _ rfl
  have c3 := K.out.cell 3 _ rfl
  have c4 := K.out.cell 4 _ rfl
  have c5 := K.out.cell 5 _ rfl
  go_wp2_with fail
  clear c0 c1 c2 c3 c4 c5
  refine (HF.out _ K.out.below).mono ?_
  rintro e wn ⟨rfl, hbn⟩
  have K := Lib.hid (K.out.on hbn)
  clear hbn
  go_wp2_with fail
  refine (awake_any _).mono ?_
  rintro e wn ⟨rfl, hbn⟩
  have K := Lib.hid (K.out.on hbn)
  clear hbn
  go_wp2_with fail
  go_ret
  exact ⟨rfl, by rw [HG.out]; exact HG.out ▸ K.out.below⟩
set_option maxRecDepth 100000 in
set_option maxHeartbeats 8000000 in
theorem blocks_right (v p cv : Int) (k : ByteArray) (sv rv : Value) (l : List (Int × List ByteArray)) (m : List (Int × Int × ByteArray)) (w : World) (hv : SigsAt w sv l) (hr : ReqsAt w rv m) (hn : MemS l) (hk : k.size ≤ 9223372036854775807) (hm : m.length ≤ 9223372036854775807) (h1 : fewBlock k l m = true) (h2 : rightBlock v p cv k l m = true) :
    Calls Try.prog 7 #[.agg #[.int .i64 v, .int .i64 p, .int .i64 cv, .string k, sv, rv]] w fun e w' => e = .returned (.bool true) ∧ Below w.heap.size w w' := by
  have HF := Lib.hid (fun wx (hb : Below w.heap.size w wx) => fewblock_any v p cv k sv rv l m wx (hv.later hb) (hr.later hb) hn hk hm)
  have HF := HF.out
  simp only [h1] at HF
  have HF := Lib.hid HF
  have HC := Lib.hid (fun wx (hb : Below w.heap.size w wx) => block_any v p cv k sv rv l m wx (hv.later hb) (hr.later hb) (by have := (few_block h1).2.2.1; omega) (few_block h1).1 (few_block h1).2.1)
  have HR := Lib.hid (fun wx (hb : Below w.heap.size w wx) => rblock_any v p cv k sv rv l m wx (hv.later hb) (hr.later hb) (by have := (few_block h1).2.2.1; omega) (few_block h1).1 (few_block h1).2.1)
  have HO := Lib.hid (fun wx (hb : Below w.heap.size w wx) => core_any v p cv k sv rv l m wx (hv.later hb) (hr.later hb) (by have := (few_block h1).2.2.1; omega) (few_block h1).1 (few_block h1).2.1)
  have HQ := Lib.hid (fun wx (hb : Below w.heap.size w wx) => rcore_any v p cv k sv rv l m wx (hv.later hb) (hr.later hb) (by have := (few_block h1).2.2.1; omega) (few_block h1).1 (few_block h1).2.1)
  have HI := Lib.hid (fun wx (hb : Below w.heap.size w wx) => rightblock_any v p cv k sv rv l m wx (hv.later hb) (hr.later hb) hn)
  have hbz : (blockB v p cv k l m).size ≤ 1000000 := by
    unfold blockB
    rw [ByteArray.size_append, ByteArray.size_append, ByteArray.size_append, num_size, num_size, certB_size, flat_size]
    have := (few_block h1).2.2.1; have := (few_flat h1).1; have := (few_flat h1).2; omega
  have HRD := Lib.hid (fun wx => read_block (blockB v p cv k l m) hbz wx)
  have HI := HI.out
  simp only [h2] at HI
  have HI := Lib.hid HI
  have HRD := HRD.out
  rw [show blockRd (blockB v p cv k l m) = some (((v, p), ((cv, k), l)), m) from blockRd_put (c := (((v, p), ((cv, k), l)), m)) h2] at HRD
  have HRD := Lib.hid HRD
  have H2 := Lib.hid h2
  clear hn hk hm h1 h2 hbz
  obtain ⟨a0, cap, rfl, _⟩ := hv
  obtain ⟨a1, cap1, rfl, _⟩ := hr
  go_enter Try.func7, Try.ntmps7
  go_wp2_with fail
  have K := Lib.hid (show BoxAt w w.heap.size [.int .i64 v, .int .i64 p, .int .i64 cv, .string k, .slice a0 l.length cap, .slice a1 m.length cap1] (w.alloc (.cells #[.int .i64 v, .int .i64 p, .int .i64 cv, .string k, .slice a0 l.length cap, .slice a1 m.length cap1] 31)) from box_mk w [.int .i64 v, .int .i64 p, .int .i64 cv, .string k, .slice a0 l.length cap, .slice a1 m.length cap1] 31)
  obtain ⟨g, hg⟩ : ∃ g, w.heap.size = g := ⟨_, rfl⟩
  rw [hg] at K ⊢
  have HG := Lib.hid hg
  clear hg
  generalize w.alloc (.cells #[.int .i64 v, .int .i64 p, .int .i64 cv, .string k, .slice a0 l.length cap, .slice a1 m.length cap1] 31) = w0 at *
  refine (awake_any _).mono ?_
  rintro e wn ⟨rfl, hbn⟩
  have K := Lib.hid (K.out.on hbn)
  clear hbn
  have c0 := K.out.cell 0 _ rfl
  have c1 := K.out.cell 1 _ rfl
  have c2 := K.out.cell 2 _ rfl
  have c3 := K.out.cell 3 _ rfl
  have c4 := K.out.cell 4 _ rfl
  have c5 := K.out.cell 5 _ rfl
  go_wp2_with fail
  clear c0 c1 c2 c3 c4 c5
  refine (HF.out _ K.out.below).mono ?_
  rintro e wn ⟨rfl, hbn⟩
  have K := Lib.hid (K.out.on hbn)
  clear hbn
  have c0 := K.out.cell 0 _ rfl
  have c1 := K.out.cell 1 _ rfl
  have c2 := K.out.cell 2 _ rfl
  have c3 := K.out.cell 3 _ rfl
  have c4 := K.out.cell 4 _ rfl
  have c5 := K.out.cell 5 _ rfl
  go_wp2_with fail
  clear c0 c1 c2 c3 c4 c5
  refine (HC.out _ K.out.below).mono ?_
  rintro e wn ⟨rfl, hbn⟩
  have K := Lib.hid (K.out.on hbn)
  clear hbn
  obtain ⟨B, hB⟩ : ∃ B, blockB v p cv k l m = B := ⟨_, rfl⟩
  have HRD := HRD.out
  have HR := HR.out
  rw [hB] at HRD HR ⊢
  have HBE := Lib.hid hB
  clear hB
  have HRD := Lib.hid HRD
  have HR := Lib.hid HR
  obtain ⟨C, hC⟩ : ∃ C, coreB v p cv k m = C := ⟨_, rfl⟩
  have HO := HO.out
  have HQ := HQ.out
  rw [hC] at HO HQ
  have HO := Lib.hid HO
  have HQ := Lib.hid HQ
  clear hC
  go_wp2_with fail
  refine (HRD.out _).mono ?_
  rintro e w5 ⟨he, hb5⟩
  have K := Lib.hid (K.out.on hb5)
  clear hb5
  obtain ⟨xv, xr, rfl, hx, hxr⟩ := blockans_some he
  have HXC := Lib.hid (fun wx (hb : Below w5.heap.size w5 wx) => rblock_any v p cv k xv xr l m wx (hx.later hb) (hxr.later hb) (by have := (right_smallB H2.out).2.2.1; omega) (right_smallB H2.out).1 (right_smallB H2.out).2.1)
  have HXC := HXC.out
  rw [HBE.out] at HXC
  have HXC := Lib.hid HXC
  clear he
  dsimp only at *
  obtain ⟨xa, xcap, rfl, _⟩ := hx
  obtain ⟨ya, ycap, rfl, _⟩ := hxr
  have KA := Lib.hid (K.out.on ((Below.refl _ _).alloc (Nat.le_refl _) (.cells #[.int .i64 v, .int .i64 p, .int .i64 cv, .string k, .slice xa l.length xcap, .slice ya m.length ycap] 31)))
  have Y := Lib.hid (show BoxAt w5 w5.heap.size [.int .i64 v, .int .i64 p, .int .i64 cv, .string k, .slice xa l.length xcap, .slice ya m.length ycap] (w5.alloc (.cells #[.int .i64 v, .int .i64 p, .int .i64 cv, .string k, .slice xa l.length xcap, .slice ya m.length ycap] 31)) from box_mk w5 [.int .i64 v, .int .i64 p, .int .i64 cv, .string k, .slice xa l.length xcap, .slice ya m.length ycap] 31)
  have c0 := KA.out.cell 0 _ rfl
  have c1 := KA.out.cell 1 _ rfl
  have c2 := KA.out.cell 2 _ rfl
  have c3 := KA.out.cell 3 _ rfl
  have c4 := KA.out.cell 4 _ rfl
  have c5 := KA.out.cell 5 _ rfl
  go_wp2_with fail
  clear c0 c1 c2 c3 c4 c5
  generalize w5.alloc (.cells #[.int .i64 v, .int .i64 p, .int .i64 cv, .string k, .slice xa l.length xcap, .slice ya m.length ycap] 31) = w6 at *
  obtain ⟨y, hy⟩ : ∃ y, w5.heap.size = y := ⟨_, rfl⟩
  have HY := Lib.hid hy
  rw [hy] at Y ⊢
  clear hy
  have hk : w6.drew.cell? ⟨g, 0, none⟩ = some (.int .i64 v) ∧ w6.drew.cell? ⟨g, 1, none⟩ = some (.int .i64 p) ∧ w6.drew.cell? ⟨g, 2, none⟩ = some (.int .i64 cv) ∧ w6.drew.cell? ⟨g, 3, none⟩ = some (.string k) ∧ w6.drew.cell? ⟨g, 4, none⟩ = some (.slice a0 l.length cap) ∧ w6.drew.cell? ⟨g, 5, none⟩ = some (.slice a1 m.length cap1) ∧ BoxAt w g [.int .i64 v, .int .i64 p, .int .i64 cv, .string k, .slice a0 l.length cap, .slice a1 m.length cap1] w6.drew ∧ BoxAt w5 y [.int .i64 v, .int .i64 p, .int .i64 cv, .string k, .slice xa l.length xcap, .slice ya m.length ycap] w6.drew := by
    have a := KA.out.on (Below.refl w6.heap.size w6).drew
    have b := Y.out.on (Below.refl w6.heap.size w6).drew
    exact ⟨a.cell 0 _ rfl, a.cell 1 _ rfl, a.cell 2 _ rfl, a.cell 3 _ rfl, a.cell 4 _ rfl, a.cell 5 _ rfl, a, b⟩
  go_region_held3 (fun w' => w'.cell? ⟨g, 0, none⟩ = some (.int .i64 v) ∧ w'.cell? ⟨g, 1, none⟩ = some (.int .i64 p) ∧ w'.cell? ⟨g, 2, none⟩ = some (.int .i64 cv) ∧ w'.cell? ⟨g, 3, none⟩ = some (.string k) ∧ w'.cell? ⟨g, 4, none⟩ = some (.slice a0 l.length cap) ∧ w'.cell? ⟨g, 5, none⟩ = some (.slice a1 m.length cap1) ∧ BoxAt w g [.int .i64 v, .int .i64 p, .int .i64 cv, .string k, .slice a0 l.length cap, .slice a1 m.length cap1] w' ∧ BoxAt w5 y [.int .i64 v, .int .i64 p, .int .i64 cv, .string k, .slice xa l.length xcap, .slice ya m.length ycap] w')
    (first | exact hk)
    (first
      | (go_at_call 29; refine (HR.out _ hk.2.2.2.2.2.2.1.below).mono ?_; rintro e wn ⟨rfl, hbn⟩; have hk := two6_on hk hbn)
      | (go_at_call 30; refine (HO.out _ hk.2.2.2.2.2.2.1.below).mono ?_; rintro e wn ⟨rfl, hbn⟩; have hk := two6_on hk hbn)
      | (go_at_call 31; refine (HQ.out _ hk.2.2.2.2.2.2.1.below).mono ?_; rintro e wn ⟨rfl, hbn⟩; have hk := two6_on hk hbn))
  have KA := Lib.hid hk.2.2.2.2.2.2.1
  have Y := Lib.hid hk.2.2.2.2.2.2.2
  clear hk
  have c0 := KA.out.cell 0 _ rfl
  have c1 := KA.out.cell 1 _ rfl
  have c2 := KA.out.cell 2 _ rfl
  have c3 := KA.out.cell 3 _ rfl
  have c4 := KA.out.cell 4 _ rfl
  have c5 := KA.out.cell 5 _ rfl
  have d0 := Y.out.cell 0 _ rfl
  have d1 := Y.out.cell 1 _ rfl
  have d2 := Y.out.cell 2 _ rfl
  have d3 := Y.out.cell 3 _ rfl
  have d4 := Y.out.cell 4 _ rfl
  have d5 := Y.out.cell 5 _ rfl
  go_wp2_with fail
  clear c0 c1 c2 c3 c4 c5
  clear d0 d1 d2 d3 d4 d5
  refine (HI.out _ KA.out.below).mono ?_
  rintro e wn ⟨rfl, hbn⟩
  have KA := Lib.hid (KA.out.on hbn)
  have Y := Lib.hid (Y.out.on hbn)
  clear hbn
  have c0 := KA.out.cell 0 _ rfl
  have c1 := KA.out.cell 1 _ rfl
  have c2 := KA.out.cell 2 _ rfl
  have c3 := KA.out.cell 3 _ rfl
  have c4 := KA.out.cell 4 _ rfl
  have c5 := KA.out.cell 5 _ rfl
  have d0 := Y.out.cell 0 _ rfl
  have d1 := Y.out.cell 1 _ rfl
  have d2 := Y.out.cell 2 _ rfl
  have d3 := Y.out.cell 3 _ rfl
  have d4 := Y.out.cell 4 _ rfl
  have d5 := Y.out.cell 5 _ rfl
  go_wp2_with fail
  clear c0 c1 c2 c3 c4 c5
  clear d0 d1 d2 d3 d4 d5
  refine (HXC.out _ Y.out.below).mono ?_
  rintro e wn ⟨rfl, hbn⟩
  have KA := Lib.hid (KA.out.on hbn)
  have Y := Lib.hid (Y.out.on hbn)
  clear hbn
  have c0 := KA.out.cell 0 _ rfl
  have c1 := KA.out.cell 1 _ rfl
  have c2 := KA.out.cell 2 _ rfl
  have c3 := KA.out.cell 3 _ rfl
  have c4 := KA.out.cell 4 _ rfl
  have c5 := KA.out.cell 5 _ rfl
  have d0 := Y.out.cell 0 _ rfl
  have d1 := Y.out.cell 1 _ rfl
  have d2 := Y.out.cell 2 _ rfl
  have d3 := Y.out.cell 3 _ rfl
  have d4 := Y.out.cell 4 _ rfl
  have d5 := Y.out.cell 5 _ rfl
  go_wp2_with fail
  go_ret
  exact ⟨rfl, by rw [HG.out]; exact HG.out ▸ KA.out.below⟩
set_option maxRecDepth 100000 in
set_option maxHeartbeats 8000000 in
theorem blocks_form (v p cv : Int) (k : ByteArray) (sv rv : Value) (l : List (Int × List ByteArray)) (m : List (Int × Int × ByteArray)) (w : World) (hv : SigsAt w sv l) (hr : ReqsAt w rv m) (hn : MemS l) (hk : k.size ≤ 9223372036854775807) (hm : m.length ≤ 9223372036854775807) (h1 : fewBlock k l m = true) (h2 : rightBlock v p cv k l m = false) (h3 : blockRd (blockB v p cv k l m) = none) :
    Calls Try.prog 7 #[.agg #[.int .i64 v, .int .i64 p, .int .i64 cv, .string k, sv, rv]] w fun e w' => e = .returned (.bool true) ∧ Below w.heap.size w w' := by
  have HF := Lib.hid (fun wx (hb : Below w.heap.size w wx) => fewblock_any v p cv k sv rv l m wx (hv.later hb) (hr.later hb) hn hk hm)
  have HF := HF.out
  simp only [h1] at HF
  have HF := Lib.hid HF
  have HC := Lib.hid (fun wx (hb : Below w.heap.size w wx) => block_any v p cv k sv rv l m wx (hv.later hb) (hr.later hb) (by have := (few_block h1).2.2.1; omega) (few_block h1).1 (few_block h1).2.1)
  have HR := Lib.hid (fun wx (hb : Below w.heap.size w wx) => rblock_any v p cv k sv rv l m wx (hv.later hb) (hr.later hb) (by have := (few_block h1).2.2.1; omega) (few_block h1).1 (few_block h1).2.1)
  have HO := Lib.hid (fun wx (hb : Below w.heap.size w wx) => core_any v p cv k sv rv l m wx (hv.later hb) (hr.later hb) (by have := (few_block h1).2.2.1; omega) (few_block h1).1 (few_block h1).2.1)
  have HQ := Lib.hid (fun wx (hb : Below w.heap.size w wx) => rcore_any v p cv k sv rv l m wx (hv.later hb) (hr.later hb) (by have := (few_block h1).2.2.1; omega) (few_block h1).1 (few_block h1).2.1)
  have HI := Lib.hid (fun wx (hb : Below w.heap.size w wx) => rightblock_any v p cv k sv rv l m wx (hv.later hb) (hr.later hb) hn)
  have hbz : (blockB v p cv k l m).size ≤ 1000000 := by
    unfold blockB
    rw [ByteArray.size_append, ByteArray.size_append, ByteArray.size_append, num_size, num_size, certB_size, flat_size]
    have := (few_block h1).2.2.1; have := (few_flat h1).1; have := (few_flat h1).2; omega
  have HRD := Lib.hid (fun wx => read_block (blockB v p cv k l m) hbz wx)
  have HI := HI.out
  simp only [h2] at HI
  have HI := Lib.hid HI
  have HRD := HRD.out
  rw [h3] at HRD
  have HRD := Lib.hid HRD
  clear hn hk hm h1 h2 h3 hbz
  obtain ⟨a0, cap, rfl, _⟩ := hv
  obtain ⟨a1, cap1, rfl, _⟩ := hr
  go_enter Try.func7, Try.ntmps7
  go_wp2_with fail
  have K := Lib.hid (show BoxAt w w.heap.size [.int .i64 v, .int .i64 p, .int .i64 cv, .string k, .slice a0 l.length cap, .slice a1 m.length cap1] (w.alloc (.cells #[.int .i64 v, .int .i64 p, .int .i64 cv, .string k, .slice a0 l.length cap, .slice a1 m.length cap1] 31)) from box_mk w [.int .i64 v, .int .i64 p, .int .i64 cv, .string k, .slice a0 l.length cap, .slice a1 m.length cap1] 31)
  obtain ⟨g, hg⟩ : ∃ g, w.heap.size = g := ⟨_, rfl⟩
  rw [hg] at K ⊢
  have HG := Lib.hid hg
  clear hg
  generalize w.alloc (.cells #[.int .i64 v, .int .i64 p, .int .i64 cv, .string k, .slice a0 l.length cap, .slice a1 m.length cap1] 31) = w0 at *
  refine (awake_any _).mono ?_
  rintro e wn ⟨rfl, hbn⟩
  have K := Lib.hid (K.out.on hbn)
  clear hbn
  have c0 := K.out.cell 0 _ rfl
  have c1 := K.out.cell 1 _ rfl
  have c2 := K.out.cell 2 _ rfl
  have c3 := K.out.cell 3 _ rfl
  have c4 := K.out.cell 4 _ rfl
  have c5 := K.out.cell 5 _ rfl
  go_wp2_with fail
  clear c0 c1 c2 c3 c4 c5
  refine (HF.out _ K.out.below).mono ?_
  rintro e wn ⟨rfl, hbn⟩
  have K := Lib.hid (K.out.on hbn)
  clear hbn
  have c0 := K.out.cell 0 _ rfl
  have c1 := K.out.cell 1 _ rfl
  have c2 := K.out.cell 2 _ rfl
  have c3 := K.out.cell 3 _ rfl
  have c4 := K.out.cell 4 _ rfl
  have c5 := K.out.cell 5 _ rfl
  go_wp2_with fail
  clear c0 c1 c2 c3 c4 c5
  refine (HC.out _ K.out.below).mono ?_
  rintro e wn ⟨rfl, hbn⟩
  have K := Lib.hid (K.out.on hbn)
  clear hbn
  obtain ⟨B, hB⟩ : ∃ B, blockB v p cv k l m = B := ⟨_, rfl⟩
  have HRD := HRD.out
  have HR := HR.out
  rw [hB] at HRD HR ⊢
  have HBE := Lib.hid hB
  clear hB
  have HRD := Lib.hid HRD
  have HR := Lib.hid HR
  obtain ⟨C, hC⟩ : ∃ C, coreB v p cv k m = C := ⟨_, rfl⟩
  have HO := HO.out
  have HQ := HQ.out
  rw [hC] at HO HQ
  have HO := Lib.hid HO
  have HQ := Lib.hid HQ
  clear hC
  go_wp2_with fail
  refine (HRD.out _).mono ?_
  rintro e w5 ⟨he, hb5⟩
  have K := Lib.hid (K.out.on hb5)
  clear hb5
  obtain rfl : e = .returned (.tuple #[.agg #[.int .i64 0, .int .i64 0, .int .i64 0, .string ⟨#[]⟩, .slice none 0 0, .slice none 0 0], .int .i64 2]) := he
  have KA := Lib.hid (K.out.on ((Below.refl _ _).alloc (Nat.le_refl _) (.cells #[.int .i64 0, .int .i64 0, .int .i64 0, .string ⟨#[]⟩, .slice none 0 0, .slice none 0 0] 31)))
  have Y := Lib.hid (show BoxAt w5 w5.heap.size [.int .i64 0, .int .i64 0, .int .i64 0, .string ⟨#[]⟩, .slice none 0 0, .slice none 0 0] (w5.alloc (.cells #[.int .i64 0, .int .i64 0, .int .i64 0, .string ⟨#[]⟩, .slice none 0 0, .slice none 0 0] 31)) from box_mk w5 [.int .i64 0, .int .i64 0, .int .i64 0, .string ⟨#[]⟩, .slice none 0 0, .slice none 0 0] 31)
  have c0 := KA.out.cell 0 _ rfl
  have c1 := KA.out.cell 1 _ rfl
  have c2 := KA.out.cell 2 _ rfl
  have c3 := KA.out.cell 3 _ rfl
  have c4 := KA.out.cell 4 _ rfl
  have c5 := KA.out.cell 5 _ rfl
  go_wp2_with fail
  clear c0 c1 c2 c3 c4 c5
  generalize w5.alloc (.cells #[.int .i64 0, .int .i64 0, .int .i64 0, .string ⟨#[]⟩, .slice none 0 0, .slice none 0 0] 31) = w6 at *
  obtain ⟨y, hy⟩ : ∃ y, w5.heap.size = y := ⟨_, rfl⟩
  have HY := Lib.hid hy
  rw [hy] at Y ⊢
  clear hy
  have hk : w6.drew.cell? ⟨g, 0, none⟩ = some (.int .i64 v) ∧ w6.drew.cell? ⟨g, 1, none⟩ = some (.int .i64 p) ∧ w6.drew.cell? ⟨g, 2, none⟩ = some (.int .i64 cv) ∧ w6.drew.cell? ⟨g, 3, none⟩ = some (.string k) ∧ w6.drew.cell? ⟨g, 4, none⟩ = some (.slice a0 l.length cap) ∧ w6.drew.cell? ⟨g, 5, none⟩ = some (.slice a1 m.length cap1) ∧ BoxAt w g [.int .i64 v, .int .i64 p, .int .i64 cv, .string k, .slice a0 l.length cap, .slice a1 m.length cap1] w6.drew ∧ BoxAt w5 y [.int .i64 0, .int .i64 0, .int .i64 0, .string ⟨#[]⟩, .slice none 0 0, .slice none 0 0] w6.drew := by
    have a := KA.out.on (Below.refl w6.heap.size w6).drew
    have b := Y.out.on (Below.refl w6.heap.size w6).drew
    exact ⟨a.cell 0 _ rfl, a.cell 1 _ rfl, a.cell 2 _ rfl, a.cell 3 _ rfl, a.cell 4 _ rfl, a.cell 5 _ rfl, a, b⟩
  go_region_held3 (fun w' => w'.cell? ⟨g, 0, none⟩ = some (.int .i64 v) ∧ w'.cell? ⟨g, 1, none⟩ = some (.int .i64 p) ∧ w'.cell? ⟨g, 2, none⟩ = some (.int .i64 cv) ∧ w'.cell? ⟨g, 3, none⟩ = some (.string k) ∧ w'.cell? ⟨g, 4, none⟩ = some (.slice a0 l.length cap) ∧ w'.cell? ⟨g, 5, none⟩ = some (.slice a1 m.length cap1) ∧ BoxAt w g [.int .i64 v, .int .i64 p, .int .i64 cv, .string k, .slice a0 l.length cap, .slice a1 m.length cap1] w' ∧ BoxAt w5 y [.int .i64 0, .int .i64 0, .int .i64 0, .string ⟨#[]⟩, .slice none 0 0, .slice none 0 0] w')
    (first | exact hk)
    (first
      | (go_at_call 29; refine (HR.out _ hk.2.2.2.2.2.2.1.below).mono ?_; rintro e wn ⟨rfl, hbn⟩; have hk := two6_on hk hbn)
      | (go_at_call 30; refine (HO.out _ hk.2.2.2.2.2.2.1.below).mono ?_; rintro e wn ⟨rfl, hbn⟩; have hk := two6_on hk hbn)
      | (go_at_call 31; refine (HQ.out _ hk.2.2.2.2.2.2.1.below).mono ?_; rintro e wn ⟨rfl, hbn⟩; have hk := two6_on hk hbn))
  have KA := Lib.hid hk.2.2.2.2.2.2.1
  have Y := Lib.hid hk.2.2.2.2.2.2.2
  clear hk
  have c0 := KA.out.cell 0 _ rfl
  have c1 := KA.out.cell 1 _ rfl
  have c2 := KA.out.cell 2 _ rfl
  have c3 := KA.out.cell 3 _ rfl
  have c4 := KA.out.cell 4 _ rfl
  have c5 := KA.out.cell 5 _ rfl
  have d0 := Y.out.cell 0 _ rfl
  have d1 := Y.out.cell 1 _ rfl
  have d2 := Y.out.cell 2 _ rfl
  have d3 := Y.out.cell 3 _ rfl
  have d4 := Y.out.cell 4 _ rfl
  have d5 := Y.out.cell 5 _ rfl
  go_wp2_with fail
  clear c0 c1 c2 c3 c4 c5
  clear d0 d1 d2 d3 d4 d5
  refine (HI.out _ KA.out.below).mono ?_
  rintro e wn ⟨rfl, hbn⟩
  have KA := Lib.hid (KA.out.on hbn)
  have Y := Lib.hid (Y.out.on hbn)
  clear hbn
  have c0 := KA.out.cell 0 _ rfl
  have c1 := KA.out.cell 1 _ rfl
  have c2 := KA.out.cell 2 _ rfl
  have c3 := KA.out.cell 3 _ rfl
  have c4 := KA.out.cell 4 _ rfl
  have c5 := KA.out.cell 5 _ rfl
  have d0 := Y.out.cell 0 _ rfl
  have d1 := Y.out.cell 1 _ rfl
  have d2 := Y.out.cell 2 _ rfl
  have d3 := Y.out.cell 3 _ rfl
  have d4 := Y.out.cell 4 _ rfl
  have d5 := Y.out.cell 5 _ rfl
  go_wp2_with fail
  clear c0 c1 c2 c3 c4 c5
  clear d0 d1 d2 d3 d4 d5
  refine (zeroblock_zero _).mono ?_
  rintro e wn ⟨rfl, hbn⟩
  have KA := Lib.hid (KA.out.on hbn)
  have Y := Lib.hid (Y.out.on hbn)
  clear hbn
  have c0 := KA.out.cell 0 _ rfl
  have c1 := KA.out.cell 1 _ rfl
  have c2 := KA.out.cell 2 _ rfl
  have c3 := KA.out.cell 3 _ rfl
  have c4 := KA.out.cell 4 _ rfl
  have c5 := KA.out.cell 5 _ rfl
  have d0 := Y.out.cell 0 _ rfl
  have d1 := Y.out.cell 1 _ rfl
  have d2 := Y.out.cell 2 _ rfl
  have d3 := Y.out.cell 3 _ rfl
  have d4 := Y.out.cell 4 _ rfl
  have d5 := Y.out.cell 5 _ rfl
  go_wp2_with fail
  go_ret
  exact ⟨rfl, by rw [HG.out]; exact HG.out ▸ KA.out.below⟩
set_option maxRecDepth 100000 in
set_option maxHeartbeats 8000000 in
theorem blocks_other (v p cv : Int) (k : ByteArray) (sv rv : Value) (l : List (Int × List ByteArray)) (m : List (Int × Int × ByteArray)) (w : World) (hv : SigsAt w sv l) (hr : ReqsAt w rv m) (hn : MemS l) (hk : k.size ≤ 9223372036854775807) (hm : m.length ≤ 9223372036854775807) (h1 : fewBlock k l m = true) (h2 : rightBlock v p cv k l m = false) (d : BlockD) (h3 : blockRd (blockB v p cv k l m) = some d) :
    Calls Try.prog 7 #[.agg #[.int .i64 v, .int .i64 p, .int .i64 cv, .string k, sv, rv]] w fun e w' => e = .returned (.bool true) ∧ Below w.heap.size w w' := by
  have HF := Lib.hid (fun wx (hb : Below w.heap.size w wx) => fewblock_any v p cv k sv rv l m wx (hv.later hb) (hr.later hb) hn hk hm)
  have HF := HF.out
  simp only [h1] at HF
  have HF := Lib.hid HF
  have HC := Lib.hid (fun wx (hb : Below w.heap.size w wx) => block_any v p cv k sv rv l m wx (hv.later hb) (hr.later hb) (by have := (few_block h1).2.2.1; omega) (few_block h1).1 (few_block h1).2.1)
  have HR := Lib.hid (fun wx (hb : Below w.heap.size w wx) => rblock_any v p cv k sv rv l m wx (hv.later hb) (hr.later hb) (by have := (few_block h1).2.2.1; omega) (few_block h1).1 (few_block h1).2.1)
  have HO := Lib.hid (fun wx (hb : Below w.heap.size w wx) => core_any v p cv k sv rv l m wx (hv.later hb) (hr.later hb) (by have := (few_block h1).2.2.1; omega) (few_block h1).1 (few_block h1).2.1)
  have HQ := Lib.hid (fun wx (hb : Below w.heap.size w wx) => rcore_any v p cv k sv rv l m wx (hv.later hb) (hr.later hb) (by have := (few_block h1).2.2.1; omega) (few_block h1).1 (few_block h1).2.1)
  have HI := Lib.hid (fun wx (hb : Below w.heap.size w wx) => rightblock_any v p cv k sv rv l m wx (hv.later hb) (hr.later hb) hn)
  have hbz : (blockB v p cv k l m).size ≤ 1000000 := by
    unfold blockB
    rw [ByteArray.size_append, ByteArray.size_append, ByteArray.size_append, num_size, num_size, certB_size, flat_size]
    have := (few_block h1).2.2.1; have := (few_flat h1).1; have := (few_flat h1).2; omega
  have HRD := Lib.hid (fun wx => read_block (blockB v p cv k l m) hbz wx)
  have HI := HI.out
  simp only [h2] at HI
  have HI := Lib.hid HI
  have HRD := HRD.out
  rw [h3] at HRD
  have HRD := Lib.hid HRD
  have H3 := Lib.hid (blockRd_sound h3)
  clear hn hk hm h1 h2 h3 hbz
  obtain ⟨a0, cap, rfl, _⟩ := hv
  obtain ⟨a1, cap1, rfl, _⟩ := hr
  go_enter Try.func7, Try.ntmps7
  go_wp2_with fail
  have K := Lib.hid (show BoxAt w w.heap.size [.int .i64 v, .int .i64 p, .int .i64 cv, .string k, .slice a0 l.length cap, .slice a1 m.length cap1] (w.alloc (.cells #[.int .i64 v, .int .i64 p, .int .i64 cv, .string k, .slice a0 l.length cap, .slice a1 m.length cap1] 31)) from box_mk w [.int .i64 v, .int .i64 p, .int .i64 cv, .string k, .slice a0 l.length cap, .slice a1 m.length cap1] 31)
  obtain ⟨g, hg⟩ : ∃ g, w.heap.size = g := ⟨_, rfl⟩
  rw [hg] at K ⊢
  have HG := Lib.hid hg
  clear hg
  generalize w.alloc (.cells #[.int .i64 v, .int .i64 p, .int .i64 cv, .string k, .slice a0 l.length cap, .slice a1 m.length cap1] 31) = w0 at *
  refine (awake_any _).mono ?_
  rintro e wn ⟨rfl, hbn⟩
  have K := Lib.hid (K.out.on hbn)
  clear hbn
  have c0 := K.out.cell 0 _ rfl
  have c1 := K.out.cell 1 _ rfl
  have c2 := K.out.cell 2 _ rfl
  have c3 := K.out.cell 3 _ rfl
  have c4 := K.out.cell 4 _ rfl
  have c5 := K.out.cell 5 _ rfl
  go_wp2_with fail
  clear c0 c1 c2 c3 c4 c5
  refine (HF.out _ K.out.below).mono ?_
  rintro e wn ⟨rfl, hbn⟩
  have K := Lib.hid (K.out.on hbn)
  clear hbn
  have c0 := K.out.cell 0 _ rfl
  have c1 := K.out.cell 1 _ rfl
  have c2 := K.out.cell 2 _ rfl
  have c3 := K.out.cell 3 _ rfl
  have c4 := K.out.cell 4 _ rfl
  have c5 := K.out.cell 5 _ rfl
  go_wp2_with fail
  clear c0 c1 c2 c3 c4 c5
  refine (HC.out _ K.out.below).mono ?_
  rintro e wn ⟨rfl, hbn⟩
  have K := Lib.hid (K.out.on hbn)
  clear hbn
  obtain ⟨B, hB⟩ : ∃ B, blockB v p cv k l m = B := ⟨_, rfl⟩
  have HRD := HRD.out
  have HR := HR.out
  rw [hB] at HRD HR ⊢
  have HBE := Lib.hid hB
  clear hB
  have HRD := Lib.hid HRD
  have HR := Lib.hid HR
  obtain ⟨C, hC⟩ : ∃ C, coreB v p cv k m = C := ⟨_, rfl⟩
  have HO := HO.out
  have HQ := HQ.out
  rw [hC] at HO HQ
  have HO := Lib.hid HO
  have HQ := Lib.hid HQ
  clear hC
  go_wp2_with fail
  refine (HRD.out _).mono ?_
  rintro e w5 ⟨he, hb5⟩
  have K := Lib.hid (K.out.on hb5)
  clear hb5
  obtain ⟨xv, xr, rfl, hx, hxr⟩ := blockans_some he
  obtain ⟨⟨⟨dv, dp⟩, ⟨⟨dc, dk⟩, dl⟩⟩, dm⟩ := d
  have h4 : rightBlock dv dp dc dk dl dm = true := H3.out.2
  have h5 : blockB dv dp dc dk dl dm = B := by rw [← HBE.out]; exact H3.out.1.symm
  have HXC := Lib.hid (fun wx (hb : Below w5.heap.size w5 wx) => rblock_any dv dp dc dk xv xr dl dm wx (hx.later hb) (hxr.later hb) (by have := (right_smallB h4).2.2.1; omega) (right_smallB h4).1 (right_smallB h4).2.1)
  have HXI := Lib.hid (fun wx (hb : Below w5.heap.size w5 wx) => rightblock_any dv dp dc dk xv xr dl dm wx (hx.later hb) (hxr.later hb) (right_smallB h4).2.2.2.1)
  have HXI := HXI.out
  simp only [h4] at HXI
  have HXI := Lib.hid HXI
  have HXC := HXC.out
  rw [h5] at HXC
  have HXC := Lib.hid HXC
  clear he h4 h5 H3
  dsimp only at *
  obtain ⟨xa, xcap, rfl, _⟩ := hx
  obtain ⟨ya, ycap, rfl, _⟩ := hxr
  have KA := Lib.hid (K.out.on ((Below.refl _ _).alloc (Nat.le_refl _) (.cells #[.int .i64 dv, .int .i64 dp, .int .i64 dc, .string dk, .slice xa dl.length xcap, .slice ya dm.length ycap] 31)))
  have Y := Lib.hid (show BoxAt w5 w5.heap.size [.int .i64 dv, .int .i64 dp, .int .i64 dc, .string dk, .slice xa dl.length xcap, .slice ya dm.length ycap] (w5.alloc (.cells #[.int .i64 dv, .int .i64 dp, .int .i64 dc, .string dk, .slice xa dl.length xcap, .slice ya dm.length ycap] 31)) from box_mk w5 [.int .i64 dv, .int .i64 dp, .int .i64 dc, .string dk, .slice xa dl.length xcap, .slice ya dm.length ycap] 31)
  have c0 := KA.out.cell 0 _ rfl
  have c1 := KA.out.cell 1 _ rfl
  have c2 := KA.out.cell 2 _ rfl
  have c3 := KA.out.cell 3 _ rfl
  have c4 := KA.out.cell 4 _ rfl
  have c5 := KA.out.cell 5 _ rfl
  go_wp2_with fail
  clear c0 c1 c2 c3 c4 c5
  generalize w5.alloc (.cells #[.int .i64 dv, .int .i64 dp, .int .i64 dc, .string dk, .slice xa dl.length xcap, .slice ya dm.length ycap] 31) = w6 at *
  obtain ⟨y, hy⟩ : ∃ y, w5.heap.size = y := ⟨_, rfl⟩
  have HY := Lib.hid hy
  rw [hy] at Y ⊢
  clear hy
  have hk : w6.drew.cell? ⟨g, 0, none⟩ = some (.int .i64 v) ∧ w6.drew.cell? ⟨g, 1, none⟩ = some (.int .i64 p) ∧ w6.drew.cell? ⟨g, 2, none⟩ = some (.int .i64 cv) ∧ w6.drew.cell? ⟨g, 3, none⟩ = some (.string k) ∧ w6.drew.cell? ⟨g, 4, none⟩ = some (.slice a0 l.length cap) ∧ w6.drew.cell? ⟨g, 5, none⟩ = some (.slice a1 m.length cap1) ∧ BoxAt w g [.int .i64 v, .int .i64 p, .int .i64 cv, .string k, .slice a0 l.length cap, .slice a1 m.length cap1] w6.drew ∧ BoxAt w5 y [.int .i64 dv, .int .i64 dp, .int .i64 dc, .string dk, .slice xa dl.length xcap, .slice ya dm.length ycap] w6.drew := by
    have a := KA.out.on (Below.refl w6.heap.size w6).drew
    have b := Y.out.on (Below.refl w6.heap.size w6).drew
    exact ⟨a.cell 0 _ rfl, a.cell 1 _ rfl, a.cell 2 _ rfl, a.cell 3 _ rfl, a.cell 4 _ rfl, a.cell 5 _ rfl, a, b⟩
  go_region_held3 (fun w' => w'.cell? ⟨g, 0, none⟩ = some (.int .i64 v) ∧ w'.cell? ⟨g, 1, none⟩ = some (.int .i64 p) ∧ w'.cell? ⟨g, 2, none⟩ = some (.int .i64 cv) ∧ w'.cell? ⟨g, 3, none⟩ = some (.string k) ∧ w'.cell? ⟨g, 4, none⟩ = some (.slice a0 l.length cap) ∧ w'.cell? ⟨g, 5, none⟩ = some (.slice a1 m.length cap1) ∧ BoxAt w g [.int .i64 v, .int .i64 p, .int .i64 cv, .string k, .slice a0 l.length cap, .slice a1 m.length cap1] w' ∧ BoxAt w5 y [.int .i64 dv, .int .i64 dp, .int .i64 dc, .string dk, .slice xa dl.length xcap, .slice ya dm.length ycap] w')
    (first | exact hk)
    (first
      | (go_at_call 29; refine (HR.out _ hk.2.2.2.2.2.2.1.below).mono ?_; rintro e wn ⟨rfl, hbn⟩; have hk := two6_on hk hbn)
      | (go_at_call 30; refine (HO.out _ hk.2.2.2.2.2.2.1.below).mono ?_; rintro e wn ⟨rfl, hbn⟩; have hk := two6_on hk hbn)
      | (go_at_call 31; refine (HQ.out _ hk.2.2.2.2.2.2.1.below).mono ?_; rintro e wn ⟨rfl, hbn⟩; have hk := two6_on hk hbn))
  have KA := Lib.hid hk.2.2.2.2.2.2.1
  have Y := Lib.hid hk.2.2.2.2.2.2.2
  clear hk
  have c0 := KA.out.cell 0 _ rfl
  have c1 := KA.out.cell 1 _ rfl
  have c2 := KA.out.cell 2 _ rfl
  have c3 := KA.out.cell 3 _ rfl
  have c4 := KA.out.cell 4 _ rfl
  have c5 := KA.out.cell 5 _ rfl
  have d0 := Y.out.cell 0 _ rfl
  have d1 := Y.out.cell 1 _ rfl
  have d2 := Y.out.cell 2 _ rfl
  have d3 := Y.out.cell 3 _ rfl
  have d4 := Y.out.cell 4 _ rfl
  have d5 := Y.out.cell 5 _ rfl
  go_wp2_with fail
  clear c0 c1 c2 c3 c4 c5
  clear d0 d1 d2 d3 d4 d5
  refine (HI.out _ KA.out.below).mono ?_
  rintro e wn ⟨rfl, hbn⟩
  have KA := Lib.hid (KA.out.on hbn)
  have Y := Lib.hid (Y.out.on hbn)
  clear hbn
  have c0 := KA.out.cell 0 _ rfl
  have c1 := KA.out.cell 1 _ rfl
  have c2 := KA.out.cell 2 _ rfl
  have c3 := KA.out.cell 3 _ rfl
  have c4 := KA.out.cell 4 _ rfl
  have c5 := KA.out.cell 5 _ rfl
  have d0 := Y.out.cell 0 _ rfl
  have d1 := Y.out.cell 1 _ rfl
  have d2 := Y.out.cell 2 _ rfl
  have d3 := Y.out.cell 3 _ rfl
  have d4 := Y.out.cell 4 _ rfl
  have d5 := Y.out.cell 5 _ rfl
  go_wp2_with fail
  clear c0 c1 c2 c3 c4 c5
  clear d0 d1 d2 d3 d4 d5
  refine (HXI.out _ Y.out.below).mono ?_
  rintro e wn ⟨rfl, hbn⟩
  have KA := Lib.hid (KA.out.on hbn)
  have Y := Lib.hid (Y.out.on hbn)
  clear hbn
  have c0 := KA.out.cell 0 _ rfl
  have c1 := KA.out.cell 1 _ rfl
  have c2 := KA.out.cell 2 _ rfl
  have c3 := KA.out.cell 3 _ rfl
  have c4 := KA.out.cell 4 _ rfl
  have c5 := KA.out.cell 5 _ rfl
  have d0 := Y.out.cell 0 _ rfl
  have d1 := Y.out.cell 1 _ rfl
  have d2 := Y.out.cell 2 _ rfl
  have d3 := Y.out.cell 3 _ rfl
  have d4 := Y.out.cell 4 _ rfl
  have d5 := Y.out.cell 5 _ rfl
  go_wp2_with fail
  clear c0 c1 c2 c3 c4 c5
  clear d0 d1 d2 d3 d4 d5
  refine (HXC.out _ Y.out.below).mono ?_
  rintro e wn ⟨rfl, hbn⟩
  have KA := Lib.hid (KA.out.on hbn)
  have Y := Lib.hid (Y.out.on hbn)
  clear hbn
  have c0 := KA.out.cell 0 _ rfl
  have c1 := KA.out.cell 1 _ rfl
  have c2 := KA.out.cell 2 _ rfl
  have c3 := KA.out.cell 3 _ rfl
  have c4 := KA.out.cell 4 _ rfl
  have c5 := KA.out.cell 5 _ rfl
  have d0 := Y.out.cell 0 _ rfl
  have d1 := Y.out.cell 1 _ rfl
  have d2 := Y.out.cell 2 _ rfl
  have d3 := Y.out.cell 3 _ rfl
  have d4 := Y.out.cell 4 _ rfl
  have d5 := Y.out.cell 5 _ rfl
  go_wp2_with fail
  go_ret
  exact ⟨rfl, by rw [HG.out]; exact HG.out ▸ KA.out.below⟩
theorem blocks_walk (v p cv : Int) (k : ByteArray) (sv rv : Value) (l : List (Int × List ByteArray)) (m : List (Int × Int × ByteArray)) (w : World) (hv : SigsAt w sv l) (hr : ReqsAt w rv m) (hn : MemS l) (hk : k.size ≤ 9223372036854775807) (hm : m.length ≤ 9223372036854775807) :
    Calls Try.prog 7 #[.agg #[.int .i64 v, .int .i64 p, .int .i64 cv, .string k, sv, rv]] w fun e w' => e = .returned (.bool true) ∧ Below w.heap.size w w' := by
  rcases h1 : fewBlock k l m with _ | _
  · exact blocks_many v p cv k sv rv l m w hv hr hn hk hm h1
  rcases h2 : rightBlock v p cv k l m with _ | _
  · rcases h3 : blockRd (blockB v p cv k l m) with _ | d
    · exact blocks_form v p cv k sv rv l m w hv hr hn hk hm h1 h2 h3
    · exact blocks_other v p cv k sv rv l m w hv hr hn hk hm h1 h2 d h3
  · exact blocks_right v p cv k sv rv l m w hv hr hn hk hm h1 h2
end Go.Proofs.Ytbeodmijjanmeaa
