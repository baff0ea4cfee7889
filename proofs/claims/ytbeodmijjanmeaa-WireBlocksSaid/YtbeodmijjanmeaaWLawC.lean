/-
  The walk of the law WireCerts.
-/
import Derived.Test.YtbeodmijjanmeaaWApart
import Derived.Test.YtbeodmijjanmeaaWRef2
import Derived.Test.YtbeodmijjanmeaaWWholeC
open Go Go.RowKit
namespace WW
open BB
theorem certRd_some {b r : ByteArray} {d : CertD} (h : certI b = some (r, d)) (h0 : r.size = 0) : certRd b = some d := by unfold certRd; rw [h]; exact if_pos h0
theorem ba_nil (b : ByteArray) : b ++ ⟨#[]⟩ = b := ba_ext (by simp)
theorem certRd_put {c : CertD} (h : certOk c) : certRd (certD c) = some c := by
  have := codec_cert.put c ⟨#[]⟩ h
  rw [ba_nil] at this
  exact certRd_some this rfl
theorem certRd_sound {b : ByteArray} {c : CertD} (h : certRd b = some c) : b = certD c ∧ certOk c := by
  unfold certRd at h
  rcases h1 : certI b with _ | ⟨r, d⟩
  · rw [h1] at h; cases h
  rw [h1] at h
  dsimp only at h
  split at h
  · rename_i h0
    injection h with h
    subst h
    obtain ⟨e1, e2⟩ := codec_cert.sound _ _ _ h1
    exact ⟨by rw [e1, nil_size r h0]; exact ba_ext (by simp), e2⟩
  · cases h
theorem right_small {v : Int} {k : ByteArray} {l : List (Int × List ByteArray)} (h : rightCert v k l = true) : SmallS l ∧ k.size = 32 ∧ l.length ≤ 7 ∧ MemS l := by
  unfold rightCert at h
  simp only [Bool.and_eq_true, decide_eq_true_eq] at h
  obtain ⟨⟨⟨⟨h1, h2⟩, h3⟩, h4⟩, h5⟩ := h
  rw [okTo_iff] at h5
  have hs : ∀ p ∈ l, (∀ t ∈ p.2, t.size = 16) ∧ p.2.length ≤ 7 := fun p hp => by
    have := (all_getD (p := fun p => rightSig p.1 p.2 = true)).1 h5.1 p hp
    unfold rightSig at this
    simp only [Bool.and_eq_true, decide_eq_true_eq, List.all_eq_true] at this
    obtain ⟨a, _, b⟩ := this
    rw [List.take_of_length_le (by omega)] at a
    exact ⟨a, b⟩
  have hfl : ∀ p ∈ l, (flat p.2).length ≤ 112 := fun p hp => by
    have := flat_le 16 p.2 (fun x hx => by have := (hs p hp).1 x hx; omega)
    have := (hs p hp).2
    omega
  have hmem : ∀ i, i < l.length → l.getD i (0, []) ∈ l := fun i hi => by rw [List.getD_eq_getElem?_getD, List.getElem?_eq_getElem hi]; exact List.getElem_mem hi
  refine ⟨⟨by omega, ?_, fun i hi => ⟨by have := hfl _ (hmem i hi); omega, by have := (hs _ (hmem i hi)).2; omega⟩⟩, h3, h4, by omega, fun i hi => by have := (hs _ (hmem i hi)).2; omega⟩
  have := flat_le 200 (sigsB l) (fun x hx => by
    unfold sigsB at hx
    obtain ⟨p, hp, rfl⟩ := List.mem_map.1 hx
    show (num p.1 ++ listB p.2).size ≤ 200
    rw [ByteArray.size_append, flat_size, num_size]
    have := hfl p hp
    omega)
  have e : (sigsB l).length = l.length := by unfold sigsB; rw [List.length_map]
  omega
end WW
namespace Go.Proofs.Ytbeodmijjanmeaa
open WW BB
theorem certans_some {w w' : World} {d : CertD} {e : Ending} (h : CertAns w (some d) e w') : ∃ sv, e = .returned (.tuple #[.agg #[.int .i64 d.1.1, .string d.1.2, sv], .int .i64 0]) ∧ SigsAt w' sv d.2 := by
  obtain ⟨f', lo, hi, rfl, _, _, hR⟩ := h
  obtain ⟨sv, hf, hsv⟩ := certR_cells hR
  refine ⟨sv, ?_, hsv⟩
  rw [hf]; rfl
theorem zerocert_zero (w : World) : Calls Try.prog 27 #[.agg #[.int .i64 0, .string ⟨#[]⟩, .slice none 0 0]] w fun e w' => e = .returned (.bool true) ∧ Below w.heap.size w w' := by
  go_enter Try.func27, Try.ntmps27
  go_wp2_with fail
  go_ret
  exact ⟨rfl, (Below.refl _ _).alloc (Nat.le_refl _) _⟩
set_option maxRecDepth 100000 in
set_option maxHeartbeats 8000000 in
theorem certs_many (v : Int) (k : ByteArray) (sv : Value) (l : List (Int × List ByteArray)) (w : World) (hv : SigsAt w sv l) (hn : MemS l) (hk : k.size ≤ 9223372036854775807) (h1 : fewCert k l = false) :
    Calls Try.prog 6 #[.agg #[.int .i64 v, .string k, sv]] w fun e w' => e = .returned (.bool true) ∧ Below w.heap.size w w' := by
  have HF := Lib.hid (fun wx (hb : Below w.heap.size w wx) => fewcert_any v k sv l wx (hv.later hb) hn hk)
  have HF := HF.out
  simp only [h1] at HF
  have HF := Lib.hid HF
  clear hn hk h1
  obtain ⟨a0, cap, rfl, _⟩ := hv
  go_enter Try.func6, Try.ntmps6
  go_wp2_with fail
  have K := Lib.hid (box_mk w [.int .i64 v, .string k, .slice a0 l.length cap] 28)
  have K := Lib.hid (show BoxAt w w.heap.size [.int .i64 v, .string k, .slice a0 l.length cap] (w.alloc (.cells #[.int .i64 v, .string k, .slice a0 l.length cap] 28)) from K.out)
  obtain ⟨g, hg⟩ : ∃ g, w.heap.size = g := ⟨_, rfl⟩
  rw [hg] at K ⊢
  have HG := Lib.hid hg
  clear hg
  generalize w.alloc (.cells #[.int .i64 v, .string k, .slice a0 l.length cap] 28) = w0 at *
  refine (awake_any _).mono ?_
  rintro e wn ⟨rfl, hbn⟩
  have K := Lib.hid (K.out.on hbn)
  clear hbn
  have c0 := K.out.cell 0 _ rfl
  have c1 := K.out.cell 1 _ rfl
  have c2 := K.out.cell 2 _ rfl
  go_wp2_with fail
  clear c0 c1 c2
  refine (HF.out _ K.out.below).mono ?_
  rintro e wn ⟨rfl, hbn⟩
  have K := Lib.hid (K.out.on hbn)
  clear hbn
  go_wp2_with fail
  refine (awake_any _).mono ?_
  rintro e wn ⟨rfl, hbn⟩
  have K := Lib.hid (K.out.on hbn)
  clear hbn
  go_wp2_with fail
  go_ret
  exact ⟨rfl, by rw [HG.out]; exact HG.out ▸ K.out.below⟩
set_option maxRecDepth 100000 in
set_option maxHeartbeats 8000000 in
theorem certs_right (v : Int) (k : ByteArray) (sv : Value) (l : List (Int × List ByteArray)) (w : World) (hv : SigsAt w sv l) (hn : MemS l) (hk : k.size ≤ 9223372036854775807) (h1 : fewCert k l = true) (h2 : rightCert v k l = true) :
    Calls Try.prog 6 #[.agg #[.int .i64 v, .string k, sv]] w fun e w' => e = .returned (.bool true) ∧ Below w.heap.size w w' := by
  have HF := Lib.hid (fun wx (hb : Below w.heap.size w wx) => fewcert_any v k sv l wx (hv.later hb) hn hk)
  have HF := HF.out
  simp only [h1] at HF
  have HF := Lib.hid HF
  have HC := Lib.hid (fun wx (hb : Below w.heap.size w wx) => cert_any v k sv l wx (hv.later hb) (by have := (few_smallS h1).2.1; omega) (few_smallS h1).1)
  have HR := Lib.hid (fun wx (hb : Below w.heap.size w wx) => rcert_any v k sv l wx (hv.later hb) (by have := (few_smallS h1).2.1; omega) (few_smallS h1).1)
  have HI := Lib.hid (fun wx (hb : Below w.heap.size w wx) => rightcert_any v k sv l wx (hv.later hb) hn)
  have hbz : (certB v k l).size ≤ 1000000 := by rw [certB_size]; have := (few_smallS h1).2.1; have := (few_smallS h1).1.2.1; omega
  have HRD := Lib.hid (fun wx => read_cert (certB v k l) hbz wx)
  have HI := HI.out
  simp only [h2] at HI
  have HI := Lib.hid HI
  have HRD := HRD.out
  rw [show certRd (certB v k l) = some ((v, k), l) from certRd_put (c := ((v, k), l)) h2] at HRD
  have HRD := Lib.hid HRD
  have H2 := Lib.hid h2
  clear hn hk h1 h2 hbz
  obtain ⟨a0, cap, rfl, _⟩ := hv
  go_enter Try.func6, Try.ntmps6
  go_wp2_with fail
  have K := Lib.hid (box_mk w [.int .i64 v, .string k, .slice a0 l.length cap] 28)
  have K := Lib.hid (show BoxAt w w.heap.size [.int .i64 v, .string k, .slice a0 l.length cap] (w.alloc (.cells #[.int .i64 v, .string k, .slice a0 l.length cap] 28)) from K.out)
  obtain ⟨g, hg⟩ : ∃ g, w.heap.size = g := ⟨_, rfl⟩
  rw [hg] at K ⊢
  have HG := Lib.hid hg
  clear hg
  generalize w.alloc (.cells #[.int .i64 v, .string k, .slice a0 l.length cap] 28) = w0 at *
  refine (awake_any _).mono ?_
  rintro e wn ⟨rfl, hbn⟩
  have K := Lib.hid (K.out.on hbn)
  clear hbn
  have c0 := K.out.cell 0 _ rfl
  have c1 := K.out.cell 1 _ rfl
  have c2 := K.out.cell 2 _ rfl
  go_wp2_with fail
  clear c0 c1 c2
  refine (HF.out _ K.out.below).mono ?_
  rintro e wn ⟨rfl, hbn⟩
  have K := Lib.hid (K.out.on hbn)
  clear hbn
  have c0 := K.out.cell 0 _ rfl
  have c1 := K.out.cell 1 _ rfl
  have c2 := K.out.cell 2 _ rfl
  go_wp2_with fail
  clear c0 c1 c2
  refine (HC.out _ K.out.below).mono ?_
  rintro e wn ⟨rfl, hbn⟩
  have K := Lib.hid (K.out.on hbn)
  clear hbn
  obtain ⟨B, hB⟩ : ∃ B, certB v k l = B := ⟨_, rfl⟩
  have HRD := HRD.out
  have HR := HR.out
  rw [hB] at HRD HR ⊢
  have HBE := Lib.hid hB
  clear hB
  have HRD := Lib.hid HRD
  have HR := Lib.hid HR
  go_wp2_with fail
  refine (HRD.out _).mono ?_
  rintro e w5 ⟨he, hb5⟩
  have K := Lib.hid (K.out.on hb5)
  clear hb5
  obtain ⟨xv, rfl, hx⟩ := certans_some he
  have HXC := Lib.hid (fun wx (hb : Below w5.heap.size w5 wx) => cert_any v k xv l wx (hx.later hb) (by have := (right_small H2.out).2.1; omega) (right_small H2.out).1)
  have HXI := Lib.hid (fun wx (hb : Below w5.heap.size w5 wx) => rightcert_any v k xv l wx (hx.later hb) (right_small H2.out).2.2.2)
  have HXI := HXI.out
  simp only [H2.out] at HXI
  have HXI := Lib.hid HXI
  have HXC := HXC.out
  rw [HBE.out] at HXC
  have HXC := Lib.hid HXC
  clear he
  dsimp only at *
  obtain ⟨xa, xcap, rfl, _⟩ := hx
  have KA := Lib.hid (K.out.on ((Below.refl _ _).alloc (Nat.le_refl _) (.cells #[.int .i64 v, .string k, .slice xa l.length xcap] 28)))
  have Y := Lib.hid (show BoxAt w5 w5.heap.size [.int .i64 v, .string k, .slice xa l.length xcap] (w5.alloc (.cells #[.int .i64 v, .string k, .slice xa l.length xcap] 28)) from box_mk w5 [.int .i64 v, .string k, .slice xa l.length xcap] 28)
  have c0 := KA.out.cell 0 _ rfl
  have c1 := KA.out.cell 1 _ rfl
  have c2 := KA.out.cell 2 _ rfl
  go_wp2_with fail
  clear c0 c1 c2
  generalize w5.alloc (.cells #[.int .i64 v, .string k, .slice xa l.length xcap] 28) = w6 at *
  refine (HR.out _ KA.out.below).mono ?_
  rintro e wn ⟨rfl, hbn⟩
  have KA := Lib.hid (KA.out.on hbn)
  have Y := Lib.hid (Y.out.on hbn)
  clear hbn
  have c0 := KA.out.cell 0 _ rfl
  have c1 := KA.out.cell 1 _ rfl
  have c2 := KA.out.cell 2 _ rfl
  have d0 := Y.out.cell 0 _ rfl
  have d1 := Y.out.cell 1 _ rfl
  have d2 := Y.out.cell 2 _ rfl
  go_wp2_with fail
  clear c0 c1 c2
  clear d0 d1 d2
  refine (HI.out _ KA.out.below).mono ?_
  rintro e wn ⟨rfl, hbn⟩
  have KA := Lib.hid (KA.out.on hbn)
  have Y := Lib.hid (Y.out.on hbn)
  clear hbn
  have c0 := KA.out.cell 0 _ rfl
  have c1 := KA.out.cell 1 _ rfl
  have c2 := KA.out.cell 2 _ rfl
  have d0 := Y.out.cell 0 _ rfl
  have d1 := Y.out.cell 1 _ rfl
  have d2 := Y.out.cell 2 _ rfl
  go_wp2_with fail
  clear c0 c1 c2
  clear d0 d1 d2
  refine (HXI.out _ Y.out.below).mono ?_
  rintro e wn ⟨rfl, hbn⟩
  have KA := Lib.hid (KA.out.on hbn)
  have Y := Lib.hid (Y.out.on hbn)
  clear hbn
  have c0 := KA.out.cell 0 _ rfl
  have c1 := KA.out.cell 1 _ rfl
  have c2 := KA.out.cell 2 _ rfl
  have d0 := Y.out.cell 0 _ rfl
  have d1 := Y.out.cell 1 _ rfl
  have d2 := Y.out.cell 2 _ rfl
  go_wp2_with fail
  clear c0 c1 c2
  clear d0 d1 d2
  refine (HXC.out _ Y.out.below).mono ?_
  rintro e wn ⟨rfl, hbn⟩
  have KA := Lib.hid (KA.out.on hbn)
  have Y := Lib.hid (Y.out.on hbn)
  clear hbn
  have c0 := KA.out.cell 0 _ rfl
  have c1 := KA.out.cell 1 _ rfl
  have c2 := KA.out.cell 2 _ rfl
  have d0 := Y.out.cell 0 _ rfl
  have d1 := Y.out.cell 1 _ rfl
  have d2 := Y.out.cell 2 _ rfl
  go_wp2_with fail
  go_ret
  exact ⟨rfl, by rw [HG.out]; exact HG.out ▸ KA.out.below⟩
set_option maxRecDepth 100000 in
set_option maxHeartbeats 8000000 in
theorem certs_form (v : Int) (k : ByteArray) (sv : Value) (l : List (Int × List ByteArray)) (w : World) (hv : SigsAt w sv l) (hn : MemS l) (hk : k.size ≤ 9223372036854775807) (h1 : fewCert k l = true) (h2 : rightCert v k l = false) (h3 : certRd (certB v k l) = none) :
    Calls Try.prog 6 #[.agg #[.int .i64 v, .string k, sv]] w fun e w' => e = .returned (.bool true) ∧ Below w.heap.size w w' := by
  have HF := Lib.hid (fun wx (hb : Below w.heap.size w wx) => fewcert_any v k sv l wx (hv.later hb) hn hk)
  have HF := HF.out
  simp only [h1] at HF
  have HF := Lib.hid HF
  have HC := Lib.hid (fun wx (hb : Below w.heap.size w wx) => cert_any v k sv l wx (hv.later hb) (by have := (few_smallS h1).2.1; omega) (few_smallS h1).1)
  have HR := Lib.hid (fun wx (hb : Below w.heap.size w wx) => rcert_any v k sv l wx (hv.later hb) (by have := (few_smallS h1).2.1; omega) (few_smallS h1).1)
  have HI := Lib.hid (fun wx (hb : Below w.heap.size w wx) => rightcert_any v k sv l wx (hv.later hb) hn)
  have hbz : (certB v k l).size ≤ 1000000 := by rw [certB_size]; have := (few_smallS h1).2.1; have := (few_smallS h1).1.2.1; omega
  have HRD := Lib.hid (fun wx => read_cert (certB v k l) hbz wx)
  have HI := HI.out
  simp only [h2] at HI
  have HI := Lib.hid HI
  have HRD := HRD.out
  rw [h3] at HRD
  have HRD := Lib.hid HRD
  clear hn hk h1 h2 h3 hbz
  obtain ⟨a0, cap, rfl, _⟩ := hv
  go_enter Try.func6, Try.ntmps6
  go_wp2_with fail
  have K := Lib.hid (box_mk w [.int .i64 v, .string k, .slice a0 l.length cap] 28)
  have K := Lib.hid (show BoxAt w w.heap.size [.int .i64 v, .string k, .slice a0 l.length cap] (w.alloc (.cells #[.int .i64 v, .string k, .slice a0 l.length cap] 28)) from K.out)
  obtain ⟨g, hg⟩ : ∃ g, w.heap.size = g := ⟨_, rfl⟩
  rw [hg] at K ⊢
  have HG := Lib.hid hg
  clear hg
  generalize w.alloc (.cells #[.int .i64 v, .string k, .slice a0 l.length cap] 28) = w0 at *
  refine (awake_any _).mono ?_
  rintro e wn ⟨rfl, hbn⟩
  have K := Lib.hid (K.out.on hbn)
  clear hbn
  have c0 := K.out.cell 0 _ rfl
  have c1 := K.out.cell 1 _ rfl
  have c2 := K.out.cell 2 _ rfl
  go_wp2_with fail
  clear c0 c1 c2
  refine (HF.out _ K.out.below).mono ?_
  rintro e wn ⟨rfl, hbn⟩
  have K := Lib.hid (K.out.on hbn)
  clear hbn
  have c0 := K.out.cell 0 _ rfl
  have c1 := K.out.cell 1 _ rfl
  have c2 := K.out.cell 2 _ rfl
  go_wp2_with fail
  clear c0 c1 c2
  refine (HC.out _ K.out.below).mono ?_
  rintro e wn ⟨rfl, hbn⟩
  have K := Lib.hid (K.out.on hbn)
  clear hbn
  obtain ⟨B, hB⟩ : ∃ B, certB v k l = B := ⟨_, rfl⟩
  have HRD := HRD.out
  have HR := HR.out
  rw [hB] at HRD HR ⊢
  have HBE := Lib.hid hB
  clear hB
  have HRD := Lib.hid HRD
  have HR := Lib.hid HR
  go_wp2_with fail
  refine (HRD.out _).mono ?_
  rintro e w5 ⟨he, hb5⟩
  have K := Lib.hid (K.out.on hb5)
  clear hb5
  obtain rfl : e = .returned (.tuple #[.agg #[.int .i64 0, .string ⟨#[]⟩, .slice none 0 0], .int .i64 2]) := he
  have KA := Lib.hid (K.out.on ((Below.refl _ _).alloc (Nat.le_refl _) (.cells #[.int .i64 0, .string ⟨#[]⟩, .slice none 0 0] 28)))
  have Y := Lib.hid (show BoxAt w5 w5.heap.size [.int .i64 0, .string ⟨#[]⟩, .slice none 0 0] (w5.alloc (.cells #[.int .i64 0, .string ⟨#[]⟩, .slice none 0 0] 28)) from box_mk w5 [.int .i64 0, .string ⟨#[]⟩, .slice none 0 0] 28)
  have c0 := KA.out.cell 0 _ rfl
  have c1 := KA.out.cell 1 _ rfl
  have c2 := KA.out.cell 2 _ rfl
  go_wp2_with fail
  clear c0 c1 c2
  generalize w5.alloc (.cells #[.int .i64 0, .string ⟨#[]⟩, .slice none 0 0] 28) = w6 at *
  generalize w5.heap.size = y at *
  refine (HR.out _ KA.out.below).mono ?_
  rintro e wn ⟨rfl, hbn⟩
  have KA := Lib.hid (KA.out.on hbn)
  have Y := Lib.hid (Y.out.on hbn)
  clear hbn
  have c0 := KA.out.cell 0 _ rfl
  have c1 := KA.out.cell 1 _ rfl
  have c2 := KA.out.cell 2 _ rfl
  have d0 := Y.out.cell 0 _ rfl
  have d1 := Y.out.cell 1 _ rfl
  have d2 := Y.out.cell 2 _ rfl
  go_wp2_with fail
  clear c0 c1 c2
  clear d0 d1 d2
  refine (HI.out _ KA.out.below).mono ?_
  rintro e wn ⟨rfl, hbn⟩
  have KA := Lib.hid (KA.out.on hbn)
  have Y := Lib.hid (Y.out.on hbn)
  clear hbn
  have c0 := KA.out.cell 0 _ rfl
  have c1 := KA.out.cell 1 _ rfl
  have c2 := KA.out.cell 2 _ rfl
  have d0 := Y.out.cell 0 _ rfl
  have d1 := Y.out.cell 1 _ rfl
  have d2 := Y.out.cell 2 _ rfl
  go_wp2_with fail
  clear c0 c1 c2
  clear d0 d1 d2
  refine (zerocert_zero _).mono ?_
  rintro e wn ⟨rfl, hbn⟩
  have KA := Lib.hid (KA.out.on hbn)
  have Y := Lib.hid (Y.out.on hbn)
  clear hbn
  have c0 := KA.out.cell 0 _ rfl
  have c1 := KA.out.cell 1 _ rfl
  have c2 := KA.out.cell 2 _ rfl
  have d0 := Y.out.cell 0 _ rfl
  have d1 := Y.out.cell 1 _ rfl
  have d2 := Y.out.cell 2 _ rfl
  go_wp2_with fail
  go_ret
  exact ⟨rfl, by rw [HG.out]; exact HG.out ▸ KA.out.below⟩
set_option maxRecDepth 100000 in
set_option maxHeartbeats 8000000 in
theorem certs_other (v : Int) (k : ByteArray) (sv : Value) (l : List (Int × List ByteArray)) (w : World) (hv : SigsAt w sv l) (hn : MemS l) (hk : k.size ≤ 9223372036854775807) (h1 : fewCert k l = true) (h2 : rightCert v k l = false) (d : CertD) (h3 : certRd (certB v k l) = some d) :
    Calls Try.prog 6 #[.agg #[.int .i64 v, .string k, sv]] w fun e w' => e = .returned (.bool true) ∧ Below w.heap.size w w' := by
  have HF := Lib.hid (fun wx (hb : Below w.heap.size w wx) => fewcert_any v k sv l wx (hv.later hb) hn hk)
  have HF := HF.out
  simp only [h1] at HF
  have HF := Lib.hid HF
  have HC := Lib.hid (fun wx (hb : Below w.heap.size w wx) => cert_any v k sv l wx (hv.later hb) (by have := (few_smallS h1).2.1; omega) (few_smallS h1).1)
  have HR := Lib.hid (fun wx (hb : Below w.heap.size w wx) => rcert_any v k sv l wx (hv.later hb) (by have := (few_smallS h1).2.1; omega) (few_smallS h1).1)
  have HI := Lib.hid (fun wx (hb : Below w.heap.size w wx) => rightcert_any v k sv l wx (hv.later hb) hn)
  have hbz : (certB v k l).size ≤ 1000000 := by rw [certB_size]; have := (few_smallS h1).2.1; have := (few_smallS h1).1.2.1; omega
  have HRD := Lib.hid (fun wx => read_cert (certB v k l) hbz wx)
  have HI := HI.out
  simp only [h2] at HI
  have HI := Lib.hid HI
  have HRD := HRD.out
  rw [h3] at HRD
  have HRD := Lib.hid HRD
  have H3 := Lib.hid (certRd_sound h3)
  clear hn hk h1 h2 h3 hbz
  obtain ⟨a0, cap, rfl, _⟩ := hv
  go_enter Try.func6, Try.ntmps6
  go_wp2_with fail
  have K := Lib.hid (box_mk w [.int .i64 v, .string k, .slice a0 l.length cap] 28)
  have K := Lib.hid (show BoxAt w w.heap.size [.int .i64 v, .string k, .slice a0 l.length cap] (w.alloc (.cells #[.int .i64 v, .string k, .slice a0 l.length cap] 28)) from K.out)
  obtain ⟨g, hg⟩ : ∃ g, w.heap.size = g := ⟨_, rfl⟩
  rw [hg] at K ⊢
  have HG := Lib.hid hg
  clear hg
  generalize w.alloc (.cells #[.int .i64 v, .string k, .slice a0 l.length cap] 28) = w0 at *
  refine (awake_any _).mono ?_
  rintro e wn ⟨rfl, hbn⟩
  have K := Lib.hid (K.out.on hbn)
  clear hbn
  have c0 := K.out.cell 0 _ rfl
  have c1 := K.out.cell 1 _ rfl
  have c2 := K.out.cell 2 _ rfl
  go_wp2_with fail
  clear c0 c1 c2
  refine (HF.out _ K.out.below).mono ?_
  rintro e wn ⟨rfl, hbn⟩
  have K := Lib.hid (K.out.on hbn)
  clear hbn
  have c0 := K.out.cell 0 _ rfl
  have c1 := K.out.cell 1 _ rfl
  have c2 := K.out.cell 2 _ rfl
  go_wp2_with fail
  clear c0 c1 c2
  refine (HC.out _ K.out.below).mono ?_
  rintro e wn ⟨rfl, hbn⟩
  have K := Lib.hid (K.out.on hbn)
  clear hbn
  obtain ⟨B, hB⟩ : ∃ B, certB v k l = B := ⟨_, rfl⟩
  have HRD := HRD.out
  have HR := HR.out
  rw [hB] at HRD HR ⊢
  have HBE := Lib.hid hB
  clear hB
  have HRD := Lib.hid HRD
  have HR := Lib.hid HR
  go_wp2_with fail
  refine (HRD.out _).mono ?_
  rintro e w5 ⟨he, hb5⟩
  have K := Lib.hid (K.out.on hb5)
  clear hb5
  obtain ⟨xv, rfl, hx⟩ := certans_some he
  obtain ⟨⟨dv, dk⟩, dl⟩ := d
  have h4 : rightCert dv dk dl = true := H3.out.2
  have h5 : certB dv dk dl = B := by rw [← HBE.out]; exact H3.out.1.symm
  have HXC := Lib.hid (fun wx (hb : Below w5.heap.size w5 wx) => rcert_any dv dk xv dl wx (hx.later hb) (by have := (right_small h4).2.1; omega) (right_small h4).1)
  have HXI := Lib.hid (fun wx (hb : Below w5.heap.size w5 wx) => rightcert_any dv dk xv dl wx (hx.later hb) (right_small h4).2.2.2)
  have HXI := HXI.out
  simp only [h4] at HXI
  have HXI := Lib.hid HXI
  have HXC := HXC.out
  rw [h5] at HXC
  have HXC := Lib.hid HXC
  clear he h4 h5 H3
  dsimp only at *
  obtain ⟨xa, xcap, rfl, _⟩ := hx
  have KA := Lib.hid (K.out.on ((Below.refl _ _).alloc (Nat.le_refl _) (.cells #[.int .i64 dv, .string dk, .slice xa dl.length xcap] 28)))
  have Y := Lib.hid (show BoxAt w5 w5.heap.size [.int .i64 dv, .string dk, .slice xa dl.length xcap] (w5.alloc (.cells #[.int .i64 dv, .string dk, .slice xa dl.length xcap] 28)) from box_mk w5 [.int .i64 dv, .string dk, .slice xa dl.length xcap] 28)
  have c0 := KA.out.cell 0 _ rfl
  have c1 := KA.out.cell 1 _ rfl
  have c2 := KA.out.cell 2 _ rfl
  go_wp2_with fail
  clear c0 c1 c2
  generalize w5.alloc (.cells #[.int .i64 dv, .string dk, .slice xa dl.length xcap] 28) = w6 at *
  refine (HR.out _ KA.out.below).mono ?_
  rintro e wn ⟨rfl, hbn⟩
  have KA := Lib.hid (KA.out.on hbn)
  have Y := Lib.hid (Y.out.on hbn)
  clear hbn
  have c0 := KA.out.cell 0 _ rfl
  have c1 := KA.out.cell 1 _ rfl
  have c2 := KA.out.cell 2 _ rfl
  have d0 := Y.out.cell 0 _ rfl
  have d1 := Y.out.cell 1 _ rfl
  have d2 := Y.out.cell 2 _ rfl
  go_wp2_with fail
  clear c0 c1 c2
  clear d0 d1 d2
  refine (HI.out _ KA.out.below).mono ?_
  rintro e wn ⟨rfl, hbn⟩
  have KA := Lib.hid (KA.out.on hbn)
  have Y := Lib.hid (Y.out.on hbn)
  clear hbn
  have c0 := KA.out.cell 0 _ rfl
  have c1 := KA.out.cell 1 _ rfl
  have c2 := KA.out.cell 2 _ rfl
  have d0 := Y.out.cell 0 _ rfl
  have d1 := Y.out.cell 1 _ rfl
  have d2 := Y.out.cell 2 _ rfl
  go_wp2_with fail
  clear c0 c1 c2
  clear d0 d1 d2
  refine (HXI.out _ Y.out.below).mono ?_
  rintro e wn ⟨rfl, hbn⟩
  have KA := Lib.hid (KA.out.on hbn)
  have Y := Lib.hid (Y.out.on hbn)
  clear hbn
  have c0 := KA.out.cell 0 _ rfl
  have c1 := KA.out.cell 1 _ rfl
  have c2 := KA.out.cell 2 _ rfl
  have d0 := Y.out.cell 0 _ rfl
  have d1 := Y.out.cell 1 _ rfl
  have d2 := Y.out.cell 2 _ rfl
  go_wp2_with fail
  clear c0 c1 c2
  clear d0 d1 d2
  refine (HXC.out _ Y.out.below).mono ?_
  rintro e wn ⟨rfl, hbn⟩
  have KA := Lib.hid (KA.out.on hbn)
  have Y := Lib.hid (Y.out.on hbn)
  clear hbn
  have c0 := KA.out.cell 0 _ rfl
  have c1 := KA.out.cell 1 _ rfl
  have c2 := KA.out.cell 2 _ rfl
  have d0 := Y.out.cell 0 _ rfl
  have d1 := Y.out.cell 1 _ rfl
  have d2 := Y.out.cell 2 _ rfl
  go_wp2_with fail
  go_ret
  exact ⟨rfl, by rw [HG.out]; exact HG.out ▸ KA.out.below⟩
theorem certs_walk (v : Int) (k : ByteArray) (sv : Value) (l : List (Int × List ByteArray)) (w : World) (hv : SigsAt w sv l) (hn : MemS l) (hk : k.size ≤ 9223372036854775807) :
    Calls Try.prog 6 #[.agg #[.int .i64 v, .string k, sv]] w fun e w' => e = .returned (.bool true) ∧ Below w.heap.size w w' := by
  rcases h1 : fewCert k l with _ | _
  · exact certs_many v k sv l w hv hn hk h1
  rcases h2 : rightCert v k l with _ | _
  · rcases h3 : certRd (certB v k l) with _ | d
    · exact certs_form v k sv l w hv hn hk h1 h2 h3
    · exact certs_other v k sv l w hv hn hk h1 h2 d h3
  · exact certs_right v k sv l w hv hn hk h1 h2
end Go.Proofs.Ytbeodmijjanmeaa
