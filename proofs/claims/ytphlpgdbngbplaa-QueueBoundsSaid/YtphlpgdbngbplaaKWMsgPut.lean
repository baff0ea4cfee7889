/-
  A message's bytes: the code's, and the reference's.
-/
import Derived.Test.YtphlpgdbngbplaaKWMsgCell
import Derived.Test.YtphlpgdbngbplaaKGMath
import Derived.Deep.CutRange
import Derived.Deep.RegionHeld3
section
open Go Go.RowKit
namespace BB
theorem results_row2 {P : Program} {w : World} {fn : Func} {p q T b N m : Nat} {f : Nat → Value} {v : Value} {tmps : Array Value} (h : fn.results = #[.cell p T, .tmp q]) (hp : tmps.getD p undef = .pointer (some ⟨b, 0, none⟩)) (hq : tmps.getD q undef = v)
    (hT : (isAgg T).run P w = .ok true w) (hS : (Go.sizeOf T).run P w = .ok m w) (hb : Cells w b N f) (hN : m ≤ N) : (results fn tmps).run P w = .ok (.tuple #[.agg (row m f), v]) w := by
  have := run_load_row (P := P) (off := 0) hT hS hb (by omega)
  simp only [Nat.zero_add] at this
  have hp' : tmps[p]?.getD undef = .pointer (some ⟨b, 0, none⟩) := by simpa using hp
  have hq' : tmps[q]?.getD undef = v := by simpa using hq
  unfold results
  simp [h, hp', hq', asAddr, this]
end BB
namespace WW
open BB
theorem zM_row : (#[.int .i64 0, .int .i64 0, .int .i64 0, .int .i64 0, .string ⟨#[]⟩, .int .i64 0, .int .i64 0, .int .i64 0, .string ⟨#[]⟩, .slice none 0 0, .slice none 0 0, .int .i64 0, .string ⟨#[]⟩, .slice none 0 0, .int .i64 0, .slice none 0 0, .int .i64 0, .int .i64 0, .string ⟨#[]⟩, .int .i64 0, .string ⟨#[]⟩] : Array Value) = row 21 zM := by rfl
theorem zM_one : ∀ i, i < 21 → (zM i).oneCell' = true := fun i hi => by
  unfold zM
  split; · rfl
  split; · rfl
  split; · rfl
  split; · rfl
  split; · rfl
  split; · rfl
  split; · rfl
  split; · rfl
  split; · rfl
  rfl
/-- three of them beside each other -/
structure ThreeM (w0 : World) (a : Nat) (w : World) : Prop where
  below : Below w0.heap.size w0 w
  ra : Blk w a 21 zM
  rx : Blk w (a + 1) 21 zM
  rn : Blk w (a + 1 + 1) 21 zM
theorem threeM_mk (w : World) (a : Nat) (ha : w.heap.size = a) (t : TypeId) : ThreeM w a (((w.alloc (.cells #[.int .i64 0, .int .i64 0, .int .i64 0, .int .i64 0, .string ⟨#[]⟩, .int .i64 0, .int .i64 0, .int .i64 0, .string ⟨#[]⟩, .slice none 0 0, .slice none 0 0, .int .i64 0, .string ⟨#[]⟩, .slice none 0 0, .int .i64 0, .slice none 0 0, .int .i64 0, .int .i64 0, .string ⟨#[]⟩, .int .i64 0, .string ⟨#[]⟩] t)).alloc (.cells #[.int .i64 0, .int .i64 0, .int .i64 0, .int .i64 0, .string ⟨#[]⟩, .int .i64 0, .int .i64 0, .int .i64 0, .string ⟨#[]⟩, .slice none 0 0, .slice none 0 0, .int .i64 0, .string ⟨#[]⟩, .slice none 0 0, .int .i64 0, .slice none 0 0, .int .i64 0, .int .i64 0, .string ⟨#[]⟩, .int .i64 0, .string ⟨#[]⟩] t)).alloc (.cells #[.int .i64 0, .int .i64 0, .int .i64 0, .int .i64 0, .string ⟨#[]⟩, .int .i64 0, .int .i64 0, .int .i64 0, .string ⟨#[]⟩, .slice none 0 0, .slice none 0 0, .int .i64 0, .string ⟨#[]⟩, .slice none 0 0, .int .i64 0, .slice none 0 0, .int .i64 0, .int .i64 0, .string ⟨#[]⟩, .int .i64 0, .string ⟨#[]⟩] t)) := by
  have b1 := (Below.refl w.heap.size w).alloc (Nat.le_refl _) (.cells #[.int .i64 0, .int .i64 0, .int .i64 0, .int .i64 0, .string ⟨#[]⟩, .int .i64 0, .int .i64 0, .int .i64 0, .string ⟨#[]⟩, .slice none 0 0, .slice none 0 0, .int .i64 0, .string ⟨#[]⟩, .slice none 0 0, .int .i64 0, .slice none 0 0, .int .i64 0, .int .i64 0, .string ⟨#[]⟩, .int .i64 0, .string ⟨#[]⟩] t)
  have b2 := b1.alloc b1.size (.cells #[.int .i64 0, .int .i64 0, .int .i64 0, .int .i64 0, .string ⟨#[]⟩, .int .i64 0, .int .i64 0, .int .i64 0, .string ⟨#[]⟩, .slice none 0 0, .slice none 0 0, .int .i64 0, .string ⟨#[]⟩, .slice none 0 0, .int .i64 0, .slice none 0 0, .int .i64 0, .int .i64 0, .string ⟨#[]⟩, .int .i64 0, .string ⟨#[]⟩] t)
  exact ⟨b2.alloc b2.size _, ((Blk.new' (by omega) zM_row).alloc _).alloc _, (Blk.new' (by simp; omega) zM_row).alloc _, Blk.new' (by simp; omega) zM_row⟩
theorem ThreeM.on {w0 w w' : World} {a : Nat} (h : ThreeM w0 a w) (hb : Below w.heap.size w w') : ThreeM w0 a w' :=
  ⟨h.below.trans (hb.mono h.below.size), h.ra.below hb h.ra.lt, h.rx.below hb h.rx.lt, h.rn.below hb h.rn.lt⟩
/-- all of it is read -/
def msgRd (b : ByteArray) : Option MsgD :=
  match msgI b with
  | none => none
  | some (r, d) => if r.size = 0 then some d else none
end WW
namespace Go.Proofs.Ytphlpgdbngbplaa
open WW BB
theorem agg_msg (w : World) : (isAgg 42).run Try.prog w = .ok true w := by kernel_rfl
theorem size_msg (w : World) : (Go.sizeOf 42).run Try.prog w = .ok 21 w := by kernel_rfl
theorem msg_one {d : MsgD} {w : World} {lo hi : Nat} {f' : Nat → Value} (h : msgR d w lo hi zM f') : ∀ i, i < 21 → (f' i).oneCell' = true := fun i hi => by
  obtain ⟨i0, i1, i2, i3, t4, i5, i6, i7, t8, a9, l9, c9, a10, l10, c10, i11, t12, a13, l13, c13, i14, a15, l15, c15, i16, i17, t18, i19, t20, y0, y1, y2, y3, y4, y5, y6, y7, y8, y9, y10, y11, y12, y13, y14, y15, y16, y17, y18, y19, y20⟩ := msg_shape h
  match i, hi with
  | 0, _ => rw [y0]; rfl
  | 1, _ => rw [y1]; rfl
  | 2, _ => rw [y2]; rfl
  | 3, _ => rw [y3]; rfl
  | 4, _ => rw [y4]; rfl
  | 5, _ => rw [y5]; rfl
  | 6, _ => rw [y6]; rfl
  | 7, _ => rw [y7]; rfl
  | 8, _ => rw [y8]; rfl
  | 9, _ => rw [y9]; rfl
  | 10, _ => rw [y10]; rfl
  | 11, _ => rw [y11]; rfl
  | 12, _ => rw [y12]; rfl
  | 13, _ => rw [y13]; rfl
  | 14, _ => rw [y14]; rfl
  | 15, _ => rw [y15]; rfl
  | 16, _ => rw [y16]; rfl
  | 17, _ => rw [y17]; rfl
  | 18, _ => rw [y18]; rfl
  | 19, _ => rw [y19]; rfl
  | 20, _ => rw [y20]; rfl
  | j + 21, hj => exact absurd hj (by omega)
/-- what is answered -/
def MsgAns (w : World) (x : Option MsgD) (e : Ending) (w' : World) : Prop :=
  match x with
  | none => e = .returned (.tuple #[.agg (row 21 zM), .int .i64 2])
  | some d => ∃ f' lo hi, e = .returned (.tuple #[.agg (row 21 f'), .int .i64 0]) ∧ w.heap.size ≤ lo ∧ hi ≤ w'.heap.size ∧ msgR d w' lo hi zM f'
set_option maxRecDepth 100000 in
set_option maxHeartbeats 4000000 in
theorem whole_msg (b : ByteArray) (hb : b.size ≤ 1000000) (w : World) :
    Calls Try.prog 41 #[.string b, .func (.func 42) #[] #[]] w fun e w' => MsgAns w (msgRd b) e w' ∧ Below w.heap.size w w' := by
  obtain ⟨X, hX⟩ : ∃ X, msgRd b = X := ⟨_, rfl⟩
  rw [hX]
  have HX := Lib.hid hX
  have HB := Lib.hid hb
  clear hX hb
  go_enter Try.func41, Try.ntmps41
  go_wp2_with fail
  obtain ⟨a, ha⟩ : ∃ a, w.heap.size = a := ⟨_, rfl⟩
  have K0 := Lib.hid (threeM_mk w a ha 42)
  have HA := Lib.hid ha
  rw [ha]
  clear ha
  generalize ((w.alloc (.cells #[.int .i64 0, .int .i64 0, .int .i64 0, .int .i64 0, .string ⟨#[]⟩, .int .i64 0, .int .i64 0, .int .i64 0, .string ⟨#[]⟩, .slice none 0 0, .slice none 0 0, .int .i64 0, .string ⟨#[]⟩, .slice none 0 0, .int .i64 0, .slice none 0 0, .int .i64 0, .int .i64 0, .string ⟨#[]⟩, .int .i64 0, .string ⟨#[]⟩] 42)).alloc (.cells #[.int .i64 0, .int .i64 0, .int .i64 0, .int .i64 0, .string ⟨#[]⟩, .int .i64 0, .int .i64 0, .int .i64 0, .string ⟨#[]⟩, .slice none 0 0, .slice none 0 0, .int .i64 0, .string ⟨#[]⟩, .slice none 0 0, .int .i64 0, .slice none 0 0, .int .i64 0, .int .i64 0, .string ⟨#[]⟩, .int .i64 0, .string ⟨#[]⟩] 42)).alloc (.cells #[.int .i64 0, .int .i64 0, .int .i64 0, .int .i64 0, .string ⟨#[]⟩, .int .i64 0, .int .i64 0, .int .i64 0, .string ⟨#[]⟩, .slice none 0 0, .slice none 0 0, .int .i64 0, .string ⟨#[]⟩, .slice none 0 0, .int .i64 0, .slice none 0 0, .int .i64 0, .int .i64 0, .string ⟨#[]⟩, .int .i64 0, .string ⟨#[]⟩] 42) = w3 at *
  refine (mk_msg (a + 1) w3 K0.out.rx.lt).mono ?_
  rintro e w4 ⟨kv, ev, rfl, hb4, hv⟩
  have K4 := Lib.hid (K0.out.on hb4)
  have HV := Lib.hid hv
  clear hb4 hv K0
  go_wp2_with (with_reducible refine hold_callv rfl rfl ?_)
  refine wpl_callv (v := .func (.func kv) #[] ev) (args := #[.string b]) _ rfl rfl rfl (by simp [Act.eval]) (HV.out zM b w4 HB.out (Keep.refl _ _) K4.out.rx ⟨rfl, rfl, rfl, rfl⟩) Ans.ret ?_
  intro u w5 hu
  obtain ⟨ok, r, hr, he⟩ := hu
  injection hr with hr
  subst hr
  unfold EffR at he
  rcases hsp : msgI b with _ | ⟨r', d⟩
  · rw [hsp] at he
    obtain ⟨rfl, f', k5, d5⟩ := he
    have HS := Lib.hid hsp
    have B5 := Lib.hid (K4.out.below.trans (k5.below (by rw [HA.out]; omega) K4.out.below.size))
    have KA := Lib.hid (K4.out.ra.keep k5 (by omega))
    have KN := Lib.hid (K4.out.rn.keep k5 (by omega))
    have AL := Lib.hid (show w.heap.size ≤ a by rw [HA.out]; exact Nat.le_refl _)
    clear k5 d5 hsp
    go_wp2_with (with_reducible refine hold_load (.tmp 7) rfl ?_)
    refine wpl_load (.tmp 7) (a + 1 + 1) 0 21 21 zM rfl rfl (by rfl) (agg_msg _) (size_msg _) KN.out.cells (by omega) ?_
    simp only [Nat.zero_add]
    go_wp2_with (with_reducible refine hold_store (.tmp 4) (.tmp 23) rfl ?_)
    refine wpl_store (.tmp 4) (.tmp 23) a 0 21 21 zM zM rfl rfl (by rfl) (by rfl) (size_msg _) KA.out (by omega) zM_one ?_
    intro w6 h6
    have K6 := Lib.hid (h6.1.congr zM fun i hi => by simp)
    have U6 := Lib.hid h6.2
    clear h6
    go_wp2_with fail
    refine bodyPost_ret (v := .tuple #[.agg (row 21 zM), .int .i64 2]) (results_row2 (b := a) (N := 21) (m := 21) (f := zM) Try.results41 (by simp) (by simp) (agg_msg _) (size_msg _) K6.out.cells (Nat.le_refl _)) rfl ⟨?_, ?_⟩
    · rw [← HX.out, msgRd, HS.out]; rfl
    · exact B5.out.trans (U6.out.below AL.out)
  · rw [hsp] at he
    obtain ⟨rfl, rfl, f', k5, d5, hR⟩ := he
    have HR := Lib.hid hR
    have HS := Lib.hid hsp
    have B5 := Lib.hid (K4.out.below.trans (k5.below (by rw [HA.out]; omega) K4.out.below.size))
    have KA := Lib.hid (K4.out.ra.keep k5 (by omega))
    have KN := Lib.hid (K4.out.rn.keep k5 (by omega))
    have D5 := Lib.hid d5
    have AL := Lib.hid (show w.heap.size ≤ a by rw [HA.out]; exact Nat.le_refl _)
    have A4 := Lib.hid (show a < w4.heap.size from K4.out.ra.lt)
    have Z4 := Lib.hid K4.out.below.size
    clear k5 hsp d5 hR
    by_cases hr : r.size = 0
    · obtain rfl := nil_size r hr
      clear hr
      go_wp2_with (with_reducible refine hold_load (.tmp 6) rfl ?_)
      refine wpl_load (.tmp 6) (a + 1) 0 21 21 f' rfl rfl (by rfl) (agg_msg _) (size_msg _) D5.out.cells (by omega) ?_
      simp only [Nat.zero_add]
      go_wp2_with (with_reducible refine hold_store (.tmp 4) (.tmp 24) rfl ?_)
      refine wpl_store (.tmp 4) (.tmp 24) a 0 21 21 zM f' rfl rfl (by rfl) (by rfl) (size_msg _) KA.out (by omega) (msg_one HR.out) ?_
      intro w6 h6
      have K6 := Lib.hid (h6.1.congr f' fun i hi => by simp [hi])
      have U6 := Lib.hid h6.2
      clear h6
      go_wp2_with fail
      refine bodyPost_ret (v := .tuple #[.agg (row 21 f'), .int .i64 0]) (results_row2 (b := a) (N := 21) (m := 21) (f := f') Try.results41 (by simp) (by simp) (agg_msg _) (size_msg _) K6.out.cells (Nat.le_refl _)) rfl ⟨?_, ?_⟩
      · rw [← HX.out, msgRd, HS.out]
        exact ⟨f', w4.heap.size, w5.heap.size, rfl, Z4.out, by rw [U6.out.size]; exact Nat.le_refl _, sound_msg.keep HR.out fun c h1 h2 => U6.out.block c (by have := A4.out; omega)⟩
      · exact B5.out.trans (U6.out.below AL.out)
    · have e0 : r.toList.isEmpty = false := by
        rw [ByteArray.toList_eq]
        rcases hl : r.data.toList with _ | ⟨c, l⟩
        · exact absurd (show r.size = 0 by show r.data.size = 0; rw [← Array.length_toList, hl]; rfl) hr
        · rfl
      have e1 : (!r.toList.isEmpty) = true := by rw [e0]; rfl
      have HRS := Lib.hid hr
      clear hr
      go_wp2_with (with_reducible refine hold_load (.tmp 7) rfl ?_)
      refine wpl_load (.tmp 7) (a + 1 + 1) 0 21 21 zM rfl rfl (by rfl) (agg_msg _) (size_msg _) KN.out.cells (by omega) ?_
      simp only [Nat.zero_add]
      go_wp2_with (with_reducible refine hold_store (.tmp 4) (.tmp 23) rfl ?_)
      refine wpl_store (.tmp 4) (.tmp 23) a 0 21 21 zM zM rfl rfl (by rfl) (by rfl) (size_msg _) KA.out (by omega) zM_one ?_
      intro w6 h6
      have K6 := Lib.hid (h6.1.congr zM fun i hi => by simp)
      have U6 := Lib.hid h6.2
      clear h6
      go_wp2_with fail
      refine bodyPost_ret (v := .tuple #[.agg (row 21 zM), .int .i64 2]) (results_row2 (b := a) (N := 21) (m := 21) (f := zM) Try.results41 (by simp) (by simp) (agg_msg _) (size_msg _) K6.out.cells (Nat.le_refl _)) rfl ⟨?_, ?_⟩
      · rw [← HX.out, msgRd, HS.out]
        dsimp only
        rw [if_neg HRS.out]; rfl
      · exact B5.out.trans (U6.out.below AL.out)
set_option maxRecDepth 100000 in
set_option maxHeartbeats 4000000 in
theorem read_msg (b : ByteArray) (hb : b.size ≤ 1000000) (w : World) :
    Calls Try.prog 27 #[.string b] w fun e w' => MsgAns w (msgRd b) e w' ∧ Below w.heap.size w w' := by
  obtain ⟨X, hX⟩ : ∃ X, msgRd b = X := ⟨_, rfl⟩
  have HW := Lib.hid (fun wx => hX ▸ whole_msg b hb wx)
  rw [hX]
  clear hb hX
  go_enter Try.func27, Try.ntmps27
  go_wp2_with fail
  obtain ⟨a, ha⟩ : ∃ a, w.heap.size = a := ⟨_, rfl⟩
  have k0 : Blk (w.alloc (.cells #[.int .i64 0, .int .i64 0, .int .i64 0, .int .i64 0, .string ⟨#[]⟩, .int .i64 0, .int .i64 0, .int .i64 0, .string ⟨#[]⟩, .slice none 0 0, .slice none 0 0, .int .i64 0, .string ⟨#[]⟩, .slice none 0 0, .int .i64 0, .slice none 0 0, .int .i64 0, .int .i64 0, .string ⟨#[]⟩, .int .i64 0, .string ⟨#[]⟩] 42)) a 21 zM := Blk.new' ha.symm zM_row
  have b0 := (Below.refl w.heap.size w).alloc (Nat.le_refl _) (.cells #[.int .i64 0, .int .i64 0, .int .i64 0, .int .i64 0, .string ⟨#[]⟩, .int .i64 0, .int .i64 0, .int .i64 0, .string ⟨#[]⟩, .slice none 0 0, .slice none 0 0, .int .i64 0, .string ⟨#[]⟩, .slice none 0 0, .int .i64 0, .slice none 0 0, .int .i64 0, .int .i64 0, .string ⟨#[]⟩, .int .i64 0, .string ⟨#[]⟩] 42)
  rw [ha]
  have AL := Lib.hid (show w.heap.size ≤ a by omega)
  clear ha
  generalize w.alloc (.cells #[.int .i64 0, .int .i64 0, .int .i64 0, .int .i64 0, .string ⟨#[]⟩, .int .i64 0, .int .i64 0, .int .i64 0, .string ⟨#[]⟩, .slice none 0 0, .slice none 0 0, .int .i64 0, .string ⟨#[]⟩, .slice none 0 0, .int .i64 0, .slice none 0 0, .int .i64 0, .int .i64 0, .string ⟨#[]⟩, .int .i64 0, .string ⟨#[]⟩] 42) = w1 at *
  have Z1 := Lib.hid (And.intro b0.size k0.lt)
  refine (HW.out w1).mono ?_
  rintro e w2 ⟨he, hb2⟩
  have KA := Lib.hid (k0.below hb2 k0.lt)
  have B2 := Lib.hid (b0.trans (hb2.mono b0.size))
  clear k0 b0 hb2 HW
  rcases X with _ | d
  · obtain rfl : e = .returned (.tuple #[.agg (row 21 zM), .int .i64 2]) := he
    go_wp2_with (with_reducible refine hold_store (.tmp 2) (.tmp 6) rfl ?_)
    refine wpl_store (.tmp 2) (.tmp 6) a 0 21 21 zM zM rfl rfl (by rfl) (by rfl) (size_msg _) KA.out (by omega) zM_one ?_
    intro w6 h6
    have K6 := Lib.hid (h6.1.congr zM fun i hi => by simp)
    have U6 := Lib.hid h6.2
    clear h6
    go_wp2_with fail
    refine bodyPost_ret (v := .tuple #[.agg (row 21 zM), .int .i64 2]) (results_row2 (b := a) (N := 21) (m := 21) (f := zM) Try.results27 (by simp) (by simp) (agg_msg _) (size_msg _) K6.out.cells (Nat.le_refl _)) rfl ⟨rfl, ?_⟩
    exact B2.out.trans (U6.out.below AL.out)
  · obtain ⟨f', lo, hi, rfl, hlo, hhi, hR⟩ := he
    have HR := Lib.hid hR
    have HLO := Lib.hid (And.intro hlo hhi)
    clear hR hlo hhi
    go_wp2_with (with_reducible refine hold_store (.tmp 2) (.tmp 6) rfl ?_)
    refine wpl_store (.tmp 2) (.tmp 6) a 0 21 21 zM f' rfl rfl (by rfl) (by rfl) (size_msg _) KA.out (by omega) (msg_one HR.out) ?_
    intro w6 h6
    have K6 := Lib.hid (h6.1.congr f' fun i hi => by simp [hi])
    have U6 := Lib.hid h6.2
    clear h6
    go_wp2_with fail
    refine bodyPost_ret (v := .tuple #[.agg (row 21 f'), .int .i64 0]) (results_row2 (b := a) (N := 21) (m := 21) (f := f') Try.results27 (by simp) (by simp) (agg_msg _) (size_msg _) K6.out.cells (Nat.le_refl _)) rfl ⟨?_, ?_⟩
    · exact ⟨f', lo, hi, rfl, Nat.le_trans Z1.out.1 HLO.out.1, by rw [U6.out.size]; exact HLO.out.2, sound_msg.keep HR.out fun c h1 h2 => U6.out.block c (by have := Z1.out.2; have := HLO.out.1; omega)⟩
    · exact B2.out.trans (U6.out.below AL.out)
end Go.Proofs.Ytphlpgdbngbplaa
end
section
open Go Go.RowKit
namespace WW
open BB
/-- the cells f in block g, and what was as it was -/
structure MBox (w : World) (g : Nat) (f : Nat → Value) (wr : World) : Prop where
  below : Below w.heap.size w wr
  blk : Blk wr g 21 f
theorem mbox_mk (w : World) (f : Nat → Value) (t : TypeId) : MBox w w.heap.size f (w.alloc (.cells (row 21 f) t)) :=
  ⟨(Below.refl _ _).alloc (Nat.le_refl _) _, Blk.new w 21 f _ t rfl⟩
theorem MBox.on {w w1 w2 : World} {g : Nat} {f : Nat → Value} (h : MBox w g f w1) (hb : Below w1.heap.size w1 w2) : MBox w g f w2 :=
  ⟨h.below.trans (hb.mono h.below.size), h.blk.below hb h.blk.lt⟩
theorem MBox.at_ {w wr : World} {g : Nat} {f : Nat → Value} (h : MBox w g f wr) (i : Nat) (u : Value) (hi : i < 21) (e : f i = u) : wr.cell? ⟨g, i, none⟩ = some u := by
  rw [h.blk.get i hi, e]
/-- a message of a size that is looked at -/
def fewMsg (h tg : ByteArray) (x : BlockD) (c : CertD) (s : Int × List ByteArray) (r : Int × Int × ByteArray) : Bool :=
  fewBlock x.1.2.1.2 x.1.2.2 x.2 && (fewCert c.1.2 c.2 && (fewSig s.2 && (decide (h.size ≤ 50) && (decide (tg.size ≤ 50) && decide (r.2.2.size ≤ 60)))))
/-- no more than fits into memory -/
structure MemM (x : BlockD) (c : CertD) (s : Int × List ByteArray) : Prop where
  b1 : MemS x.1.2.2
  b2 : x.1.2.1.2.size ≤ 9223372036854775807
  b3 : x.2.length ≤ 9223372036854775807
  c1 : MemS c.2
  c2 : c.1.2.size ≤ 9223372036854775807
  s1 : s.2.length ≤ 9223372036854775807
end WW
namespace Go.Proofs.Ytphlpgdbngbplaa
open WW BB
/-- a message's parts stay what they are -/
theorem MsgAt.later {w w' : World} {f : Nat → Value} {k fr dst v : Int} {h : ByteArray} {x : BlockD} {c : CertD} {s : Int × List ByteArray} {r : Int × Int × ByteArray} {ix : Int} {tg : ByteArray} {s9 r10 s13 t15 : Value}
    (M : MsgAt w f k fr dst v h x c s r ix tg s9 r10 s13 t15) (hb : Below w.heap.size w w') : MsgAt w' f k fr dst v h x c s r ix tg s9 r10 s13 t15 :=
  ⟨M.y0, M.y1, M.y2, M.y3, M.y4, M.y5, M.y6, M.y7, M.y8, M.y9, M.y10, M.y11, M.y12, M.y13, M.y14, M.y15, M.y16, M.y17, M.y18, M.y19, M.y20, M.h9.later hb, M.h10.later hb, M.h13.later hb, M.h15.later hb⟩
theorem fewblock_is (x : BlockD) (s9 r10 : Value) (b : Bool) (hb : fewBlock x.1.2.1.2 x.1.2.2 x.2 = b) (w : World) (hv : SigsAt w s9 x.1.2.2) (hr : ReqsAt w r10 x.2) (h1 : MemS x.1.2.2) (h2 : x.1.2.1.2.size ≤ 9223372036854775807) (h3 : x.2.length ≤ 9223372036854775807) :
    Calls Try.prog 38 #[.agg #[.int .i64 x.1.1.1, .int .i64 x.1.1.2, .int .i64 x.1.2.1.1, .string x.1.2.1.2, s9, r10]] w fun e w' => e = .returned (.bool b) ∧ Below w.heap.size w w' := hb ▸ fewblock_any _ _ _ _ _ _ _ _ w hv hr h1 h2 h3
theorem fewcert_is (c : CertD) (s13 : Value) (b : Bool) (hb : fewCert c.1.2 c.2 = b) (w : World) (hv : SigsAt w s13 c.2) (h1 : MemS c.2) (h2 : c.1.2.size ≤ 9223372036854775807) :
    Calls Try.prog 39 #[.agg #[.int .i64 c.1.1, .string c.1.2, s13]] w fun e w' => e = .returned (.bool b) ∧ Below w.heap.size w w' := hb ▸ fewcert_any _ _ _ _ w hv h1 h2
theorem fewsig_is (s : Int × List ByteArray) (t15 : Value) (b : Bool) (hb : fewSig s.2 = b) (w : World) (hv : StrsAt w t15 s.2) (h1 : s.2.length ≤ 9223372036854775807) :
    Calls Try.prog 40 #[.agg #[.int .i64 s.1, t15]] w fun e w' => e = .returned (.bool b) ∧ Below w.heap.size w w' := hb ▸ fewsig_any _ _ _ w hv h1
set_option maxRecDepth 100000 in
set_option maxHeartbeats 8000000 in
theorem fewmsg_any (w : World) (f : Nat → Value) (k fr dst v : Int) (h : ByteArray) (x : BlockD) (c : CertD) (s : Int × List ByteArray) (r : Int × Int × ByteArray) (ix : Int) (tg : ByteArray) (s9 r10 s13 t15 : Value)
    (M : MsgAt w f k fr dst v h x c s r ix tg s9 r10 s13 t15) (hm : MemM x c s) :
    Calls Try.prog 19 #[.agg (row 21 f)] w fun e w' => e = .returned (.bool (fewMsg h tg x c s r)) ∧ Below w.heap.size w w' := by
  obtain ⟨X, hX⟩ : ∃ X, fewMsg h tg x c s r = X := ⟨_, rfl⟩
  have HX := Lib.hid hX
  rw [hX]
  have MM := Lib.hid M
  have HM := Lib.hid hm
  obtain ⟨a9, c9_, rfl, q9⟩ := M.h9
  obtain ⟨a10, c10_, rfl, q10⟩ := M.h10
  obtain ⟨a13, c13_, rfl, q13⟩ := M.h13
  obtain ⟨a15, c15_, rfl, q15⟩ := M.h15
  clear M hm hX q9 q10 q13 q15
  go_enter Try.func19, Try.ntmps19
  go_wp2_with (with_reducible refine hold_load (.tmp 3) rfl ?_)
  have X0 := Lib.hid (mbox_mk w f 42)
  obtain ⟨g, hg⟩ : ∃ g, w.heap.size = g := ⟨_, rfl⟩
  rw [hg] at X0 ⊢
  have HG := Lib.hid hg
  clear hg
  generalize w.alloc (.cells (row 21 f) 42) = w0 at *
  unfold BB.Held
  have c5 := X0.out.at_ 5 _ (by omega) MM.out.y5
  have c6 := X0.out.at_ 6 _ (by omega) MM.out.y6
  have c7 := X0.out.at_ 7 _ (by omega) MM.out.y7
  have c8 := X0.out.at_ 8 _ (by omega) MM.out.y8
  have c9 := X0.out.at_ 9 _ (by omega) MM.out.y9
  have c10 := X0.out.at_ 10 _ (by omega) MM.out.y10
  go_wp2_with fail
  have M0 := Lib.hid (MM.out.later X0.out.below)
  rcases h1 : fewBlock x.1.2.1.2 x.1.2.2 x.2 with _ | _
  · have HXF := Lib.hid (show X = false by rw [← HX.out, fewMsg, h1, Bool.false_and])
    have HB1 := Lib.hid h1
    clear h1
    refine (fewblock_is x _ _ false HB1.out w0 M0.out.h9 M0.out.h10 HM.out.b1 HM.out.b2 HM.out.b3).mono ?_
    rintro e w1 ⟨rfl, hb1⟩
    have X1 := Lib.hid (X0.out.on hb1)
    clear hb1 c5 c6 c7 c8 c9 c10
    go_wp2_with fail
    go_ret
    exact ⟨by rw [HXF.out]; rfl, X1.out.below⟩
  · have HB1 := Lib.hid h1
    clear h1
    refine (fewblock_is x _ _ true HB1.out w0 M0.out.h9 M0.out.h10 HM.out.b1 HM.out.b2 HM.out.b3).mono ?_
    rintro e w1 ⟨rfl, hb1⟩
    have X1 := Lib.hid (X0.out.on hb1)
    clear hb1 c5 c6 c7 c8 c9 c10
    have c11 := X1.out.at_ 11 _ (by omega) MM.out.y11
    have c12 := X1.out.at_ 12 _ (by omega) MM.out.y12
    have c13 := X1.out.at_ 13 _ (by omega) MM.out.y13
    go_wp2_with fail
    have M1 := Lib.hid (MM.out.later X1.out.below)
    rcases h2 : fewCert c.1.2 c.2 with _ | _
    · have HXF := Lib.hid (show X = false by rw [← HX.out, fewMsg, HB1.out, h2, Bool.false_and, Bool.and_false])
      have HB2 := Lib.hid h2
      clear h2
      refine (fewcert_is c _ false HB2.out w1 M1.out.h13 HM.out.c1 HM.out.c2).mono ?_
      rintro e w2 ⟨rfl, hb2⟩
      have X2 := Lib.hid (X1.out.on hb2)
      clear hb2 c11 c12 c13
      go_wp2_with fail
      go_ret
      exact ⟨by rw [HXF.out]; rfl, X2.out.below⟩
    · have HB2 := Lib.hid h2
      clear h2
      refine (fewcert_is c _ true HB2.out w1 M1.out.h13 HM.out.c1 HM.out.c2).mono ?_
      rintro e w2 ⟨rfl, hb2⟩
      have X2 := Lib.hid (X1.out.on hb2)
      clear hb2 c11 c12 c13
      have c14 := X2.out.at_ 14 _ (by omega) MM.out.y14
      have c15 := X2.out.at_ 15 _ (by omega) MM.out.y15
      go_wp2_with fail
      have M2 := Lib.hid (MM.out.later X2.out.below)
      rcases h3 : fewSig s.2 with _ | _
      · have HXF := Lib.hid (show X = false by rw [← HX.out, fewMsg, HB1.out, HB2.out, h3, Bool.false_and, Bool.and_false, Bool.and_false])
        have HB3 := Lib.hid h3
        clear h3
        refine (fewsig_is s _ false HB3.out w2 M2.out.h15 HM.out.s1).mono ?_
        rintro e w3 ⟨rfl, hb3⟩
        have X3 := Lib.hid (X2.out.on hb3)
        clear hb3 c14 c15
        go_wp2_with fail
        go_ret
        exact ⟨by rw [HXF.out]; rfl, X3.out.below⟩
      · have HB3 := Lib.hid h3
        clear h3
        refine (fewsig_is s _ true HB3.out w2 M2.out.h15 HM.out.s1).mono ?_
        rintro e w3 ⟨rfl, hb3⟩
        have X3 := Lib.hid (X2.out.on hb3)
        clear hb3 c14 c15
        have c4 := X3.out.at_ 4 _ (by omega) MM.out.y4
        have c18 := X3.out.at_ 18 _ (by omega) MM.out.y18
        have c20 := X3.out.at_ 20 _ (by omega) MM.out.y20
        have HXT := Lib.hid (show X = (decide (h.size ≤ 50) && (decide (tg.size ≤ 50) && decide (r.2.2.size ≤ 60))) by rw [← HX.out, fewMsg, HB1.out, HB2.out, HB3.out, Bool.true_and, Bool.true_and, Bool.true_and])
        by_cases h4 : h.size ≤ 50
        · have t4 : (h.size : Int) ≤ 50 := by omega
          by_cases h5 : tg.size ≤ 50
          · have t5 : (tg.size : Int) ≤ 50 := by omega
            by_cases h6 : r.2.2.size ≤ 60
            · have t6 : (r.2.2.size : Int) ≤ 60 := by omega
              have HXX := Lib.hid (show X = true by rw [HXT.out]; simp [h4, h5, h6])
              clear h4 h5 h6
              go_wp2_with fail
              go_ret
              exact ⟨by rw [HXX.out]; rfl, X3.out.below⟩
            · have t6 : decide ((r.2.2.size : Int) ≤ 60) = false := by simp; omega
              have HXX := Lib.hid (show X = false by rw [HXT.out]; simp [h6])
              clear h4 h5 h6
              go_wp2_with fail
              go_ret
              exact ⟨by rw [HXX.out]; rfl, X3.out.below⟩
          · have t5 : decide ((tg.size : Int) ≤ 50) = false := by simp; omega
            have HXX := Lib.hid (show X = false by rw [HXT.out]; simp [h5])
            clear h4 h5
            go_wp2_with fail
            go_ret
            exact ⟨by rw [HXX.out]; rfl, X3.out.below⟩
        · have t4 : decide ((h.size : Int) ≤ 50) = false := by simp; omega
          have HXX := Lib.hid (show X = false by rw [HXT.out]; simp [h4])
          clear h4
          go_wp2_with fail
          go_ret
          exact ⟨by rw [HXX.out]; rfl, X3.out.below⟩
end Go.Proofs.Ytphlpgdbngbplaa
end
section
open Go Go.RowKit
namespace Go.Proofs.Ytphlpgdbngbplaa
open WW BB
set_option maxRecDepth 100000 in
theorem rzsig_any (f : Int) (tv : Value) (ts : List ByteArray) (w : World) (hv : StrsAt w tv ts) : Calls Try.prog 24 #[.agg #[.int .i64 f, tv]] w fun e w' => e = .returned (.bool (!nzS (f, ts))) ∧ Below w.heap.size w w' := by
  obtain ⟨a0, cap, rfl, _⟩ := hv
  have hb := (Below.refl w.heap.size w).alloc (Nat.le_refl _) (.cells #[.int .i64 f, .slice a0 ts.length cap] 38)
  by_cases h1 : f = 0
  rotate_left
  · have t1 : (f == 0) = false := by simpa using h1
    rw [show (!nzS (f, ts)) = false by simp [nzS, h1]]
    clear h1
    go_enter Try.func24, Try.ntmps24
    go_wp2_with fail
    go_ret
    exact ⟨rfl, hb⟩
  subst h1
  rw [show (!nzS (0, ts)) = decide (ts.length = 0) by simp [nzS]]
  generalize ts.length = y at *
  by_cases h2 : y = 0
  rotate_left
  · have t1 : ((y : Int) == 0) = false := by simp; omega
    rw [show decide (y = 0) = false by simpa using h2]
    clear h2
    go_enter Try.func24, Try.ntmps24
    go_wp2_with fail
    go_ret
    exact ⟨rfl, hb⟩
  subst h2
  go_enter Try.func24, Try.ntmps24
  go_wp2_with fail
  go_ret
  exact ⟨rfl, hb⟩
set_option maxRecDepth 100000 in
theorem rzcert_any (v : Int) (k : ByteArray) (sv : Value) (l : List (Int × List ByteArray)) (w : World) (hv : SigsAt w sv l) : Calls Try.prog 22 #[.agg #[.int .i64 v, .string k, sv]] w fun e w' => e = .returned (.bool (!nzC ((v, k), l))) ∧ Below w.heap.size w w' := by
  obtain ⟨a0, cap, rfl, _⟩ := hv
  have hb := (Below.refl w.heap.size w).alloc (Nat.le_refl _) (.cells #[.int .i64 v, .string k, .slice a0 l.length cap] 32)
  by_cases h1 : v = 0
  rotate_left
  · have t1 : (v == 0) = false := by simpa using h1
    rw [show (!nzC ((v, k), l)) = false by simp [nzC, h1]]
    clear h1
    go_enter Try.func22, Try.ntmps22
    go_wp2_with fail
    go_ret
    exact ⟨rfl, hb⟩
  subst h1
  by_cases h3 : k.size = 0
  rotate_left
  · have t1 := emp_false h3
    rw [show (!nzC ((0, k), l)) = false by simp [nzC, h3]]
    clear h3
    go_enter Try.func22, Try.ntmps22
    go_wp2_with fail
    go_ret
    exact ⟨rfl, hb⟩
  obtain rfl := nil_size k h3
  rw [show (!nzC ((0, ⟨#[]⟩), l)) = decide (l.length = 0) by
    show (!(!(decide ((0 : Int) = 0) && (decide ((⟨#[]⟩ : ByteArray).size = 0) && decide (l.length = 0))))) = _
    rw [show decide ((⟨#[]⟩ : ByteArray).size = 0) = true from rfl]; simp]
  clear h3
  generalize l.length = y at *
  by_cases h2 : y = 0
  rotate_left
  · have t1 : ((y : Int) == 0) = false := by simp; omega
    rw [show decide (y = 0) = false by simpa using h2]
    clear h2
    go_enter Try.func22, Try.ntmps22
    go_wp2_with fail
    go_ret
    exact ⟨rfl, hb⟩
  subst h2
  go_enter Try.func22, Try.ntmps22
  go_wp2_with fail
  go_ret
  exact ⟨rfl, hb⟩
set_option maxRecDepth 100000 in
set_option maxHeartbeats 2000000 in
theorem rzblock_any (v p cv : Int) (k : ByteArray) (sv rv : Value) (l : List (Int × List ByteArray)) (m : List (Int × Int × ByteArray)) (w : World) (hv : SigsAt w sv l) (hr : ReqsAt w rv m) :
    Calls Try.prog 20 #[.agg #[.int .i64 v, .int .i64 p, .int .i64 cv, .string k, sv, rv]] w fun e w' => e = .returned (.bool (!nzB (((v, p), ((cv, k), l)), m))) ∧ Below w.heap.size w w' := by
  have hzc : (!nzB (((v, p), ((cv, k), l)), m)) = (decide (v = 0) && (decide (p = 0) && ((!nzC ((cv, k), l)) && decide (m.length = 0)))) := by simp [nzB, nzC, Bool.and_assoc]
  rw [hzc]
  have HZ := Lib.hid (fun wx (hb : Below w.heap.size w wx) => rzcert_any cv k sv l wx (hv.later hb))
  obtain ⟨Z, hZ⟩ : ∃ Z, (!nzC ((cv, k), l)) = Z := ⟨_, rfl⟩
  rw [hZ] at HZ ⊢
  clear hZ hzc
  obtain ⟨a0, cap, rfl, _⟩ := hv
  obtain ⟨a1, cap1, rfl, _⟩ := hr
  have K := Lib.hid (show BoxAt w w.heap.size [.int .i64 v, .int .i64 p, .int .i64 cv, .string k, .slice a0 l.length cap, .slice a1 m.length cap1] (w.alloc (.cells #[.int .i64 v, .int .i64 p, .int .i64 cv, .string k, .slice a0 l.length cap, .slice a1 m.length cap1] 35)) from box_mk w [.int .i64 v, .int .i64 p, .int .i64 cv, .string k, .slice a0 l.length cap, .slice a1 m.length cap1] 35)
  by_cases h1 : v = 0
  rotate_left
  · have t1 : (v == 0) = false := by simpa using h1
    rw [show decide (v = 0) = false by simpa using h1, Bool.false_and]
    clear h1
    go_enter Try.func20, Try.ntmps20
    go_wp2_with fail
    go_ret
    exact ⟨rfl, K.out.below⟩
  subst h1
  by_cases h2 : p = 0
  rotate_left
  · have t1 : (p == 0) = false := by simpa using h2
    rw [show decide (p = 0) = false by simpa using h2, Bool.false_and, Bool.and_false]
    clear h2
    go_enter Try.func20, Try.ntmps20
    go_wp2_with fail
    go_ret
    exact ⟨rfl, K.out.below⟩
  subst h2
  rw [show (decide ((0 : Int) = 0) && (decide ((0 : Int) = 0) && (Z && decide (m.length = 0)))) = (Z && decide (m.length = 0)) by simp]
  generalize m.length = y at *
  go_enter Try.func20, Try.ntmps20
  go_wp2_with fail
  generalize w.alloc (.cells #[.int .i64 0, .int .i64 0, .int .i64 cv, .string k, .slice a0 l.length cap, .slice a1 y cap1] 35) = w0 at *
  refine (HZ.out _ K.out.below).mono ?_
  rintro e w1 ⟨rfl, hb1⟩
  have K := Lib.hid (K.out.on hb1)
  have c5 := K.out.cell 5 _ rfl
  clear hb1 HZ
  cases Z
  · go_wp2_with fail
    go_ret
    exact ⟨rfl, K.out.below⟩
  by_cases h2 : y = 0
  rotate_left
  · have t1 : ((y : Int) == 0) = false := by simp; omega
    have H2 := Lib.hid h2
    clear h2
    go_wp2_with fail
    go_ret
    exact ⟨by rw [show decide (y = 0) = false by simpa using H2.out]; rfl, K.out.below⟩
  subst h2
  go_wp2_with fail
  go_ret
  exact ⟨rfl, K.out.below⟩
end Go.Proofs.Ytphlpgdbngbplaa
end
section
open Go Go.RowKit
namespace WW
open BB
def headOk (k fr dst v : Int) : Prop := 1 ≤ k ∧ k ≤ 7 ∧ 0 ≤ fr ∧ fr ≤ 20 ∧ 0 ≤ dst ∧ dst ≤ 20 ∧ 0 ≤ v ∧ v ≤ 1000000
def tailOk (ix : Int) (h tg : ByteArray) : Prop := 0 ≤ ix ∧ ix ≤ 2147483647 ∧ (h.size = 0 ∨ h.size = 32) ∧ (tg.size = 0 ∨ tg.size = 16)
instance (k fr dst v : Int) : Decidable (headOk k fr dst v) := by unfold headOk; infer_instance
instance (ix : Int) (h tg : ByteArray) : Decidable (tailOk ix h tg) := by unfold tailOk; infer_instance
def okB (x : BlockD) : Bool := !nzB x || rightBlock x.1.1.1 x.1.1.2 x.1.2.1.1 x.1.2.1.2 x.1.2.2 x.2
def okC (c : CertD) : Bool := !nzC c || rightCert c.1.1 c.1.2 c.2
def okS (s : Int × List ByteArray) : Bool := !nzS s || rightSig s.1 s.2
def okR (r : Int × Int × ByteArray) : Bool := !nzR r || decide (rightR r.1 r.2.1 r.2.2)
/-- a message that is right -/
def rightMsg (k fr dst v : Int) (h : ByteArray) (x : BlockD) (c : CertD) (s : Int × List ByteArray) (r : Int × Int × ByteArray) (ix : Int) (tg : ByteArray) : Bool :=
  decide (headOk k fr dst v) && (decide (tailOk ix h tg) && ((okB x && (okC c && okS s)) && okR r))
def BadHd (k fr dst v : Int) : Prop := k < 1 ∨ ¬ k < 1 ∧ (7 < k ∨ ¬ 7 < k ∧ (fr < 0 ∨ ¬ fr < 0 ∧ (20 < fr ∨ ¬ 20 < fr ∧ (dst < 0 ∨ ¬ dst < 0 ∧ (20 < dst ∨ ¬ 20 < dst ∧ (v < 0 ∨ ¬ v < 0 ∧ 1000000 < v))))))
theorem badHd_of {k fr dst v : Int} (h : ¬ headOk k fr dst v) : BadHd k fr dst v := by unfold headOk at h; unfold BadHd; omega
/-- a text is none, or has so many bytes, or is wrong -/
theorem text_cases (h : ByteArray) (n : Nat) : (h = ⟨#[]⟩) ∨ (h.toList.isEmpty = false ∧ h.size = n) ∨ (h.toList.isEmpty = false ∧ h.size ≠ n ∧ h.size ≠ 0) := by
  by_cases h0 : h.size = 0
  · exact Or.inl (nil_size h h0)
  · by_cases hn : h.size = n
    · exact Or.inr (Or.inl ⟨emp_false h0, hn⟩)
    · exact Or.inr (Or.inr ⟨emp_false h0, hn, h0⟩)
end WW
namespace Go.Proofs.Ytphlpgdbngbplaa
open WW BB
theorem rzblock_is (x : BlockD) (s9 r10 : Value) (b : Bool) (hb : (!nzB x) = b) (w : World) (hv : SigsAt w s9 x.1.2.2) (hr : ReqsAt w r10 x.2) :
    Calls Try.prog 20 #[.agg #[.int .i64 x.1.1.1, .int .i64 x.1.1.2, .int .i64 x.1.2.1.1, .string x.1.2.1.2, s9, r10]] w fun e w' => e = .returned (.bool b) ∧ Below w.heap.size w w' := hb ▸ rzblock_any x.1.1.1 x.1.1.2 x.1.2.1.1 x.1.2.1.2 s9 r10 x.1.2.2 x.2 w hv hr
theorem rzcert_is (c : CertD) (s13 : Value) (b : Bool) (hb : (!nzC c) = b) (w : World) (hv : SigsAt w s13 c.2) :
    Calls Try.prog 22 #[.agg #[.int .i64 c.1.1, .string c.1.2, s13]] w fun e w' => e = .returned (.bool b) ∧ Below w.heap.size w w' := hb ▸ rzcert_any c.1.1 c.1.2 s13 c.2 w hv
theorem rzsig_is (s : Int × List ByteArray) (t15 : Value) (b : Bool) (hb : (!nzS s) = b) (w : World) (hv : StrsAt w t15 s.2) :
    Calls Try.prog 24 #[.agg #[.int .i64 s.1, t15]] w fun e w' => e = .returned (.bool b) ∧ Below w.heap.size w w' := hb ▸ rzsig_any s.1 t15 s.2 w hv
theorem rightblock_is (x : BlockD) (s9 r10 : Value) (b : Bool) (hb : rightBlock x.1.1.1 x.1.1.2 x.1.2.1.1 x.1.2.1.2 x.1.2.2 x.2 = b) (w : World) (hv : SigsAt w s9 x.1.2.2) (hr : ReqsAt w r10 x.2) (h1 : MemS x.1.2.2) :
    Calls Try.prog 21 #[.agg #[.int .i64 x.1.1.1, .int .i64 x.1.1.2, .int .i64 x.1.2.1.1, .string x.1.2.1.2, s9, r10]] w fun e w' => e = .returned (.bool b) ∧ Below w.heap.size w w' := hb ▸ rightblock_any _ _ _ _ _ _ _ _ w hv hr h1
theorem rightcert_is (c : CertD) (s13 : Value) (b : Bool) (hb : rightCert c.1.1 c.1.2 c.2 = b) (w : World) (hv : SigsAt w s13 c.2) (h1 : MemS c.2) :
    Calls Try.prog 23 #[.agg #[.int .i64 c.1.1, .string c.1.2, s13]] w fun e w' => e = .returned (.bool b) ∧ Below w.heap.size w w' := hb ▸ rightcert_any _ _ _ _ w hv h1
theorem rightsig_is (s : Int × List ByteArray) (t15 : Value) (b : Bool) (hb : rightSig s.1 s.2 = b) (w : World) (hv : StrsAt w t15 s.2) (h1 : s.2.length ≤ 9223372036854775807) :
    Calls Try.prog 25 #[.agg #[.int .i64 s.1, t15]] w fun e w' => e = .returned (.bool b) ∧ Below w.heap.size w w' := hb ▸ rightsig_any _ _ _ w hv h1
theorem rightreq_is (r : Int × Int × ByteArray) (b : Bool) (hb : decide (rightR r.1 r.2.1 r.2.2) = b) (w : World) :
    Calls Try.prog 26 #[.agg #[.int .i64 r.1, .int .i64 r.2.1, .string r.2.2]] w fun e w' => e = .returned (.bool b) ∧ Below w.heap.size w w' := hb ▸ rightreq_any _ _ _ w
set_option maxRecDepth 100000 in
set_option maxHeartbeats 16000000 in
theorem rightmsg_head (w : World) (f : Nat → Value) (k fr dst v : Int) (h : ByteArray) (x : BlockD) (c : CertD) (s : Int × List ByteArray) (r : Int × Int × ByteArray) (ix : Int) (tg : ByteArray) (s9 r10 s13 t15 : Value)
    (M : MsgAt w f k fr dst v h x c s r ix tg s9 r10 s13 t15) (hb : ¬ headOk k fr dst v) :
    Calls Try.prog 9 #[.agg (row 21 f)] w fun e w' => e = .returned (.bool false) ∧ Below w.heap.size w w' := by
  have HB := Lib.hid (badHd_of hb)
  clear hb
  have MM := Lib.hid M
  obtain ⟨a9, c9_, rfl, q9⟩ := M.h9
  obtain ⟨a10, c10_, rfl, q10⟩ := M.h10
  obtain ⟨a13, c13_, rfl, q13⟩ := M.h13
  obtain ⟨a15, c15_, rfl, q15⟩ := M.h15
  clear M q9 q10 q13 q15
  go_enter Try.func9, Try.ntmps9
  go_wp2_with (with_reducible refine hold_load (.tmp 3) rfl ?_)
  have X0 := Lib.hid (mbox_mk w f 42)
  obtain ⟨g, hg⟩ : ∃ g, w.heap.size = g := ⟨_, rfl⟩
  rw [hg] at X0 ⊢
  have HG := Lib.hid hg
  clear hg
  generalize w.alloc (.cells (row 21 f) 42) = w0 at *
  unfold BB.Held
  have c0 := X0.out.at_ 0 _ (by omega) MM.out.y0
  have c1 := X0.out.at_ 1 _ (by omega) MM.out.y1
  have c2 := X0.out.at_ 2 _ (by omega) MM.out.y2
  have c3 := X0.out.at_ 3 _ (by omega) MM.out.y3
  rcases HB.out with t1 | ⟨t1, t2 | ⟨t2, t3 | ⟨t3, t4 | ⟨t4, t5 | ⟨t5, t6 | ⟨t6, t7 | ⟨t7, t8⟩⟩⟩⟩⟩⟩⟩
  all_goals
    clear HB
    go_wp2_with fail
    go_ret
    exact ⟨rfl, X0.out.below⟩
set_option maxRecDepth 100000 in
set_option maxHeartbeats 16000000 in
theorem rightmsg_tail (w : World) (f : Nat → Value) (k fr dst v : Int) (h : ByteArray) (x : BlockD) (c : CertD) (s : Int × List ByteArray) (r : Int × Int × ByteArray) (ix : Int) (tg : ByteArray) (s9 r10 s13 t15 : Value)
    (M : MsgAt w f k fr dst v h x c s r ix tg s9 r10 s13 t15) (hh : headOk k fr dst v) (hb : ¬ tailOk ix h tg) :
    Calls Try.prog 9 #[.agg (row 21 f)] w fun e w' => e = .returned (.bool false) ∧ Below w.heap.size w w' := by
  have HB := Lib.hid hb
  clear hb
  have t1 : ¬ k < 1 := by have := hh.1; omega
  have t2 : ¬ 7 < k := by have := hh.2.1; omega
  have t3 : ¬ fr < 0 := by have := hh.2.2.1; omega
  have t4 : ¬ 20 < fr := by have := hh.2.2.2.1; omega
  have t5 : ¬ dst < 0 := by have := hh.2.2.2.2.1; omega
  have t6 : ¬ 20 < dst := by have := hh.2.2.2.2.2.1; omega
  have t7 : ¬ v < 0 := by have := hh.2.2.2.2.2.2.1; omega
  have t8 : ¬ 1000000 < v := by have := hh.2.2.2.2.2.2.2; omega
  clear hh
  have MM := Lib.hid M
  obtain ⟨a9, c9_, rfl, q9⟩ := M.h9
  obtain ⟨a10, c10_, rfl, q10⟩ := M.h10
  obtain ⟨a13, c13_, rfl, q13⟩ := M.h13
  obtain ⟨a15, c15_, rfl, q15⟩ := M.h15
  clear M q9 q10 q13 q15
  go_enter Try.func9, Try.ntmps9
  go_wp2_with (with_reducible refine hold_load (.tmp 3) rfl ?_)
  have X0 := Lib.hid (mbox_mk w f 42)
  obtain ⟨g, hg⟩ : ∃ g, w.heap.size = g := ⟨_, rfl⟩
  rw [hg] at X0 ⊢
  have HG := Lib.hid hg
  clear hg
  generalize w.alloc (.cells (row 21 f) 42) = w0 at *
  unfold BB.Held
  have c0 := X0.out.at_ 0 _ (by omega) MM.out.y0
  have c1 := X0.out.at_ 1 _ (by omega) MM.out.y1
  have c2 := X0.out.at_ 2 _ (by omega) MM.out.y2
  have c3 := X0.out.at_ 3 _ (by omega) MM.out.y3
  have c4 := X0.out.at_ 4 _ (by omega) MM.out.y4
  have c19 := X0.out.at_ 19 _ (by omega) MM.out.y19
  have c20 := X0.out.at_ 20 _ (by omega) MM.out.y20
  by_cases i1 : ix < 0
  · clear HB
    go_wp2_with fail
    go_ret
    exact ⟨rfl, X0.out.below⟩
  by_cases i2 : 2147483647 < ix
  · clear HB
    go_wp2_with fail
    go_ret
    exact ⟨rfl, X0.out.below⟩
  rcases text_cases h 32 with rfl | ⟨h0, h1⟩ | ⟨h0, h1, h2⟩
  · have HT := Lib.hid (show tg.size ≠ 0 ∧ tg.size ≠ 16 by
      have := HB.out; unfold tailOk at this
      have e : (⟨#[]⟩ : ByteArray).size = 0 := rfl
      omega)
    have g0 := emp_false HT.out.1
    have g1 : ((tg.size : Int) != 16) = true := by have := HT.out.2; rw [bne_iff_ne]; omega
    clear HB
    go_wp2_with fail
    go_ret
    exact ⟨rfl, X0.out.below⟩
  · have HT := Lib.hid (show tg.size ≠ 0 ∧ tg.size ≠ 16 by
      have := HB.out; unfold tailOk at this
      omega)
    have g0 := emp_false HT.out.1
    have g1 : ((tg.size : Int) != 16) = true := by have := HT.out.2; rw [bne_iff_ne]; omega
    have h3 : ((h.size : Int) != 32) = false := by rw [h1]; rfl
    clear HB h1
    go_wp2_with fail
    go_ret
    exact ⟨rfl, X0.out.below⟩
  · have h3 : ((h.size : Int) != 32) = true := by rw [bne_iff_ne]; omega
    clear HB h1 h2
    go_wp2_with fail
    go_ret
    exact ⟨rfl, X0.out.below⟩
end Go.Proofs.Ytphlpgdbngbplaa
end
section
open Go Go.RowKit
namespace Go.Proofs.Ytphlpgdbngbplaa
open WW BB
set_option maxRecDepth 100000 in
set_option maxHeartbeats 16000000 in
theorem rightmsg_rest (w : World) (f : Nat → Value) (k fr dst v : Int) (h : ByteArray) (x : BlockD) (c : CertD) (s : Int × List ByteArray) (r : Int × Int × ByteArray) (ix : Int) (tg : ByteArray) (s9 r10 s13 t15 : Value)
    (M : MsgAt w f k fr dst v h x c s r ix tg s9 r10 s13 t15) (hm : MemM x c s) (hh : headOk k fr dst v) (hb : tailOk ix h tg) :
    Calls Try.prog 9 #[.agg (row 21 f)] w fun e w' => e = .returned (.bool ((okB x && (okC c && okS s)) && okR r)) ∧ Below w.heap.size w w' := by
  obtain ⟨X, hX⟩ : ∃ X, ((okB x && (okC c && okS s)) && okR r) = X := ⟨_, rfl⟩
  rw [hX]
  have HX := Lib.hid hX
  have HM := Lib.hid hm
  have i1 : ¬ ix < 0 := by have := hb.1; omega
  have i2 : ¬ 2147483647 < ix := by have := hb.2.1; omega
  have HB := Lib.hid hb.2.2
  clear hb hm hX
  have t1 : ¬ k < 1 := by have := hh.1; omega
  have t2 : ¬ 7 < k := by have := hh.2.1; omega
  have t3 : ¬ fr < 0 := by have := hh.2.2.1; omega
  have t4 : ¬ 20 < fr := by have := hh.2.2.2.1; omega
  have t5 : ¬ dst < 0 := by have := hh.2.2.2.2.1; omega
  have t6 : ¬ 20 < dst := by have := hh.2.2.2.2.2.1; omega
  have t7 : ¬ v < 0 := by have := hh.2.2.2.2.2.2.1; omega
  have t8 : ¬ 1000000 < v := by have := hh.2.2.2.2.2.2.2; omega
  clear hh
  have MM := Lib.hid M
  obtain ⟨a9, c9_, rfl, q9⟩ := M.h9
  obtain ⟨a10, c10_, rfl, q10⟩ := M.h10
  obtain ⟨a13, c13_, rfl, q13⟩ := M.h13
  obtain ⟨a15, c15_, rfl, q15⟩ := M.h15
  clear M q9 q10 q13 q15
  go_enter Try.func9, Try.ntmps9
  have X0 := Lib.hid (mbox_mk w f 42)
  have c0 := X0.out.at_ 0 _ (by omega) MM.out.y0
  have c1 := X0.out.at_ 1 _ (by omega) MM.out.y1
  have c2 := X0.out.at_ 2 _ (by omega) MM.out.y2
  have c3 := X0.out.at_ 3 _ (by omega) MM.out.y3
  go_upto_region 3 with fail
  clear c0 c1 c2 c3
  obtain ⟨g, hg⟩ : ∃ g, w.heap.size = g := ⟨_, rfl⟩
  rw [hg] at X0 ⊢
  have HG := Lib.hid hg
  clear hg
  generalize w.alloc (.cells (row 21 f) 42) = w0 at *
  go_cut [70] from 41 to 69 (fun s70 wx => s70 = .bool false ∧ wx = w0)
  case first =>
    have c4 := X0.out.at_ 4 _ (by omega) MM.out.y4
    have c19 := X0.out.at_ 19 _ (by omega) MM.out.y19
    have c20 := X0.out.at_ 20 _ (by omega) MM.out.y20
    have d1 : h = ⟨#[]⟩ ∨ (h.toList.isEmpty = false ∧ ((h.size : Int) != 32) = false) := by
      rcases text_cases h 32 with h0 | ⟨h0, h1⟩ | ⟨h0, h1, h2⟩
      · exact Or.inl h0
      · exact Or.inr ⟨h0, by rw [h1]; rfl⟩
      · have := HB.out.1; omega
    have d2 : tg = ⟨#[]⟩ ∨ (tg.toList.isEmpty = false ∧ ((tg.size : Int) != 16) = false) := by
      rcases text_cases tg 16 with h0 | ⟨h0, h1⟩ | ⟨h0, h1, h2⟩
      · exact Or.inl h0
      · exact Or.inr ⟨h0, by rw [h1]; rfl⟩
      · have := HB.out.2; omega
    clear HB
    rcases d1 with rfl | ⟨h0, h1⟩
    all_goals
      rcases d2 with rfl | ⟨g0, g1⟩
      all_goals
        go_wp2_with fail
        go_meet
        case rel => exact ⟨rfl, rfl⟩
  case rest =>
  obtain ⟨rfl, rfl⟩ := hcut
  clear t1 t2 t3 t4 t5 t6 t7 t8 i1 i2
  obtain ⟨P, hP⟩ : ∃ P, (okB x && (okC c && okS s)) = P := ⟨_, rfl⟩
  have HP := Lib.hid hP
  clear hP
  go_upto_region 5 with fail
  go_cut [104] from 71 to 103 (fun s104 wx => s104 = .bool (!P) ∧ MBox w g f wx)
  case first =>
    have c5 := X0.out.at_ 5 _ (by omega) MM.out.y5
    have c6 := X0.out.at_ 6 _ (by omega) MM.out.y6
    have c7 := X0.out.at_ 7 _ (by omega) MM.out.y7
    have c8 := X0.out.at_ 8 _ (by omega) MM.out.y8
    have c9 := X0.out.at_ 9 _ (by omega) MM.out.y9
    have c10 := X0.out.at_ 10 _ (by omega) MM.out.y10
    go_wp2_with fail
    have M1 := Lib.hid (MM.out.later X0.out.below)
    rcases hz : (!nzB x) with _ | _
    · have HZ2 := Lib.hid hz
      clear hz
      refine (rzblock_is x _ _ false HZ2.out _ M1.out.h9 M1.out.h10).mono ?_
      rintro e w2 ⟨rfl, hb2⟩
      have X2 := Lib.hid (X0.out.on hb2)
      clear hb2 c5 c6 c7 c8 c9 c10
      have c5 := X2.out.at_ 5 _ (by omega) MM.out.y5
      have c6 := X2.out.at_ 6 _ (by omega) MM.out.y6
      have c7 := X2.out.at_ 7 _ (by omega) MM.out.y7
      have c8 := X2.out.at_ 8 _ (by omega) MM.out.y8
      have c9 := X2.out.at_ 9 _ (by omega) MM.out.y9
      have c10 := X2.out.at_ 10 _ (by omega) MM.out.y10
      go_wp2_with fail
      have M2 := Lib.hid (MM.out.later X2.out.below)
      rcases hr : rightBlock x.1.1.1 x.1.1.2 x.1.2.1.1 x.1.2.1.2 x.1.2.2 x.2 with _ | _
      · have HR2 := Lib.hid hr
        clear hr
        refine (rightblock_is x _ _ false HR2.out _ M2.out.h9 M2.out.h10 HM.out.b1).mono ?_
        rintro e w3 ⟨rfl, hb3⟩
        have X3 := Lib.hid (X2.out.on hb3)
        clear hb3 c5 c6 c7 c8 c9 c10
        go_wp2_with fail
        go_meet
        case rel => exact ⟨by rw [← HP.out]; unfold okB okC okS; rw [HZ2.out, HR2.out]; rfl, X3.out⟩
      · have HR2 := Lib.hid hr
        clear hr
        refine (rightblock_is x _ _ true HR2.out _ M2.out.h9 M2.out.h10 HM.out.b1).mono ?_
        rintro e w3 ⟨rfl, hb3⟩
        have X3 := Lib.hid (X2.out.on hb3)
        clear hb3 c5 c6 c7 c8 c9 c10
        have c11 := X3.out.at_ 11 _ (by omega) MM.out.y11
        have c12 := X3.out.at_ 12 _ (by omega) MM.out.y12
        have c13 := X3.out.at_ 13 _ (by omega) MM.out.y13
        go_wp2_with fail
        have M4 := Lib.hid (MM.out.later X3.out.below)
        rcases hz : (!nzC c) with _ | _
        · have HZ5 := Lib.hid hz
          clear hz
          refine (rzcert_is c _ false HZ5.out _ M4.out.h13).mono ?_
          rintro e w5 ⟨rfl, hb5⟩
          have X5 := Lib.hid (X3.out.on hb5)
          clear hb5 c11 c12 c13
          have c11 := X5.out.at_ 11 _ (by omega) MM.out.y11
          have c12 := X5.out.at_ 12 _ (by omega) MM.out.y12
          have c13 := X5.out.at_ 13 _ (by omega) MM.out.y13
          go_wp2_with fail
          have M5 := Lib.hid (MM.out.later X5.out.below)
          rcases hr : rightCert c.1.1 c.1.2 c.2 with _ | _
          · have HR5 := Lib.hid hr
            clear hr
            refine (rightcert_is c _ false HR5.out _ M5.out.h13 HM.out.c1).mono ?_
            rintro e w6 ⟨rfl, hb6⟩
            have X6 := Lib.hid (X5.out.on hb6)
            clear hb6 c11 c12 c13
            go_wp2_with fail
            go_meet
            case rel => exact ⟨by rw [← HP.out]; unfold okB okC okS; rw [HZ2.out, HR2.out, HZ5.out, HR5.out]; rfl, X6.out⟩
          · have HR5 := Lib.hid hr
            clear hr
            refine (rightcert_is c _ true HR5.out _ M5.out.h13 HM.out.c1).mono ?_
            rintro e w6 ⟨rfl, hb6⟩
            have X6 := Lib.hid (X5.out.on hb6)
            clear hb6 c11 c12 c13
            have c14 := X6.out.at_ 14 _ (by omega) MM.out.y14
            have c15 := X6.out.at_ 15 _ (by omega) MM.out.y15
            go_wp2_with fail
            have M7 := Lib.hid (MM.out.later X6.out.below)
            rcases hz : (!nzS s) with _ | _
            · have HZ8 := Lib.hid hz
              clear hz
              refine (rzsig_is s _ false HZ8.out _ M7.out.h15).mono ?_
              rintro e w8 ⟨rfl, hb8⟩
              have X8 := Lib.hid (X6.out.on hb8)
              clear hb8 c14 c15
              have c14 := X8.out.at_ 14 _ (by omega) MM.out.y14
              have c15 := X8.out.at_ 15 _ (by omega) MM.out.y15
              go_wp2_with fail
              have M8 := Lib.hid (MM.out.later X8.out.below)
              rcases hr : rightSig s.1 s.2 with _ | _
              · have HR8 := Lib.hid hr
                clear hr
                refine (rightsig_is s _ false HR8.out _ M8.out.h15 HM.out.s1).mono ?_
                rintro e w9 ⟨rfl, hb9⟩
                have X9 := Lib.hid (X8.out.on hb9)
                clear hb9 c14 c15
                go_wp2_with fail
                go_meet
                case rel => exact ⟨by rw [← HP.out]; unfold okB okC okS; rw [HZ2.out, HR2.out, HZ5.out, HR5.out, HZ8.out, HR8.out]; rfl, X9.out⟩
              · have HR8 := Lib.hid hr
                clear hr
                refine (rightsig_is s _ true HR8.out _ M8.out.h15 HM.out.s1).mono ?_
                rintro e w9 ⟨rfl, hb9⟩
                have X9 := Lib.hid (X8.out.on hb9)
                clear hb9 c14 c15
                go_wp2_with fail
                go_meet
                case rel => exact ⟨by rw [← HP.out]; unfold okB okC okS; rw [HZ2.out, HR2.out, HZ5.out, HR5.out, HZ8.out, HR8.out]; rfl, X9.out⟩
            · have HZ10 := Lib.hid hz
              clear hz
              refine (rzsig_is s _ true HZ10.out _ M7.out.h15).mono ?_
              rintro e w10 ⟨rfl, hb10⟩
              have X10 := Lib.hid (X6.out.on hb10)
              clear hb10 c14 c15
              go_wp2_with fail
              go_meet
              case rel => exact ⟨by rw [← HP.out]; unfold okB okC okS; rw [HZ2.out, HR2.out, HZ5.out, HR5.out, HZ10.out]; rfl, X10.out⟩
        · have HZ11 := Lib.hid hz
          clear hz
          refine (rzcert_is c _ true HZ11.out _ M4.out.h13).mono ?_
          rintro e w11 ⟨rfl, hb11⟩
          have X11 := Lib.hid (X3.out.on hb11)
          clear hb11 c11 c12 c13
          have c14 := X11.out.at_ 14 _ (by omega) MM.out.y14
          have c15 := X11.out.at_ 15 _ (by omega) MM.out.y15
          go_wp2_with fail
          have M12 := Lib.hid (MM.out.later X11.out.below)
          rcases hz : (!nzS s) with _ | _
          · have HZ13 := Lib.hid hz
            clear hz
            refine (rzsig_is s _ false HZ13.out _ M12.out.h15).mono ?_
            rintro e w13 ⟨rfl, hb13⟩
            have X13 := Lib.hid (X11.out.on hb13)
            clear hb13 c14 c15
            have c14 := X13.out.at_ 14 _ (by omega) MM.out.y14
            have c15 := X13.out.at_ 15 _ (by omega) MM.out.y15
            go_wp2_with fail
            have M13 := Lib.hid (MM.out.later X13.out.below)
            rcases hr : rightSig s.1 s.2 with _ | _
            · have HR13 := Lib.hid hr
              clear hr
              refine (rightsig_is s _ false HR13.out _ M13.out.h15 HM.out.s1).mono ?_
              rintro e w14 ⟨rfl, hb14⟩
              have X14 := Lib.hid (X13.out.on hb14)
              clear hb14 c14 c15
              go_wp2_with fail
              go_meet
              case rel => exact ⟨by rw [← HP.out]; unfold okB okC okS; rw [HZ2.out, HR2.out, HZ11.out, HZ13.out, HR13.out]; rfl, X14.out⟩
            · have HR13 := Lib.hid hr
              clear hr
              refine (rightsig_is s _ true HR13.out _ M13.out.h15 HM.out.s1).mono ?_
              rintro e w14 ⟨rfl, hb14⟩
              have X14 := Lib.hid (X13.out.on hb14)
              clear hb14 c14 c15
              go_wp2_with fail
              go_meet
              case rel => exact ⟨by rw [← HP.out]; unfold okB okC okS; rw [HZ2.out, HR2.out, HZ11.out, HZ13.out, HR13.out]; rfl, X14.out⟩
          · have HZ15 := Lib.hid hz
            clear hz
            refine (rzsig_is s _ true HZ15.out _ M12.out.h15).mono ?_
            rintro e w15 ⟨rfl, hb15⟩
            have X15 := Lib.hid (X11.out.on hb15)
            clear hb15 c14 c15
            go_wp2_with fail
            go_meet
            case rel => exact ⟨by rw [← HP.out]; unfold okB okC okS; rw [HZ2.out, HR2.out, HZ11.out, HZ15.out]; rfl, X15.out⟩
    · have HZ16 := Lib.hid hz
      clear hz
      refine (rzblock_is x _ _ true HZ16.out _ M1.out.h9 M1.out.h10).mono ?_
      rintro e w16 ⟨rfl, hb16⟩
      have X16 := Lib.hid (X0.out.on hb16)
      clear hb16 c5 c6 c7 c8 c9 c10
      have c11 := X16.out.at_ 11 _ (by omega) MM.out.y11
      have c12 := X16.out.at_ 12 _ (by omega) MM.out.y12
      have c13 := X16.out.at_ 13 _ (by omega) MM.out.y13
      go_wp2_with fail
      have M17 := Lib.hid (MM.out.later X16.out.below)
      rcases hz : (!nzC c) with _ | _
      · have HZ18 := Lib.hid hz
        clear hz
        refine (rzcert_is c _ false HZ18.out _ M17.out.h13).mono ?_
        rintro e w18 ⟨rfl, hb18⟩
        have X18 := Lib.hid (X16.out.on hb18)
        clear hb18 c11 c12 c13
        have c11 := X18.out.at_ 11 _ (by omega) MM.out.y11
        have c12 := X18.out.at_ 12 _ (by omega) MM.out.y12
        have c13 := X18.out.at_ 13 _ (by omega) MM.out.y13
        go_wp2_with fail
        have M18 := Lib.hid (MM.out.later X18.out.below)
        rcases hr : rightCert c.1.1 c.1.2 c.2 with _ | _
        · have HR18 := Lib.hid hr
          clear hr
          refine (rightcert_is c _ false HR18.out _ M18.out.h13 HM.out.c1).mono ?_
          rintro e w19 ⟨rfl, hb19⟩
          have X19 := Lib.hid (X18.out.on hb19)
          clear hb19 c11 c12 c13
          go_wp2_with fail
          go_meet
          case rel => exact ⟨by rw [← HP.out]; unfold okB okC okS; rw [HZ16.out, HZ18.out, HR18.out]; rfl, X19.out⟩
        · have HR18 := Lib.hid hr
          clear hr
          refine (rightcert_is c _ true HR18.out _ M18.out.h13 HM.out.c1).mono ?_
          rintro e w19 ⟨rfl, hb19⟩
          have X19 := Lib.hid (X18.out.on hb19)
          clear hb19 c11 c12 c13
          have c14 := X19.out.at_ 14 _ (by omega) MM.out.y14
          have c15 := X19.out.at_ 15 _ (by omega) MM.out.y15
          go_wp2_with fail
          have M20 := Lib.hid (MM.out.later X19.out.below)
          rcases hz : (!nzS s) with _ | _
          · have HZ21 := Lib.hid hz
            clear hz
            refine (rzsig_is s _ false HZ21.out _ M20.out.h15).mono ?_
            rintro e w21 ⟨rfl, hb21⟩
            have X21 := Lib.hid (X19.out.on hb21)
            clear hb21 c14 c15
            have c14 := X21.out.at_ 14 _ (by omega) MM.out.y14
            have c15 := X21.out.at_ 15 _ (by omega) MM.out.y15
            go_wp2_with fail
            have M21 := Lib.hid (MM.out.later X21.out.below)
            rcases hr : rightSig s.1 s.2 with _ | _
            · have HR21 := Lib.hid hr
              clear hr
              refine (rightsig_is s _ false HR21.out _ M21.out.h15 HM.out.s1).mono ?_
              rintro e w22 ⟨rfl, hb22⟩
              have X22 := Lib.hid (X21.out.on hb22)
              clear hb22 c14 c15
              go_wp2_with fail
              go_meet
              case rel => exact ⟨by rw [← HP.out]; unfold okB okC okS; rw [HZ16.out, HZ18.out, HR18.out, HZ21.out, HR21.out]; rfl, X22.out⟩
            · have HR21 := Lib.hid hr
              clear hr
              refine (rightsig_is s _ true HR21.out _ M21.out.h15 HM.out.s1).mono ?_
              rintro e w22 ⟨rfl, hb22⟩
              have X22 := Lib.hid (X21.out.on hb22)
              clear hb22 c14 c15
              go_wp2_with fail
              go_meet
              case rel => exact ⟨by rw [← HP.out]; unfold okB okC okS; rw [HZ16.out, HZ18.out, HR18.out, HZ21.out, HR21.out]; rfl, X22.out⟩
          · have HZ23 := Lib.hid hz
            clear hz
            refine (rzsig_is s _ true HZ23.out _ M20.out.h15).mono ?_
            rintro e w23 ⟨rfl, hb23⟩
            have X23 := Lib.hid (X19.out.on hb23)
            clear hb23 c14 c15
            go_wp2_with fail
            go_meet
            case rel => exact ⟨by rw [← HP.out]; unfold okB okC okS; rw [HZ16.out, HZ18.out, HR18.out, HZ23.out]; rfl, X23.out⟩
      · have HZ24 := Lib.hid hz
        clear hz
        refine (rzcert_is c _ true HZ24.out _ M17.out.h13).mono ?_
        rintro e w24 ⟨rfl, hb24⟩
        have X24 := Lib.hid (X16.out.on hb24)
        clear hb24 c11 c12 c13
        have c14 := X24.out.at_ 14 _ (by omega) MM.out.y14
        have c15 := X24.out.at_ 15 _ (by omega) MM.out.y15
        go_wp2_with fail
        have M25 := Lib.hid (MM.out.later X24.out.below)
        rcases hz : (!nzS s) with _ | _
        · have HZ26 := Lib.hid hz
          clear hz
          refine (rzsig_is s _ false HZ26.out _ M25.out.h15).mono ?_
          rintro e w26 ⟨rfl, hb26⟩
          have X26 := Lib.hid (X24.out.on hb26)
          clear hb26 c14 c15
          have c14 := X26.out.at_ 14 _ (by omega) MM.out.y14
          have c15 := X26.out.at_ 15 _ (by omega) MM.out.y15
          go_wp2_with fail
          have M26 := Lib.hid (MM.out.later X26.out.below)
          rcases hr : rightSig s.1 s.2 with _ | _
          · have HR26 := Lib.hid hr
            clear hr
            refine (rightsig_is s _ false HR26.out _ M26.out.h15 HM.out.s1).mono ?_
            rintro e w27 ⟨rfl, hb27⟩
            have X27 := Lib.hid (X26.out.on hb27)
            clear hb27 c14 c15
            go_wp2_with fail
            go_meet
            case rel => exact ⟨by rw [← HP.out]; unfold okB okC okS; rw [HZ16.out, HZ24.out, HZ26.out, HR26.out]; rfl, X27.out⟩
          · have HR26 := Lib.hid hr
            clear hr
            refine (rightsig_is s _ true HR26.out _ M26.out.h15 HM.out.s1).mono ?_
            rintro e w27 ⟨rfl, hb27⟩
            have X27 := Lib.hid (X26.out.on hb27)
            clear hb27 c14 c15
            go_wp2_with fail
            go_meet
            case rel => exact ⟨by rw [← HP.out]; unfold okB okC okS; rw [HZ16.out, HZ24.out, HZ26.out, HR26.out]; rfl, X27.out⟩
        · have HZ28 := Lib.hid hz
          clear hz
          refine (rzsig_is s _ true HZ28.out _ M25.out.h15).mono ?_
          rintro e w28 ⟨rfl, hb28⟩
          have X28 := Lib.hid (X24.out.on hb28)
          clear hb28 c14 c15
          go_wp2_with fail
          go_meet
          case rel => exact ⟨by rw [← HP.out]; unfold okB okC okS; rw [HZ16.out, HZ24.out, HZ28.out]; rfl, X28.out⟩
  case rest =>
  obtain ⟨rfl, hX9⟩ := hcut
  have X9 := Lib.hid hX9
  clear hX9 X0
  have c16 := X9.out.at_ 16 _ (by omega) MM.out.y16
  have c17 := X9.out.at_ 17 _ (by omega) MM.out.y17
  have c18 := X9.out.at_ 18 _ (by omega) MM.out.y18
  have HXP := Lib.hid (show X = (P && okR r) by rw [← HX.out, HP.out])
  cases P with
  | false =>
    have HXF := Lib.hid (show X = false by rw [HXP.out, Bool.false_and])
    go_wp2_with fail
    go_ret
    exact ⟨by rw [HXF.out]; rfl, X9.out.below⟩
  | true =>
    have HXT := Lib.hid (show X = okR r by rw [HXP.out, Bool.true_and])
    clear HXP HP HX
    obtain ⟨rc, rq, rb⟩ := r
    by_cases h1 : rc = 0
    rotate_left
    · have e1 : (rc == 0) = false := by simpa using h1
      have HNZ := Lib.hid (show nzR (rc, rq, rb) = true by simp [nzR, h1])
      clear h1
      go_wp2_with fail
      refine (rightreq_is (rc, rq, rb) _ rfl wc).mono ?_
      rintro e w9 ⟨rfl, hb9⟩
      have XZ := Lib.hid (X9.out.on hb9)
      clear hb9 c16 c17 c18
      go_wp2_with fail
      go_ret
      exact ⟨by rw [HXT.out]; unfold okR; rw [HNZ.out]; rfl, XZ.out.below⟩
    subst h1
    by_cases h2 : rq = 0
    rotate_left
    · have e1 : (rq == 0) = false := by simpa using h2
      have HNZ := Lib.hid (show nzR (0, rq, rb) = true by simp [nzR, h2])
      clear h2
      go_wp2_with fail
      refine (rightreq_is (0, rq, rb) _ rfl wc).mono ?_
      rintro e w9 ⟨rfl, hb9⟩
      have XZ := Lib.hid (X9.out.on hb9)
      clear hb9 c16 c17 c18
      go_wp2_with fail
      go_ret
      exact ⟨by rw [HXT.out]; unfold okR; rw [HNZ.out]; rfl, XZ.out.below⟩
    subst h2
    by_cases h3 : rb.size = 0
    rotate_left
    · have e1 := emp_false h3
      have HNZ := Lib.hid (show nzR (0, 0, rb) = true by simp [nzR, h3])
      clear h3
      go_wp2_with fail
      refine (rightreq_is (0, 0, rb) _ rfl wc).mono ?_
      rintro e w9 ⟨rfl, hb9⟩
      have XZ := Lib.hid (X9.out.on hb9)
      clear hb9 c16 c17 c18
      go_wp2_with fail
      go_ret
      exact ⟨by rw [HXT.out]; unfold okR; rw [HNZ.out]; rfl, XZ.out.below⟩
    obtain rfl := nil_size rb h3
    clear h3
    go_wp2_with fail
    go_ret
    exact ⟨by rw [HXT.out]; rfl, X9.out.below⟩
theorem rightmsg_any (w : World) (f : Nat → Value) (k fr dst v : Int) (h : ByteArray) (x : BlockD) (c : CertD) (s : Int × List ByteArray) (r : Int × Int × ByteArray) (ix : Int) (tg : ByteArray) (s9 r10 s13 t15 : Value)
    (M : MsgAt w f k fr dst v h x c s r ix tg s9 r10 s13 t15) (hm : MemM x c s) :
    Calls Try.prog 9 #[.agg (row 21 f)] w fun e w' => e = .returned (.bool (rightMsg k fr dst v h x c s r ix tg)) ∧ Below w.heap.size w w' := by
  unfold rightMsg
  by_cases hh : headOk k fr dst v
  · rw [decide_eq_true hh, Bool.true_and]
    by_cases ht : tailOk ix h tg
    · rw [decide_eq_true ht, Bool.true_and]
      exact rightmsg_rest w f k fr dst v h x c s r ix tg s9 r10 s13 t15 M hm hh ht
    · rw [decide_eq_false ht, Bool.false_and]
      exact rightmsg_tail w f k fr dst v h x c s r ix tg s9 r10 s13 t15 M hh ht
  · rw [decide_eq_false hh, Bool.false_and]
    exact rightmsg_head w f k fr dst v h x c s r ix tg s9 r10 s13 t15 M hh
end Go.Proofs.Ytphlpgdbngbplaa
end
section
open Go Go.RowKit
namespace WW
open BB
/-- a part that is nothing where it is zero -/
def opt {α : Type} (nz : α → Bool) (x : α) : Option α := if nz x then some x else none
theorem opt_yes {α : Type} {nz : α → Bool} {x : α} (h : nz x = true) : opt nz x = some x := by unfold opt; rw [if_pos h]
theorem opt_no {α : Type} {nz : α → Bool} {x : α} (h : nz x = false) : opt nz x = none := by unfold opt; rw [if_neg (by rw [h]; simp)]
/-- a part's bytes, by whether it is zero -/
def mayB (z : Bool) (s : ByteArray) : ByteArray := if z then ⟨#[0]⟩ else ⟨#[1]⟩ ++ s
theorem mayB_opt {α : Type} (nz : α → Bool) (ea : α → ByteArray) (x : α) : mayB (!nz x) (ea x) = encPart ea (opt nz x) := by
  unfold mayB
  cases h : nz x with
  | true => rw [opt_yes h]; rfl
  | false => rw [opt_no h]; rfl
end WW
namespace Go.Proofs.Ytphlpgdbngbplaa
open WW BB
set_option maxRecDepth 100000 in
theorem maybe_any (z : Bool) (s : ByteArray) (hs : s.size ≤ 1000000000) (w : World) : Calls Try.prog 31 #[.bool z, .string s] w fun e w' => e = .returned (.string (mayB z s)) ∧ w = w' := by
  cases z with
  | true =>
    go_enter Try.func31, Try.ntmps31
    go_wp2_with fail
    go_ret
    exact ⟨rfl, rfl⟩
  | false =>
    have h1 : ¬ 9223372036854775807 < (⟨#[1]⟩ : ByteArray).size + s.size := by rw [show (⟨#[1]⟩ : ByteArray).size = 1 from rfl]; omega
    clear hs
    go_enter Try.func31, Try.ntmps31
    go_wp2_with fail
    go_ret
    exact ⟨rfl, rfl⟩
end Go.Proofs.Ytphlpgdbngbplaa
end
section
open Go Go.RowKit
namespace WW
open BB
/-- a message of a size that is written -/
structure SmallM (h tg : ByteArray) (x : BlockD) (c : CertD) (s : Int × List ByteArray) (r : Int × Int × ByteArray) : Prop where
  h1 : h.size ≤ 1000000
  t1 : tg.size ≤ 1000000
  bk : x.1.2.1.2.size ≤ 1000000
  bs : SmallS x.1.2.2
  bm : SmallR x.2
  ck : c.1.2.size ≤ 1000000
  cs : SmallS c.2
  sk : (flat s.2).length ≤ 500000
  sn : s.2.length ≤ 1000
  rk : r.2.2.size ≤ 1000000
  bz : (blockD x).size ≤ 1000000000
  cz : (certD c).size ≤ 1000000000
  sz : (sigD s).size ≤ 1000000000
/-- a message's bytes -/
def msgB (k fr dst v : Int) (h : ByteArray) (x : BlockD) (c : CertD) (s : Int × List ByteArray) (r : Int × Int × ByteArray) (ix : Int) (tg : ByteArray) : ByteArray :=
  num k ++ num fr ++ num dst ++ num v ++ txt h ++ encPart blockD (opt nzB x) ++ encPart certD (opt nzC c) ++ encPart sigD (opt nzS s) ++ encPart reqD (opt nzR r) ++ num ix ++ txt tg
theorem encPart_size {α : Type} (ea : α → ByteArray) (nz : α → Bool) (x : α) (n : Nat) (h : (ea x).size ≤ n) : (encPart ea (opt nz x)).size ≤ n + 1 := by
  unfold opt
  split
  · show (⟨#[1]⟩ ++ ea x : ByteArray).size ≤ _
    rw [ByteArray.size_append, show (⟨#[1]⟩ : ByteArray).size = 1 from rfl]; omega
  · show (⟨#[0]⟩ : ByteArray).size ≤ _
    rw [show (⟨#[0]⟩ : ByteArray).size = 1 from rfl]; omega
theorem reqD_size (r : Int × Int × ByteArray) : (reqD r).size = 12 + r.2.2.size := reqB_size _ _ _
end WW
namespace Go.Proofs.Ytphlpgdbngbplaa
open WW BB
theorem keepR1 {w W w1 : World} {g : Nat} {f : Nat → Value} {k fr dst v : Int} {h : ByteArray} {x : BlockD} {c : CertD} {s : Int × List ByteArray} {r : Int × Int × ByteArray} {ix : Int} {tg : ByteArray} {a9 a10 a13 a15 : Option Addr} {c9_ c10_ c13_ c15_ : Nat}
    (M : MsgAt w f k fr dst v h x c s r ix tg (.slice a9 x.1.2.2.length c9_) (.slice a10 x.2.length c10_) (.slice a13 c.2.length c13_) (.slice a15 s.2.length c15_)) (X : MBox w g f W ∧ g ≤ W.heap.size) (hb : Below W.heap.size W w1) :
    w1.cell? ⟨g, 0, none⟩ = some (.int .i64 k) ∧ w1.cell? ⟨g, 1, none⟩ = some (.int .i64 fr) ∧ w1.cell? ⟨g, 2, none⟩ = some (.int .i64 dst) ∧ w1.cell? ⟨g, 3, none⟩ = some (.int .i64 v) ∧ w1.cell? ⟨g, 4, none⟩ = some (.string h) ∧ (MBox w g f w1 ∧ g ≤ w1.heap.size) :=
  ⟨(X.1.on hb).at_ 0 _ (by omega) M.y0, (X.1.on hb).at_ 1 _ (by omega) M.y1, (X.1.on hb).at_ 2 _ (by omega) M.y2, (X.1.on hb).at_ 3 _ (by omega) M.y3, (X.1.on hb).at_ 4 _ (by omega) M.y4, X.1.on hb, Nat.le_trans X.2 hb.size⟩
theorem keepR2 {w W w1 : World} {g : Nat} {f : Nat → Value} {k fr dst v : Int} {h : ByteArray} {x : BlockD} {c : CertD} {s : Int × List ByteArray} {r : Int × Int × ByteArray} {ix : Int} {tg : ByteArray} {a9 a10 a13 a15 : Option Addr} {c9_ c10_ c13_ c15_ : Nat}
    (M : MsgAt w f k fr dst v h x c s r ix tg (.slice a9 x.1.2.2.length c9_) (.slice a10 x.2.length c10_) (.slice a13 c.2.length c13_) (.slice a15 s.2.length c15_)) (X : MBox w g f W ∧ g ≤ W.heap.size) (hb : Below W.heap.size W w1) :
    w1.cell? ⟨g, 5, none⟩ = some (.int .i64 x.1.1.1) ∧ w1.cell? ⟨g, 6, none⟩ = some (.int .i64 x.1.1.2) ∧ w1.cell? ⟨g, 7, none⟩ = some (.int .i64 x.1.2.1.1) ∧ w1.cell? ⟨g, 8, none⟩ = some (.string x.1.2.1.2) ∧ w1.cell? ⟨g, 9, none⟩ = some (.slice a9 x.1.2.2.length c9_) ∧ w1.cell? ⟨g, 10, none⟩ = some (.slice a10 x.2.length c10_) ∧ w1.cell? ⟨g, 11, none⟩ = some (.int .i64 c.1.1) ∧ w1.cell? ⟨g, 12, none⟩ = some (.string c.1.2) ∧ w1.cell? ⟨g, 13, none⟩ = some (.slice a13 c.2.length c13_) ∧ w1.cell? ⟨g, 14, none⟩ = some (.int .i64 s.1) ∧ w1.cell? ⟨g, 15, none⟩ = some (.slice a15 s.2.length c15_) ∧ (MBox w g f w1 ∧ g ≤ w1.heap.size) :=
  ⟨(X.1.on hb).at_ 5 _ (by omega) M.y5, (X.1.on hb).at_ 6 _ (by omega) M.y6, (X.1.on hb).at_ 7 _ (by omega) M.y7, (X.1.on hb).at_ 8 _ (by omega) M.y8, (X.1.on hb).at_ 9 _ (by omega) M.y9, (X.1.on hb).at_ 10 _ (by omega) M.y10, (X.1.on hb).at_ 11 _ (by omega) M.y11, (X.1.on hb).at_ 12 _ (by omega) M.y12, (X.1.on hb).at_ 13 _ (by omega) M.y13, (X.1.on hb).at_ 14 _ (by omega) M.y14, (X.1.on hb).at_ 15 _ (by omega) M.y15, X.1.on hb, Nat.le_trans X.2 hb.size⟩
theorem keepR3 {w W w1 : World} {g : Nat} {f : Nat → Value} {k fr dst v : Int} {h : ByteArray} {x : BlockD} {c : CertD} {s : Int × List ByteArray} {r : Int × Int × ByteArray} {ix : Int} {tg : ByteArray} {a9 a10 a13 a15 : Option Addr} {c9_ c10_ c13_ c15_ : Nat}
    (M : MsgAt w f k fr dst v h x c s r ix tg (.slice a9 x.1.2.2.length c9_) (.slice a10 x.2.length c10_) (.slice a13 c.2.length c13_) (.slice a15 s.2.length c15_)) (X : MBox w g f W ∧ g ≤ W.heap.size) (hb : Below W.heap.size W w1) :
    w1.cell? ⟨g, 16, none⟩ = some (.int .i64 r.1) ∧ w1.cell? ⟨g, 17, none⟩ = some (.int .i64 r.2.1) ∧ w1.cell? ⟨g, 18, none⟩ = some (.string r.2.2) ∧ (MBox w g f w1 ∧ g ≤ w1.heap.size) :=
  ⟨(X.1.on hb).at_ 16 _ (by omega) M.y16, (X.1.on hb).at_ 17 _ (by omega) M.y17, (X.1.on hb).at_ 18 _ (by omega) M.y18, X.1.on hb, Nat.le_trans X.2 hb.size⟩
theorem keepR4 {w W w1 : World} {g : Nat} {f : Nat → Value} {k fr dst v : Int} {h : ByteArray} {x : BlockD} {c : CertD} {s : Int × List ByteArray} {r : Int × Int × ByteArray} {ix : Int} {tg : ByteArray} {a9 a10 a13 a15 : Option Addr} {c9_ c10_ c13_ c15_ : Nat}
    (M : MsgAt w f k fr dst v h x c s r ix tg (.slice a9 x.1.2.2.length c9_) (.slice a10 x.2.length c10_) (.slice a13 c.2.length c13_) (.slice a15 s.2.length c15_)) (X : MBox w g f W ∧ g ≤ W.heap.size) (hb : Below W.heap.size W w1) :
    w1.cell? ⟨g, 19, none⟩ = some (.int .i64 ix) ∧ w1.cell? ⟨g, 20, none⟩ = some (.string tg) ∧ (MBox w g f w1 ∧ g ≤ w1.heap.size) :=
  ⟨(X.1.on hb).at_ 19 _ (by omega) M.y19, (X.1.on hb).at_ 20 _ (by omega) M.y20, X.1.on hb, Nat.le_trans X.2 hb.size⟩
theorem keepRA {w W w1 : World} {g : Nat} {f : Nat → Value} {k fr dst v : Int} {h : ByteArray} {x : BlockD} {c : CertD} {s : Int × List ByteArray} {r : Int × Int × ByteArray} {ix : Int} {tg : ByteArray} {a9 a10 a13 a15 : Option Addr} {c9_ c10_ c13_ c15_ : Nat}
    (M : MsgAt w f k fr dst v h x c s r ix tg (.slice a9 x.1.2.2.length c9_) (.slice a10 x.2.length c10_) (.slice a13 c.2.length c13_) (.slice a15 s.2.length c15_)) (X : MBox w g f W ∧ g ≤ W.heap.size) (hb : Below W.heap.size W w1) :
    w1.cell? ⟨g, 0, none⟩ = some (.int .i64 k) ∧ w1.cell? ⟨g, 1, none⟩ = some (.int .i64 fr) ∧ w1.cell? ⟨g, 2, none⟩ = some (.int .i64 dst) ∧ w1.cell? ⟨g, 3, none⟩ = some (.int .i64 v) ∧ w1.cell? ⟨g, 4, none⟩ = some (.string h) ∧ w1.cell? ⟨g, 5, none⟩ = some (.int .i64 x.1.1.1) ∧ w1.cell? ⟨g, 6, none⟩ = some (.int .i64 x.1.1.2) ∧ w1.cell? ⟨g, 7, none⟩ = some (.int .i64 x.1.2.1.1) ∧ w1.cell? ⟨g, 8, none⟩ = some (.string x.1.2.1.2) ∧ w1.cell? ⟨g, 9, none⟩ = some (.slice a9 x.1.2.2.length c9_) ∧ w1.cell? ⟨g, 10, none⟩ = some (.slice a10 x.2.length c10_) ∧ w1.cell? ⟨g, 11, none⟩ = some (.int .i64 c.1.1) ∧ w1.cell? ⟨g, 12, none⟩ = some (.string c.1.2) ∧ w1.cell? ⟨g, 13, none⟩ = some (.slice a13 c.2.length c13_) ∧ w1.cell? ⟨g, 14, none⟩ = some (.int .i64 s.1) ∧ w1.cell? ⟨g, 15, none⟩ = some (.slice a15 s.2.length c15_) ∧ w1.cell? ⟨g, 16, none⟩ = some (.int .i64 r.1) ∧ w1.cell? ⟨g, 17, none⟩ = some (.int .i64 r.2.1) ∧ w1.cell? ⟨g, 18, none⟩ = some (.string r.2.2) ∧ w1.cell? ⟨g, 19, none⟩ = some (.int .i64 ix) ∧ w1.cell? ⟨g, 20, none⟩ = some (.string tg) ∧ (MBox w g f w1 ∧ g ≤ w1.heap.size) :=
  ⟨(X.1.on hb).at_ 0 _ (by omega) M.y0, (X.1.on hb).at_ 1 _ (by omega) M.y1, (X.1.on hb).at_ 2 _ (by omega) M.y2, (X.1.on hb).at_ 3 _ (by omega) M.y3, (X.1.on hb).at_ 4 _ (by omega) M.y4, (X.1.on hb).at_ 5 _ (by omega) M.y5, (X.1.on hb).at_ 6 _ (by omega) M.y6, (X.1.on hb).at_ 7 _ (by omega) M.y7, (X.1.on hb).at_ 8 _ (by omega) M.y8, (X.1.on hb).at_ 9 _ (by omega) M.y9, (X.1.on hb).at_ 10 _ (by omega) M.y10, (X.1.on hb).at_ 11 _ (by omega) M.y11, (X.1.on hb).at_ 12 _ (by omega) M.y12, (X.1.on hb).at_ 13 _ (by omega) M.y13, (X.1.on hb).at_ 14 _ (by omega) M.y14, (X.1.on hb).at_ 15 _ (by omega) M.y15, (X.1.on hb).at_ 16 _ (by omega) M.y16, (X.1.on hb).at_ 17 _ (by omega) M.y17, (X.1.on hb).at_ 18 _ (by omega) M.y18, (X.1.on hb).at_ 19 _ (by omega) M.y19, (X.1.on hb).at_ 20 _ (by omega) M.y20, X.1.on hb, Nat.le_trans X.2 hb.size⟩
theorem rnumber_is (n : Int) (p : ByteArray) (h : num n = p) (w : World) : Calls Try.prog 29 #[.int .i64 n] w fun e w' => e = .returned (.string p) ∧ Below w.heap.size w w' := h ▸ rnumber_any n w
theorem rtext_is (s p : ByteArray) (h : txt s = p) (hs : s.size ≤ 1000000) (w : World) : Calls Try.prog 30 #[.string s] w fun e w' => e = .returned (.string p) ∧ Below w.heap.size w w' := h ▸ rtext_any s hs w
end Go.Proofs.Ytphlpgdbngbplaa
end
