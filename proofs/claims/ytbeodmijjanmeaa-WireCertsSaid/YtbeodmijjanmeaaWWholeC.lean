/-
  What reads a Cert, whole.
-/
import Derived.Test.YtbeodmijjanmeaaWCertCut
open Go Go.RowKit
namespace WW
open BB
def zC : Nat → Value := fun i => if i = 0 then .int .i64 0 else if i = 1 then .string ⟨#[]⟩ else .slice none 0 0
theorem zC_row : #[.int .i64 0, .string ⟨#[]⟩, .slice none 0 0] = row 3 zC := by rfl
/-- three of them beside each other -/
structure ThreeC (w0 : World) (a : Nat) (w : World) : Prop where
  below : Below w0.heap.size w0 w
  ra : Blk w a 3 zC
  rx : Blk w (a + 1) 3 zC
  rn : Blk w (a + 1 + 1) 3 zC
theorem threeC_mk (w : World) (a : Nat) (ha : w.heap.size = a) (t : TypeId) : ThreeC w a (((w.alloc (.cells #[.int .i64 0, .string ⟨#[]⟩, .slice none 0 0] t)).alloc (.cells #[.int .i64 0, .string ⟨#[]⟩, .slice none 0 0] t)).alloc (.cells #[.int .i64 0, .string ⟨#[]⟩, .slice none 0 0] t)) := by
  have b1 := (Below.refl w.heap.size w).alloc (Nat.le_refl _) (.cells #[.int .i64 0, .string ⟨#[]⟩, .slice none 0 0] t)
  have b2 := b1.alloc b1.size (.cells #[.int .i64 0, .string ⟨#[]⟩, .slice none 0 0] t)
  exact ⟨b2.alloc b2.size _, ((Blk.new' (by omega) zC_row).alloc _).alloc _, (Blk.new' (by simp; omega) zC_row).alloc _, Blk.new' (by simp; omega) zC_row⟩
theorem ThreeC.on {w0 w w' : World} {a : Nat} (h : ThreeC w0 a w) (hb : Below w.heap.size w w') : ThreeC w0 a w' :=
  ⟨h.below.trans (hb.mono h.below.size), h.ra.below hb h.ra.lt, h.rx.below hb h.rx.lt, h.rn.below hb h.rn.lt⟩
theorem setC {w : World} {a : Nat} {f : Nat → Value} (h : Blk w a 3 f) (u0 u1 u2 : Value) :
    ((((w.setCell ⟨a, 0, none⟩ u0).setCell ⟨a, 1, none⟩ u1).setCell ⟨a, 2, none⟩ u2).cell? ⟨a, 0, none⟩ = some u0 ∧ (((w.setCell ⟨a, 0, none⟩ u0).setCell ⟨a, 1, none⟩ u1).setCell ⟨a, 2, none⟩ u2).cell? ⟨a, 1, none⟩ = some u1 ∧ (((w.setCell ⟨a, 0, none⟩ u0).setCell ⟨a, 1, none⟩ u1).setCell ⟨a, 2, none⟩ u2).cell? ⟨a, 2, none⟩ = some u2) ∧ Upd a w (((w.setCell ⟨a, 0, none⟩ u0).setCell ⟨a, 1, none⟩ u1).setCell ⟨a, 2, none⟩ u2) := by
  have k := (((h.set 0 u0).set 1 u1).set 2 u2)
  exact ⟨⟨k.get 0 (by omega), k.get 1 (by omega), k.get 2 (by omega)⟩, (((Upd.refl a w).trans (Upd.set _ _ _ _)).trans (Upd.set _ _ _ _)).trans (Upd.set _ _ _ _)⟩
/-- all of it is read -/
def certRd (b : ByteArray) : Option CertD :=
  match certI b with
  | none => none
  | some (r, d) => if r.size = 0 then some d else none
end WW
namespace Go.Proofs.Ytbeodmijjanmeaa
open WW BB
/-- what is answered -/
def CertAns (w : World) (x : Option CertD) (e : Ending) (w' : World) : Prop :=
  match x with
  | none => e = .returned (.tuple #[.agg #[.int .i64 0, .string ⟨#[]⟩, .slice none 0 0], .int .i64 2])
  | some d => ∃ f' lo hi, e = .returned (.tuple #[.agg #[f' 0, f' 1, f' 2], .int .i64 0]) ∧ w.heap.size ≤ lo ∧ hi ≤ w'.heap.size ∧ certR 0 d w' lo hi zC f'
set_option maxRecDepth 100000 in
set_option maxHeartbeats 4000000 in
theorem whole_cert (b : ByteArray) (hb : b.size ≤ 1000000) (w : World) :
    Calls Try.prog 44 #[.string b, .func (.func 45) #[] #[]] w fun e w' => CertAns w (certRd b) e w' ∧ Below w.heap.size w w' := by
  obtain ⟨X, hX⟩ : ∃ X, certRd b = X := ⟨_, rfl⟩
  rw [hX]
  have HX := Lib.hid hX
  have HB := Lib.hid hb
  clear hX hb
  go_enter Try.func44, Try.ntmps44
  go_wp2_with fail
  obtain ⟨a, ha⟩ : ∃ a, w.heap.size = a := ⟨_, rfl⟩
  have K0 := Lib.hid (threeC_mk w a ha 28)
  have HA := Lib.hid ha
  rw [ha]
  clear ha
  generalize ((w.alloc (.cells #[.int .i64 0, .string ⟨#[]⟩, .slice none 0 0] 28)).alloc (.cells #[.int .i64 0, .string ⟨#[]⟩, .slice none 0 0] 28)).alloc (.cells #[.int .i64 0, .string ⟨#[]⟩, .slice none 0 0] 28) = w3 at *
  refine (mk_cert (a + 1) 0 3 w3 (by omega) K0.out.rx.lt).mono ?_
  rintro e w4 ⟨kv, ev, rfl, hb4, hv⟩
  have K4 := Lib.hid (K0.out.on hb4)
  have HV := Lib.hid hv
  clear hb4 hv K0
  go_wp2_with (with_reducible refine hold_callv rfl rfl ?_)
  refine wpl_callv (v := .func (.func kv) #[] ev) (args := #[.string b]) _ rfl rfl rfl (by simp [Act.eval]) (HV.out zC b w4 HB.out (Keep.refl _ _) K4.out.rx (by first | exact ⟨rfl, rfl⟩ | rfl)) Ans.ret ?_
  intro u w5 hu
  obtain ⟨ok, r, hr, he⟩ := hu
  injection hr with hr
  subst hr
  unfold EffR at he
  rcases hsp : certI b with _ | ⟨r', d⟩
  · rw [hsp] at he
    obtain ⟨rfl, f', k5, d5⟩ := he
    have HS := Lib.hid hsp
    have B5 := Lib.hid (K4.out.below.trans (k5.below (by rw [HA.out]; omega) K4.out.below.size))
    have kA := K4.out.ra.keep k5 (by omega)
    have kN := K4.out.rn.keep k5 (by omega)
    have a0 : w5.cell? ⟨a, 0, none⟩ = some (.int .i64 0) := kA.get 0 (by omega)
    have g0 := kA.frz 0
    have a1 : w5.cell? ⟨a, 1, none⟩ = some (.string ⟨#[]⟩) := kA.get 1 (by omega)
    have g1 := kA.frz 1
    have a2 : w5.cell? ⟨a, 2, none⟩ = some (.slice none 0 0) := kA.get 2 (by omega)
    have g2 := kA.frz 2
    have n0 : w5.cell? ⟨a + 1 + 1, 0, none⟩ = some (.int .i64 0) := kN.get 0 (by omega)
    have n1 : w5.cell? ⟨a + 1 + 1, 1, none⟩ = some (.string ⟨#[]⟩) := kN.get 1 (by omega)
    have n2 : w5.cell? ⟨a + 1 + 1, 2, none⟩ = some (.slice none 0 0) := kN.get 2 (by omega)
    have AL := Lib.hid (show w.heap.size ≤ a by rw [HA.out]; exact Nat.le_refl _)
    have KA := Lib.hid kA
    clear k5 d5 hsp kA kN
    go_wp2_with fail
    obtain ⟨⟨q0, q1, q2⟩, qu⟩ := setC KA.out (.int .i64 0) (.string ⟨#[]⟩) (.slice none 0 0)
    refine bodyPost_ret (v := .tuple #[.agg #[.int .i64 0, .string ⟨#[]⟩, .slice none 0 0], .int .i64 2]) (by simp [results, Try.results44, go_sem, q0, q1, q2]) rfl ⟨?_, ?_⟩
    · rw [← HX.out, certRd, HS.out]; rfl
    · exact B5.out.trans (qu.below AL.out)
  · rw [hsp] at he
    obtain ⟨rfl, rfl, f', k5, d5, hR⟩ := he
    have HR := Lib.hid hR
    have HS := Lib.hid hsp
    have B5 := Lib.hid (K4.out.below.trans (k5.below (by rw [HA.out]; omega) K4.out.below.size))
    have kA := K4.out.ra.keep k5 (by omega)
    have kN := K4.out.rn.keep k5 (by omega)
    have a0 : w5.cell? ⟨a, 0, none⟩ = some (.int .i64 0) := kA.get 0 (by omega)
    have g0 := kA.frz 0
    have a1 : w5.cell? ⟨a, 1, none⟩ = some (.string ⟨#[]⟩) := kA.get 1 (by omega)
    have g1 := kA.frz 1
    have a2 : w5.cell? ⟨a, 2, none⟩ = some (.slice none 0 0) := kA.get 2 (by omega)
    have g2 := kA.frz 2
    have AL := Lib.hid (show w.heap.size ≤ a by rw [HA.out]; exact Nat.le_refl _)
    have A4 := Lib.hid (show a < w4.heap.size from K4.out.ra.lt)
    have Z4 := Lib.hid K4.out.below.size
    by_cases hr : r.size = 0
    · obtain ⟨sv, hf, hsv⟩ := certR_cells hR
      obtain ⟨sa, scap, rfl, _⟩ := hsv
      have y0 : f' 0 = .int .i64 d.1.1 := by rw [hf]; simp [put]
      have y1 : f' 1 = .string d.1.2 := by rw [hf]; simp [put]
      have y2 : f' 2 = .slice sa d.2.length scap := by rw [hf]; simp [put]
      have x0 : w5.cell? ⟨a + 1, 0, none⟩ = some (.int .i64 d.1.1) := by rw [d5.get 0 (by omega), y0]
      have x1 : w5.cell? ⟨a + 1, 1, none⟩ = some (.string d.1.2) := by rw [d5.get 1 (by omega), y1]
      have x2 : w5.cell? ⟨a + 1, 2, none⟩ = some (.slice sa d.2.length scap) := by rw [d5.get 2 (by omega), y2]
      obtain rfl := nil_size r hr
      have KA := Lib.hid kA
      have HY := Lib.hid (show f' 0 = .int .i64 d.1.1 ∧ f' 1 = .string d.1.2 ∧ f' 2 = .slice sa d.2.length scap from ⟨y0, y1, y2⟩)
      clear k5 hsp kA kN hr d5 hR hf y0 y1 y2
      go_wp2_with fail
      obtain ⟨⟨q0, q1, q2⟩, qu⟩ := setC KA.out (.int .i64 d.1.1) (.string d.1.2) (.slice sa d.2.length scap)
      refine bodyPost_ret (v := .tuple #[.agg #[.int .i64 d.1.1, .string d.1.2, .slice sa d.2.length scap], .int .i64 0]) (by simp [results, Try.results44, go_sem, q0, q1, q2]) rfl ⟨?_, ?_⟩
      · rw [← HX.out, certRd, HS.out]
        obtain ⟨y0, y1, y2⟩ := HY.out
        exact ⟨f', w4.heap.size, w5.heap.size, by rw [y0, y1, y2], Z4.out, by rw [qu.size]; exact Nat.le_refl _, (sound_cert 0).keep HR.out fun c h1 h2 => qu.block c (by have := A4.out; omega)⟩
      · exact B5.out.trans (qu.below AL.out)
    · 
      have n0 : w5.cell? ⟨a + 1 + 1, 0, none⟩ = some (.int .i64 0) := kN.get 0 (by omega)
      have n1 : w5.cell? ⟨a + 1 + 1, 1, none⟩ = some (.string ⟨#[]⟩) := kN.get 1 (by omega)
      have n2 : w5.cell? ⟨a + 1 + 1, 2, none⟩ = some (.slice none 0 0) := kN.get 2 (by omega)
      have e0 : r.toList.isEmpty = false := by
        rw [ByteArray.toList_eq]
        rcases hl : r.data.toList with _ | ⟨c, l⟩
        · exact absurd (show r.size = 0 by show r.data.size = 0; rw [← Array.length_toList, hl]; rfl) hr
        · rfl
      have e1 : (!r.toList.isEmpty) = true := by rw [e0]; rfl
      have KA := Lib.hid kA
      have HRS := Lib.hid hr
      clear k5 hsp kA kN hr d5 hR
      go_wp2_with fail
      obtain ⟨⟨q0, q1, q2⟩, qu⟩ := setC KA.out (.int .i64 0) (.string ⟨#[]⟩) (.slice none 0 0)
      refine bodyPost_ret (v := .tuple #[.agg #[.int .i64 0, .string ⟨#[]⟩, .slice none 0 0], .int .i64 2]) (by simp [results, Try.results44, go_sem, q0, q1, q2]) rfl ⟨?_, ?_⟩
      · rw [← HX.out, certRd, HS.out]
        dsimp only
        rw [if_neg HRS.out]; rfl
      · exact B5.out.trans (qu.below AL.out)
set_option maxRecDepth 100000 in
set_option maxHeartbeats 4000000 in
theorem read_cert (b : ByteArray) (hb : b.size ≤ 1000000) (w : World) :
    Calls Try.prog 24 #[.string b] w fun e w' => CertAns w (certRd b) e w' ∧ Below w.heap.size w w' := by
  obtain ⟨X, hX⟩ : ∃ X, certRd b = X := ⟨_, rfl⟩
  have HW := Lib.hid (fun wx => hX ▸ whole_cert b hb wx)
  rw [hX]
  clear hb hX
  go_enter Try.func24, Try.ntmps24
  go_wp2_with fail
  obtain ⟨a, ha⟩ : ∃ a, w.heap.size = a := ⟨_, rfl⟩
  have k0 : Blk (w.alloc (.cells #[.int .i64 0, .string ⟨#[]⟩, .slice none 0 0] 28)) a 3 zC := Blk.new' ha.symm zC_row
  have b0 := (Below.refl w.heap.size w).alloc (Nat.le_refl _) (.cells #[.int .i64 0, .string ⟨#[]⟩, .slice none 0 0] 28)
  rw [ha]
  have AL := Lib.hid (show w.heap.size ≤ a by omega)
  clear ha
  generalize w.alloc (.cells #[.int .i64 0, .string ⟨#[]⟩, .slice none 0 0] 28) = w1 at *
  have Z1 := Lib.hid (And.intro b0.size k0.lt)
  refine (HW.out w1).mono ?_
  rintro e w2 ⟨he, hb2⟩
  have KA := Lib.hid (k0.below hb2 k0.lt)
  have B2 := Lib.hid (b0.trans (hb2.mono b0.size))
  clear k0 b0 hb2 HW
  have a0 : w2.cell? ⟨a, 0, none⟩ = some (.int .i64 0) := KA.out.get 0 (by omega)
  have g0 := KA.out.frz 0
  have a1 : w2.cell? ⟨a, 1, none⟩ = some (.string ⟨#[]⟩) := KA.out.get 1 (by omega)
  have g1 := KA.out.frz 1
  have a2 : w2.cell? ⟨a, 2, none⟩ = some (.slice none 0 0) := KA.out.get 2 (by omega)
  have g2 := KA.out.frz 2
  rcases X with _ | d
  · obtain rfl : e = .returned (.tuple #[.agg #[.int .i64 0, .string ⟨#[]⟩, .slice none 0 0], .int .i64 2]) := he
    go_wp2_with fail
    obtain ⟨⟨q0, q1, q2⟩, qu⟩ := setC KA.out (.int .i64 0) (.string ⟨#[]⟩) (.slice none 0 0)
    refine bodyPost_ret (v := .tuple #[.agg #[.int .i64 0, .string ⟨#[]⟩, .slice none 0 0], .int .i64 2]) (by simp [results, Try.results24, go_sem, q0, q1, q2]) rfl ⟨rfl, ?_⟩
    exact B2.out.trans (qu.below AL.out)
  · obtain ⟨f', lo, hi, rfl, hlo, hhi, hR⟩ := he
    have HR := Lib.hid hR
    have HLO := Lib.hid (And.intro hlo hhi)
    obtain ⟨sv, hf, hsv⟩ := certR_cells hR
    obtain ⟨sa, scap, rfl, _⟩ := hsv
    have y0 : f' 0 = .int .i64 d.1.1 := by rw [hf]; simp [put]
    have y1 : f' 1 = .string d.1.2 := by rw [hf]; simp [put]
    have y2 : f' 2 = .slice sa d.2.length scap := by rw [hf]; simp [put]
    have HY := Lib.hid (show f' 0 = .int .i64 d.1.1 ∧ f' 1 = .string d.1.2 ∧ f' 2 = .slice sa d.2.length scap from ⟨y0, y1, y2⟩)
    rw [y0, y1, y2]
    clear hR hf hlo hhi y0 y1 y2
    go_wp2_with fail
    obtain ⟨⟨q0, q1, q2⟩, qu⟩ := setC KA.out (.int .i64 d.1.1) (.string d.1.2) (.slice sa d.2.length scap)
    refine bodyPost_ret (v := .tuple #[.agg #[.int .i64 d.1.1, .string d.1.2, .slice sa d.2.length scap], .int .i64 0]) (by simp [results, Try.results24, go_sem, q0, q1, q2]) rfl ⟨?_, ?_⟩
    · obtain ⟨y0, y1, y2⟩ := HY.out
      exact ⟨f', lo, hi, by rw [y0, y1, y2], Nat.le_trans Z1.out.1 HLO.out.1, by rw [qu.size]; exact HLO.out.2, (sound_cert 0).keep HR.out fun c h1 h2 => qu.block c (by have := Z1.out.2; have := HLO.out.1; omega)⟩
    · exact B2.out.trans (qu.below AL.out)
end Go.Proofs.Ytbeodmijjanmeaa
