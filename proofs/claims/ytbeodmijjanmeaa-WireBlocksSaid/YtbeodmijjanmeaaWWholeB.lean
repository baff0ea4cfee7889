/-
  What reads a Block, whole.
-/
import Derived.Test.YtbeodmijjanmeaaWBlockCut
open Go Go.RowKit
namespace WW
open BB
def zB : Nat → Value := fun i => if i = 0 then .int .i64 0 else if i = 1 then .int .i64 0 else if i = 2 then .int .i64 0 else if i = 3 then .string ⟨#[]⟩ else if i = 4 then .slice none 0 0 else .slice none 0 0
theorem zB_row : #[.int .i64 0, .int .i64 0, .int .i64 0, .string ⟨#[]⟩, .slice none 0 0, .slice none 0 0] = row 6 zB := by rfl
/-- three of them beside each other -/
structure ThreeB (w0 : World) (a : Nat) (w : World) : Prop where
  below : Below w0.heap.size w0 w
  ra : Blk w a 6 zB
  rx : Blk w (a + 1) 6 zB
  rn : Blk w (a + 1 + 1) 6 zB
theorem threeB_mk (w : World) (a : Nat) (ha : w.heap.size = a) (t : TypeId) : ThreeB w a (((w.alloc (.cells #[.int .i64 0, .int .i64 0, .int .i64 0, .string ⟨#[]⟩, .slice none 0 0, .slice none 0 0] t)).alloc (.cells #[.int .i64 0, .int .i64 0, .int .i64 0, .string ⟨#[]⟩, .slice none 0 0, .slice none 0 0] t)).alloc (.cells #[.int .i64 0, .int .i64 0, .int .i64 0, .string ⟨#[]⟩, .slice none 0 0, .slice none 0 0] t)) := by
  have b1 := (Below.refl w.heap.size w).alloc (Nat.le_refl _) (.cells #[.int .i64 0, .int .i64 0, .int .i64 0, .string ⟨#[]⟩, .slice none 0 0, .slice none 0 0] t)
  have b2 := b1.alloc b1.size (.cells #[.int .i64 0, .int .i64 0, .int .i64 0, .string ⟨#[]⟩, .slice none 0 0, .slice none 0 0] t)
  exact ⟨b2.alloc b2.size _, ((Blk.new' (by omega) zB_row).alloc _).alloc _, (Blk.new' (by simp; omega) zB_row).alloc _, Blk.new' (by simp; omega) zB_row⟩
theorem ThreeB.on {w0 w w' : World} {a : Nat} (h : ThreeB w0 a w) (hb : Below w.heap.size w w') : ThreeB w0 a w' :=
  ⟨h.below.trans (hb.mono h.below.size), h.ra.below hb h.ra.lt, h.rx.below hb h.rx.lt, h.rn.below hb h.rn.lt⟩
theorem setB {w : World} {a : Nat} {f : Nat → Value} (h : Blk w a 6 f) (u0 u1 u2 u3 u4 u5 : Value) :
    (((((((w.setCell ⟨a, 0, none⟩ u0).setCell ⟨a, 1, none⟩ u1).setCell ⟨a, 2, none⟩ u2).setCell ⟨a, 3, none⟩ u3).setCell ⟨a, 4, none⟩ u4).setCell ⟨a, 5, none⟩ u5).cell? ⟨a, 0, none⟩ = some u0 ∧ ((((((w.setCell ⟨a, 0, none⟩ u0).setCell ⟨a, 1, none⟩ u1).setCell ⟨a, 2, none⟩ u2).setCell ⟨a, 3, none⟩ u3).setCell ⟨a, 4, none⟩ u4).setCell ⟨a, 5, none⟩ u5).cell? ⟨a, 1, none⟩ = some u1 ∧ ((((((w.setCell ⟨a, 0, none⟩ u0).setCell ⟨a, 1, none⟩ u1).setCell ⟨a, 2, none⟩ u2).setCell ⟨a, 3, none⟩ u3).setCell ⟨a, 4, none⟩ u4).setCell ⟨a, 5, none⟩ u5).cell? ⟨a, 2, none⟩ = some u2 ∧ ((((((w.setCell ⟨a, 0, none⟩ u0).setCell ⟨a, 1, none⟩ u1).setCell ⟨a, 2, none⟩ u2).setCell ⟨a, 3, none⟩ u3).setCell ⟨a, 4, none⟩ u4).setCell ⟨a, 5, none⟩ u5).cell? ⟨a, 3, none⟩ = some u3 ∧ ((((((w.setCell ⟨a, 0, none⟩ u0).setCell ⟨a, 1, none⟩ u1).setCell ⟨a, 2, none⟩ u2).setCell ⟨a, 3, none⟩ u3).setCell ⟨a, 4, none⟩ u4).setCell ⟨a, 5, none⟩ u5).cell? ⟨a, 4, none⟩ = some u4 ∧ ((((((w.setCell ⟨a, 0, none⟩ u0).setCell ⟨a, 1, none⟩ u1).setCell ⟨a, 2, none⟩ u2).setCell ⟨a, 3, none⟩ u3).setCell ⟨a, 4, none⟩ u4).setCell ⟨a, 5, none⟩ u5).cell? ⟨a, 5, none⟩ = some u5) ∧ Upd a w ((((((w.setCell ⟨a, 0, none⟩ u0).setCell ⟨a, 1, none⟩ u1).setCell ⟨a, 2, none⟩ u2).setCell ⟨a, 3, none⟩ u3).setCell ⟨a, 4, none⟩ u4).setCell ⟨a, 5, none⟩ u5) := by
  have k := ((((((h.set 0 u0).set 1 u1).set 2 u2).set 3 u3).set 4 u4).set 5 u5)
  exact ⟨⟨k.get 0 (by omega), k.get 1 (by omega), k.get 2 (by omega), k.get 3 (by omega), k.get 4 (by omega), k.get 5 (by omega)⟩, ((((((Upd.refl a w).trans (Upd.set _ _ _ _)).trans (Upd.set _ _ _ _)).trans (Upd.set _ _ _ _)).trans (Upd.set _ _ _ _)).trans (Upd.set _ _ _ _)).trans (Upd.set _ _ _ _)⟩
/-- all of it is read -/
def blockRd (b : ByteArray) : Option BlockD :=
  match blockI b with
  | none => none
  | some (r, d) => if r.size = 0 then some d else none
end WW
namespace Go.Proofs.Ytbeodmijjanmeaa
open WW BB
/-- what is answered -/
def BlockAns (w : World) (x : Option BlockD) (e : Ending) (w' : World) : Prop :=
  match x with
  | none => e = .returned (.tuple #[.agg #[.int .i64 0, .int .i64 0, .int .i64 0, .string ⟨#[]⟩, .slice none 0 0, .slice none 0 0], .int .i64 2])
  | some d => ∃ f' lo hi, e = .returned (.tuple #[.agg #[f' 0, f' 1, f' 2, f' 3, f' 4, f' 5], .int .i64 0]) ∧ w.heap.size ≤ lo ∧ hi ≤ w'.heap.size ∧ blockR 0 d w' lo hi zB f'
set_option maxRecDepth 100000 in
set_option maxHeartbeats 4000000 in
theorem whole_block (b : ByteArray) (hb : b.size ≤ 1000000) (w : World) :
    Calls Try.prog 48 #[.string b, .func (.func 49) #[] #[]] w fun e w' => BlockAns w (blockRd b) e w' ∧ Below w.heap.size w w' := by
  obtain ⟨X, hX⟩ : ∃ X, blockRd b = X := ⟨_, rfl⟩
  rw [hX]
  have HX := Lib.hid hX
  have HB := Lib.hid hb
  clear hX hb
  go_enter Try.func48, Try.ntmps48
  go_wp2_with fail
  obtain ⟨a, ha⟩ : ∃ a, w.heap.size = a := ⟨_, rfl⟩
  have K0 := Lib.hid (threeB_mk w a ha 31)
  have HA := Lib.hid ha
  rw [ha]
  clear ha
  generalize ((w.alloc (.cells #[.int .i64 0, .int .i64 0, .int .i64 0, .string ⟨#[]⟩, .slice none 0 0, .slice none 0 0] 31)).alloc (.cells #[.int .i64 0, .int .i64 0, .int .i64 0, .string ⟨#[]⟩, .slice none 0 0, .slice none 0 0] 31)).alloc (.cells #[.int .i64 0, .int .i64 0, .int .i64 0, .string ⟨#[]⟩, .slice none 0 0, .slice none 0 0] 31) = w3 at *
  refine (mk_block (a + 1) 0 6 w3 (by omega) K0.out.rx.lt).mono ?_
  rintro e w4 ⟨kv, ev, rfl, hb4, hv⟩
  have K4 := Lib.hid (K0.out.on hb4)
  have HV := Lib.hid hv
  clear hb4 hv K0
  go_wp2_with (with_reducible refine hold_callv rfl rfl ?_)
  refine wpl_callv (v := .func (.func kv) #[] ev) (args := #[.string b]) _ rfl rfl rfl (by simp [Act.eval]) (HV.out zB b w4 HB.out (Keep.refl _ _) K4.out.rx (by first | exact ⟨rfl, rfl⟩ | rfl)) Ans.ret ?_
  intro u w5 hu
  obtain ⟨ok, r, hr, he⟩ := hu
  injection hr with hr
  subst hr
  unfold EffR at he
  rcases hsp : blockI b with _ | ⟨r', d⟩
  · rw [hsp] at he
    obtain ⟨rfl, f', k5, d5⟩ := he
    have HS := Lib.hid hsp
    have B5 := Lib.hid (K4.out.below.trans (k5.below (by rw [HA.out]; omega) K4.out.below.size))
    have kA := K4.out.ra.keep k5 (by omega)
    have kN := K4.out.rn.keep k5 (by omega)
    have a0 : w5.cell? ⟨a, 0, none⟩ = some (.int .i64 0) := kA.get 0 (by omega)
    have g0 := kA.frz 0
    have a1 : w5.cell? ⟨a, 1, none⟩ = some (.int .i64 0) := kA.get 1 (by omega)
    have g1 := kA.frz 1
    have a2 : w5.cell? ⟨a, 2, none⟩ = some (.int .i64 0) := kA.get 2 (by omega)
    have g2 := kA.frz 2
    have a3 : w5.cell? ⟨a, 3, none⟩ = some (.string ⟨#[]⟩) := kA.get 3 (by omega)
    have g3 := kA.frz 3
    have a4 : w5.cell? ⟨a, 4, none⟩ = some (.slice none 0 0) := kA.get 4 (by omega)
    have g4 := kA.frz 4
    have a5 : w5.cell? ⟨a, 5, none⟩ = some (.slice none 0 0) := kA.get 5 (by omega)
    have g5 := kA.frz 5
    have n0 : w5.cell? ⟨a + 1 + 1, 0, none⟩ = some (.int .i64 0) := kN.get 0 (by omega)
    have n1 : w5.cell? ⟨a + 1 + 1, 1, none⟩ = some (.int .i64 0) := kN.get 1 (by omega)
    have n2 : w5.cell? ⟨a + 1 + 1, 2, none⟩ = some (.int .i64 0) := kN.get 2 (by omega)
    have n3 : w5.cell? ⟨a + 1 + 1, 3, none⟩ = some (.string ⟨#[]⟩) := kN.get 3 (by omega)
    have n4 : w5.cell? ⟨a + 1 + 1, 4, none⟩ = some (.slice none 0 0) := kN.get 4 (by omega)
    have n5 : w5.cell? ⟨a + 1 + 1, 5, none⟩ = some (.slice none 0 0) := kN.get 5 (by omega)
    have AL := Lib.hid (show w.heap.size ≤ a by rw [HA.out]; exact Nat.le_refl _)
    have KA := Lib.hid kA
    clear k5 d5 hsp kA kN
    go_wp2_with fail
    obtain ⟨⟨q0, q1, q2, q3, q4, q5⟩, qu⟩ := setB KA.out (.int .i64 0) (.int .i64 0) (.int .i64 0) (.string ⟨#[]⟩) (.slice none 0 0) (.slice none 0 0)
    refine bodyPost_ret (v := .tuple #[.agg #[.int .i64 0, .int .i64 0, .int .i64 0, .string ⟨#[]⟩, .slice none 0 0, .slice none 0 0], .int .i64 2]) (by simp [results, Try.results48, go_sem, q0, q1, q2, q3, q4, q5]) rfl ⟨?_, ?_⟩
    · rw [← HX.out, blockRd, HS.out]; rfl
    · exact B5.out.trans (qu.below AL.out)
  · rw [hsp] at he
    obtain ⟨rfl, rfl, f', k5, d5, hR⟩ := he
    have HR := Lib.hid hR
    have HS := Lib.hid hsp
    have B5 := Lib.hid (K4.out.below.trans (k5.below (by rw [HA.out]; omega) K4.out.below.size))
    have kA := K4.out.ra.keep k5 (by omega)
    have kN := K4.out.rn.keep k5 (by omega)
    have a0 : w5.cell? ⟨a, 0, none⟩ = some (.int .i64 0) := kA.get 0 (by omega)
    have g0 := kA.frz 0
    have a1 : w5.cell? ⟨a, 1, none⟩ = some (.int .i64 0) := kA.get 1 (by omega)
    have g1 := kA.frz 1
    have a2 : w5.cell? ⟨a, 2, none⟩ = some (.int .i64 0) := kA.get 2 (by omega)
    have g2 := kA.frz 2
    have a3 : w5.cell? ⟨a, 3, none⟩ = some (.string ⟨#[]⟩) := kA.get 3 (by omega)
    have g3 := kA.frz 3
    have a4 : w5.cell? ⟨a, 4, none⟩ = some (.slice none 0 0) := kA.get 4 (by omega)
    have g4 := kA.frz 4
    have a5 : w5.cell? ⟨a, 5, none⟩ = some (.slice none 0 0) := kA.get 5 (by omega)
    have g5 := kA.frz 5
    have AL := Lib.hid (show w.heap.size ≤ a by rw [HA.out]; exact Nat.le_refl _)
    have A4 := Lib.hid (show a < w4.heap.size from K4.out.ra.lt)
    have Z4 := Lib.hid K4.out.below.size
    by_cases hr : r.size = 0
    · obtain ⟨sv, rv, hf, hsv, hrv⟩ := blockR_cells hR
      obtain ⟨sa, scap, rfl, _⟩ := hsv; obtain ⟨ra, rcap, rfl, _⟩ := hrv
      have y0 : f' 0 = .int .i64 d.1.1.1 := by rw [hf]; simp [put]
      have y1 : f' 1 = .int .i64 d.1.1.2 := by rw [hf]; simp [put]
      have y2 : f' 2 = .int .i64 d.1.2.1.1 := by rw [hf]; simp [put]
      have y3 : f' 3 = .string d.1.2.1.2 := by rw [hf]; simp [put]
      have y4 : f' 4 = .slice sa d.1.2.2.length scap := by rw [hf]; simp [put]
      have y5 : f' 5 = .slice ra d.2.length rcap := by rw [hf]; simp [put]
      have x0 : w5.cell? ⟨a + 1, 0, none⟩ = some (.int .i64 d.1.1.1) := by rw [d5.get 0 (by omega), y0]
      have x1 : w5.cell? ⟨a + 1, 1, none⟩ = some (.int .i64 d.1.1.2) := by rw [d5.get 1 (by omega), y1]
      have x2 : w5.cell? ⟨a + 1, 2, none⟩ = some (.int .i64 d.1.2.1.1) := by rw [d5.get 2 (by omega), y2]
      have x3 : w5.cell? ⟨a + 1, 3, none⟩ = some (.string d.1.2.1.2) := by rw [d5.get 3 (by omega), y3]
      have x4 : w5.cell? ⟨a + 1, 4, none⟩ = some (.slice sa d.1.2.2.length scap) := by rw [d5.get 4 (by omega), y4]
      have x5 : w5.cell? ⟨a + 1, 5, none⟩ = some (.slice ra d.2.length rcap) := by rw [d5.get 5 (by omega), y5]
      obtain rfl := nil_size r hr
      have KA := Lib.hid kA
      have HY := Lib.hid (show f' 0 = .int .i64 d.1.1.1 ∧ f' 1 = .int .i64 d.1.1.2 ∧ f' 2 = .int .i64 d.1.2.1.1 ∧ f' 3 = .string d.1.2.1.2 ∧ f' 4 = .slice sa d.1.2.2.length scap ∧ f' 5 = .slice ra d.2.length rcap from ⟨y0, y1, y2, y3, y4, y5⟩)
      clear k5 hsp kA kN hr d5 hR hf y0 y1 y2 y3 y4 y5
      go_wp2_with fail
      obtain ⟨⟨q0, q1, q2, q3, q4, q5⟩, qu⟩ := setB KA.out (.int .i64 d.1.1.1) (.int .i64 d.1.1.2) (.int .i64 d.1.2.1.1) (.string d.1.2.1.2) (.slice sa d.1.2.2.length scap) (.slice ra d.2.length rcap)
      refine bodyPost_ret (v := .tuple #[.agg #[.int .i64 d.1.1.1, .int .i64 d.1.1.2, .int .i64 d.1.2.1.1, .string d.1.2.1.2, .slice sa d.1.2.2.length scap, .slice ra d.2.length rcap], .int .i64 0]) (by simp [results, Try.results48, go_sem, q0, q1, q2, q3, q4, q5]) rfl ⟨?_, ?_⟩
      · rw [← HX.out, blockRd, HS.out]
        obtain ⟨y0, y1, y2, y3, y4, y5⟩ := HY.out
        exact ⟨f', w4.heap.size, w5.heap.size, by rw [y0, y1, y2, y3, y4, y5], Z4.out, by rw [qu.size]; exact Nat.le_refl _, (sound_block 0).keep HR.out fun c h1 h2 => qu.block c (by have := A4.out; omega)⟩
      · exact B5.out.trans (qu.below AL.out)
    · 
      have n0 : w5.cell? ⟨a + 1 + 1, 0, none⟩ = some (.int .i64 0) := kN.get 0 (by omega)
      have n1 : w5.cell? ⟨a + 1 + 1, 1, none⟩ = some (.int .i64 0) := kN.get 1 (by omega)
      have n2 : w5.cell? ⟨a + 1 + 1, 2, none⟩ = some (.int .i64 0) := kN.get 2 (by omega)
      have n3 : w5.cell? ⟨a + 1 + 1, 3, none⟩ = some (.string ⟨#[]⟩) := kN.get 3 (by omega)
      have n4 : w5.cell? ⟨a + 1 + 1, 4, none⟩ = some (.slice none 0 0) := kN.get 4 (by omega)
      have n5 : w5.cell? ⟨a + 1 + 1, 5, none⟩ = some (.slice none 0 0) := kN.get 5 (by omega)
      have e0 : r.toList.isEmpty = false := by
        rw [ByteArray.toList_eq]
        rcases hl : r.data.toList with _ | ⟨c, l⟩
        · exact absurd (show r.size = 0 by show r.data.size = 0; rw [← Array.length_toList, hl]; rfl) hr
        · rfl
      have e1 : (!r.toList.isEmpty) = true := by rw [e0]; rfl
      have KA := Lib.hid kA
      have HRS := Lib.hid hr
      clear k5 hsp kA kN hr d5 hR
      go_wp2_with fail
      obtain ⟨⟨q0, q1, q2, q3, q4, q5⟩, qu⟩ := setB KA.out (.int .i64 0) (.int .i64 0) (.int .i64 0) (.string ⟨#[]⟩) (.slice none 0 0) (.slice none 0 0)
      refine bodyPost_ret (v := .tuple #[.agg #[.int .i64 0, .int .i64 0, .int .i64 0, .string ⟨#[]⟩, .slice none 0 0, .slice none 0 0], .int .i64 2]) (by simp [results, Try.results48, go_sem, q0, q1, q2, q3, q4, q5]) rfl ⟨?_, ?_⟩
      · rw [← HX.out, blockRd, HS.out]
        dsimp only
        rw [if_neg HRS.out]; rfl
      · exact B5.out.trans (qu.below AL.out)
set_option maxRecDepth 100000 in
set_option maxHeartbeats 4000000 in
theorem read_block (b : ByteArray) (hb : b.size ≤ 1000000) (w : World) :
    Calls Try.prog 28 #[.string b] w fun e w' => BlockAns w (blockRd b) e w' ∧ Below w.heap.size w w' := by
  obtain ⟨X, hX⟩ : ∃ X, blockRd b = X := ⟨_, rfl⟩
  have HW := Lib.hid (fun wx => hX ▸ whole_block b hb wx)
  rw [hX]
  clear hb hX
  go_enter Try.func28, Try.ntmps28
  go_wp2_with fail
  obtain ⟨a, ha⟩ : ∃ a, w.heap.size = a := ⟨_, rfl⟩
  have k0 : Blk (w.alloc (.cells #[.int .i64 0, .int .i64 0, .int .i64 0, .string ⟨#[]⟩, .slice none 0 0, .slice none 0 0] 31)) a 6 zB := Blk.new' ha.symm zB_row
  have b0 := (Below.refl w.heap.size w).alloc (Nat.le_refl _) (.cells #[.int .i64 0, .int .i64 0, .int .i64 0, .string ⟨#[]⟩, .slice none 0 0, .slice none 0 0] 31)
  rw [ha]
  have AL := Lib.hid (show w.heap.size ≤ a by omega)
  clear ha
  generalize w.alloc (.cells #[.int .i64 0, .int .i64 0, .int .i64 0, .string ⟨#[]⟩, .slice none 0 0, .slice none 0 0] 31) = w1 at *
  have Z1 := Lib.hid (And.intro b0.size k0.lt)
  refine (HW.out w1).mono ?_
  rintro e w2 ⟨he, hb2⟩
  have KA := Lib.hid (k0.below hb2 k0.lt)
  have B2 := Lib.hid (b0.trans (hb2.mono b0.size))
  clear k0 b0 hb2 HW
  have a0 : w2.cell? ⟨a, 0, none⟩ = some (.int .i64 0) := KA.out.get 0 (by omega)
  have g0 := KA.out.frz 0
  have a1 : w2.cell? ⟨a, 1, none⟩ = some (.int .i64 0) := KA.out.get 1 (by omega)
  have g1 := KA.out.frz 1
  have a2 : w2.cell? ⟨a, 2, none⟩ = some (.int .i64 0) := KA.out.get 2 (by omega)
  have g2 := KA.out.frz 2
  have a3 : w2.cell? ⟨a, 3, none⟩ = some (.string ⟨#[]⟩) := KA.out.get 3 (by omega)
  have g3 := KA.out.frz 3
  have a4 : w2.cell? ⟨a, 4, none⟩ = some (.slice none 0 0) := KA.out.get 4 (by omega)
  have g4 := KA.out.frz 4
  have a5 : w2.cell? ⟨a, 5, none⟩ = some (.slice none 0 0) := KA.out.get 5 (by omega)
  have g5 := KA.out.frz 5
  rcases X with _ | d
  · obtain rfl : e = .returned (.tuple #[.agg #[.int .i64 0, .int .i64 0, .int .i64 0, .string ⟨#[]⟩, .slice none 0 0, .slice none 0 0], .int .i64 2]) := he
    go_wp2_with fail
    obtain ⟨⟨q0, q1, q2, q3, q4, q5⟩, qu⟩ := setB KA.out (.int .i64 0) (.int .i64 0) (.int .i64 0) (.string ⟨#[]⟩) (.slice none 0 0) (.slice none 0 0)
    refine bodyPost_ret (v := .tuple #[.agg #[.int .i64 0, .int .i64 0, .int .i64 0, .string ⟨#[]⟩, .slice none 0 0, .slice none 0 0], .int .i64 2]) (by simp [results, Try.results28, go_sem, q0, q1, q2, q3, q4, q5]) rfl ⟨rfl, ?_⟩
    exact B2.out.trans (qu.below AL.out)
  · obtain ⟨f', lo, hi, rfl, hlo, hhi, hR⟩ := he
    have HR := Lib.hid hR
    have HLO := Lib.hid (And.intro hlo hhi)
    obtain ⟨sv, rv, hf, hsv, hrv⟩ := blockR_cells hR
    obtain ⟨sa, scap, rfl, _⟩ := hsv; obtain ⟨ra, rcap, rfl, _⟩ := hrv
    have y0 : f' 0 = .int .i64 d.1.1.1 := by rw [hf]; simp [put]
    have y1 : f' 1 = .int .i64 d.1.1.2 := by rw [hf]; simp [put]
    have y2 : f' 2 = .int .i64 d.1.2.1.1 := by rw [hf]; simp [put]
    have y3 : f' 3 = .string d.1.2.1.2 := by rw [hf]; simp [put]
    have y4 : f' 4 = .slice sa d.1.2.2.length scap := by rw [hf]; simp [put]
    have y5 : f' 5 = .slice ra d.2.length rcap := by rw [hf]; simp [put]
    have HY := Lib.hid (show f' 0 = .int .i64 d.1.1.1 ∧ f' 1 = .int .i64 d.1.1.2 ∧ f' 2 = .int .i64 d.1.2.1.1 ∧ f' 3 = .string d.1.2.1.2 ∧ f' 4 = .slice sa d.1.2.2.length scap ∧ f' 5 = .slice ra d.2.length rcap from ⟨y0, y1, y2, y3, y4, y5⟩)
    rw [y0, y1, y2, y3, y4, y5]
    clear hR hf hlo hhi y0 y1 y2 y3 y4 y5
    go_wp2_with fail
    obtain ⟨⟨q0, q1, q2, q3, q4, q5⟩, qu⟩ := setB KA.out (.int .i64 d.1.1.1) (.int .i64 d.1.1.2) (.int .i64 d.1.2.1.1) (.string d.1.2.1.2) (.slice sa d.1.2.2.length scap) (.slice ra d.2.length rcap)
    refine bodyPost_ret (v := .tuple #[.agg #[.int .i64 d.1.1.1, .int .i64 d.1.1.2, .int .i64 d.1.2.1.1, .string d.1.2.1.2, .slice sa d.1.2.2.length scap, .slice ra d.2.length rcap], .int .i64 0]) (by simp [results, Try.results28, go_sem, q0, q1, q2, q3, q4, q5]) rfl ⟨?_, ?_⟩
    · obtain ⟨y0, y1, y2, y3, y4, y5⟩ := HY.out
      exact ⟨f', lo, hi, by rw [y0, y1, y2, y3, y4, y5], Nat.le_trans Z1.out.1 HLO.out.1, by rw [qu.size]; exact HLO.out.2, (sound_block 0).keep HR.out fun c h1 h2 => qu.block c (by have := Z1.out.2; have := HLO.out.1; omega)⟩
    · exact B2.out.trans (qu.below AL.out)
end Go.Proofs.Ytbeodmijjanmeaa
