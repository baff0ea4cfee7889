/-
  What reads a request.
-/
import Derived.Test.YtbeodmijjanmeaaWReqCut
open Go Go.RowKit
namespace WW
open BB
/-- what is read -/
def reqRd (b : ByteArray) : Option (Nat × Nat × ByteArray) :=
  match reqSp b with
  | none => none
  | some (r, d) => if r.size = 0 then some d else none
def reqAns : Option (Nat × Nat × ByteArray) → Value
  | none => .tuple #[.agg #[.int .i64 0, .int .i64 0, .string ⟨#[]⟩], .int .i64 2]
  | some d => .tuple #[.agg #[.int .i64 (d.1 : Int), .int .i64 (d.2.1 : Int), .string d.2.2], .int .i64 0]
/-- a zero request's cells -/
def rz : Nat → Value := fun i => if i < 2 then .int .i64 0 else .string ⟨#[]⟩
theorem rz_row : #[Value.int .i64 0, .int .i64 0, .string ⟨#[]⟩] = row 3 rz := by rfl
/-- three requests beside each other -/
structure Three (w0 : World) (a : Nat) (w : World) : Prop where
  below : Below w0.heap.size w0 w
  ra : Blk w a 3 rz
  rx : Blk w (a + 1) 3 rz
  rn : Blk w (a + 1 + 1) 3 rz
theorem three_mk (w : World) (a : Nat) (ha : w.heap.size = a) (t : TypeId) : Three w a (((w.alloc (.cells #[.int .i64 0, .int .i64 0, .string ⟨#[]⟩] t)).alloc (.cells #[.int .i64 0, .int .i64 0, .string ⟨#[]⟩] t)).alloc (.cells #[.int .i64 0, .int .i64 0, .string ⟨#[]⟩] t)) := by
  have b1 := (Below.refl w.heap.size w).alloc (Nat.le_refl _) (.cells #[.int .i64 0, .int .i64 0, .string ⟨#[]⟩] t)
  have b2 := b1.alloc b1.size (.cells #[.int .i64 0, .int .i64 0, .string ⟨#[]⟩] t)
  exact ⟨b2.alloc b2.size _, ((Blk.new' (by omega) rz_row).alloc _).alloc _, (Blk.new' (by simp; omega) rz_row).alloc _, Blk.new' (by simp; omega) rz_row⟩
theorem set3 {w : World} {a : Nat} {f : Nat → Value} (h : Blk w a 3 f) (u0 u1 u2 : Value) :
    (((w.setCell ⟨a, 0, none⟩ u0).setCell ⟨a, 1, none⟩ u1).setCell ⟨a, 2, none⟩ u2).cell? ⟨a, 0, none⟩ = some u0 ∧
    (((w.setCell ⟨a, 0, none⟩ u0).setCell ⟨a, 1, none⟩ u1).setCell ⟨a, 2, none⟩ u2).cell? ⟨a, 1, none⟩ = some u1 ∧
    (((w.setCell ⟨a, 0, none⟩ u0).setCell ⟨a, 1, none⟩ u1).setCell ⟨a, 2, none⟩ u2).cell? ⟨a, 2, none⟩ = some u2 := by
  have k := ((h.set 0 u0).set 1 u1).set 2 u2
  exact ⟨k.get 0 (by omega), k.get 1 (by omega), k.get 2 (by omega)⟩
theorem Three.on {w0 w w' : World} {a : Nat} (h : Three w0 a w) (hb : Below w.heap.size w w') : Three w0 a w' :=
  ⟨h.below.trans (hb.mono h.below.size), h.ra.below hb h.ra.lt, h.rx.below hb h.rx.lt, h.rn.below hb h.rn.lt⟩
end WW
namespace Go.Proofs.Ytbeodmijjanmeaa
open WW BB
set_option maxRecDepth 100000 in
set_option maxHeartbeats 2000000 in
theorem whole_request (b : ByteArray) (hb : b.size ≤ 1000000) (w : World) :
    Calls Try.prog 39 #[.string b, .func (.func 40) #[] #[]] w fun e w' => e = .returned (reqAns (reqRd b)) ∧ Below w.heap.size w w' := by
  obtain ⟨X, hX⟩ : ∃ X, reqAns (reqRd b) = X := ⟨_, rfl⟩
  rw [hX]
  have HX := Lib.hid hX
  have HB := Lib.hid hb
  clear hX hb
  go_enter Try.func39, Try.ntmps39
  go_wp2_with fail
  obtain ⟨a, ha⟩ : ∃ a, w.heap.size = a := ⟨_, rfl⟩
  have K0 : Hid (Three w a (((w.alloc (.cells #[.int .i64 0, .int .i64 0, .string ⟨#[]⟩] 34)).alloc (.cells #[.int .i64 0, .int .i64 0, .string ⟨#[]⟩] 34)).alloc (.cells #[.int .i64 0, .int .i64 0, .string ⟨#[]⟩] 34))) := Lib.hid (three_mk w a ha _)
  have HA := Lib.hid ha
  rw [ha]
  clear ha
  generalize ((w.alloc (.cells #[.int .i64 0, .int .i64 0, .string ⟨#[]⟩] 34)).alloc (.cells #[.int .i64 0, .int .i64 0, .string ⟨#[]⟩] 34)).alloc (.cells #[.int .i64 0, .int .i64 0, .string ⟨#[]⟩] 34) = w3 at *
  refine (mk_request (a + 1) 0 3 w3 (by omega) K0.out.rx.lt).mono ?_
  rintro e w4 ⟨kv, ev, rfl, hb4, hv⟩
  have K4 := Lib.hid (K0.out.on hb4)
  have HV := Lib.hid hv
  clear hb4 hv K0
  go_wp2_with (with_reducible refine hold_callv rfl rfl ?_)
  refine wpl_callv (v := .func (.func kv) #[] ev) (args := #[.string b]) _ rfl rfl rfl (by simp [Act.eval]) (HV.out rz b w4 HB.out (Keep.refl _ _) K4.out.rx) Ans.ret ?_
  intro u w5 hu
  obtain ⟨ok, r, hr, he⟩ := hu
  injection hr with hr
  subst hr
  rcases hsp : reqSp b with _ | ⟨r', d⟩
  · rw [hsp] at he
    obtain ⟨rfl, f', c5⟩ := he
    have HS := Lib.hid hsp
    have B5 := Lib.hid (K4.out.below.trans (c5.1.below (by rw [HA.out]; omega) K4.out.below.size))
    have kA := K4.out.ra.keep c5.1 (by omega)
    have kN := K4.out.rn.keep c5.1 (by omega)
    have a0 : w5.cell? ⟨a, 0, none⟩ = some (.int .i64 0) := kA.get 0 (by omega)
    have a1 : w5.cell? ⟨a, 1, none⟩ = some (.int .i64 0) := kA.get 1 (by omega)
    have a2 : w5.cell? ⟨a, 2, none⟩ = some (.string ⟨#[]⟩) := kA.get 2 (by omega)
    have g0 := kA.frz 0
    have g1 := kA.frz 1
    have g2 := kA.frz 2
    have n0 : w5.cell? ⟨a + 1 + 1, 0, none⟩ = some (.int .i64 0) := kN.get 0 (by omega)
    have n1 : w5.cell? ⟨a + 1 + 1, 1, none⟩ = some (.int .i64 0) := kN.get 1 (by omega)
    have n2 : w5.cell? ⟨a + 1 + 1, 2, none⟩ = some (.string ⟨#[]⟩) := kN.get 2 (by omega)
    have AL := Lib.hid (show w.heap.size ≤ a by rw [HA.out]; exact Nat.le_refl _)
    have KA := Lib.hid kA
    clear c5 hsp kA kN
    go_wp2_with fail
    have kF := set3 KA.out (.int .i64 0) (.int .i64 0) (.string ⟨#[]⟩)
    obtain ⟨q0, q1, q2⟩ := kF
    refine bodyPost_ret (v := .tuple #[.agg #[.int .i64 0, .int .i64 0, .string ⟨#[]⟩], .int .i64 2]) (by simp [results, Try.results39, go_sem, q0, q1, q2]) rfl ⟨?_, ?_⟩
    · rw [← HX.out, reqRd, HS.out]; rfl
    · exact ((B5.out.setCell AL.out _).setCell AL.out _).setCell AL.out _
  · rw [hsp] at he
    obtain ⟨rfl, rfl, c5⟩ := he
    have HS := Lib.hid hsp
    have B5 := Lib.hid (K4.out.below.trans (c5.1.below (by rw [HA.out]; omega) K4.out.below.size))
    have kA := K4.out.ra.keep c5.1 (by omega)
    have kN := K4.out.rn.keep c5.1 (by omega)
    have a0 : w5.cell? ⟨a, 0, none⟩ = some (.int .i64 0) := kA.get 0 (by omega)
    have a1 : w5.cell? ⟨a, 1, none⟩ = some (.int .i64 0) := kA.get 1 (by omega)
    have a2 : w5.cell? ⟨a, 2, none⟩ = some (.string ⟨#[]⟩) := kA.get 2 (by omega)
    have g0 := kA.frz 0
    have g1 := kA.frz 1
    have g2 := kA.frz 2
    have AL := Lib.hid (show w.heap.size ≤ a by rw [HA.out]; exact Nat.le_refl _)
    by_cases hr : r.size = 0
    · obtain ⟨dc, dq, ds⟩ := d
      have x0 : w5.cell? ⟨a + 1, 0, none⟩ = some (.int .i64 (dc : Int)) := c5.2.get 0 (by omega)
      have x1 : w5.cell? ⟨a + 1, 1, none⟩ = some (.int .i64 (dq : Int)) := c5.2.get 1 (by omega)
      have x2 : w5.cell? ⟨a + 1, 2, none⟩ = some (.string ds) := c5.2.get 2 (by omega)
      obtain rfl := nil_size r hr
      have KA := Lib.hid kA
      clear c5 hsp kA kN hr
      go_wp2_with fail
      obtain ⟨q0, q1, q2⟩ := set3 KA.out (.int .i64 (dc : Int)) (.int .i64 (dq : Int)) (.string ds)
      refine bodyPost_ret (v := .tuple #[.agg #[.int .i64 (dc : Int), .int .i64 (dq : Int), .string ds], .int .i64 0]) (by simp [results, Try.results39, go_sem, q0, q1, q2]) rfl ⟨?_, ?_⟩
      · rw [← HX.out, reqRd, HS.out]; rfl
      · exact ((B5.out.setCell AL.out _).setCell AL.out _).setCell AL.out _
    · have n0 : w5.cell? ⟨a + 1 + 1, 0, none⟩ = some (.int .i64 0) := kN.get 0 (by omega)
      have n1 : w5.cell? ⟨a + 1 + 1, 1, none⟩ = some (.int .i64 0) := kN.get 1 (by omega)
      have n2 : w5.cell? ⟨a + 1 + 1, 2, none⟩ = some (.string ⟨#[]⟩) := kN.get 2 (by omega)
      have e0 : r.toList.isEmpty = false := by
        rw [ByteArray.toList_eq]
        rcases hl : r.data.toList with _ | ⟨c, l⟩
        · exact absurd (show r.size = 0 by show r.data.size = 0; rw [← Array.length_toList, hl]; rfl) hr
        · rfl
      have e1 : (!r.toList.isEmpty) = true := by rw [e0]; rfl
      have KA := Lib.hid kA
      have HR := Lib.hid hr
      clear c5 hsp kA kN hr
      go_wp2_with fail
      obtain ⟨q0, q1, q2⟩ := set3 KA.out (.int .i64 0) (.int .i64 0) (.string ⟨#[]⟩)
      refine bodyPost_ret (v := .tuple #[.agg #[.int .i64 0, .int .i64 0, .string ⟨#[]⟩], .int .i64 2]) (by simp [results, Try.results39, go_sem, q0, q1, q2]) rfl ⟨?_, ?_⟩
      · rw [← HX.out, reqRd, HS.out]
        dsimp only
        rw [if_neg HR.out]; rfl
      · exact ((B5.out.setCell AL.out _).setCell AL.out _).setCell AL.out _
set_option maxRecDepth 100000 in
set_option maxHeartbeats 2000000 in
theorem readreq_any (b : ByteArray) (hb : b.size ≤ 1000000) (w : World) :
    Calls Try.prog 19 #[.string b] w fun e w' => e = .returned (reqAns (reqRd b)) ∧ Below w.heap.size w w' := by
  obtain ⟨c, q, s, k, hd⟩ : ∃ c q s k, reqAns (reqRd b) = .tuple #[.agg #[.int .i64 c, .int .i64 q, .string s], .int .i64 k] := by
    rcases reqRd b with _ | ⟨c, q, s⟩
    · exact ⟨_, _, _, _, rfl⟩
    · exact ⟨_, _, _, _, rfl⟩
  have HW := Lib.hid (fun wx => whole_request b hb wx)
  have H := HW.out
  rw [hd] at H ⊢
  have HW := Lib.hid H
  clear H hb hd
  go_enter Try.func19, Try.ntmps19
  go_wp2_with fail
  obtain ⟨a, ha⟩ : ∃ a, w.heap.size = a := ⟨_, rfl⟩
  have k0 : Blk (w.alloc (.cells #[.int .i64 0, .int .i64 0, .string ⟨#[]⟩] 34)) a 3 rz := Blk.new' ha.symm rz_row
  have b0 := (Below.refl w.heap.size w).alloc (Nat.le_refl _) (.cells #[.int .i64 0, .int .i64 0, .string ⟨#[]⟩] 34)
  rw [ha]
  have AL := Lib.hid (show w.heap.size ≤ a by omega)
  clear ha
  generalize w.alloc (.cells #[.int .i64 0, .int .i64 0, .string ⟨#[]⟩] 34) = w1 at *
  refine (HW.out w1).mono ?_
  rintro e w2 ⟨rfl, hb2⟩
  have KA := Lib.hid (k0.below hb2 k0.lt)
  have B2 := Lib.hid (b0.trans (hb2.mono b0.size))
  clear k0 b0 hb2
  have a0 : w2.cell? ⟨a, 0, none⟩ = some (.int .i64 0) := KA.out.get 0 (by omega)
  have a1 : w2.cell? ⟨a, 1, none⟩ = some (.int .i64 0) := KA.out.get 1 (by omega)
  have a2 : w2.cell? ⟨a, 2, none⟩ = some (.string ⟨#[]⟩) := KA.out.get 2 (by omega)
  have g0 := KA.out.frz 0
  have g1 := KA.out.frz 1
  have g2 := KA.out.frz 2
  go_wp2_with fail
  obtain ⟨q0, q1, q2⟩ := set3 KA.out (.int .i64 c) (.int .i64 q) (.string s)
  refine bodyPost_ret (v := .tuple #[.agg #[.int .i64 c, .int .i64 q, .string s], .int .i64 k]) (by simp [results, Try.results19, go_sem, q0, q1, q2]) rfl ⟨rfl, ?_⟩
  exact ((B2.out.setCell AL.out _).setCell AL.out _).setCell AL.out _
end Go.Proofs.Ytbeodmijjanmeaa
