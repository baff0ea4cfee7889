/-
  The walk of a batch's bytes.
-/
import Derived.Test.YtacnbpmoceocbaaKWReqCut
import Derived.Lib.Builder
import Derived.Lib.AppendStr
import Derived.Lib.UnsafeStr
import Derived.Lib.MakeNoZero
import Derived.Laws.Externs
import Derived.Shelf.Strings.BuilderX
import Derived.RegionTactic
import Derived.Lib.Walk
import Derived.Lib.Slices
section
open Go Go.RowKit
namespace WW
open BB
/-- what is read -/
def reqRd (b : ByteArray) : Option (Nat × Nat × ByteArray) :=
  match reqSp b with
  | none => none
  | some (r, d) => if r.size = 0 then some d else none
def reqAns : Option (Nat × Nat × ByteArray) → Value
  | none => .tuple #[.agg #[.int .i64 0, .int .i64 0, .string ⟨#[]⟩], .int .i64 2]
  | some d => .tuple #[.agg #[.int .i64 (d.1 : Int), .int .i64 (d.2.1 : Int), .string d.2.2], .int .i64 0]
/-- a zero request's cells -/
def rz : Nat → Value := fun i => if i < 2 then .int .i64 0 else .string ⟨#[]⟩
theorem rz_row : #[Value.int .i64 0, .int .i64 0, .string ⟨#[]⟩] = row 3 rz := by rfl
/-- three requests beside each other -/
structure Three (w0 : World) (a : Nat) (w : World) : Prop where
  below : Below w0.heap.size w0 w
  ra : Blk w a 3 rz
  rx : Blk w (a + 1) 3 rz
  rn : Blk w (a + 1 + 1) 3 rz
theorem three_mk (w : World) (a : Nat) (ha : w.heap.size = a) (t : TypeId) : Three w a (((w.alloc (.cells #[.int .i64 0, .int .i64 0, .string ⟨#[]⟩] t)).alloc (.cells #[.int .i64 0, .int .i64 0, .string ⟨#[]⟩] t)).alloc (.cells #[.int .i64 0, .int .i64 0, .string ⟨#[]⟩] t)) := by
  have b1 := (Below.refl w.heap.size w).alloc (Nat.le_refl _) (.cells #[.int .i64 0, .int .i64 0, .string ⟨#[]⟩] t)
  have b2 := b1.alloc b1.size (.cells #[.int .i64 0, .int .i64 0, .string ⟨#[]⟩] t)
  exact ⟨b2.alloc b2.size _, ((Blk.new' (by omega) rz_row).alloc _).alloc _, (Blk.new' (by simp; omega) rz_row).alloc _, Blk.new' (by simp; omega) rz_row⟩
theorem set3 {w : World} {a : Nat} {f : Nat → Value} (h : Blk w a 3 f) (u0 u1 u2 : Value) :
    (((w.setCell ⟨a, 0, none⟩ u0).setCell ⟨a, 1, none⟩ u1).setCell ⟨a, 2, none⟩ u2).cell? ⟨a, 0, none⟩ = some u0 ∧
    (((w.setCell ⟨a, 0, none⟩ u0).setCell ⟨a, 1, none⟩ u1).setCell ⟨a, 2, none⟩ u2).cell? ⟨a, 1, none⟩ = some u1 ∧
    (((w.setCell ⟨a, 0, none⟩ u0).setCell ⟨a, 1, none⟩ u1).setCell ⟨a, 2, none⟩ u2).cell? ⟨a, 2, none⟩ = some u2 := by
  have k := ((h.set 0 u0).set 1 u1).set 2 u2
  exact ⟨k.get 0 (by omega), k.get 1 (by omega), k.get 2 (by omega)⟩
theorem Three.on {w0 w w' : World} {a : Nat} (h : Three w0 a w) (hb : Below w.heap.size w w') : Three w0 a w' :=
  ⟨h.below.trans (hb.mono h.below.size), h.ra.below hb h.ra.lt, h.rx.below hb h.rx.lt, h.rn.below hb h.rn.lt⟩
end WW
namespace Go.Proofs.Ytacnbpmoceocbaa
open WW BB
set_option maxRecDepth 100000 in
set_option maxHeartbeats 2000000 in
theorem whole_request (b : ByteArray) (hb : b.size ≤ 1000000) (w : World) :
    Calls Try.prog 39 #[.string b, .func (.func 40) #[] #[]] w fun e w' => e = .returned (reqAns (reqRd b)) ∧ Below w.heap.size w w' := by
  obtain ⟨X, hX⟩ : ∃ X, reqAns (reqRd b) = X := ⟨_, rfl⟩
  rw [hX]
  have HX := Lib.hid hX
  have HB := Lib.hid hb
  clear hX hb
  go_enter Try.func39, Try.ntmps39
  go_wp2_with fail
  obtain ⟨a, ha⟩ : ∃ a, w.heap.size = a := ⟨_, rfl⟩
  have K0 : Hid (Three w a (((w.alloc (.cells #[.int .i64 0, .int .i64 0, .string ⟨#[]⟩] 34)).alloc (.cells #[.int .i64 0, .int .i64 0, .string ⟨#[]⟩] 34)).alloc (.cells #[.int .i64 0, .int .i64 0, .string ⟨#[]⟩] 34))) := Lib.hid (three_mk w a ha _)
  have HA := Lib.hid ha
  rw [ha]
  clear ha
  generalize ((w.alloc (.cells #[.int .i64 0, .int .i64 0, .string ⟨#[]⟩] 34)).alloc (.cells #[.int .i64 0, .int .i64 0, .string ⟨#[]⟩] 34)).alloc (.cells #[.int .i64 0, .int .i64 0, .string ⟨#[]⟩] 34) = w3 at *
  refine (mk_request (a + 1) 0 3 w3 (by omega) K0.out.rx.lt).mono ?_
  rintro e w4 ⟨kv, ev, rfl, hb4, hv⟩
  have K4 := Lib.hid (K0.out.on hb4)
  have HV := Lib.hid hv
  clear hb4 hv K0
  go_wp2_with (with_reducible refine hold_callv rfl rfl ?_)
  refine wpl_callv (v := .func (.func kv) #[] ev) (args := #[.string b]) _ rfl rfl rfl (by simp [Act.eval]) (HV.out rz b w4 HB.out (Keep.refl _ _) K4.out.rx) Ans.ret ?_
  intro u w5 hu
  obtain ⟨ok, r, hr, he⟩ := hu
  injection hr with hr
  subst hr
  rcases hsp : reqSp b with _ | ⟨r', d⟩
  · rw [hsp] at he
    obtain ⟨rfl, f', c5⟩ := he
    have HS := Lib.hid hsp
    have B5 := Lib.hid (K4.out.below.trans (c5.1.below (by rw [HA.out]; omega) K4.out.below.size))
    have kA := K4.out.ra.keep c5.1 (by omega)
    have kN := K4.out.rn.keep c5.1 (by omega)
    have a0 : w5.cell? ⟨a, 0, none⟩ = some (.int .i64 0) := kA.get 0 (by omega)
    have a1 : w5.cell? ⟨a, 1, none⟩ = some (.int .i64 0) := kA.get 1 (by omega)
    have a2 : w5.cell? ⟨a, 2, none⟩ = some (.string ⟨#[]⟩) := kA.get 2 (by omega)
    have g0 := kA.frz 0
    have g1 := kA.frz 1
    have g2 := kA.frz 2
    have n0 : w5.cell? ⟨a + 1 + 1, 0, none⟩ = some (.int .i64 0) := kN.get 0 (by omega)
    have n1 : w5.cell? ⟨a + 1 + 1, 1, none⟩ = some (.int .i64 0) := kN.get 1 (by omega)
    have n2 : w5.cell? ⟨a + 1 + 1, 2, none⟩ = some (.string ⟨#[]⟩) := kN.get 2 (by omega)
    have AL := Lib.hid (show w.heap.size ≤ a by rw [HA.out]; exact Nat.le_refl _)
    have KA := Lib.hid kA
    clear c5 hsp kA kN
    go_wp2_with fail
    have kF := set3 KA.out (.int .i64 0) (.int .i64 0) (.string ⟨#[]⟩)
    obtain ⟨q0, q1, q2⟩ := kF
    refine bodyPost_ret (v := .tuple #[.agg #[.int .i64 0, .int .i64 0, .string ⟨#[]⟩], .int .i64 2]) (by simp [results, Try.results39, go_sem, q0, q1, q2]) rfl ⟨?_, ?_⟩
    · rw [← HX.out, reqRd, HS.out]; rfl
    · exact ((B5.out.setCell AL.out _).setCell AL.out _).setCell AL.out _
  · rw [hsp] at he
    obtain ⟨rfl, rfl, c5⟩ := he
    have HS := Lib.hid hsp
    have B5 := Lib.hid (K4.out.below.trans (c5.1.below (by rw [HA.out]; omega) K4.out.below.size))
    have kA := K4.out.ra.keep c5.1 (by omega)
    have kN := K4.out.rn.keep c5.1 (by omega)
    have a0 : w5.cell? ⟨a, 0, none⟩ = some (.int .i64 0) := kA.get 0 (by omega)
    have a1 : w5.cell? ⟨a, 1, none⟩ = some (.int .i64 0) := kA.get 1 (by omega)
    have a2 : w5.cell? ⟨a, 2, none⟩ = some (.string ⟨#[]⟩) := kA.get 2 (by omega)
    have g0 := kA.frz 0
    have g1 := kA.frz 1
    have g2 := kA.frz 2
    have AL := Lib.hid (show w.heap.size ≤ a by rw [HA.out]; exact Nat.le_refl _)
    by_cases hr : r.size = 0
    · obtain ⟨dc, dq, ds⟩ := d
      have x0 : w5.cell? ⟨a + 1, 0, none⟩ = some (.int .i64 (dc : Int)) := c5.2.get 0 (by omega)
      have x1 : w5.cell? ⟨a + 1, 1, none⟩ = some (.int .i64 (dq : Int)) := c5.2.get 1 (by omega)
      have x2 : w5.cell? ⟨a + 1, 2, none⟩ = some (.string ds) := c5.2.get 2 (by omega)
      obtain rfl := nil_size r hr
      have KA := Lib.hid kA
      clear c5 hsp kA kN hr
      go_wp2_with fail
      obtain ⟨q0, q1, q2⟩ := set3 KA.out (.int .i64 (dc : Int)) (.int .i64 (dq : Int)) (.string ds)
      refine bodyPost_ret (v := .tuple #[.agg #[.int .i64 (dc : Int), .int .i64 (dq : Int), .string ds], .int .i64 0]) (by simp [results, Try.results39, go_sem, q0, q1, q2]) rfl ⟨?_, ?_⟩
      · rw [← HX.out, reqRd, HS.out]; rfl
      · exact ((B5.out.setCell AL.out _).setCell AL.out _).setCell AL.out _
    · have n0 : w5.cell? ⟨a + 1 + 1, 0, none⟩ = some (.int .i64 0) := kN.get 0 (by omega)
      have n1 : w5.cell? ⟨a + 1 + 1, 1, none⟩ = some (.int .i64 0) := kN.get 1 (by omega)
      have n2 : w5.cell? ⟨a + 1 + 1, 2, none⟩ = some (.string ⟨#[]⟩) := kN.get 2 (by omega)
      have e0 : r.toList.isEmpty = false := by
        rw [ByteArray.toList_eq]
        rcases hl : r.data.toList with _ | ⟨c, l⟩
        · exact absurd (show r.size = 0 by show r.data.size = 0; rw [← Array.length_toList, hl]; rfl) hr
        · rfl
      have e1 : (!r.toList.isEmpty) = true := by rw [e0]; rfl
      have KA := Lib.hid kA
      have HR := Lib.hid hr
      clear c5 hsp kA kN hr
      go_wp2_with fail
      obtain ⟨q0, q1, q2⟩ := set3 KA.out (.int .i64 0) (.int .i64 0) (.string ⟨#[]⟩)
      refine bodyPost_ret (v := .tuple #[.agg #[.int .i64 0, .int .i64 0, .string ⟨#[]⟩], .int .i64 2]) (by simp [results, Try.results39, go_sem, q0, q1, q2]) rfl ⟨?_, ?_⟩
      · rw [← HX.out, reqRd, HS.out]
        dsimp only
        rw [if_neg HR.out]; rfl
      · exact ((B5.out.setCell AL.out _).setCell AL.out _).setCell AL.out _
set_option maxRecDepth 100000 in
set_option maxHeartbeats 2000000 in
theorem readreq_any (b : ByteArray) (hb : b.size ≤ 1000000) (w : World) :
    Calls Try.prog 19 #[.string b] w fun e w' => e = .returned (reqAns (reqRd b)) ∧ Below w.heap.size w w' := by
  obtain ⟨c, q, s, k, hd⟩ : ∃ c q s k, reqAns (reqRd b) = .tuple #[.agg #[.int .i64 c, .int .i64 q, .string s], .int .i64 k] := by
    rcases reqRd b with _ | ⟨c, q, s⟩
    · exact ⟨_, _, _, _, rfl⟩
    · exact ⟨_, _, _, _, rfl⟩
  have HW := Lib.hid (fun wx => whole_request b hb wx)
  have H := HW.out
  rw [hd] at H ⊢
  have HW := Lib.hid H
  clear H hb hd
  go_enter Try.func19, Try.ntmps19
  go_wp2_with fail
  obtain ⟨a, ha⟩ : ∃ a, w.heap.size = a := ⟨_, rfl⟩
  have k0 : Blk (w.alloc (.cells #[.int .i64 0, .int .i64 0, .string ⟨#[]⟩] 34)) a 3 rz := Blk.new' ha.symm rz_row
  have b0 := (Below.refl w.heap.size w).alloc (Nat.le_refl _) (.cells #[.int .i64 0, .int .i64 0, .string ⟨#[]⟩] 34)
  rw [ha]
  have AL := Lib.hid (show w.heap.size ≤ a by omega)
  clear ha
  generalize w.alloc (.cells #[.int .i64 0, .int .i64 0, .string ⟨#[]⟩] 34) = w1 at *
  refine (HW.out w1).mono ?_
  rintro e w2 ⟨rfl, hb2⟩
  have KA := Lib.hid (k0.below hb2 k0.lt)
  have B2 := Lib.hid (b0.trans (hb2.mono b0.size))
  clear k0 b0 hb2
  have a0 : w2.cell? ⟨a, 0, none⟩ = some (.int .i64 0) := KA.out.get 0 (by omega)
  have a1 : w2.cell? ⟨a, 1, none⟩ = some (.int .i64 0) := KA.out.get 1 (by omega)
  have a2 : w2.cell? ⟨a, 2, none⟩ = some (.string ⟨#[]⟩) := KA.out.get 2 (by omega)
  have g0 := KA.out.frz 0
  have g1 := KA.out.frz 1
  have g2 := KA.out.frz 2
  go_wp2_with fail
  obtain ⟨q0, q1, q2⟩ := set3 KA.out (.int .i64 c) (.int .i64 q) (.string s)
  refine bodyPost_ret (v := .tuple #[.agg #[.int .i64 c, .int .i64 q, .string s], .int .i64 k]) (by simp [results, Try.results19, go_sem, q0, q1, q2]) rfl ⟨rfl, ?_⟩
  exact ((B2.out.setCell AL.out _).setCell AL.out _).setCell AL.out _
end Go.Proofs.Ytacnbpmoceocbaa
end
section
open Go Go.RowKit
namespace WW
open BB
theorem ba_ext {a b : ByteArray} (h : a.data.toList = b.data.toList) : a = b := ByteArray.ext (Array.toList_inj.1 h)
theorem ba_list (a : ByteArray) : a.data.toList.length = a.size := by rw [Array.length_toList]; rfl
theorem be4_list (n : Nat) : (be4 n).data.toList = [UInt8.ofNat (n / 16777216), UInt8.ofNat (n / 65536), UInt8.ofNat (n / 256), UInt8.ofNat n] := rfl
theorem rd4_be4 (n : Nat) (h : n < 4294967296) (r : ByteArray) : rd4 (be4 n ++ r) = n := by
  unfold rd4
  rw [ByteArray.data_append, Array.toList_append, be4_list]
  simp only [List.cons_append, List.nil_append, List.getD_cons_zero, List.getD_cons_succ, UInt8.toNat_ofNat']
  have d1 : n / 65536 / 256 = n / 16777216 := Nat.div_div_eq_div_mul n 65536 256
  have d2 : n / 256 / 256 = n / 65536 := Nat.div_div_eq_div_mul n 256 256
  omega
theorem drop_be4 (n : Nat) (r : ByteArray) : (be4 n ++ r).extract 4 (be4 n ++ r).size = r := by
  apply ba_ext
  have hr := ba_list r
  have hs : (be4 n ++ r).size = 4 + r.size := by rw [ByteArray.size_append]; rfl
  rw [hs, ByteArray.data_extract, Array.toList_extract, ByteArray.data_append, Array.toList_append, be4_list, List.extract_eq_take_drop]
  show List.take (4 + r.size - 4) r.data.toList = r.data.toList
  exact List.take_of_length_le (by omega)
theorem numSp_put (lo hi : Int) (n : Nat) (h : n < 4294967296) (r : ByteArray) : numSp lo hi (be4 n ++ r) = if (n : Int) < lo ∨ hi < (n : Int) then none else some (r, n) := by
  unfold numSp
  rw [if_neg (by rw [ByteArray.size_append]; show ¬ 4 + r.size < 4; omega), rd4_be4 n h, drop_be4]
theorem list4 (l : List UInt8) (h : 4 ≤ l.length) : ∃ a b c d r, l = a :: b :: c :: d :: r := by
  match l, h with
  | a :: b :: c :: d :: r, _ => exact ⟨a, b, c, d, r, rfl⟩
theorem u8_of (x : UInt8) (n : Nat) (h : n % 256 = x.toNat) : UInt8.ofNat n = x := by
  apply UInt8.toNat_inj.1; simp [h]
theorem numSp_sound {lo hi : Int} {b r : ByteArray} {N : Nat} (h : numSp lo hi b = some (r, N)) : b = be4 N ++ r ∧ lo ≤ (N : Int) ∧ (N : Int) ≤ hi := by
  unfold numSp at h
  split at h
  · cases h
  · split at h
    · cases h
    · rename_i h4 hr
      injection h with h; injection h with h1 h2
      refine ⟨?_, by omega, by omega⟩
      apply ba_ext
      have hl := ba_list b
      obtain ⟨x0, x1, x2, x3, t, ht⟩ := list4 b.data.toList (by omega)
      have hN : N = x0.toNat * 16777216 + x1.toNat * 65536 + x2.toNat * 256 + x3.toNat := by
        rw [← h2]; unfold rd4; rw [ht]; rfl
      have l0 := UInt8.toNat_lt x0
      have l1 := UInt8.toNat_lt x1
      have l2 := UInt8.toNat_lt x2
      have l3 := UInt8.toNat_lt x3
      have e0 : UInt8.ofNat (N / 16777216) = x0 := u8_of _ _ (by omega)
      have e1 : UInt8.ofNat (N / 65536) = x1 := u8_of _ _ (by omega)
      have e2 : UInt8.ofNat (N / 256) = x2 := u8_of _ _ (by omega)
      have e3 : UInt8.ofNat N = x3 := u8_of _ _ (by omega)
      rw [ByteArray.data_append, Array.toList_append, be4_list, e0, e1, e2, e3, ← h1, ByteArray.data_extract, Array.toList_extract, ht, List.extract_eq_take_drop]
      have hs : b.size = t.length + 4 := by rw [← hl, ht]; simp
      simp [hs]
theorem bytesSp_put (s r : ByteArray) : bytesSp s.size (s ++ r) = some (r, s) := by
  unfold bytesSp
  rw [if_neg (by rw [ByteArray.size_append]; omega)]
  congr 2
  · apply ba_ext
    have hr := ba_list r
    have hs := ba_list s
    rw [ByteArray.data_extract, Array.toList_extract, ByteArray.data_append, Array.toList_append, ByteArray.size_append, List.extract_eq_take_drop, List.drop_left' hs]
    exact List.take_of_length_le (by omega)
  · apply ba_ext
    have hs := ba_list s
    rw [ByteArray.data_extract, Array.toList_extract, ByteArray.data_append, Array.toList_append, List.extract_eq_take_drop, List.drop_zero, Nat.sub_zero, List.take_left' hs]
theorem bytesSp_sound {N : Nat} {b r s : ByteArray} (h : bytesSp N b = some (r, s)) : b = s ++ r ∧ s.size = N := by
  unfold bytesSp at h
  split at h
  · cases h
  · injection h with h; injection h with h1 h2
    constructor
    · apply ba_ext
      rw [← h1, ← h2, ByteArray.data_append, Array.toList_append, ByteArray.data_extract, ByteArray.data_extract, Array.toList_extract, Array.toList_extract, List.extract_eq_take_drop, List.extract_eq_take_drop]
      have := ba_list b
      rw [List.drop_zero, Nat.sub_zero, List.take_of_length_le (l := b.data.toList.drop N) (by simp), List.take_append_drop]
    · rw [← h2]; simp; omega
end WW
end
section
open Go Go.RowKit
namespace WW
open BB
theorem num_nat (n : Nat) (h : n ≤ 2147483647) : num (n : Int) = be4 n := by
  unfold num; rw [if_neg (by omega)]; rfl
/-- a text, its length below a bound -/
def textG (hi : Int) (fits : Nat → Bool) (b : ByteArray) : Option (ByteArray × ByteArray) :=
  match numSp 0 hi b with
  | none => none
  | some (r, N) => if fits N then bytesSp N r else none
theorem textG_some (hi : Int) (fits : Nat → Bool) (b : ByteArray) {r : ByteArray} {N : Nat} (h : numSp 0 hi b = some (r, N)) : textG hi fits b = if fits N = true then bytesSp N r else none := by unfold textG; rw [h]
theorem textSp_G (fits : Nat → Bool) (b : ByteArray) : textSp fits b = textG 2147483647 fits b := rfl
theorem textG_put (hi : Int) (fits : Nat → Bool) (s r : ByteArray) (hs : (s.size : Int) ≤ hi) (h32 : s.size < 4294967296) (hn : num (s.size : Int) = be4 s.size) : textG hi fits (txt s ++ r) = if fits s.size = true then some (r, s) else none := by
  have h1 : numSp 0 hi (be4 s.size ++ (s ++ r)) = some (s ++ r, s.size) := by rw [numSp_put _ _ _ h32, if_neg (by omega)]
  have e : txt s ++ r = be4 s.size ++ (s ++ r) := by unfold txt; rw [hn, ByteArray.append_assoc]
  rw [e, textG_some hi fits _ h1, bytesSp_put]
theorem textG_sound {hi : Int} {fits : Nat → Bool} {b r s : ByteArray} (h : textG hi fits b = some (r, s)) : b = be4 s.size ++ s ++ r ∧ fits s.size = true ∧ (s.size : Int) ≤ hi := by
  unfold textG at h
  rcases hn : numSp 0 hi b with _ | ⟨r1, N⟩
  · rw [hn] at h; cases h
  · rw [hn] at h
    dsimp only at h
    split at h
    · rename_i hf
      obtain ⟨e1, e2⟩ := bytesSp_sound h
      obtain ⟨f1, f2, f3⟩ := numSp_sound hn
      subst e2
      exact ⟨by rw [f1, e1, ByteArray.append_assoc], hf, f3⟩
    · cases h
theorem textSp_put (fits : Nat → Bool) (s r : ByteArray) (hs : s.size ≤ 2147483647) : textSp fits (txt s ++ r) = if fits s.size = true then some (r, s) else none := by
  rw [textSp_G]; exact textG_put _ fits s r (by omega) (by omega) (num_nat _ hs)
theorem textSp_sound {fits : Nat → Bool} {b r s : ByteArray} (h : textSp fits b = some (r, s)) : b = txt s ++ r ∧ fits s.size = true ∧ s.size ≤ 2147483647 := by
  rw [textSp_G] at h
  obtain ⟨h1, h2, h3⟩ := textG_sound h
  have h4 : s.size ≤ 2147483647 := by omega
  exact ⟨by rw [h1, txt, num_nat _ h4], h2, h4⟩
/-- a right request -/
def rightR (c q : Int) (s : ByteArray) : Prop := 0 ≤ c ∧ c < 4 ∧ 1 ≤ q ∧ q ≤ 2147483647 ∧ s.size ≤ 40
/-- a request, its number below a bound -/
def reqG (hi : Int) (tx : ByteArray → Option (ByteArray × ByteArray)) (b : ByteArray) : Option (ByteArray × (Nat × Nat × ByteArray)) :=
  match numSp 0 3 b with
  | none => none
  | some (r1, c) =>
    match numSp 1 hi r1 with
    | none => none
    | some (r2, q) =>
      match tx r2 with
      | none => none
      | some (r3, s) => some (r3, (c, q, s))
theorem reqG_some (hi : Int) (tx : ByteArray → Option (ByteArray × ByteArray)) (b r1 r2 r3 s : ByteArray) (c q : Nat) (h1 : numSp 0 3 b = some (r1, c)) (h2 : numSp 1 hi r1 = some (r2, q)) (h3 : tx r2 = some (r3, s)) : reqG hi tx b = some (r3, (c, q, s)) := by
  unfold reqG
  rw [h1]
  dsimp only
  rw [h2]
  dsimp only
  rw [h3]
theorem reqSp_G (b : ByteArray) : reqSp b = reqG 2147483647 (textSp fun d => decide (d ≤ 40)) b := rfl
theorem reqG_put (hi : Int) (tx : ByteArray → Option (ByteArray × ByteArray)) (c q : Nat) (x s r : ByteArray) (h1 : c ≤ 3) (h2 : 1 ≤ q) (h3 : (q : Int) ≤ hi) (h4 : q < 4294967296) (h5 : tx (x ++ r) = some (r, s)) : reqG hi tx (be4 c ++ (be4 q ++ (x ++ r))) = some (r, (c, q, s)) := by
  have e1 : numSp 0 3 (be4 c ++ (be4 q ++ (x ++ r))) = some (be4 q ++ (x ++ r), c) := by rw [numSp_put _ _ _ (by omega), if_neg (by omega)]
  have e2 : numSp 1 hi (be4 q ++ (x ++ r)) = some (x ++ r, q) := by rw [numSp_put _ _ _ h4, if_neg (by omega)]
  exact reqG_some hi tx _ _ _ _ _ _ _ e1 e2 h5
theorem reqG_sound {hi : Int} {tx : ByteArray → Option (ByteArray × ByteArray)} {b r : ByteArray} {c q : Nat} {s : ByteArray} (h : reqG hi tx b = some (r, (c, q, s))) : ∃ r2, b = be4 c ++ (be4 q ++ r2) ∧ c ≤ 3 ∧ 1 ≤ q ∧ (q : Int) ≤ hi ∧ tx r2 = some (r, s) := by
  unfold reqG at h
  rcases h1 : numSp 0 3 b with _ | ⟨r1, c1⟩
  · rw [h1] at h; cases h
  rw [h1] at h
  dsimp only at h
  rcases h2 : numSp 1 hi r1 with _ | ⟨r2, q2⟩
  · rw [h2] at h; cases h
  rw [h2] at h
  dsimp only at h
  rcases h3 : tx r2 with _ | ⟨r3, s3⟩
  · rw [h3] at h; cases h
  rw [h3] at h
  simp only [Option.some.injEq, Prod.mk.injEq] at h
  obtain ⟨rfl, rfl, rfl, rfl⟩ := h
  obtain ⟨a1, a2, a3⟩ := numSp_sound h1
  obtain ⟨b1, b2, b3⟩ := numSp_sound h2
  exact ⟨r2, by rw [a1, b1], by omega, by omega, b3, h3⟩
theorem reqSp_put (c q : Nat) (s r : ByteArray) (h : rightR c q s) : reqSp (reqB c q s ++ r) = some (r, (c, q, s)) := by
  obtain ⟨h1, h2, h3, h4, h5⟩ := h
  have e : reqB (c : Int) q s ++ r = be4 c ++ (be4 q ++ (txt s ++ r)) := by
    unfold reqB; rw [num_nat c (by omega), num_nat q (by omega), ByteArray.append_assoc, ByteArray.append_assoc]
  have t1 : textSp (fun d => decide (d ≤ 40)) (txt s ++ r) = some (r, s) := (textSp_put (fun d => decide (d ≤ 40)) s r (by omega)).trans (if_pos (by simpa using h5))
  rw [e]
  exact (reqSp_G _).trans (reqG_put 2147483647 (textSp fun d => decide (d ≤ 40)) c q (txt s) s r (by omega) (by omega) h4 (by omega) t1)
theorem reqSp_sound {b r : ByteArray} {c q : Nat} {s : ByteArray} (h : reqSp b = some (r, (c, q, s))) : b = reqB c q s ++ r ∧ rightR c q s := by
  rw [reqSp_G] at h
  obtain ⟨r2, e1, h1, h2, h3, h4⟩ := reqG_sound h
  obtain ⟨d1, d2, d3⟩ := textSp_sound h4
  have d2 : s.size ≤ 40 := by simpa using d2
  refine ⟨?_, by omega, by omega, by omega, h3, d2⟩
  rw [e1, d1, reqB, num_nat c (by omega), num_nat q (by omega), ByteArray.append_assoc, ByteArray.append_assoc]
theorem reqRd_some {b r : ByteArray} {d : Nat × Nat × ByteArray} (h : reqSp b = some (r, d)) (h0 : r.size = 0) : reqRd b = some d := by unfold reqRd; rw [h]; exact if_pos h0
theorem reqRd_put (c q : Nat) (s : ByteArray) (h : rightR c q s) : reqRd (reqB c q s) = some (c, q, s) := by
  have := reqSp_put c q s ⟨#[]⟩ h
  rw [show reqB (c : Int) q s ++ ⟨#[]⟩ = reqB c q s from ba_ext (by simp)] at this
  exact reqRd_some this rfl
theorem reqRd_sound {b : ByteArray} {c q : Nat} {s : ByteArray} (h : reqRd b = some (c, q, s)) : b = reqB c q s ∧ rightR c q s := by
  unfold reqRd at h
  rcases h1 : reqSp b with _ | ⟨r, d⟩
  · rw [h1] at h; cases h
  rw [h1] at h
  dsimp only at h
  split at h
  · rename_i h0
    injection h with h
    subst h
    obtain ⟨e1, e2⟩ := reqSp_sound h1
    refine ⟨?_, e2⟩
    rw [e1, nil_size r h0]
    exact ba_ext (by simp)
  · cases h
end WW
end
section
open Go Go.RowKit
namespace Go.Proofs.Ytacnbpmoceocbaa
open WW
theorem info_builder : (Try.prog.info? 80).map (·.size) = some 2 := by kernel_rfl
set_option maxHeartbeats 1000000 in
set_option maxRecDepth 100000 in
theorem copycheck_used (b : Nat) (w : World) (h0 : w.cell? ⟨b, 0, none⟩ = some (.pointer (some ⟨b, 0, none⟩))) :
    Calls Try.prog 84 #[.pointer (some ⟨b, 0, none⟩)] w fun e w' => e = .returned (.tuple #[]) ∧ w' = w := by
  obtain ⟨j, hj, hjs⟩ := Option.map_eq_some_iff.1 info_builder
  go_enter Try.func84, Try.ntmps84
  go_wp2
  rw [Lib.run_neq_ptr_same w _ Try.underlying78 hj]
  go_wp2
  go_end0
  exact ⟨rfl, rfl⟩
set_option maxHeartbeats 1000000 in
set_option maxRecDepth 100000 in
theorem copycheck_fresh (b : Nat) (w : World) (h0 : w.cell? ⟨b, 0, none⟩ = some (.pointer none)) (hsh : w.shape? b = some (80, 2)) (hfz : w.frozen? ⟨b, 0, none⟩ = false) :
    Calls Try.prog 84 #[.pointer (some ⟨b, 0, none⟩)] w fun e w' => e = .returned (.tuple #[]) ∧ w' = w.setCell ⟨b, 0, none⟩ (.pointer (some ⟨b, 0, none⟩)) := by
  obtain ⟨j, hj, hjs⟩ := Option.map_eq_some_iff.1 info_builder
  go_enter Try.func84, Try.ntmps84
  go_wp2
  rw [Lib.run_to_unsafe w ⟨b, 0, none⟩ Try.underlying78 Try.underlying120 hj (by rw [hjs]; decide) hsh (Nat.zero_lt_succ 1)]
  simp only [Result.andThen]
  rw [Oper.upon_value]
  go_wp2
  rw [run_callFunc_extern Try.func101 (by kernel_rfl) (by kernel_rfl) (by kernel_rfl) (e := Extern.AbiNoEscape.same) (by kernel_rfl)]
  rw [Lib.run_noEscape]
  simp only [Result.andThen]
  rw [Oper.upon_value]
  go_wp2
  rw [Lib.run_from_unsafe w ⟨b, 0, none⟩ Try.underlying120 Try.underlying78 hj hsh (by kernel_rfl)]
  simp only [Result.andThen]
  rw [Oper.upon_value]
  go_wp2
  go_end0
  exact ⟨rfl, rfl⟩
theorem copycheck_any (B b : Nat) (bs : List Value) (w : World) (h : Lib.IsBuilder 80 5 B b bs w) :
    Calls Try.prog 84 #[.pointer (some ⟨b, 0, none⟩)] w fun e w' => e = .returned (.tuple #[]) ∧ (Lib.BuilderAt 80 5 B b (.pointer (some ⟨b, 0, none⟩)) bs w' ∧ Below B w w') := by
  rcases h with h | h
  · refine (copycheck_fresh b w h.cell0 h.shape h.frozen0).mono ?_
    rintro e w' ⟨rfl, rfl⟩
    exact ⟨rfl, h.used _, (Below.refl B w).setCell (p := ⟨b, 0, none⟩) h.1 _⟩
  · refine (copycheck_used b w h.cell0).mono ?_
    rintro e w' ⟨rfl, rfl⟩
    exact ⟨rfl, h, Below.refl B _⟩
theorem info_u8 : (Try.prog.info? 5).map (fun i => (i.zero, i.size, i.bytes)) = some (some (.int .u8 0), 1, 1) := by kernel_rfl
theorem cells_u8 : Try.prog.cellsOf 5 = 1 := by kernel_rfl
set_option maxHeartbeats 2000000 in
set_option maxRecDepth 100000 in
theorem writestr_any (B b : Nat) (bs : List Value) (s : ByteArray) (w : World) (h : Lib.IsBuilder 80 5 B b bs w) (hlen : bs.length + s.size ≤ 1000000) (hBw : B ≤ w.heap.size) :
    Calls Try.prog 63 #[.pointer (some ⟨b, 0, none⟩), .string s] w fun e w' => e = .returned (.tuple #[.int .i64 s.size, .nilIface]) ∧ (Lib.IsBuilder 80 5 B b (bs ++ Lib.strCells s) w' ∧ Below B w w') := by
  obtain ⟨i0, hi, hz0, hz1, hz2⟩ := info_parts info_u8
  go_enter Try.func63, Try.ntmps63
  go_wp2_with fail
  refine (copycheck_any B b bs _ h).mono ?_
  rintro e w1 ⟨rfl, h1, hb1⟩
  obtain ⟨hB, v, hbk, hown, hne⟩ := h1
  have c0 : w1.cell? ⟨b, 0, none⟩ = some (.pointer (some ⟨b, 0, none⟩)) := by rw [Lib.cell_of_heap hbk]; rfl
  have c1 : w1.cell? ⟨b, 1, none⟩ = some v := by rw [Lib.cell_of_heap hbk]; rfl
  go_wp2_with (at_builtin; refine Lib.wpList_append_own_string _ rfl _ _ 59 9 rfl B 5 i0 (by kernel_rfl) (by kernel_rfl) hi hz0 hz1 hz2 _ _ _ rfl hown s rfl ?c3 ?c4 ?c5 ?_)
  case c3 => unfold maxLen; omega
  case c4 => omega
  case c5 => have := hb1.size; omega
  intro v' w2 hown' hgrow _
  have hlt : b < w1.heap.size := by
    rcases Nat.lt_or_ge b w1.heap.size with h' | h'
    · exact h'
    · simp [Array.getElem?_eq_none h'] at hbk
  have hb2 : w2.heap[b]? = some (.cells #[.pointer (some ⟨b, 0, none⟩), v] 80 (0, 0)) := by
    rw [hgrow.block b hlt (fun e => hne e.symm)]
    exact hbk
  have d0 : w2.cell? ⟨b, 0, none⟩ = some (.pointer (some ⟨b, 0, none⟩)) := by rw [Lib.cell_of_heap hb2]; rfl
  have d1 : w2.cell? ⟨b, 1, none⟩ = some v := by rw [Lib.cell_of_heap hb2]; rfl
  have f1 : w2.frozen? ⟨b, 1, none⟩ = false := Lib.frozen_of_heap hb2 1
  obtain ⟨ao, n', cap, rfl⟩ : ∃ ao n' cap, v' = .slice ao n' cap := by
    rcases hown'.2 with ⟨hv, _⟩ | ⟨g, cap, cur, hv, _⟩
    · exact ⟨_, _, _, hv⟩
    · exact ⟨_, _, _, hv⟩
  go_wp2
  go_ret2
  refine ⟨rfl, Or.inr ?_, ?_⟩
  · exact Lib.BuilderAt.put (T := 80) (e := 5) hB hb2 (bs' := bs ++ Lib.strCells s) (by simpa [Lib.strCells_length] using hown') (by decide)
  · exact (hb1.grown hgrow (by have := hb1.size; omega) (fun k hk => (hown.lt k hk).1)).setCell (p := ⟨b, 1, none⟩) hB _
set_option maxHeartbeats 2000000 in
set_option maxRecDepth 100000 in
theorem bstring_any (B b : Nat) (l : List UInt8) (w : World) (h : Lib.IsBuilder 80 5 B b (Lib.byteCells l) w) (h0 : l ≠ []) :
    Calls Try.prog 64 #[.pointer (some ⟨b, 0, none⟩)] w fun e w' => e = .returned (.string ⟨l.toArray⟩) ∧ Below B w w' := by
  obtain ⟨p, hB, v, hbk, hown, hne⟩ : ∃ p, Lib.BuilderAt 80 5 B b p (Lib.byteCells l) w := by
    rcases h with h | h
    · exact ⟨_, h⟩
    · exact ⟨_, h⟩
  have hl0 : l.length ≠ 0 := by simpa using h0
  rw [Lib.byteCells_length] at hown
  obtain ⟨g, cap, cur, rfl, hbg, hg, hnc, hcm, hcs, htake⟩ : ∃ g cap cur, v = .slice (some ⟨g, 0, none⟩) l.length cap ∧ B ≤ g ∧ w.heap[g]? = some (.cells cur 5 (0, 0)) ∧ l.length ≤ cap ∧ cap ≤ maxLen ∧ cur.size = cap * 1 ∧ cur.toList.take (l.length * 1) = Lib.byteCells l := by
    rcases hown.2 with ⟨_, hz⟩ | ⟨g, cap, cur, hv, r⟩
    · exact absurd hz hl0
    · exact ⟨g, cap, cur, hv, r⟩
  have c1 : w.drew.cell? ⟨b, 1, none⟩ = some (.slice (some ⟨g, 0, none⟩) l.length cap) := by
    have : w.drew.heap[b]? = some (.cells #[p, .slice (some ⟨g, 0, none⟩) l.length cap] 80 (0, 0)) := hbk
    rw [Lib.cell_of_heap this]; rfl
  have hSD : (Builtin.unsafeSliceData_ #[59] 114 #[.slice (some ⟨g, 0, none⟩) l.length cap]).run Try.prog w.drew = .ok (.pointer (some ⟨g, 0, none⟩)) w.drew :=
    Lib.run_unsafeSliceData_row _ _ _ _ _ _ (by omega)
  have hUS : (Builtin.unsafeString_ #[114, 3] 9 #[.pointer (some ⟨g, 0, none⟩), .int .i64 l.length]).run Try.prog w.drew = .ok (.string ⟨l.toArray⟩) (w.drew.freeze ⟨g, 0, none⟩ l.length) := by
    refine Lib.run_unsafeString_row w.drew 114 3 9 5 (by kernel_rfl) cells_u8 g cur.size (by have hg' : w.drew.heap[g]? = some (.cells cur 5 (0, 0)) := hg; simp [World.shape?, hg']) l h0 (by omega) (by unfold maxLen at hcm; omega) ?_
    intro j x hx
    exact hown.cells (g := g) rfl j (.int .u8 x.toNat) (by simp [Lib.byteCells, hx])
  go_enter Try.func64, Try.ntmps64
  go_wp2
  go_region
  all_goals (go_wp2; go_ret; exact ⟨rfl, Lib.below_freeze (Below.drew (Below.refl B w)) (p := ⟨g, 0, none⟩) hbg _⟩)
end Go.Proofs.Ytacnbpmoceocbaa
end
section
open Go Go.RowKit
namespace WW
open BB
theorem isBuilder_on {T e : TypeId} {B b : Nat} {bs : List Value} {w w' : World} (h : Lib.IsBuilder T e B b bs w) (hb : Below w.heap.size w w') : Lib.IsBuilder T e B b bs w' := by
  have key : ∀ p, Lib.BuilderAt T e B b p bs w → Lib.BuilderAt T e B b p bs w' := by
    rintro p ⟨hB, v, hbk, ⟨hl, ho⟩, hne⟩
    have hlt : ∀ k o, w.heap[k]? = some o → k < w.heap.size := fun k o hk => by
      rcases Nat.lt_or_ge k w.heap.size with h | h
      · exact h
      · rw [Array.getElem?_eq_none h] at hk; cases hk
    refine ⟨hB, v, (hb.block b (hlt _ _ hbk)).trans hbk, ⟨hl, ?_⟩, hne⟩
    rcases ho with h0 | ⟨g, cap, cur, h1, h2, h3, h4⟩
    · exact Or.inl h0
    · exact Or.inr ⟨g, cap, cur, h1, h2, (hb.block g (hlt _ _ h3)).trans h3, h4⟩
  rcases h with h | h
  · exact Or.inl (key _ h)
  · exact Or.inr (key _ h)
/-- all bytes, one behind the other -/
def flat (xs : List ByteArray) : List UInt8 := xs.flatMap (·.data.toList)
/-- a list: how many, and each -/
def listL (xs : List ByteArray) : List UInt8 := (be4 xs.length).data.toList ++ flat xs
def listB (xs : List ByteArray) : ByteArray := ⟨(listL xs).toArray⟩
theorem flat_snoc (xs : List ByteArray) (i : Nat) (h : i < xs.length) : flat (xs.take (i + 1)) = flat (xs.take i) ++ (xs.getD i ⟨#[]⟩).data.toList := by
  unfold flat
  rw [List.take_succ_eq_append_getElem h, List.flatMap_append]
  simp [List.getD, List.getElem?_eq_getElem h]
theorem flat_take_le (xs : List ByteArray) (i : Nat) : (flat (xs.take i)).length ≤ (flat xs).length := by
  unfold flat
  conv => rhs; rw [← List.take_append_drop i xs, List.flatMap_append]
  simp
theorem be4_ne (n : Nat) (l : List UInt8) : (be4 n).data.toList ++ l ≠ [] := by simp [be4]
end WW
namespace Go.Proofs.Ytacnbpmoceocbaa
open WW BB
set_option maxRecDepth 100000 in
set_option maxHeartbeats 1000000 in
theorem tag_any (s : ByteArray) (w : World) : Calls Try.prog 70 #[.string s] w fun e w' => e = .returned (.string s) ∧ w = w' := by
  go_enter Try.func70, Try.ntmps70
  go_wp2_with fail
  go_ret
  exact ⟨rfl, rfl⟩
/-- what is written so far -/
structure LAt (w : World) (b : Nat) (xs : List ByteArray) (i : Nat) (wr : World) : Prop where
  below : Below w.heap.size w wr
  bld : Lib.IsBuilder 80 5 b b (Lib.byteCells ((be4 xs.length).data.toList ++ flat (xs.take i))) wr
  lt : b < wr.heap.size
theorem LAt.below' {w w1 : World} {b : Nat} {xs : List ByteArray} {i : Nat} (h : LAt w b xs i w1) : Below w.heap.size w w1 := h.below
theorem LAt.on {w w1 w2 : World} {b : Nat} {xs : List ByteArray} {i : Nat} (h : LAt w b xs i w1) (hb : Below w1.heap.size w1 w2) : LAt w b xs i w2 :=
  ⟨h.below.trans (hb.mono h.below.size), isBuilder_on h.bld hb, Nat.lt_of_lt_of_le h.lt hb.size⟩
set_option maxRecDepth 100000 in
set_option maxHeartbeats 2000000 in
theorem liststr_any (l : List ByteArray) (v : Value) (w : World) (hv : StrsAt w v l) (hs : (flat l).length ≤ 500000) (hn : l.length ≤ 1000) :
    Calls Try.prog 69 #[v, .func (.func 70) #[] #[]] w fun e w' => e = .returned (.string (listB l)) ∧ Below w.heap.size w w' := by
  have HV := Lib.hid hv
  have HS := Lib.hid hs
  have HN := Lib.hid hn
  obtain ⟨a0, cap, rfl, hx⟩ := hv
  clear hs hn hx
  go_enter Try.func69, Try.ntmps69
  go_wp2_with fail
  obtain ⟨b, hb⟩ : ∃ b, w.heap.size = b := ⟨_, rfl⟩
  have I0 : Lib.IsBuilder 80 5 b b [] (w.alloc (.cells #[.pointer none, .slice none 0 0] 80)) := by rw [← hb]; exact Lib.fresh_isBuilder _ _ w
  have b0 := (Below.refl w.heap.size w).alloc (Nat.le_refl _) (.cells #[.pointer none, .slice none 0 0] 80)
  have z0 : b < (w.alloc (.cells #[.pointer none, .slice none 0 0] 80)).heap.size := by rw [← hb]; simp
  have HB := Lib.hid hb
  rw [hb]
  clear hb
  generalize w.alloc (.cells #[.pointer none, .slice none 0 0] 80) = w1 at *
  refine (number_in l.length (by have := HN.out; omega) w1).mono ?_
  rintro e w2 ⟨rfl, hb2⟩
  have I2 := Lib.hid (isBuilder_on I0 hb2)
  have B2 := Lib.hid (b0.trans (hb2.mono b0.size))
  have Z2 := Lib.hid (Nat.lt_of_lt_of_le z0 hb2.size)
  clear I0 b0 z0 hb2
  go_wp2_with fail
  refine (writestr_any b b [] (be4 l.length) w2 I2.out (by show 0 + 4 ≤ _; omega) (Nat.le_of_lt Z2.out)).mono ?_
  rintro e w3 ⟨rfl, hI3, hb3⟩
  have L3 : Hid (LAt w b l 0 w3) := Lib.hid ⟨B2.out.trans (hb3.mono (by rw [HB.out]; exact Nat.le_refl _)), by simpa [flat, Lib.strCells_eq] using hI3, Nat.lt_of_lt_of_le Z2.out hb3.size⟩
  clear hI3 hb3 I2 B2 Z2
  go_wp2_with fail
  have L3' := L3.out
  clear L3
  go_loopw [14] (fun v wr => ∃ i : Nat, i ≤ l.length ∧ v = .int .i64 (i : Int) ∧ LAt w b l i wr) (fun v _ => l.length - (intOf v).toNat)
  case atStart => exact ⟨0, Nat.zero_le _, rfl, L3'⟩
  case round =>
    clear L3'
    clear w3
    obtain ⟨i, hi, rfl, hL⟩ := hrel
    have HL := Lib.hid hL
    by_cases hlt : i < l.length
    · have hlt' : (i : Int) < (l.length : Int) := by omega
      have i0 : (0 : Int) ≤ (i : Int) := by omega
      have ib : (i : Int) ≤ 1000 := by have := HN.out; omega
      obtain ⟨a1, cap1, he, hv | ⟨gb, off, rfl, hbw, hcell⟩⟩ := HV.out
      · rw [hv] at hlt; simp at hlt
      injection he with e1 _ e3
      subst e1 e3
      have hcl := (hL.below.cell (p := ⟨gb, off + i, none⟩) hbw).trans (hcell i hlt)
      have HFS := Lib.hid (flat_snoc l i hlt)
      have HLE := Lib.hid (flat_take_le l (i + 1))
      obtain ⟨s, hs⟩ : ∃ s, l.getD i ⟨#[]⟩ = s := ⟨_, rfl⟩
      rw [hs] at hcl HFS
      have HLT := Lib.hid hlt
      clear hs hL hi hlt hcell hbw
      go_wp2_with (go_at_call 70; refine (tag_any s _).mono ?_; rintro e w4 ⟨rfl, rfl⟩)
      refine (writestr_any b b _ s wr HL.out.bld (by have h1 := HLE.out; have h2 := HS.out; have h3 := HFS.out; rw [h3, List.length_append] at h1; have : s.data.toList.length = s.size := by rw [Array.length_toList]; rfl
                                                     rw [Lib.byteCells_length, List.length_append]; show 4 + _ + _ ≤ _; omega) (Nat.le_of_lt HL.out.lt)).mono ?_
      rintro e w5 ⟨rfl, hI5, hb5⟩
      have L5 : Hid (LAt w b l (i + 1) w5) := Lib.hid ⟨HL.out.below.trans (hb5.mono (by rw [HB.out]; exact Nat.le_refl _)), by rw [HFS.out, ← List.append_assoc, Lib.byteCells_append]; exact hI5, Nat.lt_of_lt_of_le HL.out.lt hb5.size⟩
      clear hI5 hb5 hcl
      go_wp2_with fail
      go_roundw
      case rel => exact ⟨i + 1, by have := HLT.out; omega, by go_num, L5.out⟩
      case measure => have := HLT.out; simp [intOf]; omega
    · obtain rfl : i = l.length := by omega
      have hlt' : ¬ (l.length : Int) < (l.length : Int) := by omega
      have hbs := hL.bld
      rw [List.take_length] at hbs
      have HBS := Lib.hid hbs
      clear hL hi hlt hbs
      go_wp2_with fail
      refine (bstring_any b b _ wr HBS.out (be4_ne _ _)).mono ?_
      rintro e w4 ⟨rfl, hb4⟩
      go_wp2_with fail
      go_ret
      exact ⟨rfl, HL.out.below.trans (hb4.mono (by rw [HB.out]; exact Nat.le_refl _))⟩
end Go.Proofs.Ytacnbpmoceocbaa
end
section
open Go Go.RowKit
namespace WW
open BB
/-- a signature's bytes -/
def sigB (f : Int) (ts : List ByteArray) : ByteArray := num f ++ listB ts
/-- v is a slice of signatures -/
def SigsAt (w : World) (v : Value) (l : List (Int × List ByteArray)) : Prop :=
  ∃ a0 cap, v = .slice a0 l.length cap ∧ (l = [] ∨ ∃ b off, a0 = some ⟨b, off, none⟩ ∧ b < w.heap.size ∧
    ∀ i, i < l.length → ∃ tv, w.cell? ⟨b, off + i * 2, none⟩ = some (.int .i64 (l.getD i (0, [])).1) ∧ w.cell? ⟨b, off + i * 2 + 1, none⟩ = some tv ∧ StrsAt w tv (l.getD i (0, [])).2)
theorem SigsAt.later {w w' : World} {v : Value} {l : List (Int × List ByteArray)} (h : SigsAt w v l) (hb : Below w.heap.size w w') : SigsAt w' v l := by
  obtain ⟨a0, cap, rfl, h | ⟨b, off, rfl, hl, hc⟩⟩ := h
  · exact ⟨a0, cap, rfl, Or.inl h⟩
  · refine ⟨_, cap, rfl, Or.inr ⟨b, off, rfl, Nat.lt_of_lt_of_le hl hb.size, fun i hi => ?_⟩⟩
    obtain ⟨tv, h1, h2, h3⟩ := hc i hi
    exact ⟨tv, (hb.cell (p := ⟨b, off + i * 2, none⟩) hl).trans h1, (hb.cell (p := ⟨b, off + i * 2 + 1, none⟩) hl).trans h2, h3.later hb⟩
/-- the signatures' bytes -/
def sigsB (l : List (Int × List ByteArray)) : List ByteArray := l.map fun p => sigB p.1 p.2
theorem keep2 {w W w1 : World} {g : Nat} {v0 v1 : Value} {B : Nat} (h : W.cell? ⟨g, 0, none⟩ = some v0 ∧ W.cell? ⟨g, 1, none⟩ = some v1 ∧ Below B w W ∧ B ≤ W.heap.size) (hb : Below W.heap.size W w1) :
    w1.cell? ⟨g, 0, none⟩ = some v0 ∧ w1.cell? ⟨g, 1, none⟩ = some v1 ∧ Below B w w1 ∧ B ≤ w1.heap.size := by
  have hl := World.block_lt_of_cell? W _ h.1
  exact ⟨(hb.cell (p := ⟨g, 0, none⟩) hl).trans h.1, (hb.cell (p := ⟨g, 1, none⟩) hl).trans h.2.1, h.2.2.1.trans (hb.mono h.2.2.2), Nat.le_trans h.2.2.2 hb.size⟩
theorem flat_size (xs : List ByteArray) : (listB xs).size = 4 + (flat xs).length := by
  show (listL xs).toArray.size = _
  rw [List.size_toArray, listL, List.length_append]; rfl
end WW
namespace Go.Proofs.Ytacnbpmoceocbaa
open WW BB
set_option maxRecDepth 100000 in
set_option maxHeartbeats 2000000 in
theorem sig_any (f : Int) (tv : Value) (ts : List ByteArray) (w : World) (hv : StrsAt w tv ts) (hs : (flat ts).length ≤ 500000) (hn : ts.length ≤ 1000) :
    Calls Try.prog 43 #[.agg #[.int .i64 f, tv]] w fun e w' => e = .returned (.string (sigB f ts)) ∧ Below w.heap.size w w' := by
  have h1 : ¬ 9223372036854775807 < (num f).size + (listB ts).size := by rw [num_size, flat_size]; omega
  have HV := Lib.hid hv
  have HS := Lib.hid hs
  have HN := Lib.hid hn
  obtain ⟨a0, cap, rfl, hx⟩ := hv
  clear hs hn hx
  go_enter Try.func43, Try.ntmps43
  go_wp2_with fail
  have c0 := cell_new w #[.int .i64 f, .slice a0 ts.length cap] 37 0 _ rfl
  have c1 := cell_new w #[.int .i64 f, .slice a0 ts.length cap] 37 1 _ rfl
  have b0 : Below w.heap.size w (w.alloc (.cells #[.int .i64 f, .slice a0 ts.length cap] 37)) := (Below.refl _ _).alloc (Nat.le_refl _) _
  generalize w.alloc (.cells #[.int .i64 f, .slice a0 ts.length cap] 37) = w0 at *
  have z0 := b0.size
  obtain ⟨g, hg⟩ : ∃ g, w.heap.size = g := ⟨_, rfl⟩
  rw [hg] at c0 c1 b0 z0 ⊢
  have HG := Lib.hid hg
  clear hg
  have hst : w0.drew.cell? ⟨g, 0, none⟩ = some (.int .i64 f) ∧ w0.drew.cell? ⟨g, 1, none⟩ = some (.slice a0 ts.length cap) ∧ Below g w w0.drew ∧ g ≤ w0.drew.heap.size := ⟨c0, c1, b0.drew, z0⟩
  go_region_held3 (fun w' => w'.cell? ⟨g, 0, none⟩ = some (.int .i64 f) ∧ w'.cell? ⟨g, 1, none⟩ = some (.slice a0 ts.length cap) ∧ Below g w w' ∧ g ≤ w'.heap.size)
    (first | exact hst | exact hk)
    (first
      | (go_at_call 10; refine (number_any _ _).mono ?_; rintro e w1 ⟨rfl, hb1⟩; have hk := keep2 (w := w) (g := g) (v0 := .int .i64 f) (v1 := .slice a0 ts.length cap) (B := g) (by assumption) hb1; have HK := Lib.hid hk.2.2.1)
      | (go_at_call 69; refine (liststr_any ts _ _ (HV.out.later (by rw [HG.out]; exact HK.out)) HS.out HN.out).mono ?_; rintro e w1 ⟨rfl, hb1⟩; have hk := keep2 (w := w) (g := g) (v0 := .int .i64 f) (v1 := .slice a0 ts.length cap) (B := g) (by assumption) hb1))
  go_wp2_with fail
  go_ret
  exact ⟨rfl, by rw [HG.out]; exact hk.2.2.1⟩
set_option maxRecDepth 100000 in
set_option maxHeartbeats 2000000 in
theorem listsig_any (l : List (Int × List ByteArray)) (v : Value) (w : World) (hv : SigsAt w v l) (hs : (flat (sigsB l)).length ≤ 500000) (hn : l.length ≤ 1000) (hsm : ∀ i, i < l.length → (flat (l.getD i (0, [])).2).length ≤ 500000 ∧ (l.getD i (0, [])).2.length ≤ 1000) :
    Calls Try.prog 42 #[v, .func (.func 43) #[] #[]] w fun e w' => e = .returned (.string (listB (sigsB l))) ∧ Below w.heap.size w w' := by
  have HV := Lib.hid hv
  have HS := Lib.hid hs
  have HN := Lib.hid hn
  have HM := Lib.hid hsm
  have hXL : (sigsB l).length = l.length := by simp [sigsB]
  have HXL := Lib.hid hXL
  obtain ⟨a0, cap, rfl, hx⟩ := hv
  clear hs hn hx hsm hXL
  go_enter Try.func42, Try.ntmps42
  go_wp2_with fail
  obtain ⟨b, hb⟩ : ∃ b, w.heap.size = b := ⟨_, rfl⟩
  have I0 : Lib.IsBuilder 80 5 b b [] (w.alloc (.cells #[.pointer none, .slice none 0 0] 80)) := by rw [← hb]; exact Lib.fresh_isBuilder _ _ w
  have b0 := (Below.refl w.heap.size w).alloc (Nat.le_refl _) (.cells #[.pointer none, .slice none 0 0] 80)
  have z0 : b < (w.alloc (.cells #[.pointer none, .slice none 0 0] 80)).heap.size := by rw [← hb]; simp
  have HB := Lib.hid hb
  rw [hb]
  clear hb
  generalize w.alloc (.cells #[.pointer none, .slice none 0 0] 80) = w1 at *
  refine (number_in l.length (by have := HN.out; omega) w1).mono ?_
  rintro e w2 ⟨rfl, hb2⟩
  have I2 := Lib.hid (isBuilder_on I0 hb2)
  have B2 := Lib.hid (b0.trans (hb2.mono b0.size))
  have Z2 := Lib.hid (Nat.lt_of_lt_of_le z0 hb2.size)
  clear I0 b0 z0 hb2
  go_wp2_with fail
  refine (writestr_any b b [] (be4 l.length) w2 I2.out (by show 0 + 4 ≤ _; omega) (Nat.le_of_lt Z2.out)).mono ?_
  rintro e w3 ⟨rfl, hI3, hb3⟩
  have L3 : Hid (LAt w b (sigsB l) 0 w3) := Lib.hid ⟨B2.out.trans (hb3.mono (by rw [HB.out]; exact Nat.le_refl _)), by rw [HXL.out]; simpa [flat, Lib.strCells_eq] using hI3, Nat.lt_of_lt_of_le Z2.out hb3.size⟩
  clear hI3 hb3 I2 B2 Z2
  go_wp2_with fail
  have L3' := L3.out
  clear L3
  go_loopw [14] (fun v wr => ∃ i : Nat, i ≤ l.length ∧ v = .int .i64 (i : Int) ∧ LAt w b (sigsB l) i wr) (fun v _ => l.length - (intOf v).toNat)
  case atStart => exact ⟨0, Nat.zero_le _, rfl, L3'⟩
  case round =>
    clear L3'
    clear w3
    obtain ⟨i, hi, rfl, hL⟩ := hrel
    have HL := Lib.hid hL
    by_cases hlt : i < l.length
    · have hlt' : (i : Int) < (l.length : Int) := by omega
      have i0 : (0 : Int) ≤ (i : Int) := by omega
      have ib : (i : Int) ≤ 1000 := by have := HN.out; omega
      obtain ⟨a1, cap1, he, hv | ⟨gb, off, rfl, hbw, hcell⟩⟩ := HV.out
      · rw [hv] at hlt; simp at hlt
      injection he with e1 _ e3
      subst e1 e3
      obtain ⟨tv, hc0, hc1, hts⟩ := hcell i hlt
      have hcl0 := (hL.below.cell (p := ⟨gb, off + i * 2, none⟩) hbw).trans hc0
      have hcl1 := (hL.below.cell (p := ⟨gb, off + i * 2 + 1, none⟩) hbw).trans hc1
      have HTS := Lib.hid (hts.later hL.below')
      have HFS := Lib.hid (flat_snoc (sigsB l) i (by rw [HXL.out]; exact hlt))
      have HLE := Lib.hid (flat_take_le (sigsB l) (i + 1))
      have hgs : (sigsB l).getD i ⟨#[]⟩ = sigB (l.getD i (0, [])).1 (l.getD i (0, [])).2 := by simp [sigsB, List.getD, List.getElem?_eq_getElem hlt]
      have HMi := Lib.hid (HM.out i hlt)
      obtain ⟨f, hf⟩ : ∃ f, (l.getD i (0, [])).1 = f := ⟨_, rfl⟩
      obtain ⟨ts, ht⟩ : ∃ ts, (l.getD i (0, [])).2 = ts := ⟨_, rfl⟩
      rw [hf] at hcl0 hgs
      rw [ht] at HTS HMi hgs
      obtain ⟨s, hs⟩ : ∃ s, sigB f ts = s := ⟨_, rfl⟩
      rw [hgs, hs] at HFS
      have HSS := Lib.hid hs
      have HLT := Lib.hid hlt
      obtain ⟨ta, tcap, htv, _⟩ := HTS.out
      subst htv
      clear hgs hf ht hs hL hi hlt hcell hbw hc0 hc1 hts
      have bA := (Below.refl wr.heap.size wr).alloc (Nat.le_refl _) (.cells #[.int .i64 f, .slice ta ts.length tcap] 37)
      have LA := Lib.hid (HL.out.on bA)
      have TA := Lib.hid (HTS.out.later bA)
      clear bA
      go_wp2_with fail
      generalize wr.alloc (.cells #[.int .i64 f, .slice ta ts.length tcap] 37) = wq at *
      refine (sig_any f _ ts wq TA.out HMi.out.1 HMi.out.2).mono ?_
      rintro e w4 ⟨rfl, hb4⟩
      rw [HSS.out]
      have L4 := Lib.hid (LA.out.on hb4)
      clear hb4
      go_wp2_with fail
      refine (writestr_any b b _ s w4 L4.out.bld (by have h1 := HLE.out; have h2 := HS.out; have h3 := HFS.out; rw [h3, List.length_append] at h1; have : s.data.toList.length = s.size := by rw [Array.length_toList]; rfl
                                                     rw [Lib.byteCells_length, List.length_append]; show 4 + _ + _ ≤ _; omega) (Nat.le_of_lt L4.out.lt)).mono ?_
      rintro e w5 ⟨rfl, hI5, hb5⟩
      have L5 : Hid (LAt w b (sigsB l) (i + 1) w5) := Lib.hid ⟨L4.out.below.trans (hb5.mono (by rw [HB.out]; exact Nat.le_refl _)), by rw [HFS.out, ← List.append_assoc, Lib.byteCells_append]; exact hI5, Nat.lt_of_lt_of_le L4.out.lt hb5.size⟩
      clear hI5 hb5 hcl0 hcl1
      go_wp2_with fail
      go_roundw
      case rel => exact ⟨i + 1, by have := HLT.out; omega, by go_num, L5.out⟩
      case measure => have := HLT.out; simp [intOf]; omega
    · obtain rfl : i = l.length := by omega
      have hlt' : ¬ (l.length : Int) < (l.length : Int) := by omega
      have hbs := hL.bld
      rw [← HXL.out, List.take_length] at hbs
      have HBS := Lib.hid hbs
      clear hL hi hlt hbs
      go_wp2_with fail
      refine (bstring_any b b _ wr HBS.out (be4_ne _ _)).mono ?_
      rintro e w4 ⟨rfl, hb4⟩
      go_wp2_with fail
      go_ret
      exact ⟨rfl, HL.out.below.trans (hb4.mono (by rw [HB.out]; exact Nat.le_refl _))⟩
end Go.Proofs.Ytacnbpmoceocbaa
end
section
open Go Go.RowKit
namespace WW
open BB
/-- v is a slice of requests -/
def ReqsAt (w : World) (v : Value) (l : List (Int × Int × ByteArray)) : Prop :=
  ∃ a0 cap, v = .slice a0 l.length cap ∧ (l = [] ∨ ∃ b off, a0 = some ⟨b, off, none⟩ ∧ b < w.heap.size ∧
    ∀ i, i < l.length → w.cell? ⟨b, off + i * 3, none⟩ = some (.int .i64 (l.getD i (0, 0, ⟨#[]⟩)).1) ∧ w.cell? ⟨b, off + i * 3 + 1, none⟩ = some (.int .i64 (l.getD i (0, 0, ⟨#[]⟩)).2.1) ∧ w.cell? ⟨b, off + i * 3 + 2, none⟩ = some (.string (l.getD i (0, 0, ⟨#[]⟩)).2.2))
theorem ReqsAt.later {w w' : World} {v : Value} {l : List (Int × Int × ByteArray)} (h : ReqsAt w v l) (hb : Below w.heap.size w w') : ReqsAt w' v l := by
  obtain ⟨a0, cap, rfl, h | ⟨b, off, rfl, hl, hc⟩⟩ := h
  · exact ⟨a0, cap, rfl, Or.inl h⟩
  · refine ⟨_, cap, rfl, Or.inr ⟨b, off, rfl, Nat.lt_of_lt_of_le hl hb.size, fun i hi => ?_⟩⟩
    obtain ⟨h1, h2, h3⟩ := hc i hi
    exact ⟨(hb.cell (p := ⟨b, off + i * 3, none⟩) hl).trans h1, (hb.cell (p := ⟨b, off + i * 3 + 1, none⟩) hl).trans h2, (hb.cell (p := ⟨b, off + i * 3 + 2, none⟩) hl).trans h3⟩
/-- the requests' bytes -/
def reqsB (l : List (Int × Int × ByteArray)) : List ByteArray := l.map fun p => reqB p.1 p.2.1 p.2.2
end WW
namespace Go.Proofs.Ytacnbpmoceocbaa
open WW BB
set_option maxRecDepth 100000 in
set_option maxHeartbeats 2000000 in
theorem listreq_any (l : List (Int × Int × ByteArray)) (v : Value) (w : World) (hv : ReqsAt w v l) (hs : (flat (reqsB l)).length ≤ 500000) (hn : l.length ≤ 1000) (hsm : ∀ i, i < l.length → (l.getD i (0, 0, ⟨#[]⟩)).2.2.size ≤ 500000) :
    Calls Try.prog 38 #[v, .func (.func 18) #[] #[]] w fun e w' => e = .returned (.string (listB (reqsB l))) ∧ Below w.heap.size w w' := by
  have HV := Lib.hid hv
  have HS := Lib.hid hs
  have HN := Lib.hid hn
  have HM := Lib.hid hsm
  have hXL : (reqsB l).length = l.length := by simp [reqsB]
  have HXL := Lib.hid hXL
  obtain ⟨a0, cap, rfl, hx⟩ := hv
  clear hs hn hx hsm hXL
  go_enter Try.func38, Try.ntmps38
  go_wp2_with fail
  obtain ⟨b, hb⟩ : ∃ b, w.heap.size = b := ⟨_, rfl⟩
  have I0 : Lib.IsBuilder 80 5 b b [] (w.alloc (.cells #[.pointer none, .slice none 0 0] 80)) := by rw [← hb]; exact Lib.fresh_isBuilder _ _ w
  have b0 := (Below.refl w.heap.size w).alloc (Nat.le_refl _) (.cells #[.pointer none, .slice none 0 0] 80)
  have z0 : b < (w.alloc (.cells #[.pointer none, .slice none 0 0] 80)).heap.size := by rw [← hb]; simp
  have HB := Lib.hid hb
  rw [hb]
  clear hb
  generalize w.alloc (.cells #[.pointer none, .slice none 0 0] 80) = w1 at *
  refine (number_in l.length (by have := HN.out; omega) w1).mono ?_
  rintro e w2 ⟨rfl, hb2⟩
  have I2 := Lib.hid (isBuilder_on I0 hb2)
  have B2 := Lib.hid (b0.trans (hb2.mono b0.size))
  have Z2 := Lib.hid (Nat.lt_of_lt_of_le z0 hb2.size)
  clear I0 b0 z0 hb2
  go_wp2_with fail
  refine (writestr_any b b [] (be4 l.length) w2 I2.out (by show 0 + 4 ≤ _; omega) (Nat.le_of_lt Z2.out)).mono ?_
  rintro e w3 ⟨rfl, hI3, hb3⟩
  have L3 : Hid (LAt w b (reqsB l) 0 w3) := Lib.hid ⟨B2.out.trans (hb3.mono (by rw [HB.out]; exact Nat.le_refl _)), by rw [HXL.out]; simpa [flat, Lib.strCells_eq] using hI3, Nat.lt_of_lt_of_le Z2.out hb3.size⟩
  clear hI3 hb3 I2 B2 Z2
  go_wp2_with fail
  have L3' := L3.out
  clear L3
  go_loopw [14] (fun v wr => ∃ i : Nat, i ≤ l.length ∧ v = .int .i64 (i : Int) ∧ LAt w b (reqsB l) i wr) (fun v _ => l.length - (intOf v).toNat)
  case atStart => exact ⟨0, Nat.zero_le _, rfl, L3'⟩
  case round =>
    clear L3'
    clear w3
    obtain ⟨i, hi, rfl, hL⟩ := hrel
    have HL := Lib.hid hL
    by_cases hlt : i < l.length
    · have hlt' : (i : Int) < (l.length : Int) := by omega
      have i0 : (0 : Int) ≤ (i : Int) := by omega
      have ib : (i : Int) ≤ 1000 := by have := HN.out; omega
      obtain ⟨a1, cap1, he, hv | ⟨gb, off, rfl, hbw, hcell⟩⟩ := HV.out
      · rw [hv] at hlt; simp at hlt
      injection he with e1 _ e3
      subst e1 e3
      obtain ⟨hc0, hc1, hc2⟩ := hcell i hlt
      have hcl0 := (hL.below.cell (p := ⟨gb, off + i * 3, none⟩) hbw).trans hc0
      have hcl1 := (hL.below.cell (p := ⟨gb, off + i * 3 + 1, none⟩) hbw).trans hc1
      have hcl2 := (hL.below.cell (p := ⟨gb, off + i * 3 + 2, none⟩) hbw).trans hc2
      have HFS := Lib.hid (flat_snoc (reqsB l) i (by rw [HXL.out]; exact hlt))
      have HLE := Lib.hid (flat_take_le (reqsB l) (i + 1))
      have hgs : (reqsB l).getD i ⟨#[]⟩ = reqB (l.getD i (0, 0, ⟨#[]⟩)).1 (l.getD i (0, 0, ⟨#[]⟩)).2.1 (l.getD i (0, 0, ⟨#[]⟩)).2.2 := by simp [reqsB, List.getD, List.getElem?_eq_getElem hlt]
      have HMi := Lib.hid (HM.out i hlt)
      obtain ⟨c, hf⟩ : ∃ c, (l.getD i (0, 0, ⟨#[]⟩)).1 = c := ⟨_, rfl⟩
      obtain ⟨q, hq⟩ : ∃ q, (l.getD i (0, 0, ⟨#[]⟩)).2.1 = q := ⟨_, rfl⟩
      obtain ⟨x, ht⟩ : ∃ x, (l.getD i (0, 0, ⟨#[]⟩)).2.2 = x := ⟨_, rfl⟩
      rw [hf] at hcl0 hgs
      rw [hq] at hcl1 hgs
      rw [ht] at hcl2 HMi hgs
      obtain ⟨s, hs⟩ : ∃ s, reqB c q x = s := ⟨_, rfl⟩
      rw [hgs, hs] at HFS
      have HSS := Lib.hid hs
      have HLT := Lib.hid hlt
      clear hgs hf hq ht hs hL hi hlt hcell hbw hc0 hc1 hc2
      have bA := (Below.refl wr.heap.size wr).alloc (Nat.le_refl _) (.cells #[.int .i64 c, .int .i64 q, .string x] 34)
      have LA := Lib.hid (HL.out.on bA)
      clear bA
      go_wp2_with fail
      generalize wr.alloc (.cells #[.int .i64 c, .int .i64 q, .string x] 34) = wq at *
      refine (request_any c q x (by have := HMi.out; omega) wq).mono ?_
      rintro e w4 ⟨rfl, hb4⟩
      rw [HSS.out]
      have L4 := Lib.hid (LA.out.on hb4)
      clear hb4
      go_wp2_with fail
      refine (writestr_any b b _ s w4 L4.out.bld (by have h1 := HLE.out; have h2 := HS.out; have h3 := HFS.out; rw [h3, List.length_append] at h1; have : s.data.toList.length = s.size := by rw [Array.length_toList]; rfl
                                                     rw [Lib.byteCells_length, List.length_append]; show 4 + _ + _ ≤ _; omega) (Nat.le_of_lt L4.out.lt)).mono ?_
      rintro e w5 ⟨rfl, hI5, hb5⟩
      have L5 : Hid (LAt w b (reqsB l) (i + 1) w5) := Lib.hid ⟨L4.out.below.trans (hb5.mono (by rw [HB.out]; exact Nat.le_refl _)), by rw [HFS.out, ← List.append_assoc, Lib.byteCells_append]; exact hI5, Nat.lt_of_lt_of_le L4.out.lt hb5.size⟩
      clear hI5 hb5 hcl0 hcl1 hcl2
      go_wp2_with fail
      go_roundw
      case rel => exact ⟨i + 1, by have := HLT.out; omega, by go_num, L5.out⟩
      case measure => have := HLT.out; simp [intOf]; omega
    · obtain rfl : i = l.length := by omega
      have hlt' : ¬ (l.length : Int) < (l.length : Int) := by omega
      have hbs := hL.bld
      rw [← HXL.out, List.take_length] at hbs
      have HBS := Lib.hid hbs
      clear hL hi hlt hbs
      go_wp2_with fail
      refine (bstring_any b b _ wr HBS.out (be4_ne _ _)).mono ?_
      rintro e w4 ⟨rfl, hb4⟩
      go_wp2_with fail
      go_ret
      exact ⟨rfl, HL.out.below.trans (hb4.mono (by rw [HB.out]; exact Nat.le_refl _))⟩
end Go.Proofs.Ytacnbpmoceocbaa
end
