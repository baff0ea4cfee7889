/-
  The walk of the law CountLists, from what the code's Distinct and Top answer.
-/
import Derived.Test.YtcmgiiobjminlaaLLawS
open Go Go.RowKit
namespace Go.Proofs.Ytcmgiiobjminlaa
open WW BB
def DistinctOK : Prop := ∀ (l : List Int) (v : Value) (n : Int) (w : World), IntsAt w v l → l.length ≤ 100 → n ≤ 9223372036854775807 → Calls Try.prog 13 #[v, .int .i64 n] w fun e w' => e = .returned (.int .i64 ((onceL l n).length : Int)) ∧ Below w.heap.size w w'
def TopOK : Prop := ∀ (l : List Int) (v : Value) (k : Int) (w : World), IntsAt w v l → l.length ≤ 100 → Calls Try.prog 15 #[v, .int .i64 k] w fun e w' => e = .returned (.int .i64 (if 1 ≤ k ∧ k ≤ (l.length : Int) then topI l k else 0)) ∧ Below w.heap.size w w'
theorem ctop_is (hT : TopOK) (l : List Int) (v : Value) (k T : Int) (hk : (if 1 ≤ k ∧ k ≤ (l.length : Int) then topI l k else 0) = T) (w : World) (hv : IntsAt w v l) (hl : l.length ≤ 100) : Calls Try.prog 15 #[v, .int .i64 k] w fun e w' => e = .returned (.int .i64 T) ∧ Below w.heap.size w w' := hk ▸ hT l v k w hv hl
theorem rtop_is (l : List Int) (v : Value) (k T : Int) (hk : topI l k = T) (w : World) (hv : IntsAt w v l) (hl : l.length ≤ 100) : Calls Try.prog 12 #[v, .int .i64 k] w fun e w' => e = .returned (.int .i64 T) ∧ Below w.heap.size w w' := hk ▸ top_any l v k w hv (by omega)
theorem distinct_is (hD : DistinctOK) (l o : List Int) (v : Value) (n : Int) (ho : onceL l n = o) (w : World) (hv : IntsAt w v l) (hl : l.length ≤ 100) (hn : n ≤ 9223372036854775807) : Calls Try.prog 13 #[v, .int .i64 n] w fun e w' => e = .returned (.int .i64 (o.length : Int)) ∧ Below w.heap.size w w' := ho ▸ hD l v n w hv hl hn
theorem once_is (l o : List Int) (v : Value) (n : Int) (ho : onceL l n = o) (w : World) (hv : IntsAt w v l) (hl : l.length ≤ 100) : Calls Try.prog 14 #[v, .int .i64 n] w fun e w' => ∃ a0 cap, e = .returned (.slice a0 o.length cap) ∧ IntsAt w' (.slice a0 o.length cap) o ∧ Below w.heap.size w w' := by
  refine (once_any l v n w hv (by omega)).mono ?_
  rintro e w' ⟨v', rfl, h, hb⟩
  rw [ho] at h
  obtain ⟨a0, cap, rfl, _⟩ := id h
  exact ⟨a0, cap, rfl, h, hb⟩
set_option maxRecDepth 100000 in
set_option maxHeartbeats 2000000 in
theorem countLists_of (hD : DistinctOK) (hT : TopOK) (v : Value) (l : List Int) (n k : Int) (w : World) (hv : IntsAt w v l) (hr : -9223372036854775808 ≤ n ∧ n ≤ 9223372036854775807) : Calls Try.prog 4 #[v, .int .i64 n, .int .i64 k] w fun e w' => e = .returned (.bool true) ∧ Below w.heap.size w w' := by
  have HV := Lib.hid hv
  have HR := Lib.hid hr
  obtain ⟨a0, cap, rfl, _, hx⟩ := hv
  clear hx hr
  obtain ⟨o, ho⟩ : ∃ o, onceL l n = o := ⟨_, rfl⟩
  have HO := Lib.hid ho
  clear ho
  by_cases hl : (100 : Int) < (l.length : Int)
  · go_enter Try.func4, Try.ntmps4
    go_wp2_with (go_at_call 10; refine (awake4_any _).mono ?_; rintro e w' ⟨rfl, rfl⟩)
    go_ret
    exact ⟨rfl, Below.refl _ _⟩
  · have HL := Lib.hid (show l.length ≤ 100 by omega)
    by_cases hk : 1 ≤ k ∧ k ≤ (l.length : Int)
    · obtain ⟨T, hT1⟩ : ∃ T, topI l k = T := ⟨_, rfl⟩
      have HT1 := Lib.hid hT1
      have HT2 := Lib.hid (show (if 1 ≤ k ∧ k ≤ (l.length : Int) then topI l k else 0) = T by rw [if_pos hk]; exact hT1)
      have k1 := hk.1
      have k2 := hk.2
      clear hT1 hk
      go_enter Try.func4, Try.ntmps4
      go_wp2_with (go_at_call 10; refine (awake4_any _).mono ?_; rintro e w' ⟨rfl, rfl⟩)
      refine (rtop_is l _ k T HT1.out w HV.out HL.out).mono ?_
      rintro e w1 ⟨rfl, hb1⟩
      have B1 := Lib.hid hb1
      clear hb1
      go_wp2_with fail
      refine (distinct_is hD l o _ n HO.out w1 (HV.out.later B1.out) HL.out HR.out.2).mono ?_
      rintro e w2 ⟨rfl, hb2⟩
      have B2 := Lib.hid (B1.out.trans (hb2.mono B1.out.size))
      clear hb2 B1
      go_wp2_with fail
      refine (once_is l o _ n HO.out w2 (HV.out.later B2.out) HL.out).mono ?_
      rintro e w3 ⟨a1, cap1, rfl, _, hb3⟩
      have B3 := Lib.hid (B2.out.trans (hb3.mono B2.out.size))
      clear hb3 B2
      go_wp2_with fail
      refine (ctop_is hT l _ k T HT2.out w3 (HV.out.later B3.out) HL.out).mono ?_
      rintro e w4 ⟨rfl, hb4⟩
      have B4 := Lib.hid (B3.out.trans (hb4.mono B3.out.size))
      clear hb4 B3
      go_wp2_with fail
      go_ret
      exact ⟨rfl, B4.out⟩
    · have HT2 := Lib.hid (show (if 1 ≤ k ∧ k ≤ (l.length : Int) then topI l k else 0) = 0 from if_neg hk)
      by_cases k1 : 1 ≤ k
      · have k2 : ¬ k ≤ (l.length : Int) := fun h => hk ⟨k1, h⟩
        clear hk
        go_enter Try.func4, Try.ntmps4
        go_wp2_with (go_at_call 10; refine (awake4_any _).mono ?_; rintro e w' ⟨rfl, rfl⟩)
        refine (distinct_is hD l o _ n HO.out w HV.out HL.out HR.out.2).mono ?_
        rintro e w2 ⟨rfl, hb2⟩
        have B2 := Lib.hid hb2
        clear hb2
        go_wp2_with fail
        refine (once_is l o _ n HO.out w2 (HV.out.later B2.out) HL.out).mono ?_
        rintro e w3 ⟨a1, cap1, rfl, _, hb3⟩
        have B3 := Lib.hid (B2.out.trans (hb3.mono B2.out.size))
        clear hb3 B2
        go_wp2_with fail
        refine (ctop_is hT l _ k 0 HT2.out w3 (HV.out.later B3.out) HL.out).mono ?_
        rintro e w4 ⟨rfl, hb4⟩
        have B4 := Lib.hid (B3.out.trans (hb4.mono B3.out.size))
        clear hb4 B3
        go_wp2_with fail
        go_ret
        exact ⟨rfl, B4.out⟩
      · clear hk
        go_enter Try.func4, Try.ntmps4
        go_wp2_with (go_at_call 10; refine (awake4_any _).mono ?_; rintro e w' ⟨rfl, rfl⟩)
        refine (distinct_is hD l o _ n HO.out w HV.out HL.out HR.out.2).mono ?_
        rintro e w2 ⟨rfl, hb2⟩
        have B2 := Lib.hid hb2
        clear hb2
        go_wp2_with fail
        refine (once_is l o _ n HO.out w2 (HV.out.later B2.out) HL.out).mono ?_
        rintro e w3 ⟨a1, cap1, rfl, _, hb3⟩
        have B3 := Lib.hid (B2.out.trans (hb3.mono B2.out.size))
        clear hb3 B2
        go_wp2_with fail
        refine (ctop_is hT l _ k 0 HT2.out w3 (HV.out.later B3.out) HL.out).mono ?_
        rintro e w4 ⟨rfl, hb4⟩
        have B4 := Lib.hid (B3.out.trans (hb4.mono B3.out.size))
        clear hb4 B3
        go_wp2_with fail
        go_ret
        exact ⟨rfl, B4.out⟩
end Go.Proofs.Ytcmgiiobjminlaa
