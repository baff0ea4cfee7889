/-
  The walk of the law BlakeApart.
-/
import Derived.Test.YtffdfggfdmmjbaaDoorPlain
open Go Go.RowKit
namespace BB
theorem st0_nil : (st0 []).Ok 0 := st0_ok []
theorem feed_ok {s : St} {L : Nat} (h : s.Ok L) (a : ByteArray) : (s.feed a.data.toList).Ok (L + a.size) := by
  have := h.feed a.data.toList
  rwa [Array.length_toList] at this
theorem dappend (a b : ByteArray) : dg (a ++ b) = outS (((st0 []).feed a.data.toList).feed b.data.toList).done := by
  unfold dg
  rw [← St.feed_append]
  simp
end BB
namespace Go.Proofs.YtffdfggfdmmjbaaDoor
open BB
set_option maxRecDepth 100000 in
theorem awake_any (w : World) (hT : Tabs w) :
    Calls Tryd.prog 8 #[] w fun e w' => e = .returned (.bool true) ∧ Below w.heap.size w w' := by
  have hs := dsize ⟨#[]⟩
  have HT := Lib.hid hT
  clear hT
  go_enter Tryd.func8, Tryd.ntmps8
  go_wp2_with fail
  refine (sum_any ⟨#[]⟩ (by decide) w HT.out).mono ?_
  rintro e w1 ⟨rfl, hb1⟩
  go_wp2_with fail
  go_ret
  exact ⟨rfl, hb1⟩
/-- two digests beside each other -/
structure Two (w0 : World) (b1 b2 : Nat) (s t : St) (w : World) : Prop where
  below : Below w0.heap.size w0 w
  d1 : Dg w b1 s
  d2 : Dg w b2 t
  tabs : Tabs w
  n1 : NoTab b1
  n2 : NoTab b2
  ne : b1 ≠ b2
  l1 : w0.heap.size ≤ b1
  l2 : w0.heap.size ≤ b2
section
variable {w0 w w' : World} {b1 b2 : Nat} {s t s' : St}
theorem Two.put1 (h : Two w0 b1 b2 s t w) (hk : Keep b1 w w') (hd : Dg w' b1 s') : Two w0 b1 b2 s' t w' :=
  ⟨h.below.trans (hk.below h.l1 h.below.size), hd, Blk.keep h.d2 hk (Ne.symm h.ne), h.tabs.keep hk h.n1, h.n1, h.n2, h.ne, h.l1, h.l2⟩
theorem Two.put2 (h : Two w0 b1 b2 s t w) (hk : Keep b2 w w') (hd : Dg w' b2 s') : Two w0 b1 b2 s s' w' :=
  ⟨h.below.trans (hk.below h.l2 h.below.size), Blk.keep h.d1 hk h.ne, hd, h.tabs.keep hk h.n2, h.n1, h.n2, h.ne, h.l1, h.l2⟩
theorem Two.on (h : Two w0 b1 b2 s t w) (hb : Below w.heap.size w w') : Two w0 b1 b2 s t w' :=
  ⟨h.below.trans (hb.mono h.below.size), Blk.below h.d1 hb (Blk.lt h.d1), Blk.below h.d2 hb (Blk.lt h.d2), h.tabs.below hb (Nat.le_refl _), h.n1, h.n2, h.ne, h.l1, h.l2⟩
end
set_option maxRecDepth 100000 in
set_option maxHeartbeats 1000000 in
theorem apart_walk (a b : ByteArray) (ha : a.size ≤ maxLen) (hb : b.size ≤ maxLen) (w : World) (hT : Tabs w) :
    Calls Tryd.prog 7 #[.string a, .string b] w fun e w' => e = .returned (.bool true) ∧ Below w.heap.size w w' := by
  unfold maxLen at ha hb
  have HT := Lib.hid hT
  have HA := Lib.hid ha
  have HB := Lib.hid hb
  by_cases hab : a.size ≤ 300 ∧ b.size ≤ 300
  · have a1 : ¬ (300 : Int) < (a.size : Int) := by omega
    have b1 : ¬ (300 : Int) < (b.size : Int) := by omega
    have HAB := Lib.hid hab
    have OK0 := Lib.hid st0_nil
    clear hT hab
    go_enter Tryd.func7, Tryd.ntmps7
    go_wp2_with fail
    refine (awake_any w HT.out).mono ?_
    rintro e w1 ⟨rfl, hb1⟩
    have HT1 := Lib.hid (HT.out.below hb1 (Nat.le_refl _))
    have HB1 := Lib.hid hb1
    clear hb1
    go_wp2_with fail
    refine (new_none w1 HT1.out).mono ?_
    rintro e w2 ⟨rfl, hb2, hd2⟩
    have HB2 := Lib.hid hb2
    have HD2 := Lib.hid hd2
    have HT2 := Lib.hid (HT1.out.below hb2 (Nat.le_refl _))
    clear hb2 hd2
    go_wp2_with fail
    refine (new_none w2 HT2.out).mono ?_
    rintro e w3 ⟨rfl, hb3, hd3⟩
    have T3 : Two w w1.heap.size w2.heap.size (st0 []) (st0 []) w3 :=
      ⟨(HB1.out.trans (HB2.out.mono HB1.out.size)).trans (hb3.mono (Nat.le_trans HB1.out.size HB2.out.size)), Blk.below HD2.out hb3 (Blk.lt HD2.out), hd3, HT2.out.below hb3 (Nat.le_refl _),
       noTab_new w1 HT1.out, noTab_new w2 HT2.out, Nat.ne_of_lt (Blk.lt HD2.out), HB1.out.size, Nat.le_trans HB1.out.size HB2.out.size⟩
    clear hb3 hd3 HB2 HD2 HT2 HB1 HT1
    generalize w1.heap.size = p at *
    generalize w2.heap.size = q at *
    clear w1 w2
    go_wp2_with fail
    refine (write_any p _ 0 OK0.out a (by have := HAB.out; omega) w3 T3.d1 T3.tabs T3.n1).mono ?_
    rintro e w4 ⟨rfl, hk4, hd4⟩
    have T4 := T3.put1 hk4 hd4
    clear hk4 hd4 T3
    clear w3
    go_wp2_with fail
    refine (write_any q _ 0 OK0.out b (by have := HAB.out; omega) w4 T4.d2 T4.tabs T4.n2).mono ?_
    rintro e w5 ⟨rfl, hk5, hd5⟩
    have T5 := T4.put2 hk5 hd5
    clear hk5 hd5 T4
    clear w4
    have OKA := Lib.hid (feed_ok OK0.out a)
    have OKB := Lib.hid (feed_ok OK0.out b)
    have OKAB := Lib.hid (feed_ok OKA.out b)
    go_wp2_with fail
    refine (write_any p _ _ OKA.out ⟨#[]⟩ (by have := HAB.out; show _ + 0 < _; omega) w5 T5.d1 T5.tabs T5.n1).mono ?_
    rintro e w6 ⟨rfl, hk6, hd6⟩
    have T6 := T5.put1 hk6 hd6
    rw [show ((⟨#[]⟩ : ByteArray).data.toList) = [] from rfl, St.feed_nil] at T6
    clear hk6 hd6 T5
    clear w5
    go_wp2_with fail
    refine (dsum_any p _ _ OKA.out (by have := HAB.out; omega) w6 T6.d1 T6.tabs T6.n1).mono ?_
    rintro e w7 ⟨rfl, hb7⟩
    have T7 := T6.on hb7
    clear hb7 T6
    clear w6
    go_wp2_with fail
    refine (write_any p _ _ OKA.out b (by have := HAB.out; omega) w7 T7.d1 T7.tabs T7.n1).mono ?_
    rintro e w8 ⟨rfl, hk8, hd8⟩
    have T8 := T7.put1 hk8 hd8
    clear hk8 hd8 T7
    clear w7
    go_wp2_with fail
    refine (sum_any a (by have := HAB.out; omega) w8 T8.tabs).mono ?_
    rintro e w9 ⟨rfl, hb9⟩
    have T9 := T8.on hb9
    clear hb9 T8
    clear w8
    rw [show outS ((st0 []).feed a.data.toList).done = dg a from rfl]
    go_wp2_with fail
    refine (dsum_any q _ _ OKB.out (by have := HAB.out; omega) w9 T9.d2 T9.tabs T9.n2).mono ?_
    rintro e w10 ⟨rfl, hb10⟩
    have T10 := T9.on hb10
    clear hb10 T9
    clear w9
    rw [show outS ((st0 []).feed b.data.toList).done = dg b from rfl]
    go_wp2_with fail
    refine (sum_any b (by have := HAB.out; omega) w10 T10.tabs).mono ?_
    rintro e w11 ⟨rfl, hb11⟩
    have T11 := T10.on hb11
    clear hb11 T10
    clear w10
    go_wp2_with fail
    refine (dsum_any p _ _ OKAB.out (by have := HAB.out; omega) w11 T11.d1 T11.tabs T11.n1).mono ?_
    rintro e w12 ⟨rfl, hb12⟩
    have T12 := T11.on hb12
    clear hb12 T11
    clear w11
    rw [← dappend]
    have hsz : (a ++ b).size = a.size + b.size := by simp
    have HSZ := Lib.hid hsz
    clear hsz
    go_wp2_with fail
    refine (sum_any (a ++ b) (by have := HAB.out; have := HSZ.out; omega) w12 T12.tabs).mono ?_
    rintro e w13 ⟨rfl, hb13⟩
    have T13 := T12.on hb13
    clear hb13 T12
    go_wp2_with fail
    go_ret
    exact ⟨rfl, T13.below⟩
  · have hor : 300 < a.size ∨ a.size ≤ 300 ∧ 300 < b.size := by omega
    clear hab hT
    rcases hor with h1 | ⟨h1, h2⟩
    · have a1 : (300 : Int) < (a.size : Int) := by omega
      clear h1
      go_enter Tryd.func7, Tryd.ntmps7
      go_wp2_with fail
      refine (awake_any w HT.out).mono ?_
      rintro e w1 ⟨rfl, hb1⟩
      have HB1 := Lib.hid hb1
      clear hb1
      go_wp2_with fail
      refine (awake_any w1 (HT.out.below HB1.out (Nat.le_refl _))).mono ?_
      rintro e w2 ⟨rfl, hb2⟩
      go_wp2_with fail
      go_ret
      exact ⟨rfl, HB1.out.trans (hb2.mono HB1.out.size)⟩
    · have a1 : ¬ (300 : Int) < (a.size : Int) := by omega
      have b1 : (300 : Int) < (b.size : Int) := by omega
      clear h1 h2
      go_enter Tryd.func7, Tryd.ntmps7
      go_wp2_with fail
      refine (awake_any w HT.out).mono ?_
      rintro e w1 ⟨rfl, hb1⟩
      have HB1 := Lib.hid hb1
      clear hb1
      go_wp2_with fail
      refine (awake_any w1 (HT.out.below HB1.out (Nat.le_refl _))).mono ?_
      rintro e w2 ⟨rfl, hb2⟩
      go_wp2_with fail
      go_ret
      exact ⟨rfl, HB1.out.trans (hb2.mono HB1.out.size)⟩
end Go.Proofs.YtffdfggfdmmjbaaDoor
