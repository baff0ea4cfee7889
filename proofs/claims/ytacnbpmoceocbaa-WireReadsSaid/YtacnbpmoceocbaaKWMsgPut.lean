/-
  A message's bytes: the code's, and the reference's.
-/
import Derived.Test.YtacnbpmoceocbaaKWMsgRight
import Derived.Deep.CutRange
import Derived.Deep.RegionHeld3
section
open Go Go.RowKit
namespace Go.Proofs.Ytacnbpmoceocbaa
open WW BB
set_option maxRecDepth 100000 in
set_option maxHeartbeats 16000000 in
theorem rightmsg_rest (w : World) (f : Nat → Value) (k fr dst v : Int) (h : ByteArray) (x : BlockD) (c : CertD) (s : Int × List ByteArray) (r : Int × Int × ByteArray) (ix : Int) (tg : ByteArray) (s9 r10 s13 t15 : Value)
    (M : MsgAt w f k fr dst v h x c s r ix tg s9 r10 s13 t15) (hm : MemM x c s) (hh : headOk k fr dst v) (hb : tailOk ix h tg) :
    Calls Try.prog 37 #[.agg (row 21 f)] w fun e w' => e = .returned (.bool ((okB x && (okC c && okS s)) && okR r)) ∧ Below w.heap.size w w' := by
  obtain ⟨X, hX⟩ : ∃ X, ((okB x && (okC c && okS s)) && okR r) = X := ⟨_, rfl⟩
  rw [hX]
  have HX := Lib.hid hX
  have HM := Lib.hid hm
  have i1 : ¬ ix < 0 := by have := hb.1; omega
  have i2 : ¬ 2147483647 < ix := by have := hb.2.1; omega
  have HB := Lib.hid hb.2.2
  clear hb hm hX
  have t1 : ¬ k < 1 := by have := hh.1; omega
  have t2 : ¬ 7 < k := by have := hh.2.1; omega
  have t3 : ¬ fr < 0 := by have := hh.2.2.1; omega
  have t4 : ¬ 20 < fr := by have := hh.2.2.2.1; omega
  have t5 : ¬ dst < 0 := by have := hh.2.2.2.2.1; omega
  have t6 : ¬ 20 < dst := by have := hh.2.2.2.2.2.1; omega
  have t7 : ¬ v < 0 := by have := hh.2.2.2.2.2.2.1; omega
  have t8 : ¬ 1000000 < v := by have := hh.2.2.2.2.2.2.2; omega
  clear hh
  have MM := Lib.hid M
  obtain ⟨a9, c9_, rfl, q9⟩ := M.h9
  obtain ⟨a10, c10_, rfl, q10⟩ := M.h10
  obtain ⟨a13, c13_, rfl, q13⟩ := M.h13
  obtain ⟨a15, c15_, rfl, q15⟩ := M.h15
  clear M q9 q10 q13 q15
  go_enter Try.func37, Try.ntmps37
  have X0 := Lib.hid (mbox_mk w f 52)
  have c0 := X0.out.at_ 0 _ (by omega) MM.out.y0
  have c1 := X0.out.at_ 1 _ (by omega) MM.out.y1
  have c2 := X0.out.at_ 2 _ (by omega) MM.out.y2
  have c3 := X0.out.at_ 3 _ (by omega) MM.out.y3
  go_upto_region 3 with fail
  clear c0 c1 c2 c3
  obtain ⟨g, hg⟩ : ∃ g, w.heap.size = g := ⟨_, rfl⟩
  rw [hg] at X0 ⊢
  have HG := Lib.hid hg
  clear hg
  generalize w.alloc (.cells (row 21 f) 52) = w0 at *
  go_cut [70] from 41 to 69 (fun s70 wx => s70 = .bool false ∧ wx = w0)
  case first =>
    have c4 := X0.out.at_ 4 _ (by omega) MM.out.y4
    have c19 := X0.out.at_ 19 _ (by omega) MM.out.y19
    have c20 := X0.out.at_ 20 _ (by omega) MM.out.y20
    have d1 : h = ⟨#[]⟩ ∨ (h.toList.isEmpty = false ∧ ((h.size : Int) != 32) = false) := by
      rcases text_cases h 32 with h0 | ⟨h0, h1⟩ | ⟨h0, h1, h2⟩
      · exact Or.inl h0
      · exact Or.inr ⟨h0, by rw [h1]; rfl⟩
      · have := HB.out.1; omega
    have d2 : tg = ⟨#[]⟩ ∨ (tg.toList.isEmpty = false ∧ ((tg.size : Int) != 16) = false) := by
      rcases text_cases tg 16 with h0 | ⟨h0, h1⟩ | ⟨h0, h1, h2⟩
      · exact Or.inl h0
      · exact Or.inr ⟨h0, by rw [h1]; rfl⟩
      · have := HB.out.2; omega
    clear HB
    rcases d1 with rfl | ⟨h0, h1⟩
    all_goals
      rcases d2 with rfl | ⟨g0, g1⟩
      all_goals
        go_wp2_with fail
        go_meet
        case rel => exact ⟨rfl, rfl⟩
  case rest =>
  obtain ⟨rfl, rfl⟩ := hcut
  clear t1 t2 t3 t4 t5 t6 t7 t8 i1 i2
  obtain ⟨P, hP⟩ : ∃ P, (okB x && (okC c && okS s)) = P := ⟨_, rfl⟩
  have HP := Lib.hid hP
  clear hP
  go_upto_region 5 with fail
  go_cut [104] from 71 to 103 (fun s104 wx => s104 = .bool (!P) ∧ MBox w g f wx)
  case first =>
    have c5 := X0.out.at_ 5 _ (by omega) MM.out.y5
    have c6 := X0.out.at_ 6 _ (by omega) MM.out.y6
    have c7 := X0.out.at_ 7 _ (by omega) MM.out.y7
    have c8 := X0.out.at_ 8 _ (by omega) MM.out.y8
    have c9 := X0.out.at_ 9 _ (by omega) MM.out.y9
    have c10 := X0.out.at_ 10 _ (by omega) MM.out.y10
    go_wp2_with fail
    have M1 := Lib.hid (MM.out.later X0.out.below)
    rcases hz : (!nzB x) with _ | _
    · have HZ2 := Lib.hid hz
      clear hz
      refine (rzblock_is x _ _ false HZ2.out _ M1.out.h9 M1.out.h10).mono ?_
      rintro e w2 ⟨rfl, hb2⟩
      have X2 := Lib.hid (X0.out.on hb2)
      clear hb2 c5 c6 c7 c8 c9 c10
      have c5 := X2.out.at_ 5 _ (by omega) MM.out.y5
      have c6 := X2.out.at_ 6 _ (by omega) MM.out.y6
      have c7 := X2.out.at_ 7 _ (by omega) MM.out.y7
      have c8 := X2.out.at_ 8 _ (by omega) MM.out.y8
      have c9 := X2.out.at_ 9 _ (by omega) MM.out.y9
      have c10 := X2.out.at_ 10 _ (by omega) MM.out.y10
      go_wp2_with fail
      have M2 := Lib.hid (MM.out.later X2.out.below)
      rcases hr : rightBlock x.1.1.1 x.1.1.2 x.1.2.1.1 x.1.2.1.2 x.1.2.2 x.2 with _ | _
      · have HR2 := Lib.hid hr
        clear hr
        refine (rightblock_is x _ _ false HR2.out _ M2.out.h9 M2.out.h10 HM.out.b1).mono ?_
        rintro e w3 ⟨rfl, hb3⟩
        have X3 := Lib.hid (X2.out.on hb3)
        clear hb3 c5 c6 c7 c8 c9 c10
        go_wp2_with fail
        go_meet
        case rel => exact ⟨by rw [← HP.out]; unfold okB okC okS; rw [HZ2.out, HR2.out]; rfl, X3.out⟩
      · have HR2 := Lib.hid hr
        clear hr
        refine (rightblock_is x _ _ true HR2.out _ M2.out.h9 M2.out.h10 HM.out.b1).mono ?_
        rintro e w3 ⟨rfl, hb3⟩
        have X3 := Lib.hid (X2.out.on hb3)
        clear hb3 c5 c6 c7 c8 c9 c10
        have c11 := X3.out.at_ 11 _ (by omega) MM.out.y11
        have c12 := X3.out.at_ 12 _ (by omega) MM.out.y12
        have c13 := X3.out.at_ 13 _ (by omega) MM.out.y13
        go_wp2_with fail
        have M4 := Lib.hid (MM.out.later X3.out.below)
        rcases hz : (!nzC c) with _ | _
        · have HZ5 := Lib.hid hz
          clear hz
          refine (rzcert_is c _ false HZ5.out _ M4.out.h13).mono ?_
          rintro e w5 ⟨rfl, hb5⟩
          have X5 := Lib.hid (X3.out.on hb5)
          clear hb5 c11 c12 c13
          have c11 := X5.out.at_ 11 _ (by omega) MM.out.y11
          have c12 := X5.out.at_ 12 _ (by omega) MM.out.y12
          have c13 := X5.out.at_ 13 _ (by omega) MM.out.y13
          go_wp2_with fail
          have M5 := Lib.hid (MM.out.later X5.out.below)
          rcases hr : rightCert c.1.1 c.1.2 c.2 with _ | _
          · have HR5 := Lib.hid hr
            clear hr
            refine (rightcert_is c _ false HR5.out _ M5.out.h13 HM.out.c1).mono ?_
            rintro e w6 ⟨rfl, hb6⟩
            have X6 := Lib.hid (X5.out.on hb6)
            clear hb6 c11 c12 c13
            go_wp2_with fail
            go_meet
            case rel => exact ⟨by rw [← HP.out]; unfold okB okC okS; rw [HZ2.out, HR2.out, HZ5.out, HR5.out]; rfl, X6.out⟩
          · have HR5 := Lib.hid hr
            clear hr
            refine (rightcert_is c _ true HR5.out _ M5.out.h13 HM.out.c1).mono ?_
            rintro e w6 ⟨rfl, hb6⟩
            have X6 := Lib.hid (X5.out.on hb6)
            clear hb6 c11 c12 c13
            have c14 := X6.out.at_ 14 _ (by omega) MM.out.y14
            have c15 := X6.out.at_ 15 _ (by omega) MM.out.y15
            go_wp2_with fail
            have M7 := Lib.hid (MM.out.later X6.out.below)
            rcases hz : (!nzS s) with _ | _
            · have HZ8 := Lib.hid hz
              clear hz
              refine (rzsig_is s _ false HZ8.out _ M7.out.h15).mono ?_
              rintro e w8 ⟨rfl, hb8⟩
              have X8 := Lib.hid (X6.out.on hb8)
              clear hb8 c14 c15
              have c14 := X8.out.at_ 14 _ (by omega) MM.out.y14
              have c15 := X8.out.at_ 15 _ (by omega) MM.out.y15
              go_wp2_with fail
              have M8 := Lib.hid (MM.out.later X8.out.below)
              rcases hr : rightSig s.1 s.2 with _ | _
              · have HR8 := Lib.hid hr
                clear hr
                refine (rightsig_is s _ false HR8.out _ M8.out.h15 HM.out.s1).mono ?_
                rintro e w9 ⟨rfl, hb9⟩
                have X9 := Lib.hid (X8.out.on hb9)
                clear hb9 c14 c15
                go_wp2_with fail
                go_meet
                case rel => exact ⟨by rw [← HP.out]; unfold okB okC okS; rw [HZ2.out, HR2.out, HZ5.out, HR5.out, HZ8.out, HR8.out]; rfl, X9.out⟩
              · have HR8 := Lib.hid hr
                clear hr
                refine (rightsig_is s _ true HR8.out _ M8.out.h15 HM.out.s1).mono ?_
                rintro e w9 ⟨rfl, hb9⟩
                have X9 := Lib.hid (X8.out.on hb9)
                clear hb9 c14 c15
                go_wp2_with fail
                go_meet
                case rel => exact ⟨by rw [← HP.out]; unfold okB okC okS; rw [HZ2.out, HR2.out, HZ5.out, HR5.out, HZ8.out, HR8.out]; rfl, X9.out⟩
            · have HZ10 := Lib.hid hz
              clear hz
              refine (rzsig_is s _ true HZ10.out _ M7.out.h15).mono ?_
              rintro e w10 ⟨rfl, hb10⟩
              have X10 := Lib.hid (X6.out.on hb10)
              clear hb10 c14 c15
              go_wp2_with fail
              go_meet
              case rel => exact ⟨by rw [← HP.out]; unfold okB okC okS; rw [HZ2.out, HR2.out, HZ5.out, HR5.out, HZ10.out]; rfl, X10.out⟩
        · have HZ11 := Lib.hid hz
          clear hz
          refine (rzcert_is c _ true HZ11.out _ M4.out.h13).mono ?_
          rintro e w11 ⟨rfl, hb11⟩
          have X11 := Lib.hid (X3.out.on hb11)
          clear hb11 c11 c12 c13
          have c14 := X11.out.at_ 14 _ (by omega) MM.out.y14
          have c15 := X11.out.at_ 15 _ (by omega) MM.out.y15
          go_wp2_with fail
          have M12 := Lib.hid (MM.out.later X11.out.below)
          rcases hz : (!nzS s) with _ | _
          · have HZ13 := Lib.hid hz
            clear hz
            refine (rzsig_is s _ false HZ13.out _ M12.out.h15).mono ?_
            rintro e w13 ⟨rfl, hb13⟩
            have X13 := Lib.hid (X11.out.on hb13)
            clear hb13 c14 c15
            have c14 := X13.out.at_ 14 _ (by omega) MM.out.y14
            have c15 := X13.out.at_ 15 _ (by omega) MM.out.y15
            go_wp2_with fail
            have M13 := Lib.hid (MM.out.later X13.out.below)
            rcases hr : rightSig s.1 s.2 with _ | _
            · have HR13 := Lib.hid hr
              clear hr
              refine (rightsig_is s _ false HR13.out _ M13.out.h15 HM.out.s1).mono ?_
              rintro e w14 ⟨rfl, hb14⟩
              have X14 := Lib.hid (X13.out.on hb14)
              clear hb14 c14 c15
              go_wp2_with fail
              go_meet
              case rel => exact ⟨by rw [← HP.out]; unfold okB okC okS; rw [HZ2.out, HR2.out, HZ11.out, HZ13.out, HR13.out]; rfl, X14.out⟩
            · have HR13 := Lib.hid hr
              clear hr
              refine (rightsig_is s _ true HR13.out _ M13.out.h15 HM.out.s1).mono ?_
              rintro e w14 ⟨rfl, hb14⟩
              have X14 := Lib.hid (X13.out.on hb14)
              clear hb14 c14 c15
              go_wp2_with fail
              go_meet
              case rel => exact ⟨by rw [← HP.out]; unfold okB okC okS; rw [HZ2.out, HR2.out, HZ11.out, HZ13.out, HR13.out]; rfl, X14.out⟩
          · have HZ15 := Lib.hid hz
            clear hz
            refine (rzsig_is s _ true HZ15.out _ M12.out.h15).mono ?_
            rintro e w15 ⟨rfl, hb15⟩
            have X15 := Lib.hid (X11.out.on hb15)
            clear hb15 c14 c15
            go_wp2_with fail
            go_meet
            case rel => exact ⟨by rw [← HP.out]; unfold okB okC okS; rw [HZ2.out, HR2.out, HZ11.out, HZ15.out]; rfl, X15.out⟩
    · have HZ16 := Lib.hid hz
      clear hz
      refine (rzblock_is x _ _ true HZ16.out _ M1.out.h9 M1.out.h10).mono ?_
      rintro e w16 ⟨rfl, hb16⟩
      have X16 := Lib.hid (X0.out.on hb16)
      clear hb16 c5 c6 c7 c8 c9 c10
      have c11 := X16.out.at_ 11 _ (by omega) MM.out.y11
      have c12 := X16.out.at_ 12 _ (by omega) MM.out.y12
      have c13 := X16.out.at_ 13 _ (by omega) MM.out.y13
      go_wp2_with fail
      have M17 := Lib.hid (MM.out.later X16.out.below)
      rcases hz : (!nzC c) with _ | _
      · have HZ18 := Lib.hid hz
        clear hz
        refine (rzcert_is c _ false HZ18.out _ M17.out.h13).mono ?_
        rintro e w18 ⟨rfl, hb18⟩
        have X18 := Lib.hid (X16.out.on hb18)
        clear hb18 c11 c12 c13
        have c11 := X18.out.at_ 11 _ (by omega) MM.out.y11
        have c12 := X18.out.at_ 12 _ (by omega) MM.out.y12
        have c13 := X18.out.at_ 13 _ (by omega) MM.out.y13
        go_wp2_with fail
        have M18 := Lib.hid (MM.out.later X18.out.below)
        rcases hr : rightCert c.1.1 c.1.2 c.2 with _ | _
        · have HR18 := Lib.hid hr
          clear hr
          refine (rightcert_is c _ false HR18.out _ M18.out.h13 HM.out.c1).mono ?_
          rintro e w19 ⟨rfl, hb19⟩
          have X19 := Lib.hid (X18.out.on hb19)
          clear hb19 c11 c12 c13
          go_wp2_with fail
          go_meet
          case rel => exact ⟨by rw [← HP.out]; unfold okB okC okS; rw [HZ16.out, HZ18.out, HR18.out]; rfl, X19.out⟩
        · have HR18 := Lib.hid hr
          clear hr
          refine (rightcert_is c _ true HR18.out _ M18.out.h13 HM.out.c1).mono ?_
          rintro e w19 ⟨rfl, hb19⟩
          have X19 := Lib.hid (X18.out.on hb19)
          clear hb19 c11 c12 c13
          have c14 := X19.out.at_ 14 _ (by omega) MM.out.y14
          have c15 := X19.out.at_ 15 _ (by omega) MM.out.y15
          go_wp2_with fail
          have M20 := Lib.hid (MM.out.later X19.out.below)
          rcases hz : (!nzS s) with _ | _
          · have HZ21 := Lib.hid hz
            clear hz
            refine (rzsig_is s _ false HZ21.out _ M20.out.h15).mono ?_
            rintro e w21 ⟨rfl, hb21⟩
            have X21 := Lib.hid (X19.out.on hb21)
            clear hb21 c14 c15
            have c14 := X21.out.at_ 14 _ (by omega) MM.out.y14
            have c15 := X21.out.at_ 15 _ (by omega) MM.out.y15
            go_wp2_with fail
            have M21 := Lib.hid (MM.out.later X21.out.below)
            rcases hr : rightSig s.1 s.2 with _ | _
            · have HR21 := Lib.hid hr
              clear hr
              refine (rightsig_is s _ false HR21.out _ M21.out.h15 HM.out.s1).mono ?_
              rintro e w22 ⟨rfl, hb22⟩
              have X22 := Lib.hid (X21.out.on hb22)
              clear hb22 c14 c15
              go_wp2_with fail
              go_meet
              case rel => exact ⟨by rw [← HP.out]; unfold okB okC okS; rw [HZ16.out, HZ18.out, HR18.out, HZ21.out, HR21.out]; rfl, X22.out⟩
            · have HR21 := Lib.hid hr
              clear hr
              refine (rightsig_is s _ true HR21.out _ M21.out.h15 HM.out.s1).mono ?_
              rintro e w22 ⟨rfl, hb22⟩
              have X22 := Lib.hid (X21.out.on hb22)
              clear hb22 c14 c15
              go_wp2_with fail
              go_meet
              case rel => exact ⟨by rw [← HP.out]; unfold okB okC okS; rw [HZ16.out, HZ18.out, HR18.out, HZ21.out, HR21.out]; rfl, X22.out⟩
          · have HZ23 := Lib.hid hz
            clear hz
            refine (rzsig_is s _ true HZ23.out _ M20.out.h15).mono ?_
            rintro e w23 ⟨rfl, hb23⟩
            have X23 := Lib.hid (X19.out.on hb23)
            clear hb23 c14 c15
            go_wp2_with fail
            go_meet
            case rel => exact ⟨by rw [← HP.out]; unfold okB okC okS; rw [HZ16.out, HZ18.out, HR18.out, HZ23.out]; rfl, X23.out⟩
      · have HZ24 := Lib.hid hz
        clear hz
        refine (rzcert_is c _ true HZ24.out _ M17.out.h13).mono ?_
        rintro e w24 ⟨rfl, hb24⟩
        have X24 := Lib.hid (X16.out.on hb24)
        clear hb24 c11 c12 c13
        have c14 := X24.out.at_ 14 _ (by omega) MM.out.y14
        have c15 := X24.out.at_ 15 _ (by omega) MM.out.y15
        go_wp2_with fail
        have M25 := Lib.hid (MM.out.later X24.out.below)
        rcases hz : (!nzS s) with _ | _
        · have HZ26 := Lib.hid hz
          clear hz
          refine (rzsig_is s _ false HZ26.out _ M25.out.h15).mono ?_
          rintro e w26 ⟨rfl, hb26⟩
          have X26 := Lib.hid (X24.out.on hb26)
          clear hb26 c14 c15
          have c14 := X26.out.at_ 14 _ (by omega) MM.out.y14
          have c15 := X26.out.at_ 15 _ (by omega) MM.out.y15
          go_wp2_with fail
          have M26 := Lib.hid (MM.out.later X26.out.below)
          rcases hr : rightSig s.1 s.2 with _ | _
          · have HR26 := Lib.hid hr
            clear hr
            refine (rightsig_is s _ false HR26.out _ M26.out.h15 HM.out.s1).mono ?_
            rintro e w27 ⟨rfl, hb27⟩
            have X27 := Lib.hid (X26.out.on hb27)
            clear hb27 c14 c15
            go_wp2_with fail
            go_meet
            case rel => exact ⟨by rw [← HP.out]; unfold okB okC okS; rw [HZ16.out, HZ24.out, HZ26.out, HR26.out]; rfl, X27.out⟩
          · have HR26 := Lib.hid hr
            clear hr
            refine (rightsig_is s _ true HR26.out _ M26.out.h15 HM.out.s1).mono ?_
            rintro e w27 ⟨rfl, hb27⟩
            have X27 := Lib.hid (X26.out.on hb27)
            clear hb27 c14 c15
            go_wp2_with fail
            go_meet
            case rel => exact ⟨by rw [← HP.out]; unfold okB okC okS; rw [HZ16.out, HZ24.out, HZ26.out, HR26.out]; rfl, X27.out⟩
        · have HZ28 := Lib.hid hz
          clear hz
          refine (rzsig_is s _ true HZ28.out _ M25.out.h15).mono ?_
          rintro e w28 ⟨rfl, hb28⟩
          have X28 := Lib.hid (X24.out.on hb28)
          clear hb28 c14 c15
          go_wp2_with fail
          go_meet
          case rel => exact ⟨by rw [← HP.out]; unfold okB okC okS; rw [HZ16.out, HZ24.out, HZ28.out]; rfl, X28.out⟩
  case rest =>
  obtain ⟨rfl, hX9⟩ := hcut
  have X9 := Lib.hid hX9
  clear hX9 X0
  have c16 := X9.out.at_ 16 _ (by omega) MM.out.y16
  have c17 := X9.out.at_ 17 _ (by omega) MM.out.y17
  have c18 := X9.out.at_ 18 _ (by omega) MM.out.y18
  have HXP := Lib.hid (show X = (P && okR r) by rw [← HX.out, HP.out])
  cases P with
  | false =>
    have HXF := Lib.hid (show X = false by rw [HXP.out, Bool.false_and])
    go_wp2_with fail
    go_ret
    exact ⟨by rw [HXF.out]; rfl, X9.out.below⟩
  | true =>
    have HXT := Lib.hid (show X = okR r by rw [HXP.out, Bool.true_and])
    clear HXP HP HX
    obtain ⟨rc, rq, rb⟩ := r
    by_cases h1 : rc = 0
    rotate_left
    · have e1 : (rc == 0) = false := by simpa using h1
      have HNZ := Lib.hid (show nzR (rc, rq, rb) = true by simp [nzR, h1])
      clear h1
      go_wp2_with fail
      refine (rightreq_is (rc, rq, rb) _ rfl wc).mono ?_
      rintro e w9 ⟨rfl, hb9⟩
      have XZ := Lib.hid (X9.out.on hb9)
      clear hb9 c16 c17 c18
      go_wp2_with fail
      go_ret
      exact ⟨by rw [HXT.out]; unfold okR; rw [HNZ.out]; rfl, XZ.out.below⟩
    subst h1
    by_cases h2 : rq = 0
    rotate_left
    · have e1 : (rq == 0) = false := by simpa using h2
      have HNZ := Lib.hid (show nzR (0, rq, rb) = true by simp [nzR, h2])
      clear h2
      go_wp2_with fail
      refine (rightreq_is (0, rq, rb) _ rfl wc).mono ?_
      rintro e w9 ⟨rfl, hb9⟩
      have XZ := Lib.hid (X9.out.on hb9)
      clear hb9 c16 c17 c18
      go_wp2_with fail
      go_ret
      exact ⟨by rw [HXT.out]; unfold okR; rw [HNZ.out]; rfl, XZ.out.below⟩
    subst h2
    by_cases h3 : rb.size = 0
    rotate_left
    · have e1 := emp_false h3
      have HNZ := Lib.hid (show nzR (0, 0, rb) = true by simp [nzR, h3])
      clear h3
      go_wp2_with fail
      refine (rightreq_is (0, 0, rb) _ rfl wc).mono ?_
      rintro e w9 ⟨rfl, hb9⟩
      have XZ := Lib.hid (X9.out.on hb9)
      clear hb9 c16 c17 c18
      go_wp2_with fail
      go_ret
      exact ⟨by rw [HXT.out]; unfold okR; rw [HNZ.out]; rfl, XZ.out.below⟩
    obtain rfl := nil_size rb h3
    clear h3
    go_wp2_with fail
    go_ret
    exact ⟨by rw [HXT.out]; rfl, X9.out.below⟩
theorem rightmsg_any (w : World) (f : Nat → Value) (k fr dst v : Int) (h : ByteArray) (x : BlockD) (c : CertD) (s : Int × List ByteArray) (r : Int × Int × ByteArray) (ix : Int) (tg : ByteArray) (s9 r10 s13 t15 : Value)
    (M : MsgAt w f k fr dst v h x c s r ix tg s9 r10 s13 t15) (hm : MemM x c s) :
    Calls Try.prog 37 #[.agg (row 21 f)] w fun e w' => e = .returned (.bool (rightMsg k fr dst v h x c s r ix tg)) ∧ Below w.heap.size w w' := by
  unfold rightMsg
  by_cases hh : headOk k fr dst v
  · rw [decide_eq_true hh, Bool.true_and]
    by_cases ht : tailOk ix h tg
    · rw [decide_eq_true ht, Bool.true_and]
      exact rightmsg_rest w f k fr dst v h x c s r ix tg s9 r10 s13 t15 M hm hh ht
    · rw [decide_eq_false ht, Bool.false_and]
      exact rightmsg_tail w f k fr dst v h x c s r ix tg s9 r10 s13 t15 M hh ht
  · rw [decide_eq_false hh, Bool.false_and]
    exact rightmsg_head w f k fr dst v h x c s r ix tg s9 r10 s13 t15 M hh
end Go.Proofs.Ytacnbpmoceocbaa
end
section
open Go Go.RowKit
namespace WW
open BB
/-- a part that is nothing where it is zero -/
def opt {α : Type} (nz : α → Bool) (x : α) : Option α := if nz x then some x else none
theorem opt_yes {α : Type} {nz : α → Bool} {x : α} (h : nz x = true) : opt nz x = some x := by unfold opt; rw [if_pos h]
theorem opt_no {α : Type} {nz : α → Bool} {x : α} (h : nz x = false) : opt nz x = none := by unfold opt; rw [if_neg (by rw [h]; simp)]
/-- a part's bytes, by whether it is zero -/
def mayB (z : Bool) (s : ByteArray) : ByteArray := if z then ⟨#[0]⟩ else ⟨#[1]⟩ ++ s
theorem mayB_opt {α : Type} (nz : α → Bool) (ea : α → ByteArray) (x : α) : mayB (!nz x) (ea x) = encPart ea (opt nz x) := by
  unfold mayB
  cases h : nz x with
  | true => rw [opt_yes h]; rfl
  | false => rw [opt_no h]; rfl
end WW
namespace Go.Proofs.Ytacnbpmoceocbaa
open WW BB
set_option maxRecDepth 100000 in
theorem maybe_any (z : Bool) (s : ByteArray) (hs : s.size ≤ 1000000000) (w : World) : Calls Try.prog 61 #[.bool z, .string s] w fun e w' => e = .returned (.string (mayB z s)) ∧ w = w' := by
  cases z with
  | true =>
    go_enter Try.func61, Try.ntmps61
    go_wp2_with fail
    go_ret
    exact ⟨rfl, rfl⟩
  | false =>
    have h1 : ¬ 9223372036854775807 < (⟨#[1]⟩ : ByteArray).size + s.size := by rw [show (⟨#[1]⟩ : ByteArray).size = 1 from rfl]; omega
    clear hs
    go_enter Try.func61, Try.ntmps61
    go_wp2_with fail
    go_ret
    exact ⟨rfl, rfl⟩
set_option maxRecDepth 100000 in
set_option maxHeartbeats 4000000 in
theorem partB_any (x : BlockD) (s9 r10 : Value) (w : World) (hv : SigsAt w s9 x.1.2.2) (hr : ReqsAt w r10 x.2) (hk : x.1.2.1.2.size ≤ 1000000) (hs : SmallS x.1.2.2) (hm : SmallR x.2) (hz : (blockD x).size ≤ 1000000000) :
    Calls Try.prog 51 #[.agg #[.int .i64 x.1.1.1, .int .i64 x.1.1.2, .int .i64 x.1.2.1.1, .string x.1.2.1.2, s9, r10], .func (.func 52) #[] #[], .func (.func 17) #[] #[]] w fun e w' => e = .returned (.string (encPart blockD (opt nzB x))) ∧ Below w.heap.size w w' := by
  have HZ := Lib.hid (fun wx (hb : Below w.heap.size w wx) => zblock_any x.1.1.1 x.1.1.2 x.1.2.1.1 x.1.2.1.2 s9 r10 x.1.2.2 x.2 wx (hv.later hb) (hr.later hb))
  have HB := Lib.hid (fun wx (hb : Below w.heap.size w wx) => block_any x.1.1.1 x.1.1.2 x.1.2.1.1 x.1.2.1.2 s9 r10 x.1.2.2 x.2 wx (hv.later hb) (hr.later hb) hk hs hm)
  have h1 : ¬ 9223372036854775807 < (⟨#[1]⟩ : ByteArray).size + (blockD x).size := by rw [show (⟨#[1]⟩ : ByteArray).size = 1 from rfl]; omega
  have HE : Hid (blockD x = _) := Lib.hid rfl
  clear hz
  rw [← mayB_opt]
  obtain ⟨y, hy⟩ : ∃ y, blockD x = y := ⟨_, rfl⟩
  rw [hy] at h1 ⊢
  have HY := Lib.hid hy
  obtain ⟨z, hzz⟩ : ∃ z, (!nzB x) = z := ⟨_, rfl⟩
  have HZZ := Lib.hid hzz
  rw [hzz]
  clear hy hzz HE
  obtain ⟨a9, cap9, rfl, q9⟩ := hv
  clear q9
  obtain ⟨a10, cap10, rfl, q10⟩ := hr
  clear q10
  go_enter Try.func51, Try.ntmps51
  go_wp2_with (with_reducible refine hold_load (.tmp 3) rfl ?_)
  have K := Lib.hid (show BoxAt w w.heap.size [.int .i64 x.1.1.1, .int .i64 x.1.1.2, .int .i64 x.1.2.1.1, .string x.1.2.1.2, .slice a9 x.1.2.2.length cap9, .slice a10 x.2.length cap10] (w.alloc (.cells #[.int .i64 x.1.1.1, .int .i64 x.1.1.2, .int .i64 x.1.2.1.1, .string x.1.2.1.2, .slice a9 x.1.2.2.length cap9, .slice a10 x.2.length cap10] 31)) from box_mk w [.int .i64 x.1.1.1, .int .i64 x.1.1.2, .int .i64 x.1.2.1.1, .string x.1.2.1.2, .slice a9 x.1.2.2.length cap9, .slice a10 x.2.length cap10] 31)
  obtain ⟨g, hg⟩ : ∃ g, w.heap.size = g := ⟨_, rfl⟩
  rw [hg] at K ⊢
  clear hg
  generalize w.alloc (.cells #[.int .i64 x.1.1.1, .int .i64 x.1.1.2, .int .i64 x.1.2.1.1, .string x.1.2.1.2, .slice a9 x.1.2.2.length cap9, .slice a10 x.2.length cap10] 31) = w0 at *
  have c0 := K.out.cell 0 _ rfl
  have c1 := K.out.cell 1 _ rfl
  have c2 := K.out.cell 2 _ rfl
  have c3 := K.out.cell 3 _ rfl
  have c4 := K.out.cell 4 _ rfl
  have c5 := K.out.cell 5 _ rfl
  unfold BB.Held
  go_wp2_with fail
  clear c0 c1 c2 c3 c4 c5
  refine (HZ.out w0 K.out.below).mono ?_
  rintro e w1 ⟨rfl, hb1⟩
  have HZ' : Hid ((!nzB x) = z) := HZZ
  rw [show (!nzB x) = z from HZZ.out]
  have K := Lib.hid (K.out.on hb1)
  clear hb1 HZ HZ'
  cases z with
  | true =>
    go_wp2_with fail
    go_ret
    exact ⟨rfl, K.out.below⟩
  | false =>
    have c0 := K.out.cell 0 _ rfl
    have c1 := K.out.cell 1 _ rfl
    have c2 := K.out.cell 2 _ rfl
    have c3 := K.out.cell 3 _ rfl
    have c4 := K.out.cell 4 _ rfl
    have c5 := K.out.cell 5 _ rfl
    go_wp2_with fail
    clear c0 c1 c2 c3 c4 c5
    refine (HB.out w1 K.out.below).mono ?_
    rintro e w2 ⟨rfl, hb2⟩
    have hyy := HY.out
    unfold blockD at hyy
    rw [hyy]
    have K := Lib.hid (K.out.on hb2)
    clear hb2 HB hyy
    go_wp2_with fail
    go_ret
    exact ⟨rfl, K.out.below⟩
set_option maxRecDepth 100000 in
set_option maxHeartbeats 4000000 in
theorem partC_any (c : CertD) (s13 : Value) (w : World) (hv : SigsAt w s13 c.2) (hk : c.1.2.size ≤ 1000000) (hs : SmallS c.2) (hz : (certD c).size ≤ 1000000000) :
    Calls Try.prog 53 #[.agg #[.int .i64 c.1.1, .string c.1.2, s13], .func (.func 54) #[] #[], .func (.func 23) #[] #[]] w fun e w' => e = .returned (.string (encPart certD (opt nzC c))) ∧ Below w.heap.size w w' := by
  have HZ := Lib.hid (fun wx (hb : Below w.heap.size w wx) => zcert_any c.1.1 c.1.2 s13 c.2 wx (hv.later hb))
  have HB := Lib.hid (fun wx (hb : Below w.heap.size w wx) => cert_any c.1.1 c.1.2 s13 c.2 wx (hv.later hb) hk hs)
  have h1 : ¬ 9223372036854775807 < (⟨#[1]⟩ : ByteArray).size + (certD c).size := by rw [show (⟨#[1]⟩ : ByteArray).size = 1 from rfl]; omega
  have HE : Hid (certD c = _) := Lib.hid rfl
  clear hz
  rw [← mayB_opt]
  obtain ⟨y, hy⟩ : ∃ y, certD c = y := ⟨_, rfl⟩
  rw [hy] at h1 ⊢
  have HY := Lib.hid hy
  obtain ⟨z, hzz⟩ : ∃ z, (!nzC c) = z := ⟨_, rfl⟩
  have HZZ := Lib.hid hzz
  rw [hzz]
  clear hy hzz HE
  obtain ⟨a13, cap13, rfl, q13⟩ := hv
  clear q13
  go_enter Try.func53, Try.ntmps53
  go_wp2_with (with_reducible refine hold_load (.tmp 3) rfl ?_)
  have K := Lib.hid (show BoxAt w w.heap.size [.int .i64 c.1.1, .string c.1.2, .slice a13 c.2.length cap13] (w.alloc (.cells #[.int .i64 c.1.1, .string c.1.2, .slice a13 c.2.length cap13] 28)) from box_mk w [.int .i64 c.1.1, .string c.1.2, .slice a13 c.2.length cap13] 28)
  obtain ⟨g, hg⟩ : ∃ g, w.heap.size = g := ⟨_, rfl⟩
  rw [hg] at K ⊢
  clear hg
  generalize w.alloc (.cells #[.int .i64 c.1.1, .string c.1.2, .slice a13 c.2.length cap13] 28) = w0 at *
  have c0 := K.out.cell 0 _ rfl
  have c1 := K.out.cell 1 _ rfl
  have c2 := K.out.cell 2 _ rfl
  unfold BB.Held
  go_wp2_with fail
  clear c0 c1 c2
  refine (HZ.out w0 K.out.below).mono ?_
  rintro e w1 ⟨rfl, hb1⟩
  have HZ' : Hid ((!nzC c) = z) := HZZ
  rw [show (!nzC c) = z from HZZ.out]
  have K := Lib.hid (K.out.on hb1)
  clear hb1 HZ HZ'
  cases z with
  | true =>
    go_wp2_with fail
    go_ret
    exact ⟨rfl, K.out.below⟩
  | false =>
    have c0 := K.out.cell 0 _ rfl
    have c1 := K.out.cell 1 _ rfl
    have c2 := K.out.cell 2 _ rfl
    go_wp2_with fail
    clear c0 c1 c2
    refine (HB.out w1 K.out.below).mono ?_
    rintro e w2 ⟨rfl, hb2⟩
    have hyy := HY.out
    unfold certD at hyy
    rw [hyy]
    have K := Lib.hid (K.out.on hb2)
    clear hb2 HB hyy
    go_wp2_with fail
    go_ret
    exact ⟨rfl, K.out.below⟩
set_option maxRecDepth 100000 in
set_option maxHeartbeats 4000000 in
theorem partS_any (s : Int × List ByteArray) (t15 : Value) (w : World) (hv : StrsAt w t15 s.2) (hk : (flat s.2).length ≤ 500000) (hs : s.2.length ≤ 1000) (hz : (sigD s).size ≤ 1000000000) :
    Calls Try.prog 55 #[.agg #[.int .i64 s.1, t15], .func (.func 56) #[] #[], .func (.func 43) #[] #[]] w fun e w' => e = .returned (.string (encPart sigD (opt nzS s))) ∧ Below w.heap.size w w' := by
  have HZ := Lib.hid (fun wx (hb : Below w.heap.size w wx) => zsig_any s.1 t15 s.2 wx (hv.later hb))
  have HB := Lib.hid (fun wx (hb : Below w.heap.size w wx) => sig_any s.1 t15 s.2 wx (hv.later hb) hk hs)
  have h1 : ¬ 9223372036854775807 < (⟨#[1]⟩ : ByteArray).size + (sigD s).size := by rw [show (⟨#[1]⟩ : ByteArray).size = 1 from rfl]; omega
  have HE : Hid (sigD s = _) := Lib.hid rfl
  clear hz
  rw [← mayB_opt]
  obtain ⟨y, hy⟩ : ∃ y, sigD s = y := ⟨_, rfl⟩
  rw [hy] at h1 ⊢
  have HY := Lib.hid hy
  obtain ⟨z, hzz⟩ : ∃ z, (!nzS s) = z := ⟨_, rfl⟩
  have HZZ := Lib.hid hzz
  rw [hzz]
  clear hy hzz HE
  obtain ⟨a15, cap15, rfl, q15⟩ := hv
  clear q15
  go_enter Try.func55, Try.ntmps55
  go_wp2_with (with_reducible refine hold_load (.tmp 3) rfl ?_)
  have K := Lib.hid (show BoxAt w w.heap.size [.int .i64 s.1, .slice a15 s.2.length cap15] (w.alloc (.cells #[.int .i64 s.1, .slice a15 s.2.length cap15] 37)) from box_mk w [.int .i64 s.1, .slice a15 s.2.length cap15] 37)
  obtain ⟨g, hg⟩ : ∃ g, w.heap.size = g := ⟨_, rfl⟩
  rw [hg] at K ⊢
  clear hg
  generalize w.alloc (.cells #[.int .i64 s.1, .slice a15 s.2.length cap15] 37) = w0 at *
  have c0 := K.out.cell 0 _ rfl
  have c1 := K.out.cell 1 _ rfl
  unfold BB.Held
  go_wp2_with fail
  clear c0 c1
  refine (HZ.out w0 K.out.below).mono ?_
  rintro e w1 ⟨rfl, hb1⟩
  have HZ' : Hid ((!nzS s) = z) := HZZ
  rw [show (!nzS s) = z from HZZ.out]
  have K := Lib.hid (K.out.on hb1)
  clear hb1 HZ HZ'
  cases z with
  | true =>
    go_wp2_with fail
    go_ret
    exact ⟨rfl, K.out.below⟩
  | false =>
    have c0 := K.out.cell 0 _ rfl
    have c1 := K.out.cell 1 _ rfl
    go_wp2_with fail
    clear c0 c1
    refine (HB.out w1 K.out.below).mono ?_
    rintro e w2 ⟨rfl, hb2⟩
    have hyy := HY.out
    unfold sigD at hyy
    rw [hyy]
    have K := Lib.hid (K.out.on hb2)
    clear hb2 HB hyy
    go_wp2_with fail
    go_ret
    exact ⟨rfl, K.out.below⟩
set_option maxRecDepth 100000 in
set_option maxHeartbeats 4000000 in
theorem partR_any (r : Int × Int × ByteArray)  (w : World) (hk : r.2.2.size ≤ 1000000) (hz : (reqD r).size ≤ 1000000000) :
    Calls Try.prog 57 #[.agg #[.int .i64 r.1, .int .i64 r.2.1, .string r.2.2], .func (.func 58) #[] #[], .func (.func 18) #[] #[]] w fun e w' => e = .returned (.string (encPart reqD (opt nzR r))) ∧ Below w.heap.size w w' := by
  have HZ := Lib.hid (fun wx (hb : Below w.heap.size w wx) => zreq_any r.1 r.2.1 r.2.2 wx )
  have HB := Lib.hid (fun wx (hb : Below w.heap.size w wx) => request_any r.1 r.2.1 r.2.2 hk wx)
  have h1 : ¬ 9223372036854775807 < (⟨#[1]⟩ : ByteArray).size + (reqD r).size := by rw [show (⟨#[1]⟩ : ByteArray).size = 1 from rfl]; omega
  have HE : Hid (reqD r = _) := Lib.hid rfl
  clear hz
  rw [← mayB_opt]
  obtain ⟨y, hy⟩ : ∃ y, reqD r = y := ⟨_, rfl⟩
  rw [hy] at h1 ⊢
  have HY := Lib.hid hy
  obtain ⟨z, hzz⟩ : ∃ z, (!nzR r) = z := ⟨_, rfl⟩
  have HZZ := Lib.hid hzz
  rw [hzz]
  clear hy hzz HE
  go_enter Try.func57, Try.ntmps57
  go_wp2_with (with_reducible refine hold_load (.tmp 3) rfl ?_)
  have K := Lib.hid (show BoxAt w w.heap.size [.int .i64 r.1, .int .i64 r.2.1, .string r.2.2] (w.alloc (.cells #[.int .i64 r.1, .int .i64 r.2.1, .string r.2.2] 34)) from box_mk w [.int .i64 r.1, .int .i64 r.2.1, .string r.2.2] 34)
  obtain ⟨g, hg⟩ : ∃ g, w.heap.size = g := ⟨_, rfl⟩
  rw [hg] at K ⊢
  clear hg
  generalize w.alloc (.cells #[.int .i64 r.1, .int .i64 r.2.1, .string r.2.2] 34) = w0 at *
  have c0 := K.out.cell 0 _ rfl
  have c1 := K.out.cell 1 _ rfl
  have c2 := K.out.cell 2 _ rfl
  unfold BB.Held
  go_wp2_with fail
  clear c0 c1 c2
  refine (HZ.out w0 K.out.below).mono ?_
  rintro e w1 ⟨rfl, hb1⟩
  have HZ' : Hid ((!nzR r) = z) := HZZ
  rw [show (!nzR r) = z from HZZ.out]
  have K := Lib.hid (K.out.on hb1)
  clear hb1 HZ HZ'
  cases z with
  | true =>
    go_wp2_with fail
    go_ret
    exact ⟨rfl, K.out.below⟩
  | false =>
    have c0 := K.out.cell 0 _ rfl
    have c1 := K.out.cell 1 _ rfl
    have c2 := K.out.cell 2 _ rfl
    go_wp2_with fail
    clear c0 c1 c2
    refine (HB.out w1 K.out.below).mono ?_
    rintro e w2 ⟨rfl, hb2⟩
    have hyy := HY.out
    unfold reqD at hyy
    rw [hyy]
    have K := Lib.hid (K.out.on hb2)
    clear hb2 HB hyy
    go_wp2_with fail
    go_ret
    exact ⟨rfl, K.out.below⟩
end Go.Proofs.Ytacnbpmoceocbaa
end
section
open Go Go.RowKit
namespace WW
open BB
/-- a message of a size that is written -/
structure SmallM (h tg : ByteArray) (x : BlockD) (c : CertD) (s : Int × List ByteArray) (r : Int × Int × ByteArray) : Prop where
  h1 : h.size ≤ 1000000
  t1 : tg.size ≤ 1000000
  bk : x.1.2.1.2.size ≤ 1000000
  bs : SmallS x.1.2.2
  bm : SmallR x.2
  ck : c.1.2.size ≤ 1000000
  cs : SmallS c.2
  sk : (flat s.2).length ≤ 500000
  sn : s.2.length ≤ 1000
  rk : r.2.2.size ≤ 1000000
  bz : (blockD x).size ≤ 1000000000
  cz : (certD c).size ≤ 1000000000
  sz : (sigD s).size ≤ 1000000000
/-- a message's bytes -/
def msgB (k fr dst v : Int) (h : ByteArray) (x : BlockD) (c : CertD) (s : Int × List ByteArray) (r : Int × Int × ByteArray) (ix : Int) (tg : ByteArray) : ByteArray :=
  num k ++ num fr ++ num dst ++ num v ++ txt h ++ encPart blockD (opt nzB x) ++ encPart certD (opt nzC c) ++ encPart sigD (opt nzS s) ++ encPart reqD (opt nzR r) ++ num ix ++ txt tg
theorem encPart_size {α : Type} (ea : α → ByteArray) (nz : α → Bool) (x : α) (n : Nat) (h : (ea x).size ≤ n) : (encPart ea (opt nz x)).size ≤ n + 1 := by
  unfold opt
  split
  · show (⟨#[1]⟩ ++ ea x : ByteArray).size ≤ _
    rw [ByteArray.size_append, show (⟨#[1]⟩ : ByteArray).size = 1 from rfl]; omega
  · show (⟨#[0]⟩ : ByteArray).size ≤ _
    rw [show (⟨#[0]⟩ : ByteArray).size = 1 from rfl]; omega
theorem reqD_size (r : Int × Int × ByteArray) : (reqD r).size = 12 + r.2.2.size := reqB_size _ _ _
end WW
namespace Go.Proofs.Ytacnbpmoceocbaa
open WW BB
theorem keepR1 {w W w1 : World} {g : Nat} {f : Nat → Value} {k fr dst v : Int} {h : ByteArray} {x : BlockD} {c : CertD} {s : Int × List ByteArray} {r : Int × Int × ByteArray} {ix : Int} {tg : ByteArray} {a9 a10 a13 a15 : Option Addr} {c9_ c10_ c13_ c15_ : Nat}
    (M : MsgAt w f k fr dst v h x c s r ix tg (.slice a9 x.1.2.2.length c9_) (.slice a10 x.2.length c10_) (.slice a13 c.2.length c13_) (.slice a15 s.2.length c15_)) (X : MBox w g f W ∧ g ≤ W.heap.size) (hb : Below W.heap.size W w1) :
    w1.cell? ⟨g, 0, none⟩ = some (.int .i64 k) ∧ w1.cell? ⟨g, 1, none⟩ = some (.int .i64 fr) ∧ w1.cell? ⟨g, 2, none⟩ = some (.int .i64 dst) ∧ w1.cell? ⟨g, 3, none⟩ = some (.int .i64 v) ∧ w1.cell? ⟨g, 4, none⟩ = some (.string h) ∧ (MBox w g f w1 ∧ g ≤ w1.heap.size) :=
  ⟨(X.1.on hb).at_ 0 _ (by omega) M.y0, (X.1.on hb).at_ 1 _ (by omega) M.y1, (X.1.on hb).at_ 2 _ (by omega) M.y2, (X.1.on hb).at_ 3 _ (by omega) M.y3, (X.1.on hb).at_ 4 _ (by omega) M.y4, X.1.on hb, Nat.le_trans X.2 hb.size⟩
theorem keepR2 {w W w1 : World} {g : Nat} {f : Nat → Value} {k fr dst v : Int} {h : ByteArray} {x : BlockD} {c : CertD} {s : Int × List ByteArray} {r : Int × Int × ByteArray} {ix : Int} {tg : ByteArray} {a9 a10 a13 a15 : Option Addr} {c9_ c10_ c13_ c15_ : Nat}
    (M : MsgAt w f k fr dst v h x c s r ix tg (.slice a9 x.1.2.2.length c9_) (.slice a10 x.2.length c10_) (.slice a13 c.2.length c13_) (.slice a15 s.2.length c15_)) (X : MBox w g f W ∧ g ≤ W.heap.size) (hb : Below W.heap.size W w1) :
    w1.cell? ⟨g, 5, none⟩ = some (.int .i64 x.1.1.1) ∧ w1.cell? ⟨g, 6, none⟩ = some (.int .i64 x.1.1.2) ∧ w1.cell? ⟨g, 7, none⟩ = some (.int .i64 x.1.2.1.1) ∧ w1.cell? ⟨g, 8, none⟩ = some (.string x.1.2.1.2) ∧ w1.cell? ⟨g, 9, none⟩ = some (.slice a9 x.1.2.2.length c9_) ∧ w1.cell? ⟨g, 10, none⟩ = some (.slice a10 x.2.length c10_) ∧ w1.cell? ⟨g, 11, none⟩ = some (.int .i64 c.1.1) ∧ w1.cell? ⟨g, 12, none⟩ = some (.string c.1.2) ∧ w1.cell? ⟨g, 13, none⟩ = some (.slice a13 c.2.length c13_) ∧ w1.cell? ⟨g, 14, none⟩ = some (.int .i64 s.1) ∧ w1.cell? ⟨g, 15, none⟩ = some (.slice a15 s.2.length c15_) ∧ (MBox w g f w1 ∧ g ≤ w1.heap.size) :=
  ⟨(X.1.on hb).at_ 5 _ (by omega) M.y5, (X.1.on hb).at_ 6 _ (by omega) M.y6, (X.1.on hb).at_ 7 _ (by omega) M.y7, (X.1.on hb).at_ 8 _ (by omega) M.y8, (X.1.on hb).at_ 9 _ (by omega) M.y9, (X.1.on hb).at_ 10 _ (by omega) M.y10, (X.1.on hb).at_ 11 _ (by omega) M.y11, (X.1.on hb).at_ 12 _ (by omega) M.y12, (X.1.on hb).at_ 13 _ (by omega) M.y13, (X.1.on hb).at_ 14 _ (by omega) M.y14, (X.1.on hb).at_ 15 _ (by omega) M.y15, X.1.on hb, Nat.le_trans X.2 hb.size⟩
theorem keepR3 {w W w1 : World} {g : Nat} {f : Nat → Value} {k fr dst v : Int} {h : ByteArray} {x : BlockD} {c : CertD} {s : Int × List ByteArray} {r : Int × Int × ByteArray} {ix : Int} {tg : ByteArray} {a9 a10 a13 a15 : Option Addr} {c9_ c10_ c13_ c15_ : Nat}
    (M : MsgAt w f k fr dst v h x c s r ix tg (.slice a9 x.1.2.2.length c9_) (.slice a10 x.2.length c10_) (.slice a13 c.2.length c13_) (.slice a15 s.2.length c15_)) (X : MBox w g f W ∧ g ≤ W.heap.size) (hb : Below W.heap.size W w1) :
    w1.cell? ⟨g, 16, none⟩ = some (.int .i64 r.1) ∧ w1.cell? ⟨g, 17, none⟩ = some (.int .i64 r.2.1) ∧ w1.cell? ⟨g, 18, none⟩ = some (.string r.2.2) ∧ (MBox w g f w1 ∧ g ≤ w1.heap.size) :=
  ⟨(X.1.on hb).at_ 16 _ (by omega) M.y16, (X.1.on hb).at_ 17 _ (by omega) M.y17, (X.1.on hb).at_ 18 _ (by omega) M.y18, X.1.on hb, Nat.le_trans X.2 hb.size⟩
theorem keepR4 {w W w1 : World} {g : Nat} {f : Nat → Value} {k fr dst v : Int} {h : ByteArray} {x : BlockD} {c : CertD} {s : Int × List ByteArray} {r : Int × Int × ByteArray} {ix : Int} {tg : ByteArray} {a9 a10 a13 a15 : Option Addr} {c9_ c10_ c13_ c15_ : Nat}
    (M : MsgAt w f k fr dst v h x c s r ix tg (.slice a9 x.1.2.2.length c9_) (.slice a10 x.2.length c10_) (.slice a13 c.2.length c13_) (.slice a15 s.2.length c15_)) (X : MBox w g f W ∧ g ≤ W.heap.size) (hb : Below W.heap.size W w1) :
    w1.cell? ⟨g, 19, none⟩ = some (.int .i64 ix) ∧ w1.cell? ⟨g, 20, none⟩ = some (.string tg) ∧ (MBox w g f w1 ∧ g ≤ w1.heap.size) :=
  ⟨(X.1.on hb).at_ 19 _ (by omega) M.y19, (X.1.on hb).at_ 20 _ (by omega) M.y20, X.1.on hb, Nat.le_trans X.2 hb.size⟩
theorem keepRA {w W w1 : World} {g : Nat} {f : Nat → Value} {k fr dst v : Int} {h : ByteArray} {x : BlockD} {c : CertD} {s : Int × List ByteArray} {r : Int × Int × ByteArray} {ix : Int} {tg : ByteArray} {a9 a10 a13 a15 : Option Addr} {c9_ c10_ c13_ c15_ : Nat}
    (M : MsgAt w f k fr dst v h x c s r ix tg (.slice a9 x.1.2.2.length c9_) (.slice a10 x.2.length c10_) (.slice a13 c.2.length c13_) (.slice a15 s.2.length c15_)) (X : MBox w g f W ∧ g ≤ W.heap.size) (hb : Below W.heap.size W w1) :
    w1.cell? ⟨g, 0, none⟩ = some (.int .i64 k) ∧ w1.cell? ⟨g, 1, none⟩ = some (.int .i64 fr) ∧ w1.cell? ⟨g, 2, none⟩ = some (.int .i64 dst) ∧ w1.cell? ⟨g, 3, none⟩ = some (.int .i64 v) ∧ w1.cell? ⟨g, 4, none⟩ = some (.string h) ∧ w1.cell? ⟨g, 5, none⟩ = some (.int .i64 x.1.1.1) ∧ w1.cell? ⟨g, 6, none⟩ = some (.int .i64 x.1.1.2) ∧ w1.cell? ⟨g, 7, none⟩ = some (.int .i64 x.1.2.1.1) ∧ w1.cell? ⟨g, 8, none⟩ = some (.string x.1.2.1.2) ∧ w1.cell? ⟨g, 9, none⟩ = some (.slice a9 x.1.2.2.length c9_) ∧ w1.cell? ⟨g, 10, none⟩ = some (.slice a10 x.2.length c10_) ∧ w1.cell? ⟨g, 11, none⟩ = some (.int .i64 c.1.1) ∧ w1.cell? ⟨g, 12, none⟩ = some (.string c.1.2) ∧ w1.cell? ⟨g, 13, none⟩ = some (.slice a13 c.2.length c13_) ∧ w1.cell? ⟨g, 14, none⟩ = some (.int .i64 s.1) ∧ w1.cell? ⟨g, 15, none⟩ = some (.slice a15 s.2.length c15_) ∧ w1.cell? ⟨g, 16, none⟩ = some (.int .i64 r.1) ∧ w1.cell? ⟨g, 17, none⟩ = some (.int .i64 r.2.1) ∧ w1.cell? ⟨g, 18, none⟩ = some (.string r.2.2) ∧ w1.cell? ⟨g, 19, none⟩ = some (.int .i64 ix) ∧ w1.cell? ⟨g, 20, none⟩ = some (.string tg) ∧ (MBox w g f w1 ∧ g ≤ w1.heap.size) :=
  ⟨(X.1.on hb).at_ 0 _ (by omega) M.y0, (X.1.on hb).at_ 1 _ (by omega) M.y1, (X.1.on hb).at_ 2 _ (by omega) M.y2, (X.1.on hb).at_ 3 _ (by omega) M.y3, (X.1.on hb).at_ 4 _ (by omega) M.y4, (X.1.on hb).at_ 5 _ (by omega) M.y5, (X.1.on hb).at_ 6 _ (by omega) M.y6, (X.1.on hb).at_ 7 _ (by omega) M.y7, (X.1.on hb).at_ 8 _ (by omega) M.y8, (X.1.on hb).at_ 9 _ (by omega) M.y9, (X.1.on hb).at_ 10 _ (by omega) M.y10, (X.1.on hb).at_ 11 _ (by omega) M.y11, (X.1.on hb).at_ 12 _ (by omega) M.y12, (X.1.on hb).at_ 13 _ (by omega) M.y13, (X.1.on hb).at_ 14 _ (by omega) M.y14, (X.1.on hb).at_ 15 _ (by omega) M.y15, (X.1.on hb).at_ 16 _ (by omega) M.y16, (X.1.on hb).at_ 17 _ (by omega) M.y17, (X.1.on hb).at_ 18 _ (by omega) M.y18, (X.1.on hb).at_ 19 _ (by omega) M.y19, (X.1.on hb).at_ 20 _ (by omega) M.y20, X.1.on hb, Nat.le_trans X.2 hb.size⟩
theorem number_is (n : Int) (p : ByteArray) (h : num n = p) (w : World) : Calls Try.prog 10 #[.int .i64 n] w fun e w' => e = .returned (.string p) ∧ Below w.heap.size w w' := h ▸ number_any n w
theorem text_is (s p : ByteArray) (h : txt s = p) (hs : s.size ≤ 1000000) (w : World) : Calls Try.prog 12 #[.string s] w fun e w' => e = .returned (.string p) ∧ Below w.heap.size w w' := h ▸ text_any s hs w
theorem rnumber_is (n : Int) (p : ByteArray) (h : num n = p) (w : World) : Calls Try.prog 14 #[.int .i64 n] w fun e w' => e = .returned (.string p) ∧ Below w.heap.size w w' := h ▸ rnumber_any n w
theorem rtext_is (s p : ByteArray) (h : txt s = p) (hs : s.size ≤ 1000000) (w : World) : Calls Try.prog 13 #[.string s] w fun e w' => e = .returned (.string p) ∧ Below w.heap.size w w' := h ▸ rtext_any s hs w
theorem partB_is (x : BlockD) (s9 r10 : Value) (p : ByteArray) (hp : encPart blockD (opt nzB x) = p) (w : World) (hv : SigsAt w s9 x.1.2.2) (hr : ReqsAt w r10 x.2) (hk : x.1.2.1.2.size ≤ 1000000) (hs : SmallS x.1.2.2) (hm : SmallR x.2) (hz : (blockD x).size ≤ 1000000000) :
    Calls Try.prog 51 #[.agg #[.int .i64 x.1.1.1, .int .i64 x.1.1.2, .int .i64 x.1.2.1.1, .string x.1.2.1.2, s9, r10], .func (.func 52) #[] #[], .func (.func 17) #[] #[]] w fun e w' => e = .returned (.string p) ∧ Below w.heap.size w w' := hp ▸ partB_any x s9 r10 w hv hr hk hs hm hz
theorem partC_is (c : CertD) (s13 : Value) (p : ByteArray) (hp : encPart certD (opt nzC c) = p) (w : World) (hv : SigsAt w s13 c.2) (hk : c.1.2.size ≤ 1000000) (hs : SmallS c.2) (hz : (certD c).size ≤ 1000000000) :
    Calls Try.prog 53 #[.agg #[.int .i64 c.1.1, .string c.1.2, s13], .func (.func 54) #[] #[], .func (.func 23) #[] #[]] w fun e w' => e = .returned (.string p) ∧ Below w.heap.size w w' := hp ▸ partC_any c s13 w hv hk hs hz
theorem partS_is (s : Int × List ByteArray) (t15 : Value) (p : ByteArray) (hp : encPart sigD (opt nzS s) = p) (w : World) (hv : StrsAt w t15 s.2) (hk : (flat s.2).length ≤ 500000) (hs : s.2.length ≤ 1000) (hz : (sigD s).size ≤ 1000000000) :
    Calls Try.prog 55 #[.agg #[.int .i64 s.1, t15], .func (.func 56) #[] #[], .func (.func 43) #[] #[]] w fun e w' => e = .returned (.string p) ∧ Below w.heap.size w w' := hp ▸ partS_any s t15 w hv hk hs hz
theorem partR_is (r : Int × Int × ByteArray)  (p : ByteArray) (hp : encPart reqD (opt nzR r) = p) (w : World) (hk : r.2.2.size ≤ 1000000) (hz : (reqD r).size ≤ 1000000000) :
    Calls Try.prog 57 #[.agg #[.int .i64 r.1, .int .i64 r.2.1, .string r.2.2], .func (.func 58) #[] #[], .func (.func 18) #[] #[]] w fun e w' => e = .returned (.string p) ∧ Below w.heap.size w w' := hp ▸ partR_any r  w hk hz
set_option maxRecDepth 100000 in
set_option maxHeartbeats 16000000 in
theorem msg_any (w : World) (f : Nat → Value) (k fr dst v : Int) (h : ByteArray) (x : BlockD) (c : CertD) (s : Int × List ByteArray) (r : Int × Int × ByteArray) (ix : Int) (tg : ByteArray) (s9 r10 s13 t15 : Value)
    (M : MsgAt w f k fr dst v h x c s r ix tg s9 r10 s13 t15) (hm : SmallM h tg x c s r) :
    Calls Try.prog 34 #[.agg (row 21 f)] w fun e w' => e = .returned (.string (msgB k fr dst v h x c s r ix tg)) ∧ Below w.heap.size w w' := by
  have MM := Lib.hid M
  have HM := Lib.hid hm
  obtain ⟨a9, c9_, rfl, q9⟩ := M.h9
  obtain ⟨a10, c10_, rfl, q10⟩ := M.h10
  obtain ⟨a13, c13_, rfl, q13⟩ := M.h13
  obtain ⟨a15, c15_, rfl, q15⟩ := M.h15
  clear M q9 q10 q13 q15
  obtain ⟨p0, e0⟩ : ∃ p0, num k = p0 := ⟨_, rfl⟩
  have z0 : p0.size ≤ 4 := by rw [← e0, num_size]; omega
  obtain ⟨p1, e1⟩ : ∃ p1, num fr = p1 := ⟨_, rfl⟩
  have z1 : p1.size ≤ 4 := by rw [← e1, num_size]; omega
  obtain ⟨p2, e2⟩ : ∃ p2, num dst = p2 := ⟨_, rfl⟩
  have z2 : p2.size ≤ 4 := by rw [← e2, num_size]; omega
  obtain ⟨p3, e3⟩ : ∃ p3, num v = p3 := ⟨_, rfl⟩
  have z3 : p3.size ≤ 4 := by rw [← e3, num_size]; omega
  obtain ⟨p4, e4⟩ : ∃ p4, txt h = p4 := ⟨_, rfl⟩
  have z4 : p4.size ≤ 1000004 := by rw [← e4, txt_size]; have := hm.h1; omega
  obtain ⟨p5, e5⟩ : ∃ p5, encPart blockD (opt nzB x) = p5 := ⟨_, rfl⟩
  have z5 : p5.size ≤ 1000000001 := by rw [← e5]; exact encPart_size _ _ _ _ hm.bz
  obtain ⟨p6, e6⟩ : ∃ p6, encPart certD (opt nzC c) = p6 := ⟨_, rfl⟩
  have z6 : p6.size ≤ 1000000001 := by rw [← e6]; exact encPart_size _ _ _ _ hm.cz
  obtain ⟨p7, e7⟩ : ∃ p7, encPart sigD (opt nzS s) = p7 := ⟨_, rfl⟩
  have z7 : p7.size ≤ 1000000001 := by rw [← e7]; exact encPart_size _ _ _ _ hm.sz
  obtain ⟨p8, e8⟩ : ∃ p8, encPart reqD (opt nzR r) = p8 := ⟨_, rfl⟩
  have z8 : p8.size ≤ 1000013 := by rw [← e8]; exact encPart_size _ _ _ 1000012 (by rw [reqD_size]; have := hm.rk; omega)
  obtain ⟨p9, e9⟩ : ∃ p9, num ix = p9 := ⟨_, rfl⟩
  have z9 : p9.size ≤ 4 := by rw [← e9, num_size]; omega
  obtain ⟨p10, e10⟩ : ∃ p10, txt tg = p10 := ⟨_, rfl⟩
  have z10 : p10.size ≤ 1000004 := by rw [← e10, txt_size]; have := hm.t1; omega
  have s1 : ¬ 9223372036854775807 < p0.size + p1.size := by omega
  have s2 : ¬ 9223372036854775807 < p0.size + p1.size + p2.size := by omega
  have s3 : ¬ 9223372036854775807 < p0.size + p1.size + p2.size + p3.size := by omega
  have s4 : ¬ 9223372036854775807 < p0.size + p1.size + p2.size + p3.size + p4.size := by omega
  have s5 : ¬ 9223372036854775807 < p0.size + p1.size + p2.size + p3.size + p4.size + p5.size := by omega
  have s6 : ¬ 9223372036854775807 < p0.size + p1.size + p2.size + p3.size + p4.size + p5.size + p6.size := by omega
  have s7 : ¬ 9223372036854775807 < p0.size + p1.size + p2.size + p3.size + p4.size + p5.size + p6.size + p7.size := by omega
  have s8 : ¬ 9223372036854775807 < p0.size + p1.size + p2.size + p3.size + p4.size + p5.size + p6.size + p7.size + p8.size := by omega
  have s9 : ¬ 9223372036854775807 < p0.size + p1.size + p2.size + p3.size + p4.size + p5.size + p6.size + p7.size + p8.size + p9.size := by omega
  have s10 : ¬ 9223372036854775807 < p0.size + p1.size + p2.size + p3.size + p4.size + p5.size + p6.size + p7.size + p8.size + p9.size + p10.size := by omega
  have HR : Hid (msgB k fr dst v h x c s r ix tg = p0 ++ p1 ++ p2 ++ p3 ++ p4 ++ p5 ++ p6 ++ p7 ++ p8 ++ p9 ++ p10) := Lib.hid (by unfold msgB; rw [e0, e1, e2, e3, e4, e5, e6, e7, e8, e9, e10])
  rw [HR.out]
  have E0 := Lib.hid e0
  have E1 := Lib.hid e1
  have E2 := Lib.hid e2
  have E3 := Lib.hid e3
  have E4 := Lib.hid e4
  have E5 := Lib.hid e5
  have E6 := Lib.hid e6
  have E7 := Lib.hid e7
  have E8 := Lib.hid e8
  have E9 := Lib.hid e9
  have E10 := Lib.hid e10
  clear hm e0 z0 e1 z1 e2 z2 e3 z3 e4 z4 e5 z5 e6 z6 e7 z7 e8 z8 e9 z9 e10 z10
  go_enter Try.func34, Try.ntmps34
  go_wp2_with fail
  have X0 := mbox_mk w f 52
  obtain ⟨g, hg⟩ : ∃ g, w.heap.size = g := ⟨_, rfl⟩
  rw [hg] at X0 ⊢
  have HG := Lib.hid hg
  generalize w.alloc (.cells (row 21 f) 52) = w0 at *
  have hst := keepRA (w1 := w0.drew) MM.out ⟨X0, by rw [← hg]; exact X0.below.size⟩ ((Below.refl _ _).drew)
  clear hg X0
  go_region_held3 (fun w' => w'.cell? ⟨g, 0, none⟩ = some (.int .i64 k) ∧ w'.cell? ⟨g, 1, none⟩ = some (.int .i64 fr) ∧ w'.cell? ⟨g, 2, none⟩ = some (.int .i64 dst) ∧ w'.cell? ⟨g, 3, none⟩ = some (.int .i64 v) ∧ w'.cell? ⟨g, 4, none⟩ = some (.string h) ∧ w'.cell? ⟨g, 5, none⟩ = some (.int .i64 x.1.1.1) ∧ w'.cell? ⟨g, 6, none⟩ = some (.int .i64 x.1.1.2) ∧ w'.cell? ⟨g, 7, none⟩ = some (.int .i64 x.1.2.1.1) ∧ w'.cell? ⟨g, 8, none⟩ = some (.string x.1.2.1.2) ∧ w'.cell? ⟨g, 9, none⟩ = some (.slice a9 x.1.2.2.length c9_) ∧ w'.cell? ⟨g, 10, none⟩ = some (.slice a10 x.2.length c10_) ∧ w'.cell? ⟨g, 11, none⟩ = some (.int .i64 c.1.1) ∧ w'.cell? ⟨g, 12, none⟩ = some (.string c.1.2) ∧ w'.cell? ⟨g, 13, none⟩ = some (.slice a13 c.2.length c13_) ∧ w'.cell? ⟨g, 14, none⟩ = some (.int .i64 s.1) ∧ w'.cell? ⟨g, 15, none⟩ = some (.slice a15 s.2.length c15_) ∧ w'.cell? ⟨g, 16, none⟩ = some (.int .i64 r.1) ∧ w'.cell? ⟨g, 17, none⟩ = some (.int .i64 r.2.1) ∧ w'.cell? ⟨g, 18, none⟩ = some (.string r.2.2) ∧ w'.cell? ⟨g, 19, none⟩ = some (.int .i64 ix) ∧ w'.cell? ⟨g, 20, none⟩ = some (.string tg) ∧ (MBox w g f w' ∧ g ≤ w'.heap.size))
    (first | exact hst | assumption | exact hk10)
    (first
      | (go_at_call 10; (fail_if_success have hx := T0); refine (number_is k p0 E0.out _).mono ?_; rintro e w1 ⟨rfl, hb⟩; have hk0 := keepRA MM.out (by assumption : _ ∧ _ ∧ _ ∧ _ ∧ _ ∧ _ ∧ _ ∧ _ ∧ _ ∧ _ ∧ _ ∧ _ ∧ _ ∧ _ ∧ _ ∧ _ ∧ _ ∧ _ ∧ _ ∧ _ ∧ _ ∧ (MBox w g f _ ∧ g ≤ _)).2.2.2.2.2.2.2.2.2.2.2.2.2.2.2.2.2.2.2.2.2 hb; have T0 := Lib.hid True.intro; clear hb)
      | (go_at_call 10; (fail_if_success have hx := T1); refine (number_is fr p1 E1.out _).mono ?_; rintro e w1 ⟨rfl, hb⟩; have hk1 := keepRA MM.out (by assumption : _ ∧ _ ∧ _ ∧ _ ∧ _ ∧ _ ∧ _ ∧ _ ∧ _ ∧ _ ∧ _ ∧ _ ∧ _ ∧ _ ∧ _ ∧ _ ∧ _ ∧ _ ∧ _ ∧ _ ∧ _ ∧ (MBox w g f _ ∧ g ≤ _)).2.2.2.2.2.2.2.2.2.2.2.2.2.2.2.2.2.2.2.2.2 hb; have T1 := Lib.hid True.intro; clear hb)
      | (go_at_call 10; (fail_if_success have hx := T2); refine (number_is dst p2 E2.out _).mono ?_; rintro e w1 ⟨rfl, hb⟩; have hk2 := keepRA MM.out (by assumption : _ ∧ _ ∧ _ ∧ _ ∧ _ ∧ _ ∧ _ ∧ _ ∧ _ ∧ _ ∧ _ ∧ _ ∧ _ ∧ _ ∧ _ ∧ _ ∧ _ ∧ _ ∧ _ ∧ _ ∧ _ ∧ (MBox w g f _ ∧ g ≤ _)).2.2.2.2.2.2.2.2.2.2.2.2.2.2.2.2.2.2.2.2.2 hb; have T2 := Lib.hid True.intro; clear hb)
      | (go_at_call 10; (fail_if_success have hx := T3); refine (number_is v p3 E3.out _).mono ?_; rintro e w1 ⟨rfl, hb⟩; have hk3 := keepRA MM.out (by assumption : _ ∧ _ ∧ _ ∧ _ ∧ _ ∧ _ ∧ _ ∧ _ ∧ _ ∧ _ ∧ _ ∧ _ ∧ _ ∧ _ ∧ _ ∧ _ ∧ _ ∧ _ ∧ _ ∧ _ ∧ _ ∧ (MBox w g f _ ∧ g ≤ _)).2.2.2.2.2.2.2.2.2.2.2.2.2.2.2.2.2.2.2.2.2 hb; have T3 := Lib.hid True.intro; clear hb)
      | (go_at_call 12; (fail_if_success have hx := T4); refine (text_is h p4 E4.out HM.out.h1 _).mono ?_; rintro e w1 ⟨rfl, hb⟩; have hk4 := keepRA MM.out (by assumption : _ ∧ _ ∧ _ ∧ _ ∧ _ ∧ _ ∧ _ ∧ _ ∧ _ ∧ _ ∧ _ ∧ _ ∧ _ ∧ _ ∧ _ ∧ _ ∧ _ ∧ _ ∧ _ ∧ _ ∧ _ ∧ (MBox w g f _ ∧ g ≤ _)).2.2.2.2.2.2.2.2.2.2.2.2.2.2.2.2.2.2.2.2.2 hb; have T4 := Lib.hid True.intro; clear hb)
      | (go_at_call 51; refine (partB_is x _ _ p5 E5.out _ (MM.out.later (by assumption : _ ∧ _ ∧ _ ∧ _ ∧ _ ∧ _ ∧ _ ∧ _ ∧ _ ∧ _ ∧ _ ∧ _ ∧ _ ∧ _ ∧ _ ∧ _ ∧ _ ∧ _ ∧ _ ∧ _ ∧ _ ∧ (MBox w g f _ ∧ g ≤ _)).2.2.2.2.2.2.2.2.2.2.2.2.2.2.2.2.2.2.2.2.2.1.below).h9 (MM.out.later (by assumption : _ ∧ _ ∧ _ ∧ _ ∧ _ ∧ _ ∧ _ ∧ _ ∧ _ ∧ _ ∧ _ ∧ _ ∧ _ ∧ _ ∧ _ ∧ _ ∧ _ ∧ _ ∧ _ ∧ _ ∧ _ ∧ (MBox w g f _ ∧ g ≤ _)).2.2.2.2.2.2.2.2.2.2.2.2.2.2.2.2.2.2.2.2.2.1.below).h10 HM.out.bk HM.out.bs HM.out.bm HM.out.bz).mono ?_; rintro e w1 ⟨rfl, hb⟩; have hk5 := keepRA MM.out (by assumption : _ ∧ _ ∧ _ ∧ _ ∧ _ ∧ _ ∧ _ ∧ _ ∧ _ ∧ _ ∧ _ ∧ _ ∧ _ ∧ _ ∧ _ ∧ _ ∧ _ ∧ _ ∧ _ ∧ _ ∧ _ ∧ (MBox w g f _ ∧ g ≤ _)).2.2.2.2.2.2.2.2.2.2.2.2.2.2.2.2.2.2.2.2.2 hb; clear hb)
      | (go_at_call 53; refine (partC_is c _ p6 E6.out _ (MM.out.later (by assumption : _ ∧ _ ∧ _ ∧ _ ∧ _ ∧ _ ∧ _ ∧ _ ∧ _ ∧ _ ∧ _ ∧ _ ∧ _ ∧ _ ∧ _ ∧ _ ∧ _ ∧ _ ∧ _ ∧ _ ∧ _ ∧ (MBox w g f _ ∧ g ≤ _)).2.2.2.2.2.2.2.2.2.2.2.2.2.2.2.2.2.2.2.2.2.1.below).h13 HM.out.ck HM.out.cs HM.out.cz).mono ?_; rintro e w1 ⟨rfl, hb⟩; have hk6 := keepRA MM.out (by assumption : _ ∧ _ ∧ _ ∧ _ ∧ _ ∧ _ ∧ _ ∧ _ ∧ _ ∧ _ ∧ _ ∧ _ ∧ _ ∧ _ ∧ _ ∧ _ ∧ _ ∧ _ ∧ _ ∧ _ ∧ _ ∧ (MBox w g f _ ∧ g ≤ _)).2.2.2.2.2.2.2.2.2.2.2.2.2.2.2.2.2.2.2.2.2 hb; clear hb)
      | (go_at_call 55; refine (partS_is s _ p7 E7.out _ (MM.out.later (by assumption : _ ∧ _ ∧ _ ∧ _ ∧ _ ∧ _ ∧ _ ∧ _ ∧ _ ∧ _ ∧ _ ∧ _ ∧ _ ∧ _ ∧ _ ∧ _ ∧ _ ∧ _ ∧ _ ∧ _ ∧ _ ∧ (MBox w g f _ ∧ g ≤ _)).2.2.2.2.2.2.2.2.2.2.2.2.2.2.2.2.2.2.2.2.2.1.below).h15 HM.out.sk HM.out.sn HM.out.sz).mono ?_; rintro e w1 ⟨rfl, hb⟩; have hk7 := keepRA MM.out (by assumption : _ ∧ _ ∧ _ ∧ _ ∧ _ ∧ _ ∧ _ ∧ _ ∧ _ ∧ _ ∧ _ ∧ _ ∧ _ ∧ _ ∧ _ ∧ _ ∧ _ ∧ _ ∧ _ ∧ _ ∧ _ ∧ (MBox w g f _ ∧ g ≤ _)).2.2.2.2.2.2.2.2.2.2.2.2.2.2.2.2.2.2.2.2.2 hb; clear hb)
      | (go_at_call 57; refine (partR_is r p8 E8.out _ HM.out.rk (by rw [reqD_size]; have := HM.out.rk; omega)).mono ?_; rintro e w1 ⟨rfl, hb⟩; have hk8 := keepRA MM.out (by assumption : _ ∧ _ ∧ _ ∧ _ ∧ _ ∧ _ ∧ _ ∧ _ ∧ _ ∧ _ ∧ _ ∧ _ ∧ _ ∧ _ ∧ _ ∧ _ ∧ _ ∧ _ ∧ _ ∧ _ ∧ _ ∧ (MBox w g f _ ∧ g ≤ _)).2.2.2.2.2.2.2.2.2.2.2.2.2.2.2.2.2.2.2.2.2 hb; clear hb)
      | (go_at_call 10; (fail_if_success have hx := T9); refine (number_is ix p9 E9.out _).mono ?_; rintro e w1 ⟨rfl, hb⟩; have hk9 := keepRA MM.out (by assumption : _ ∧ _ ∧ _ ∧ _ ∧ _ ∧ _ ∧ _ ∧ _ ∧ _ ∧ _ ∧ _ ∧ _ ∧ _ ∧ _ ∧ _ ∧ _ ∧ _ ∧ _ ∧ _ ∧ _ ∧ _ ∧ (MBox w g f _ ∧ g ≤ _)).2.2.2.2.2.2.2.2.2.2.2.2.2.2.2.2.2.2.2.2.2 hb; have T9 := Lib.hid True.intro; clear hb)
      | (go_at_call 12; refine (text_is tg p10 E10.out HM.out.t1 _).mono ?_; rintro e w1 ⟨rfl, hb⟩; have hk10 := keepRA MM.out (by assumption : _ ∧ _ ∧ _ ∧ _ ∧ _ ∧ _ ∧ _ ∧ _ ∧ _ ∧ _ ∧ _ ∧ _ ∧ _ ∧ _ ∧ _ ∧ _ ∧ _ ∧ _ ∧ _ ∧ _ ∧ _ ∧ (MBox w g f _ ∧ g ≤ _)).2.2.2.2.2.2.2.2.2.2.2.2.2.2.2.2.2.2.2.2.2 hb; clear hb))
  go_wp2_with fail
  go_ret
  exact ⟨rfl, (hk10.2.2.2.2.2.2.2.2.2.2.2.2.2.2.2.2.2.2.2.2.2).1.below⟩
end Go.Proofs.Ytacnbpmoceocbaa
end
