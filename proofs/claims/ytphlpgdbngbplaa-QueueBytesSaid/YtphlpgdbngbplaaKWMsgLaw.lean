/-
  The walk of the law WireMsgs.
-/
import Derived.Test.YtphlpgdbngbplaaKWMsgPut
import Derived.Test.YtphlpgdbngbplaaKWRef2
import Derived.Test.YtphlpgdbngbplaaKWPartC
section
open Go Go.RowKit
namespace Go.Proofs.Ytphlpgdbngbplaa
open WW BB
theorem maybe_is (z : Bool) (s p : ByteArray) (h : mayB z s = p) (hs : s.size ≤ 1000000000) (w : World) : Calls Try.prog 31 #[.bool z, .string s] w fun e w' => e = .returned (.string p) ∧ Below w.heap.size w w' := by
  subst h
  exact (maybe_any z s hs w).mono fun e w' ⟨h1, h2⟩ => ⟨h1, by subst h2; exact Below.refl _ _⟩
theorem rblock_is (x : BlockD) (s9 r10 : Value) (p : ByteArray) (hp : blockD x = p) (w : World) (hv : SigsAt w s9 x.1.2.2) (hr : ReqsAt w r10 x.2) (hk : x.1.2.1.2.size ≤ 1000000) (hs : SmallS x.1.2.2) (hm : SmallR x.2) :
    Calls Try.prog 32 #[.agg #[.int .i64 x.1.1.1, .int .i64 x.1.1.2, .int .i64 x.1.2.1.1, .string x.1.2.1.2, s9, r10]] w fun e w' => e = .returned (.string p) ∧ Below w.heap.size w w' := hp ▸ rblock_any _ _ _ _ _ _ _ _ w hv hr hk hs hm
theorem rcert_is (c : CertD) (s13 : Value) (p : ByteArray) (hp : certD c = p) (w : World) (hv : SigsAt w s13 c.2) (hk : c.1.2.size ≤ 1000000) (hs : SmallS c.2) :
    Calls Try.prog 33 #[.agg #[.int .i64 c.1.1, .string c.1.2, s13]] w fun e w' => e = .returned (.string p) ∧ Below w.heap.size w w' := hp ▸ rcert_any _ _ _ _ w hv hk hs
theorem rsig_is (s : Int × List ByteArray) (t15 : Value) (p : ByteArray) (hp : sigD s = p) (w : World) (hv : StrsAt w t15 s.2) (hk : (flat s.2).length ≤ 500000) (hs : s.2.length ≤ 1000) :
    Calls Try.prog 34 #[.agg #[.int .i64 s.1, t15]] w fun e w' => e = .returned (.string p) ∧ Below w.heap.size w w' := hp ▸ rsig_any _ _ _ w hv hk hs
theorem rreq_is (r : Int × Int × ByteArray) (p : ByteArray) (hp : reqD r = p) (hk : r.2.2.size ≤ 1000000) (w : World) :
    Calls Try.prog 35 #[.agg #[.int .i64 r.1, .int .i64 r.2.1, .string r.2.2]] w fun e w' => e = .returned (.string p) ∧ Below w.heap.size w w' := hp ▸ rrequest_any _ _ _ hk w
set_option maxRecDepth 100000 in
set_option maxHeartbeats 16000000 in
theorem rmsg_any (w : World) (f : Nat → Value) (k fr dst v : Int) (h : ByteArray) (x : BlockD) (c : CertD) (s : Int × List ByteArray) (r : Int × Int × ByteArray) (ix : Int) (tg : ByteArray) (s9 r10 s13 t15 : Value)
    (M : MsgAt w f k fr dst v h x c s r ix tg s9 r10 s13 t15) (hm : SmallM h tg x c s r) :
    Calls Try.prog 12 #[.agg (row 21 f)] w fun e w' => e = .returned (.string (msgB k fr dst v h x c s r ix tg)) ∧ Below w.heap.size w w' := by
  have MM := Lib.hid M
  have HM := Lib.hid hm
  obtain ⟨a9, c9_, rfl, q9⟩ := M.h9
  obtain ⟨a10, c10_, rfl, q10⟩ := M.h10
  obtain ⟨a13, c13_, rfl, q13⟩ := M.h13
  obtain ⟨a15, c15_, rfl, q15⟩ := M.h15
  clear M q9 q10 q13 q15
  obtain ⟨p0, e0⟩ : ∃ p0, num k = p0 := ⟨_, rfl⟩
  have z0 : p0.size ≤ 4 := by rw [← e0, num_size]; omega
  obtain ⟨p1, e1⟩ : ∃ p1, num fr = p1 := ⟨_, rfl⟩
  have z1 : p1.size ≤ 4 := by rw [← e1, num_size]; omega
  obtain ⟨p2, e2⟩ : ∃ p2, num dst = p2 := ⟨_, rfl⟩
  have z2 : p2.size ≤ 4 := by rw [← e2, num_size]; omega
  obtain ⟨p3, e3⟩ : ∃ p3, num v = p3 := ⟨_, rfl⟩
  have z3 : p3.size ≤ 4 := by rw [← e3, num_size]; omega
  obtain ⟨p4, e4⟩ : ∃ p4, txt h = p4 := ⟨_, rfl⟩
  have z4 : p4.size ≤ 1000004 := by rw [← e4, txt_size]; have := hm.h1; omega
  obtain ⟨p5, e5⟩ : ∃ p5, encPart blockD (opt nzB x) = p5 := ⟨_, rfl⟩
  have z5 : p5.size ≤ 1000000001 := by rw [← e5]; exact encPart_size _ _ _ _ hm.bz
  obtain ⟨p6, e6⟩ : ∃ p6, encPart certD (opt nzC c) = p6 := ⟨_, rfl⟩
  have z6 : p6.size ≤ 1000000001 := by rw [← e6]; exact encPart_size _ _ _ _ hm.cz
  obtain ⟨p7, e7⟩ : ∃ p7, encPart sigD (opt nzS s) = p7 := ⟨_, rfl⟩
  have z7 : p7.size ≤ 1000000001 := by rw [← e7]; exact encPart_size _ _ _ _ hm.sz
  obtain ⟨p8, e8⟩ : ∃ p8, encPart reqD (opt nzR r) = p8 := ⟨_, rfl⟩
  have z8 : p8.size ≤ 1000013 := by rw [← e8]; exact encPart_size _ _ _ 1000012 (by rw [reqD_size]; have := hm.rk; omega)
  obtain ⟨p9, e9⟩ : ∃ p9, num ix = p9 := ⟨_, rfl⟩
  have z9 : p9.size ≤ 4 := by rw [← e9, num_size]; omega
  obtain ⟨p10, e10⟩ : ∃ p10, txt tg = p10 := ⟨_, rfl⟩
  have z10 : p10.size ≤ 1000004 := by rw [← e10, txt_size]; have := hm.t1; omega
  obtain ⟨zb, hzb⟩ : ∃ zb, (!nzB x) = zb := ⟨_, rfl⟩
  obtain ⟨yb, hyb⟩ : ∃ yb, blockD x = yb := ⟨_, rfl⟩
  have Yb := Lib.hid (show yb.size ≤ 1000000000 by rw [← hyb]; exact hm.bz)
  have Qb := Lib.hid (show mayB zb yb = p5 by rw [← hzb, ← hyb, mayB_opt, e5])
  obtain ⟨zc, hzc⟩ : ∃ zc, (!nzC c) = zc := ⟨_, rfl⟩
  obtain ⟨yc, hyc⟩ : ∃ yc, certD c = yc := ⟨_, rfl⟩
  have Yc := Lib.hid (show yc.size ≤ 1000000000 by rw [← hyc]; exact hm.cz)
  have Qc := Lib.hid (show mayB zc yc = p6 by rw [← hzc, ← hyc, mayB_opt, e6])
  obtain ⟨zs, hzs⟩ : ∃ zs, (!nzS s) = zs := ⟨_, rfl⟩
  obtain ⟨ys, hys⟩ : ∃ ys, sigD s = ys := ⟨_, rfl⟩
  have Ys := Lib.hid (show ys.size ≤ 1000000000 by rw [← hys]; exact hm.sz)
  have Qs := Lib.hid (show mayB zs ys = p7 by rw [← hzs, ← hys, mayB_opt, e7])
  obtain ⟨zr, hzr⟩ : ∃ zr, (!nzR r) = zr := ⟨_, rfl⟩
  obtain ⟨yr, hyr⟩ : ∃ yr, reqD r = yr := ⟨_, rfl⟩
  have Yr := Lib.hid (show yr.size ≤ 1000000000 by rw [← hyr]; rw [reqD_size]; have := hm.rk; omega)
  have Qr := Lib.hid (show mayB zr yr = p8 by rw [← hzr, ← hyr, mayB_opt, e8])
  have hr1 : reqD r = yr := hyr
  have s1 : ¬ 9223372036854775807 < p0.size + p1.size := by omega
  have s2 : ¬ 9223372036854775807 < p0.size + p1.size + p2.size := by omega
  have s3 : ¬ 9223372036854775807 < p0.size + p1.size + p2.size + p3.size := by omega
  have s4 : ¬ 9223372036854775807 < p0.size + p1.size + p2.size + p3.size + p4.size := by omega
  have s6 : ¬ 9223372036854775807 < p5.size + p6.size := by omega
  have s7 : ¬ 9223372036854775807 < p5.size + p6.size + p7.size := by omega
  have s8 : ¬ 9223372036854775807 < p0.size + p1.size + p2.size + p3.size + p4.size + (p5.size + p6.size + p7.size) := by omega
  have s9_ : ¬ 9223372036854775807 < p0.size + p1.size + p2.size + p3.size + p4.size + (p5.size + p6.size + p7.size) + p8.size := by omega
  have s10_ : ¬ 9223372036854775807 < p0.size + p1.size + p2.size + p3.size + p4.size + (p5.size + p6.size + p7.size) + p8.size + p9.size := by omega
  have s11_ : ¬ 9223372036854775807 < p0.size + p1.size + p2.size + p3.size + p4.size + (p5.size + p6.size + p7.size) + p8.size + p9.size + p10.size := by omega
  have HR : Hid (msgB k fr dst v h x c s r ix tg = p0 ++ p1 ++ p2 ++ p3 ++ p4 ++ (p5 ++ p6 ++ p7) ++ p8 ++ p9 ++ p10) := Lib.hid (by unfold msgB; rw [e0, e1, e2, e3, e4, e5, e6, e7, e8, e9, e10]; simp only [ByteArray.append_assoc])
  rw [HR.out]
  have E0 := Lib.hid e0
  have E1 := Lib.hid e1
  have E2 := Lib.hid e2
  have E3 := Lib.hid e3
  have E4 := Lib.hid e4
  have E5 := Lib.hid e5
  have E6 := Lib.hid e6
  have E7 := Lib.hid e7
  have E8 := Lib.hid e8
  have E9 := Lib.hid e9
  have E10 := Lib.hid e10
  have EZb := Lib.hid hzb
  have EYb := Lib.hid hyb
  have EZc := Lib.hid hzc
  have EYc := Lib.hid hyc
  have EZs := Lib.hid hzs
  have EYs := Lib.hid hys
  have EZr := Lib.hid hzr
  have EYr := Lib.hid hyr
  clear hm hr1 e0 z0 e1 z1 e2 z2 e3 z3 e4 z4 e5 z5 e6 z6 e7 z7 e8 z8 e9 z9 e10 z10 hzb hyb hzc hyc hzs hys hzr hyr
  go_enter Try.func12, Try.ntmps12
  go_wp2_with fail
  have X0 := mbox_mk w f 42
  obtain ⟨g, hg⟩ : ∃ g, w.heap.size = g := ⟨_, rfl⟩
  rw [hg] at X0 ⊢
  have HG := Lib.hid hg
  generalize w.alloc (.cells (row 21 f) 42) = w0 at *
  have hst := keepR1 (w1 := w0.drew) MM.out ⟨X0, by rw [← hg]; exact X0.below.size⟩ ((Below.refl _ _).drew)
  clear hg X0
  go_region_held3 (fun w' => w'.cell? ⟨g, 0, none⟩ = some (.int .i64 k) ∧ w'.cell? ⟨g, 1, none⟩ = some (.int .i64 fr) ∧ w'.cell? ⟨g, 2, none⟩ = some (.int .i64 dst) ∧ w'.cell? ⟨g, 3, none⟩ = some (.int .i64 v) ∧ w'.cell? ⟨g, 4, none⟩ = some (.string h) ∧ (MBox w g f w' ∧ g ≤ w'.heap.size))
    (first | exact hst | assumption | exact hk4)
    (first
      | (go_at_call 29; (fail_if_success have hx := T0); refine (rnumber_is k p0 E0.out _).mono ?_; rintro e w1 ⟨rfl, hb⟩; have hk0 := keepR1 MM.out (by assumption : _ ∧ _ ∧ _ ∧ _ ∧ _ ∧ (MBox w g f _ ∧ g ≤ _)).2.2.2.2.2 hb; have T0 := Lib.hid True.intro; clear hb)
      | (go_at_call 29; (fail_if_success have hx := T1); refine (rnumber_is fr p1 E1.out _).mono ?_; rintro e w1 ⟨rfl, hb⟩; have hk1 := keepR1 MM.out (by assumption : _ ∧ _ ∧ _ ∧ _ ∧ _ ∧ (MBox w g f _ ∧ g ≤ _)).2.2.2.2.2 hb; have T1 := Lib.hid True.intro; clear hb)
      | (go_at_call 29; (fail_if_success have hx := T2); refine (rnumber_is dst p2 E2.out _).mono ?_; rintro e w1 ⟨rfl, hb⟩; have hk2 := keepR1 MM.out (by assumption : _ ∧ _ ∧ _ ∧ _ ∧ _ ∧ (MBox w g f _ ∧ g ≤ _)).2.2.2.2.2 hb; have T2 := Lib.hid True.intro; clear hb)
      | (go_at_call 29; (fail_if_success have hx := T3); refine (rnumber_is v p3 E3.out _).mono ?_; rintro e w1 ⟨rfl, hb⟩; have hk3 := keepR1 MM.out (by assumption : _ ∧ _ ∧ _ ∧ _ ∧ _ ∧ (MBox w g f _ ∧ g ≤ _)).2.2.2.2.2 hb; have T3 := Lib.hid True.intro; clear hb)
      | (go_at_call 30; refine (rtext_is h p4 E4.out HM.out.h1 _).mono ?_; rintro e w1 ⟨rfl, hb⟩; have hk4 := keepR1 MM.out (by assumption : _ ∧ _ ∧ _ ∧ _ ∧ _ ∧ (MBox w g f _ ∧ g ≤ _)).2.2.2.2.2 hb; clear hb))
  have HK4 := Lib.hid hk4.2.2.2.2.2
  clear hk4 hk0 hk1 hk2 hk3 hst T0 T1 T2 T3
  go_wp2_with fail
  have hst := keepR2 MM.out HK4.out ((Below.refl _ _).drew)
  clear HK4
  go_region_held3 (fun w' => w'.cell? ⟨g, 5, none⟩ = some (.int .i64 x.1.1.1) ∧ w'.cell? ⟨g, 6, none⟩ = some (.int .i64 x.1.1.2) ∧ w'.cell? ⟨g, 7, none⟩ = some (.int .i64 x.1.2.1.1) ∧ w'.cell? ⟨g, 8, none⟩ = some (.string x.1.2.1.2) ∧ w'.cell? ⟨g, 9, none⟩ = some (.slice a9 x.1.2.2.length c9_) ∧ w'.cell? ⟨g, 10, none⟩ = some (.slice a10 x.2.length c10_) ∧ w'.cell? ⟨g, 11, none⟩ = some (.int .i64 c.1.1) ∧ w'.cell? ⟨g, 12, none⟩ = some (.string c.1.2) ∧ w'.cell? ⟨g, 13, none⟩ = some (.slice a13 c.2.length c13_) ∧ w'.cell? ⟨g, 14, none⟩ = some (.int .i64 s.1) ∧ w'.cell? ⟨g, 15, none⟩ = some (.slice a15 s.2.length c15_) ∧ (MBox w g f w' ∧ g ≤ w'.heap.size))
    (first | exact hst | assumption | exact hm9)
    (first
      | (go_at_call 20; refine (rzblock_is x _ _ zb EZb.out _ (MM.out.later (by assumption : _ ∧ _ ∧ _ ∧ _ ∧ _ ∧ _ ∧ _ ∧ _ ∧ _ ∧ _ ∧ _ ∧ (MBox w g f _ ∧ g ≤ _)).2.2.2.2.2.2.2.2.2.2.2.1.below).h9 (MM.out.later (by assumption : _ ∧ _ ∧ _ ∧ _ ∧ _ ∧ _ ∧ _ ∧ _ ∧ _ ∧ _ ∧ _ ∧ (MBox w g f _ ∧ g ≤ _)).2.2.2.2.2.2.2.2.2.2.2.1.below).h10).mono ?_; rintro e w1 ⟨rfl, hb⟩; have hm1 := keepR2 MM.out (by assumption : _ ∧ _ ∧ _ ∧ _ ∧ _ ∧ _ ∧ _ ∧ _ ∧ _ ∧ _ ∧ _ ∧ (MBox w g f _ ∧ g ≤ _)).2.2.2.2.2.2.2.2.2.2.2 hb; clear hb)
      | (go_at_call 32; refine (rblock_is x _ _ yb EYb.out _ (MM.out.later (by assumption : _ ∧ _ ∧ _ ∧ _ ∧ _ ∧ _ ∧ _ ∧ _ ∧ _ ∧ _ ∧ _ ∧ (MBox w g f _ ∧ g ≤ _)).2.2.2.2.2.2.2.2.2.2.2.1.below).h9 (MM.out.later (by assumption : _ ∧ _ ∧ _ ∧ _ ∧ _ ∧ _ ∧ _ ∧ _ ∧ _ ∧ _ ∧ _ ∧ (MBox w g f _ ∧ g ≤ _)).2.2.2.2.2.2.2.2.2.2.2.1.below).h10 HM.out.bk HM.out.bs HM.out.bm).mono ?_; rintro e w1 ⟨rfl, hb⟩; have hm2 := keepR2 MM.out (by assumption : _ ∧ _ ∧ _ ∧ _ ∧ _ ∧ _ ∧ _ ∧ _ ∧ _ ∧ _ ∧ _ ∧ (MBox w g f _ ∧ g ≤ _)).2.2.2.2.2.2.2.2.2.2.2 hb; clear hb)
      | (go_at_call 31; (fail_if_success have hx := T3); refine (maybe_is zb yb p5 Qb.out Yb.out _).mono ?_; rintro e w1 ⟨rfl, hb⟩; have hm3 := keepR2 MM.out (by assumption : _ ∧ _ ∧ _ ∧ _ ∧ _ ∧ _ ∧ _ ∧ _ ∧ _ ∧ _ ∧ _ ∧ (MBox w g f _ ∧ g ≤ _)).2.2.2.2.2.2.2.2.2.2.2 hb; have T3 := Lib.hid True.intro; clear hb)
      | (go_at_call 22; refine (rzcert_is c _ zc EZc.out _ (MM.out.later (by assumption : _ ∧ _ ∧ _ ∧ _ ∧ _ ∧ _ ∧ _ ∧ _ ∧ _ ∧ _ ∧ _ ∧ (MBox w g f _ ∧ g ≤ _)).2.2.2.2.2.2.2.2.2.2.2.1.below).h13).mono ?_; rintro e w1 ⟨rfl, hb⟩; have hm4 := keepR2 MM.out (by assumption : _ ∧ _ ∧ _ ∧ _ ∧ _ ∧ _ ∧ _ ∧ _ ∧ _ ∧ _ ∧ _ ∧ (MBox w g f _ ∧ g ≤ _)).2.2.2.2.2.2.2.2.2.2.2 hb; clear hb)
      | (go_at_call 33; refine (rcert_is c _ yc EYc.out _ (MM.out.later (by assumption : _ ∧ _ ∧ _ ∧ _ ∧ _ ∧ _ ∧ _ ∧ _ ∧ _ ∧ _ ∧ _ ∧ (MBox w g f _ ∧ g ≤ _)).2.2.2.2.2.2.2.2.2.2.2.1.below).h13 HM.out.ck HM.out.cs).mono ?_; rintro e w1 ⟨rfl, hb⟩; have hm5 := keepR2 MM.out (by assumption : _ ∧ _ ∧ _ ∧ _ ∧ _ ∧ _ ∧ _ ∧ _ ∧ _ ∧ _ ∧ _ ∧ (MBox w g f _ ∧ g ≤ _)).2.2.2.2.2.2.2.2.2.2.2 hb; clear hb)
      | (go_at_call 31; (fail_if_success have hx := T6); refine (maybe_is zc yc p6 Qc.out Yc.out _).mono ?_; rintro e w1 ⟨rfl, hb⟩; have hm6 := keepR2 MM.out (by assumption : _ ∧ _ ∧ _ ∧ _ ∧ _ ∧ _ ∧ _ ∧ _ ∧ _ ∧ _ ∧ _ ∧ (MBox w g f _ ∧ g ≤ _)).2.2.2.2.2.2.2.2.2.2.2 hb; have T6 := Lib.hid True.intro; clear hb)
      | (go_at_call 24; refine (rzsig_is s _ zs EZs.out _ (MM.out.later (by assumption : _ ∧ _ ∧ _ ∧ _ ∧ _ ∧ _ ∧ _ ∧ _ ∧ _ ∧ _ ∧ _ ∧ (MBox w g f _ ∧ g ≤ _)).2.2.2.2.2.2.2.2.2.2.2.1.below).h15).mono ?_; rintro e w1 ⟨rfl, hb⟩; have hm7 := keepR2 MM.out (by assumption : _ ∧ _ ∧ _ ∧ _ ∧ _ ∧ _ ∧ _ ∧ _ ∧ _ ∧ _ ∧ _ ∧ (MBox w g f _ ∧ g ≤ _)).2.2.2.2.2.2.2.2.2.2.2 hb; clear hb)
      | (go_at_call 34; refine (rsig_is s _ ys EYs.out _ (MM.out.later (by assumption : _ ∧ _ ∧ _ ∧ _ ∧ _ ∧ _ ∧ _ ∧ _ ∧ _ ∧ _ ∧ _ ∧ (MBox w g f _ ∧ g ≤ _)).2.2.2.2.2.2.2.2.2.2.2.1.below).h15 HM.out.sk HM.out.sn).mono ?_; rintro e w1 ⟨rfl, hb⟩; have hm8 := keepR2 MM.out (by assumption : _ ∧ _ ∧ _ ∧ _ ∧ _ ∧ _ ∧ _ ∧ _ ∧ _ ∧ _ ∧ _ ∧ (MBox w g f _ ∧ g ≤ _)).2.2.2.2.2.2.2.2.2.2.2 hb; clear hb)
      | (go_at_call 31; refine (maybe_is zs ys p7 Qs.out Ys.out _).mono ?_; rintro e w1 ⟨rfl, hb⟩; have hm9 := keepR2 MM.out (by assumption : _ ∧ _ ∧ _ ∧ _ ∧ _ ∧ _ ∧ _ ∧ _ ∧ _ ∧ _ ∧ _ ∧ (MBox w g f _ ∧ g ≤ _)).2.2.2.2.2.2.2.2.2.2.2 hb; clear hb))
  have HK9 := Lib.hid hm9.2.2.2.2.2.2.2.2.2.2.2
  clear hm9 hm1 hm2 hm3 hm4 hm5 hm6 hm7 hm8 hst T3 T6
  go_wp2_with fail
  by_cases h1 : r.1 = 0
  rotate_left
  · have e1 : (r.1 == 0) = false := by simpa using h1
    have QR := Lib.hid (show mayB false yr = p8 by rw [← Qr.out, ← EZr.out]; simp [nzR, h1])
    clear h1
    have hst := keepR3 MM.out HK9.out ((Below.refl _ _).drew)
    clear HK9
    go_region_held3 (fun w' => w'.cell? ⟨g, 16, none⟩ = some (.int .i64 r.1) ∧ w'.cell? ⟨g, 17, none⟩ = some (.int .i64 r.2.1) ∧ w'.cell? ⟨g, 18, none⟩ = some (.string r.2.2) ∧ (MBox w g f w' ∧ g ≤ w'.heap.size))
      (first | exact hst | assumption | exact hm2)
      (first
        | (go_at_call 35; refine (rreq_is r yr EYr.out HM.out.rk _).mono ?_; rintro e w1 ⟨rfl, hb⟩; have hm1 := keepR3 MM.out (by assumption : _ ∧ _ ∧ _ ∧ (MBox w g f _ ∧ g ≤ _)).2.2.2 hb; clear hb)
        | (go_at_call 31; refine (maybe_is false yr p8 QR.out Yr.out _).mono ?_; rintro e w1 ⟨rfl, hb⟩; have hm2 := keepR3 MM.out (by assumption : _ ∧ _ ∧ _ ∧ (MBox w g f _ ∧ g ≤ _)).2.2.2 hb; clear hb))
    have HK2 := Lib.hid hm2.2.2.2
    clear hm2 hm1 hst
    go_wp2_with fail
    have hst := keepR4 MM.out HK2.out ((Below.refl _ _).drew)
    clear HK2
    go_region_held3 (fun w' => w'.cell? ⟨g, 19, none⟩ = some (.int .i64 ix) ∧ w'.cell? ⟨g, 20, none⟩ = some (.string tg) ∧ (MBox w g f w' ∧ g ≤ w'.heap.size))
      (first | exact hst | assumption | exact hm2)
      (first
        | (go_at_call 29; refine (rnumber_is ix p9 E9.out _).mono ?_; rintro e w1 ⟨rfl, hb⟩; have hm1 := keepR4 MM.out (by assumption : _ ∧ _ ∧ (MBox w g f _ ∧ g ≤ _)).2.2 hb; clear hb)
        | (go_at_call 30; refine (rtext_is tg p10 E10.out HM.out.t1 _).mono ?_; rintro e w1 ⟨rfl, hb⟩; have hm2 := keepR4 MM.out (by assumption : _ ∧ _ ∧ (MBox w g f _ ∧ g ≤ _)).2.2 hb; clear hb))
    go_wp2_with fail
    go_ret
    exact ⟨rfl, (hm2.2.2).1.below⟩
  have e1 : (r.1 == 0) = true := by simpa using h1
  by_cases h2 : r.2.1 = 0
  rotate_left
  · have e2 : (r.2.1 == 0) = false := by simpa using h2
    have QR := Lib.hid (show mayB false yr = p8 by rw [← Qr.out, ← EZr.out]; simp [nzR, h2])
    clear h1 h2
    have hst := keepR3 MM.out HK9.out ((Below.refl _ _).drew)
    clear HK9
    go_region_held3 (fun w' => w'.cell? ⟨g, 16, none⟩ = some (.int .i64 r.1) ∧ w'.cell? ⟨g, 17, none⟩ = some (.int .i64 r.2.1) ∧ w'.cell? ⟨g, 18, none⟩ = some (.string r.2.2) ∧ (MBox w g f w' ∧ g ≤ w'.heap.size))
      (first | exact hst | assumption | exact hm2)
      (first
        | (go_at_call 35; refine (rreq_is r yr EYr.out HM.out.rk _).mono ?_; rintro e w1 ⟨rfl, hb⟩; have hm1 := keepR3 MM.out (by assumption : _ ∧ _ ∧ _ ∧ (MBox w g f _ ∧ g ≤ _)).2.2.2 hb; clear hb)
        | (go_at_call 31; refine (maybe_is false yr p8 QR.out Yr.out _).mono ?_; rintro e w1 ⟨rfl, hb⟩; have hm2 := keepR3 MM.out (by assumption : _ ∧ _ ∧ _ ∧ (MBox w g f _ ∧ g ≤ _)).2.2.2 hb; clear hb))
    have HK2 := Lib.hid hm2.2.2.2
    clear hm2 hm1 hst
    go_wp2_with fail
    have hst := keepR4 MM.out HK2.out ((Below.refl _ _).drew)
    clear HK2
    go_region_held3 (fun w' => w'.cell? ⟨g, 19, none⟩ = some (.int .i64 ix) ∧ w'.cell? ⟨g, 20, none⟩ = some (.string tg) ∧ (MBox w g f w' ∧ g ≤ w'.heap.size))
      (first | exact hst | assumption | exact hm2)
      (first
        | (go_at_call 29; refine (rnumber_is ix p9 E9.out _).mono ?_; rintro e w1 ⟨rfl, hb⟩; have hm1 := keepR4 MM.out (by assumption : _ ∧ _ ∧ (MBox w g f _ ∧ g ≤ _)).2.2 hb; clear hb)
        | (go_at_call 30; refine (rtext_is tg p10 E10.out HM.out.t1 _).mono ?_; rintro e w1 ⟨rfl, hb⟩; have hm2 := keepR4 MM.out (by assumption : _ ∧ _ ∧ (MBox w g f _ ∧ g ≤ _)).2.2 hb; clear hb))
    go_wp2_with fail
    go_ret
    exact ⟨rfl, (hm2.2.2).1.below⟩
  have e2 : (r.2.1 == 0) = true := by simpa using h2
  by_cases h3 : r.2.2.size = 0
  rotate_left
  · have e3 := emp_false h3
    have QR := Lib.hid (show mayB false yr = p8 by rw [← Qr.out, ← EZr.out]; simp [nzR, h3])
    clear h1 h2 h3
    have hst := keepR3 MM.out HK9.out ((Below.refl _ _).drew)
    clear HK9
    go_region_held3 (fun w' => w'.cell? ⟨g, 16, none⟩ = some (.int .i64 r.1) ∧ w'.cell? ⟨g, 17, none⟩ = some (.int .i64 r.2.1) ∧ w'.cell? ⟨g, 18, none⟩ = some (.string r.2.2) ∧ (MBox w g f w' ∧ g ≤ w'.heap.size))
      (first | exact hst | assumption | exact hm2)
      (first
        | (go_at_call 35; refine (rreq_is r yr EYr.out HM.out.rk _).mono ?_; rintro e w1 ⟨rfl, hb⟩; have hm1 := keepR3 MM.out (by assumption : _ ∧ _ ∧ _ ∧ (MBox w g f _ ∧ g ≤ _)).2.2.2 hb; clear hb)
        | (go_at_call 31; refine (maybe_is false yr p8 QR.out Yr.out _).mono ?_; rintro e w1 ⟨rfl, hb⟩; have hm2 := keepR3 MM.out (by assumption : _ ∧ _ ∧ _ ∧ (MBox w g f _ ∧ g ≤ _)).2.2.2 hb; clear hb))
    have HK2 := Lib.hid hm2.2.2.2
    clear hm2 hm1 hst
    go_wp2_with fail
    have hst := keepR4 MM.out HK2.out ((Below.refl _ _).drew)
    clear HK2
    go_region_held3 (fun w' => w'.cell? ⟨g, 19, none⟩ = some (.int .i64 ix) ∧ w'.cell? ⟨g, 20, none⟩ = some (.string tg) ∧ (MBox w g f w' ∧ g ≤ w'.heap.size))
      (first | exact hst | assumption | exact hm2)
      (first
        | (go_at_call 29; refine (rnumber_is ix p9 E9.out _).mono ?_; rintro e w1 ⟨rfl, hb⟩; have hm1 := keepR4 MM.out (by assumption : _ ∧ _ ∧ (MBox w g f _ ∧ g ≤ _)).2.2 hb; clear hb)
        | (go_at_call 30; refine (rtext_is tg p10 E10.out HM.out.t1 _).mono ?_; rintro e w1 ⟨rfl, hb⟩; have hm2 := keepR4 MM.out (by assumption : _ ∧ _ ∧ (MBox w g f _ ∧ g ≤ _)).2.2 hb; clear hb))
    go_wp2_with fail
    go_ret
    exact ⟨rfl, (hm2.2.2).1.below⟩
  have e3 : r.2.2.toList.isEmpty = true := by rw [nil_size _ h3, ByteArray.toList_eq]; rfl
  have QR := Lib.hid (show mayB true yr = p8 by rw [← Qr.out, ← EZr.out]; simp [nzR, h1, h2, h3])
  clear h1 h2 h3
  have hst := keepR3 MM.out HK9.out ((Below.refl _ _).drew)
  clear HK9
  go_region_held3 (fun w' => w'.cell? ⟨g, 16, none⟩ = some (.int .i64 r.1) ∧ w'.cell? ⟨g, 17, none⟩ = some (.int .i64 r.2.1) ∧ w'.cell? ⟨g, 18, none⟩ = some (.string r.2.2) ∧ (MBox w g f w' ∧ g ≤ w'.heap.size))
    (first | exact hst | assumption | exact hm2)
    (first
      | (go_at_call 35; refine (rreq_is r yr EYr.out HM.out.rk _).mono ?_; rintro e w1 ⟨rfl, hb⟩; have hm1 := keepR3 MM.out (by assumption : _ ∧ _ ∧ _ ∧ (MBox w g f _ ∧ g ≤ _)).2.2.2 hb; clear hb)
      | (go_at_call 31; refine (maybe_is true yr p8 QR.out Yr.out _).mono ?_; rintro e w1 ⟨rfl, hb⟩; have hm2 := keepR3 MM.out (by assumption : _ ∧ _ ∧ _ ∧ (MBox w g f _ ∧ g ≤ _)).2.2.2 hb; clear hb))
  have HK2 := Lib.hid hm2.2.2.2
  clear hm2 hm1 hst
  go_wp2_with fail
  have hst := keepR4 MM.out HK2.out ((Below.refl _ _).drew)
  clear HK2
  go_region_held3 (fun w' => w'.cell? ⟨g, 19, none⟩ = some (.int .i64 ix) ∧ w'.cell? ⟨g, 20, none⟩ = some (.string tg) ∧ (MBox w g f w' ∧ g ≤ w'.heap.size))
    (first | exact hst | assumption | exact hm2)
    (first
      | (go_at_call 29; refine (rnumber_is ix p9 E9.out _).mono ?_; rintro e w1 ⟨rfl, hb⟩; have hm1 := keepR4 MM.out (by assumption : _ ∧ _ ∧ (MBox w g f _ ∧ g ≤ _)).2.2 hb; clear hb)
      | (go_at_call 30; refine (rtext_is tg p10 E10.out HM.out.t1 _).mono ?_; rintro e w1 ⟨rfl, hb⟩; have hm2 := keepR4 MM.out (by assumption : _ ∧ _ ∧ (MBox w g f _ ∧ g ≤ _)).2.2 hb; clear hb))
  go_wp2_with fail
  go_ret
  exact ⟨rfl, (hm2.2.2).1.below⟩
end Go.Proofs.Ytphlpgdbngbplaa
end
section
open Go Go.RowKit
namespace Go.Proofs.Ytphlpgdbngbplaa
open WW BB
/-- the message that stands in the bytes, where these are its fields -/
def toD (k fr dst v : Int) (h : ByteArray) (x : BlockD) (c : CertD) (s : Int × List ByteArray) (r : Int × Int × ByteArray) (ix : Int) (tg : ByteArray) : MsgD :=
  ((((((((((k, fr), dst), v), h), opt nzB x), opt nzC c), opt nzS s), opt nzR r), ix), tg)
theorem msgD_toD (k fr dst v : Int) (h : ByteArray) (x : BlockD) (c : CertD) (s : Int × List ByteArray) (r : Int × Int × ByteArray) (ix : Int) (tg : ByteArray) : msgD (toD k fr dst v h x c s r ix tg) = msgB k fr dst v h x c s r ix tg := rfl
theorem msgRd_some {b r : ByteArray} {d : MsgD} (h : msgI b = some (r, d)) (h0 : r.size = 0) : msgRd b = some d := by unfold msgRd; rw [h]; exact if_pos h0
theorem msgRd_put {c : MsgD} (h : msgOk c) : msgRd (msgD c) = some c := by
  have := codec_msg.put c ⟨#[]⟩ h
  rw [ba_nil] at this
  exact msgRd_some this rfl
theorem msgRd_sound {b : ByteArray} {c : MsgD} (h : msgRd b = some c) : b = msgD c ∧ msgOk c := by
  unfold msgRd at h
  rcases h1 : msgI b with _ | ⟨r, d⟩
  · rw [h1] at h; cases h
  rw [h1] at h
  dsimp only at h
  split at h
  · rename_i h0
    injection h with h
    subst h
    obtain ⟨e1, e2⟩ := codec_msg.sound _ _ _ h1
    exact ⟨by rw [e1, nil_size r h0, ba_nil], e2⟩
  · cases h
theorem ok_opt {α : Type} {nz : α → Bool} {ok : α → Prop} {x : α} (h : nz x = false ∨ ok x) : okPart nz ok (opt nz x) := by
  cases hn : nz x with
  | true => rw [opt_yes hn]; exact ⟨h.resolve_left (by rw [hn]; simp), hn⟩
  | false => rw [opt_no hn]; trivial
theorem opt_get {α : Type} {nz : α → Bool} {ok : α → Prop} {d : Option α} {z : α} (h : okPart nz ok d) (hz : nz z = false) : opt nz (d.getD z) = d := by
  cases d with
  | none => exact opt_no hz
  | some x => exact opt_yes h.2
theorem ok_get {α : Type} {nz : α → Bool} {ok : α → Prop} {d : Option α} {z : α} (h : okPart nz ok d) (hz : nz z = false) : nz (d.getD z) = false ∨ ok (d.getD z) := by
  cases d with
  | none => exact Or.inl hz
  | some x => exact Or.inr h.1
theorem fits_of {n m : Nat} (h : n = 0 ∨ n = m) : (decide (n = 0) || decide (n = m)) = true := by
  rcases h with h | h <;> simp [h]
theorem of_fits {n m : Nat} (h : (decide (n = 0) || decide (n = m)) = true) : n = 0 ∨ n = m := by simpa using h
/-- a message that is right, by its fields -/
structure RightF (k fr dst v : Int) (h : ByteArray) (x : BlockD) (c : CertD) (s : Int × List ByteArray) (r : Int × Int × ByteArray) (ix : Int) (tg : ByteArray) : Prop where
  hd : headOk k fr dst v
  tl : tailOk ix h tg
  b : nzB x = false ∨ blockOk x
  c : nzC c = false ∨ certOk c
  s : nzS s = false ∨ sigOk s
  r : nzR r = false ∨ reqOk r
theorem rightMsg_iff {k fr dst v : Int} {h : ByteArray} {x : BlockD} {c : CertD} {s : Int × List ByteArray} {r : Int × Int × ByteArray} {ix : Int} {tg : ByteArray} : rightMsg k fr dst v h x c s r ix tg = true ↔ RightF k fr dst v h x c s r ix tg := by
  unfold rightMsg okB okC okS okR
  simp only [Bool.and_eq_true, Bool.or_eq_true, decide_eq_true_eq, Bool.not_eq_true']
  constructor
  · rintro ⟨h1, h2, ⟨h3, h4, h5⟩, h6⟩
    exact ⟨h1, h2, h3, h4, h5, h6⟩
  · intro H
    exact ⟨H.hd, H.tl, ⟨H.b, H.c, H.s⟩, H.r⟩
theorem msgOk_of {k fr dst v : Int} {h : ByteArray} {x : BlockD} {c : CertD} {s : Int × List ByteArray} {r : Int × Int × ByteArray} {ix : Int} {tg : ByteArray} (H : RightF k fr dst v h x c s r ix tg) : msgOk (toD k fr dst v h x c s r ix tg) := by
  obtain ⟨h1, h2, h3, h4, h5, h6, h7, h8⟩ := H.hd
  obtain ⟨t1, t2, t3, t4⟩ := H.tl
  exact ⟨⟨⟨⟨⟨⟨⟨⟨⟨⟨⟨h1, h2⟩, h3, h4⟩, h5, h6⟩, h7, h8⟩, fits_of t3, by show h.size ≤ _; omega⟩, ok_opt H.b⟩, ok_opt H.c⟩, ok_opt H.s⟩, ok_opt H.r⟩, t1, t2⟩, fits_of t4, by show tg.size ≤ _; omega⟩
theorem nz_noB : nzB noB = false := by decide
theorem nz_noC : nzC noC = false := by decide
theorem nz_noS : nzS noS = false := by decide
theorem nz_noR : nzR noR = false := by decide
theorem rightF_of {d : MsgD} (H : msgOk d) : RightF d.1.1.1.1.1.1.1.1.1.1 d.1.1.1.1.1.1.1.1.1.2 d.1.1.1.1.1.1.1.1.2 d.1.1.1.1.1.1.1.2 d.1.1.1.1.1.1.2 (d.1.1.1.1.1.2.getD noB) (d.1.1.1.1.2.getD noC) (d.1.1.1.2.getD noS) (d.1.1.2.getD noR) d.1.2 d.2 ∧
    toD d.1.1.1.1.1.1.1.1.1.1 d.1.1.1.1.1.1.1.1.1.2 d.1.1.1.1.1.1.1.1.2 d.1.1.1.1.1.1.1.2 d.1.1.1.1.1.1.2 (d.1.1.1.1.1.2.getD noB) (d.1.1.1.1.2.getD noC) (d.1.1.1.2.getD noS) (d.1.1.2.getD noR) d.1.2 d.2 = d := by
  obtain ⟨⟨⟨⟨⟨⟨⟨⟨⟨⟨⟨h1, h2⟩, h3, h4⟩, h5, h6⟩, h7, h8⟩, h9, h10⟩, hb⟩, hc⟩, hs⟩, hr⟩, t1, t2⟩, t3, t4⟩ := H
  refine ⟨⟨⟨h1, h2, h3, h4, h5, h6, h7, h8⟩, ⟨t1, t2, of_fits h9, of_fits t3⟩, ok_get hb nz_noB, ok_get hc nz_noC, ok_get hs nz_noS, ok_get hr nz_noR⟩, ?_⟩
  obtain ⟨⟨⟨⟨⟨⟨⟨⟨⟨⟨k, fr⟩, dst⟩, v⟩, h⟩, x⟩, c⟩, s⟩, r⟩, ix⟩, tg⟩ := d
  show ((((((((((k, fr), dst), v), h), opt nzB (x.getD noB)), opt nzC (c.getD noC)), opt nzS (s.getD noS)), opt nzR (r.getD noR)), ix), tg) = _
  rw [opt_get hb nz_noB, opt_get hc nz_noC, opt_get hs nz_noS, opt_get hr nz_noR]
theorem flat_nil : (flat []).length = 0 := rfl
theorem smallS_nil : SmallS [] := ⟨Nat.zero_le _, by show (flat []).length ≤ _; rw [flat_nil]; omega, fun i hi => by simp at hi⟩
theorem smallR_nil : SmallR [] := ⟨Nat.zero_le _, by show (flat []).length ≤ _; rw [flat_nil]; omega, fun i hi => by simp at hi⟩
theorem memS_nil : MemS [] := ⟨Nat.zero_le _, fun i hi => by simp at hi⟩
theorem zeroB_small {x : BlockD} (h : nzB x = false) : x.1.2.1.2.size = 0 ∧ x.1.2.2 = [] ∧ x.2 = [] := by
  unfold nzB at h
  simp at h
  exact ⟨by rw [h.2.2.2.1]; rfl, h.2.2.2.2.1, h.2.2.2.2.2⟩
theorem zeroC_small {c : CertD} (h : nzC c = false) : c.1.2.size = 0 ∧ c.2 = [] := by
  unfold nzC at h
  simp at h
  exact ⟨by rw [h.2.1]; rfl, h.2.2⟩
theorem zeroS_small {s : Int × List ByteArray} (h : nzS s = false) : s.2 = [] := by
  unfold nzS at h
  simp at h
  exact h.2
theorem zeroR_small {r : Int × Int × ByteArray} (h : nzR r = false) : r.2.2.size = 0 := by
  unfold nzR at h
  simp at h
  rw [h.2.2]; rfl
theorem certD_size (c : CertD) : (certD c).size = 8 + c.1.2.size + (flat (sigsB c.2)).length := certB_size _ _ _
theorem blockD_size (x : BlockD) : (blockD x).size = 20 + x.1.2.1.2.size + (flat (sigsB x.1.2.2)).length + (flat (reqsB x.2)).length := by
  show (num _ ++ num _ ++ certB _ _ _ ++ listB _ : ByteArray).size = _
  rw [ByteArray.size_append, ByteArray.size_append, ByteArray.size_append, num_size, num_size, certB_size, flat_size]; omega
theorem sigD_size (s : Int × List ByteArray) : (sigD s).size = 8 + (flat s.2).length := by
  show (num _ ++ listB _ : ByteArray).size = _
  rw [ByteArray.size_append, num_size, flat_size]; omega
/-- of a size that is written -/
theorem smallM_mk {h tg : ByteArray} {x : BlockD} {c : CertD} {s : Int × List ByteArray} {r : Int × Int × ByteArray} (h1 : h.size ≤ 1000000) (t1 : tg.size ≤ 1000000) (bk : x.1.2.1.2.size ≤ 1000000) (bs : SmallS x.1.2.2) (bm : SmallR x.2) (ck : c.1.2.size ≤ 1000000) (cs : SmallS c.2) (sk : (flat s.2).length ≤ 500000) (sn : s.2.length ≤ 1000) (rk : r.2.2.size ≤ 1000000) : SmallM h tg x c s r :=
  ⟨h1, t1, bk, bs, bm, ck, cs, sk, sn, rk, by rw [blockD_size]; have := bs.2.1; have := bm.2.1; omega, by rw [certD_size]; have := cs.2.1; omega, by rw [sigD_size]; omega⟩
theorem rightSig_small {f : Int} {ts : List ByteArray} (h : rightSig f ts = true) : (flat ts).length ≤ 112 ∧ ts.length ≤ 7 := by
  unfold rightSig at h
  simp only [Bool.and_eq_true, decide_eq_true_eq, List.all_eq_true] at h
  obtain ⟨a, _, b⟩ := h
  rw [List.take_of_length_le (by omega)] at a
  have := flat_le 16 ts (fun x hx => by have := a x hx; omega)
  exact ⟨by omega, b⟩
theorem right_smallM {k fr dst v : Int} {h : ByteArray} {x : BlockD} {c : CertD} {s : Int × List ByteArray} {r : Int × Int × ByteArray} {ix : Int} {tg : ByteArray} (H : RightF k fr dst v h x c s r ix tg) : SmallM h tg x c s r ∧ MemM x c s := by
  have hb : x.1.2.1.2.size ≤ 32 ∧ SmallS x.1.2.2 ∧ SmallR x.2 ∧ MemS x.1.2.2 ∧ x.2.length ≤ 3 := by
    rcases H.b with h0 | h0
    · obtain ⟨a, b, c⟩ := zeroB_small h0
      rw [a, b, c]
      exact ⟨by omega, smallS_nil, smallR_nil, memS_nil, by simp⟩
    · obtain ⟨a, b, c, d, e⟩ := right_smallB h0
      exact ⟨by omega, a, b, d, e⟩
  have hc : c.1.2.size ≤ 32 ∧ SmallS c.2 ∧ MemS c.2 := by
    rcases H.c with h0 | h0
    · obtain ⟨a, b⟩ := zeroC_small h0
      rw [a, b]
      exact ⟨by omega, smallS_nil, memS_nil⟩
    · obtain ⟨a, b, _, d⟩ := right_small h0
      exact ⟨by omega, a, d⟩
  have hs : (flat s.2).length ≤ 112 ∧ s.2.length ≤ 7 := by
    rcases H.s with h0 | h0
    · rw [zeroS_small h0]; exact ⟨by rw [flat_nil]; omega, by simp⟩
    · exact rightSig_small h0
  have hr : r.2.2.size ≤ 40 := by
    rcases H.r with h0 | h0
    · rw [zeroR_small h0]; omega
    · exact h0.2.2.2.2
  obtain ⟨_, _, t3, t4⟩ := H.tl
  exact ⟨smallM_mk (by omega) (by omega) (by omega) hb.2.1 hb.2.2.1 (by omega) hc.2.1 (by omega) (by omega) (by omega), ⟨hb.2.2.2.1, by omega, by omega, hc.2.2, by omega, by omega⟩⟩
theorem few_smallM {h tg : ByteArray} {x : BlockD} {c : CertD} {s : Int × List ByteArray} {r : Int × Int × ByteArray} (H : fewMsg h tg x c s r = true) : SmallM h tg x c s r ∧ ∀ k fr dst v ix, (msgB k fr dst v h x c s r ix tg).size ≤ 1000000 := by
  unfold fewMsg at H
  simp only [Bool.and_eq_true, decide_eq_true_eq] at H
  obtain ⟨h1, h2, h3, h4, h5, h6⟩ := H
  obtain ⟨a1, a2, a3, _, _⟩ := few_block h1
  obtain ⟨b1, b2, _⟩ := few_smallS h2
  have c1 := fewsig_flat s.2 h3
  have c2 : s.2.length ≤ 10 := by
    unfold fewSig at h3
    simp only [Bool.and_eq_true, decide_eq_true_eq] at h3; exact h3.2
  obtain ⟨f1, f2⟩ := few_flat h1
  have f3 : (flat (sigsB c.2)).length ≤ 500000 := b1.2.1
  have hsm : SmallM h tg x c s r := smallM_mk (by omega) (by omega) (by omega) a1 a2 (by omega) b1 (by omega) (by omega) (by omega)
  refine ⟨hsm, fun k fr dst v ix => ?_⟩
  have p1 := encPart_size blockD nzB x 4000 (by rw [blockD_size]; omega)
  have p2 := encPart_size certD nzC c 500100 (by rw [certD_size]; omega)
  have p3 := encPart_size sigD nzS s 400 (by rw [sigD_size]; omega)
  have p4 := encPart_size reqD nzR r 100 (by rw [reqD_size]; omega)
  unfold msgB
  simp only [ByteArray.size_append, num_size, txt_size]
  omega
end Go.Proofs.Ytphlpgdbngbplaa
end
section
open Go Go.RowKit
namespace BB
section
variable {P : Program} {ops : Array Oper} {Q : Exit → Act → World → Prop} {a : Act} {w : World} {rest : List Oper} {o : Oper}
theorem wpl_load_w {T : TypeId} (ad : Operand) (b off N m : Nat) (f : Nat → Value) (hg : Region.wanted o (yielded ops a.tmps) = true) (ho : o.op = .load T ad) (ha : a.eval ad = .pointer (some ⟨b, off, none⟩))
    (hT : (isAgg T).run P w = .ok true w) (hS : (Go.sizeOf T).run P w = .ok m w) (hb : Cells w b N f) (hN : off + m ≤ N)
    (hK : wpList P ops Q rest (a.put o.dst (.agg (row m fun i => f (off + i)))) w) : wpList P ops Q (o :: rest) a w := by
  refine wpList_step fun K hK' => ?_
  rw [if_pos hg]
  have := hK' _ _ hK
  unfold Oper.wp
  rw [run_op_load ho ha hT hS hb hN]
  exact this
theorem wpl_not (hg : Region.wanted o (yielded ops a.tmps) = false) (hK : wpList P ops Q rest (a.put o.dst undef) w) : wpList P ops Q (o :: rest) a w := by
  unfold wpList
  rw [if_neg (by rw [hg]; simp)]
  exact hK
end
end BB
namespace Go.Proofs.Ytphlpgdbngbplaa
open WW BB
theorem _root_.WW.MBox.upd {w w1 w2 : World} {g b : Nat} {f : Nat → Value} (h : MBox w g f w1) (u : Upd b w1 w2) (hb : w.heap.size ≤ b) (hne : g ≠ b) : MBox w g f w2 :=
  ⟨h.below.trans (u.below hb), h.blk.upd u hne⟩
theorem zM_at (w : World) : MsgAt w zM 0 0 0 0 ⟨#[]⟩ noB noC noS noR 0 ⟨#[]⟩ (.slice none 0 0) (.slice none 0 0) (.slice none 0 0) (.slice none 0 0) :=
  ⟨rfl, rfl, rfl, rfl, rfl, rfl, rfl, rfl, rfl, rfl, rfl, rfl, rfl, rfl, rfl, rfl, rfl, rfl, rfl, rfl, rfl, sigs_nil w, reqs_nil w, sigs_nil w, strs_nil w⟩
theorem rmsg_is (B : ByteArray) (w : World) (f : Nat → Value) (k fr dst v : Int) (h : ByteArray) (x : BlockD) (c : CertD) (s : Int × List ByteArray) (r : Int × Int × ByteArray) (ix : Int) (tg : ByteArray) (s9 r10 s13 t15 : Value)
    (M : MsgAt w f k fr dst v h x c s r ix tg s9 r10 s13 t15) (hm : SmallM h tg x c s r) (hB : msgB k fr dst v h x c s r ix tg = B) :
    Calls Try.prog 12 #[.agg (row 21 f)] w fun e w' => e = .returned (.string B) ∧ Below w.heap.size w w' := hB ▸ rmsg_any w f k fr dst v h x c s r ix tg s9 r10 s13 t15 M hm
theorem fewmsg_is (b : Bool) (w : World) (f : Nat → Value) (k fr dst v : Int) (h : ByteArray) (x : BlockD) (c : CertD) (s : Int × List ByteArray) (r : Int × Int × ByteArray) (ix : Int) (tg : ByteArray) (s9 r10 s13 t15 : Value)
    (M : MsgAt w f k fr dst v h x c s r ix tg s9 r10 s13 t15) (hm : MemM x c s) (hb : fewMsg h tg x c s r = b) :
    Calls Try.prog 19 #[.agg (row 21 f)] w fun e w' => e = .returned (.bool b) ∧ Below w.heap.size w w' := hb ▸ fewmsg_any w f k fr dst v h x c s r ix tg s9 r10 s13 t15 M hm
theorem rightmsg_is (b : Bool) (w : World) (f : Nat → Value) (k fr dst v : Int) (h : ByteArray) (x : BlockD) (c : CertD) (s : Int × List ByteArray) (r : Int × Int × ByteArray) (ix : Int) (tg : ByteArray) (s9 r10 s13 t15 : Value)
    (M : MsgAt w f k fr dst v h x c s r ix tg s9 r10 s13 t15) (hm : MemM x c s) (hb : rightMsg k fr dst v h x c s r ix tg = b) :
    Calls Try.prog 9 #[.agg (row 21 f)] w fun e w' => e = .returned (.bool b) ∧ Below w.heap.size w w' := hb ▸ rightmsg_any w f k fr dst v h x c s r ix tg s9 r10 s13 t15 M hm
theorem zmsg_any (w : World) : Calls Try.prog 12 #[.agg (row 21 zM)] w fun e w' => e = .returned (.string (msgB 0 0 0 0 ⟨#[]⟩ noB noC noS noR 0 ⟨#[]⟩)) ∧ Below w.heap.size w w' :=
  rmsg_any w zM _ _ _ _ _ _ _ _ _ _ _ _ _ _ _ (zM_at w) (smallM_mk (Nat.zero_le _) (Nat.zero_le _) (Nat.zero_le _) smallS_nil smallR_nil (Nat.zero_le _) smallS_nil (by show (flat []).length ≤ _; rw [flat_nil]; omega) (Nat.zero_le _) (Nat.zero_le _))
theorem zmsg_lit (w : World) : Calls Try.prog 12 #[.agg #[.int .i64 0, .int .i64 0, .int .i64 0, .int .i64 0, .string ⟨#[]⟩, .int .i64 0, .int .i64 0, .int .i64 0, .string ⟨#[]⟩, .slice none 0 0, .slice none 0 0, .int .i64 0, .string ⟨#[]⟩, .slice none 0 0, .int .i64 0, .slice none 0 0, .int .i64 0, .int .i64 0, .string ⟨#[]⟩, .int .i64 0, .string ⟨#[]⟩]] w fun e w' => e = .returned (.string (msgB 0 0 0 0 ⟨#[]⟩ noB noC noS noR 0 ⟨#[]⟩)) ∧ Below w.heap.size w w' := by
  rw [zM_row]; exact zmsg_any w
theorem optR_get (r : Int × Int × ByteArray) : (opt nzR r).getD noR = r := by
  cases h : nzR r with
  | true => rw [opt_yes h]; rfl
  | false =>
    rw [opt_no h]
    unfold nzR at h
    simp at h
    obtain ⟨rc, rq, rb⟩ := r
    obtain ⟨h1, h2, h3⟩ := h
    simp only at h1 h2 h3
    subst h1 h2 h3
    rfl
end Go.Proofs.Ytphlpgdbngbplaa
end
