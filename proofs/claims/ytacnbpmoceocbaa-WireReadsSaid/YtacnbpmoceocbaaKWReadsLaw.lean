/-
  The walk of the law WireReads.
-/
import Derived.Test.YtacnbpmoceocbaaKWMsgLaw
import Derived.Deep.CutRange
open Go Go.RowKit
namespace WW
open BB
theorem BoxAt.upd {w w1 w2 : World} {g b : Nat} {cs : List Value} (h : BoxAt w g cs w1) (u : Upd b w1 w2) (hb : w.heap.size ≤ b) (hne : g ≠ b) : BoxAt w g cs w2 :=
  ⟨h.below.trans (u.below hb), by rw [u.size]; exact h.lt, fun i x hx => (World.cell?_of_block (w := w1) (u.block g hne)).trans (h.cell i x hx)⟩
/-- what was read is right and has just these bytes, or is nothing -/
def RqC (b : ByteArray) (r : Int × Int × ByteArray) (e : Int) : Prop := (e = 0 ∧ rightR r.1 r.2.1 r.2.2 ∧ reqD r = b) ∨ (e = 2 ∧ r = (0, 0, ⟨#[]⟩))
def CtC (b : ByteArray) (c : CertD) (e : Int) : Prop := (e = 0 ∧ certOk c ∧ certD c = b) ∨ (e = 2 ∧ nzC c = false)
def BkC (b : ByteArray) (x : BlockD) (e : Int) : Prop := (e = 0 ∧ blockOk x ∧ blockD x = b) ∨ (e = 2 ∧ nzB x = false)
end WW
namespace Go.Proofs.Ytacnbpmoceocbaa
open WW BB
def MsC (b : ByteArray) (w : World) (f : Nat → Value) (e : Int) : Prop :=
  (e = 0 ∧ ∃ (d : MsgD) (s9 r10 s13 t15 : Value), MsgAt w f d.1.1.1.1.1.1.1.1.1.1 d.1.1.1.1.1.1.1.1.1.2 d.1.1.1.1.1.1.1.1.2 d.1.1.1.1.1.1.1.2 d.1.1.1.1.1.1.2 (d.1.1.1.1.1.2.getD noB) (d.1.1.1.1.2.getD noC) (d.1.1.1.2.getD noS) (d.1.1.2.getD noR) d.1.2 d.2 s9 r10 s13 t15 ∧ RightF d.1.1.1.1.1.1.1.1.1.1 d.1.1.1.1.1.1.1.1.1.2 d.1.1.1.1.1.1.1.1.2 d.1.1.1.1.1.1.1.2 d.1.1.1.1.1.1.2 (d.1.1.1.1.1.2.getD noB) (d.1.1.1.1.2.getD noC) (d.1.1.1.2.getD noS) (d.1.1.2.getD noR) d.1.2 d.2 ∧ msgB d.1.1.1.1.1.1.1.1.1.1 d.1.1.1.1.1.1.1.1.1.2 d.1.1.1.1.1.1.1.1.2 d.1.1.1.1.1.1.1.2 d.1.1.1.1.1.1.2 (d.1.1.1.1.1.2.getD noB) (d.1.1.1.1.2.getD noC) (d.1.1.1.2.getD noS) (d.1.1.2.getD noR) d.1.2 d.2 = b) ∨ (e = 2 ∧ f 0 = .int .i64 0)
def ReqSay (b : ByteArray) (e : Ending) : Prop := ∃ r ec, e = .returned (.tuple #[.agg #[.int .i64 r.1, .int .i64 r.2.1, .string r.2.2], .int .i64 ec]) ∧ RqC b r ec
theorem readreq_c (b : ByteArray) (hb : b.size ≤ 1000000) (w : World) : Calls Try.prog 19 #[.string b] w fun e w' => ReqSay b e ∧ Below w.heap.size w w' :=
  (readreq_any b hb w).mono fun e w' ⟨he, h2⟩ => ⟨by
    subst he
    rcases hn : reqRd b with _ | ⟨c, q, s⟩
    · exact ⟨(0, 0, ⟨#[]⟩), 2, rfl, Or.inr ⟨rfl, rfl⟩⟩
    · obtain ⟨h1, h2⟩ := reqRd_sound hn
      exact ⟨((c : Int), (q : Int), s), 0, rfl, Or.inl ⟨rfl, h2, h1.symm⟩⟩, h2⟩
def CertSay (b : ByteArray) (w' : World) (e : Ending) : Prop := ∃ c ac cc ec, e = .returned (.tuple #[.agg #[.int .i64 c.1.1, .string c.1.2, .slice ac c.2.length cc], .int .i64 ec]) ∧ SigsAt w' (.slice ac c.2.length cc) c.2 ∧ CtC b c ec
theorem readcert_c (b : ByteArray) (hb : b.size ≤ 1000000) (w : World) : Calls Try.prog 24 #[.string b] w fun e w' => CertSay b w' e ∧ Below w.heap.size w w' :=
  (read_cert b hb w).mono fun e w' ⟨he, h2⟩ => ⟨by
    rcases hn : certRd b with _ | d
    · rw [hn] at he
      have he : e = _ := he
      exact ⟨((0, ⟨#[]⟩), []), none, 0, 2, he, sigs_nil w', Or.inr ⟨rfl, nz_noC⟩⟩
    · rw [hn] at he
      obtain ⟨sv, he, hs⟩ := certans_some he
      obtain ⟨h1, h3⟩ := certRd_sound hn
      have hs' := hs
      obtain ⟨a0, cap, rfl, _⟩ := hs'
      exact ⟨d, a0, cap, 0, he, hs, Or.inl ⟨rfl, h3, h1.symm⟩⟩, h2⟩
def BlockSay (b : ByteArray) (w' : World) (e : Ending) : Prop := ∃ x ab cb ar cr ec, e = .returned (.tuple #[.agg #[.int .i64 x.1.1.1, .int .i64 x.1.1.2, .int .i64 x.1.2.1.1, .string x.1.2.1.2, .slice ab x.1.2.2.length cb, .slice ar x.2.length cr], .int .i64 ec]) ∧ SigsAt w' (.slice ab x.1.2.2.length cb) x.1.2.2 ∧ ReqsAt w' (.slice ar x.2.length cr) x.2 ∧ BkC b x ec
theorem readblock_c (b : ByteArray) (hb : b.size ≤ 1000000) (w : World) : Calls Try.prog 28 #[.string b] w fun e w' => BlockSay b w' e ∧ Below w.heap.size w w' :=
  (read_block b hb w).mono fun e w' ⟨he, h2⟩ => ⟨by
    rcases hn : blockRd b with _ | d
    · rw [hn] at he
      have he : e = _ := he
      exact ⟨(((0, 0), ((0, ⟨#[]⟩), [])), []), none, 0, none, 0, 2, he, sigs_nil w', reqs_nil w', Or.inr ⟨rfl, nz_noB⟩⟩
    · rw [hn] at he
      obtain ⟨sv, rv, he, hs, hr⟩ := blockans_some he
      obtain ⟨h1, h3⟩ := blockRd_sound hn
      have hs' := hs
      have hr' := hr
      obtain ⟨a0, cap, rfl, _⟩ := hs'
      obtain ⟨a1, cap1, rfl, _⟩ := hr'
      exact ⟨d, a0, cap, a1, cap1, 0, he, hs, hr, Or.inl ⟨rfl, h3, h1.symm⟩⟩, h2⟩
def MsgSay (b : ByteArray) (w' : World) (e : Ending) : Prop := ∃ f ec, e = .returned (.tuple #[.agg (row 21 f), .int .i64 ec]) ∧ (∀ i, i < 21 → (f i).oneCell' = true) ∧ MsC b w' f ec
theorem readmsg_c (b : ByteArray) (hb : b.size ≤ 1000000) (w : World) : Calls Try.prog 35 #[.string b] w fun e w' => MsgSay b w' e ∧ Below w.heap.size w w' :=
  (read_msg b hb w).mono fun e w' ⟨he, h2⟩ => ⟨by
    rcases hn : msgRd b with _ | d
    · rw [hn] at he
      have he : e = _ := he
      exact ⟨zM, 2, he, zM_one, Or.inr ⟨rfl, rfl⟩⟩
    · rw [hn] at he
      obtain ⟨f', lo, hi, rfl, _, _, hR⟩ := he
      obtain ⟨u9, u10, u13, u15, hMA⟩ := msgR_cells hR
      obtain ⟨h1, h3⟩ := msgRd_sound hn
      have RF := rightF_of h3
      exact ⟨f', 0, rfl, msg_one hR, Or.inl ⟨rfl, d, u9, u10, u13, u15, hMA, RF.1, by rw [← msgD_toD, RF.2]; exact h1.symm⟩⟩, h2⟩
/-- all that was read, where it lies -/
structure RdAt (w : World) (yr yc yb ym : Nat) (lr lc lb : List Value) (f : Nat → Value) (wr : World) : Prop where
  r : BoxAt w yr lr wr
  c : BoxAt w yc lc wr
  b : BoxAt w yb lb wr
  m : MBox w ym f wr
theorem RdAt.on {w w1 w2 : World} {yr yc yb ym : Nat} {lr lc lb : List Value} {f : Nat → Value} (h : RdAt w yr yc yb ym lr lc lb f w1) (hb : Below w1.heap.size w1 w2) : RdAt w yr yc yb ym lr lc lb f w2 :=
  ⟨h.r.on hb, h.c.on hb, h.b.on hb, h.m.on hb⟩
set_option maxRecDepth 100000 in
set_option maxHeartbeats 64000000 in
theorem reads_long (b : ByteArray) (h : 800 < b.size) (w : World) :
    Calls Try.prog 9 #[.string b] w fun e w' => e = .returned (.bool true) ∧ Below w.heap.size w w' := by
  have t1 : (800 : Int) < (b.size : Int) := by omega
  clear h
  go_enter Try.func9, Try.ntmps9
  go_wp2_with fail
  refine (awake2_any _).mono ?_
  rintro e w1 ⟨rfl, hb1⟩
  go_wp2_with fail
  refine (awake2_any _).mono ?_
  rintro e w2 ⟨rfl, hb2⟩
  go_wp2_with fail
  go_ret
  exact ⟨rfl, hb1.trans (hb2.mono hb1.size)⟩
set_option maxRecDepth 100000 in
set_option maxHeartbeats 64000000 in
theorem reads_walk (b : ByteArray) (w : World) :
    Calls Try.prog 9 #[.string b] w fun e w' => e = .returned (.bool true) ∧ Below w.heap.size w w' := by
  by_cases h : 800 < b.size
  · exact reads_long b h w
  have t1 : ¬ (800 : Int) < (b.size : Int) := by omega
  have HB := Lib.hid (show b.size ≤ 1000000 by omega)
  clear h
  go_enter Try.func9, Try.ntmps9
  go_wp2_with fail
  refine (awake2_any _).mono ?_
  rintro e w1 ⟨rfl, hb⟩
  have B1 := Lib.hid hb
  clear hb
  go_wp2_with fail
  refine (readreq_c b HB.out w1).mono ?_
  rintro e w2 ⟨⟨r, e1, rfl, hC⟩, hb⟩
  have B2 := Lib.hid (B1.out.trans (hb.mono B1.out.size))
  have HCR := Lib.hid hC
  clear hb B1 hC
  go_wp2_with fail
  have K := box_mk w2 [.int .i64 r.1, .int .i64 r.2.1, .string r.2.2] 34
  have KR : Hid (BoxAt w w2.heap.size [.int .i64 r.1, .int .i64 r.2.1, .string r.2.2] (w2.alloc (.cells #[.int .i64 r.1, .int .i64 r.2.1, .string r.2.2] 34))) := Lib.hid ⟨B2.out.trans (K.below.mono B2.out.size), K.lt, K.cell⟩
  clear K B2
  generalize w2.alloc (.cells #[.int .i64 r.1, .int .i64 r.2.1, .string r.2.2] 34) = w3 at *
  generalize w2.heap.size = yr at *
  refine (readcert_c b HB.out w3).mono ?_
  rintro e w4 ⟨⟨c, ac, cc, e2, rfl, hS, hC⟩, hb⟩
  have KR := Lib.hid (KR.out.on hb)
  have HCC := Lib.hid hC
  have HSC := Lib.hid hS
  clear hb hC hS
  go_wp2_with fail
  have K := box_mk w4 [.int .i64 c.1.1, .string c.1.2, .slice ac c.2.length cc] 28
  have KC : Hid (BoxAt w w4.heap.size [.int .i64 c.1.1, .string c.1.2, .slice ac c.2.length cc] (w4.alloc (.cells #[.int .i64 c.1.1, .string c.1.2, .slice ac c.2.length cc] 28))) := Lib.hid ⟨KR.out.below.trans (K.below.mono KR.out.below.size), K.lt, K.cell⟩
  have KR := Lib.hid (KR.out.on K.below)
  have HSC := Lib.hid (HSC.out.later K.below)
  clear K
  generalize w4.alloc (.cells #[.int .i64 c.1.1, .string c.1.2, .slice ac c.2.length cc] 28) = w5 at *
  generalize w4.heap.size = yc at *
  refine (readblock_c b HB.out w5).mono ?_
  rintro e w6 ⟨⟨x, ab, cb, ar, cr, e3, rfl, hS, hR, hC⟩, hb⟩
  have KR := Lib.hid (KR.out.on hb)
  have KC := Lib.hid (KC.out.on hb)
  have HSC := Lib.hid (HSC.out.later hb)
  have HCB := Lib.hid hC
  have HSB := Lib.hid hS
  have HRB := Lib.hid hR
  clear hb hC hS hR
  go_wp2_with fail
  have K := box_mk w6 [.int .i64 x.1.1.1, .int .i64 x.1.1.2, .int .i64 x.1.2.1.1, .string x.1.2.1.2, .slice ab x.1.2.2.length cb, .slice ar x.2.length cr] 31
  have KB : Hid (BoxAt w w6.heap.size [.int .i64 x.1.1.1, .int .i64 x.1.1.2, .int .i64 x.1.2.1.1, .string x.1.2.1.2, .slice ab x.1.2.2.length cb, .slice ar x.2.length cr] (w6.alloc (.cells #[.int .i64 x.1.1.1, .int .i64 x.1.1.2, .int .i64 x.1.2.1.1, .string x.1.2.1.2, .slice ab x.1.2.2.length cb, .slice ar x.2.length cr] 31))) := Lib.hid ⟨KR.out.below.trans (K.below.mono KR.out.below.size), K.lt, K.cell⟩
  have KR := Lib.hid (KR.out.on K.below)
  have KC := Lib.hid (KC.out.on K.below)
  have HSC := Lib.hid (HSC.out.later K.below)
  have HSB := Lib.hid (HSB.out.later K.below)
  have HRB := Lib.hid (HRB.out.later K.below)
  clear K
  generalize w6.alloc (.cells #[.int .i64 x.1.1.1, .int .i64 x.1.1.2, .int .i64 x.1.2.1.1, .string x.1.2.1.2, .slice ab x.1.2.2.length cb, .slice ar x.2.length cr] 31) = w7 at *
  generalize w6.heap.size = yb at *
  refine (readmsg_c b HB.out w7).mono ?_
  rintro e w8 ⟨⟨f, e4, rfl, hone, hC⟩, hb⟩
  have KR := Lib.hid (KR.out.on hb)
  have KC := Lib.hid (KC.out.on hb)
  have KB := Lib.hid (KB.out.on hb)
  have HSC := Lib.hid (HSC.out.later hb)
  have HSB := Lib.hid (HSB.out.later hb)
  have HRB := Lib.hid (HRB.out.later hb)
  have HCM := Lib.hid hC
  have HON := Lib.hid hone
  clear hb hC hone
  go_wp2_with (with_reducible refine hold_store (.tmp 9) (.tmp 37) rfl ?_)
  obtain ⟨ym, hy⟩ : ∃ ym, w8.heap.size = ym := ⟨_, rfl⟩
  have k0 : Blk (w8.alloc (.cells #[.int .i64 0, .int .i64 0, .int .i64 0, .int .i64 0, .string ⟨#[]⟩, .int .i64 0, .int .i64 0, .int .i64 0, .string ⟨#[]⟩, .slice none 0 0, .slice none 0 0, .int .i64 0, .string ⟨#[]⟩, .slice none 0 0, .int .i64 0, .slice none 0 0, .int .i64 0, .int .i64 0, .string ⟨#[]⟩, .int .i64 0, .string ⟨#[]⟩] 52)) ym 21 zM := Blk.new' hy.symm zM_row
  have b0 := (Below.refl w8.heap.size w8).alloc (Nat.le_refl _) (.cells #[.int .i64 0, .int .i64 0, .int .i64 0, .int .i64 0, .string ⟨#[]⟩, .int .i64 0, .int .i64 0, .int .i64 0, .string ⟨#[]⟩, .slice none 0 0, .slice none 0 0, .int .i64 0, .string ⟨#[]⟩, .slice none 0 0, .int .i64 0, .slice none 0 0, .int .i64 0, .int .i64 0, .string ⟨#[]⟩, .int .i64 0, .string ⟨#[]⟩] 52)
  have WY := Lib.hid (show w.heap.size ≤ ym by rw [← hy]; exact KR.out.below.size)
  have NR := Lib.hid (show yr ≠ ym by rw [← hy]; exact Nat.ne_of_lt KR.out.lt)
  have NC := Lib.hid (show yc ≠ ym by rw [← hy]; exact Nat.ne_of_lt KC.out.lt)
  have NB := Lib.hid (show yb ≠ ym by rw [← hy]; exact Nat.ne_of_lt KB.out.lt)
  have KR := Lib.hid (KR.out.on b0)
  have KC := Lib.hid (KC.out.on b0)
  have KB := Lib.hid (KB.out.on b0)
  have B89 := Lib.hid b0
  have HY := Lib.hid hy
  clear b0
  rw [hy]
  generalize w8.alloc (.cells #[.int .i64 0, .int .i64 0, .int .i64 0, .int .i64 0, .string ⟨#[]⟩, .int .i64 0, .int .i64 0, .int .i64 0, .string ⟨#[]⟩, .slice none 0 0, .slice none 0 0, .int .i64 0, .string ⟨#[]⟩, .slice none 0 0, .int .i64 0, .slice none 0 0, .int .i64 0, .int .i64 0, .string ⟨#[]⟩, .int .i64 0, .string ⟨#[]⟩] 52) = w9 at *
  refine wpl_store (.tmp 9) (.tmp 37) ym 0 21 21 zM f rfl rfl (by rfl) (by rfl) (size_msg _) k0 (by omega) HON.out ?_
  intro wA h6
  have U := Lib.hid h6.2
  have BA := Lib.hid (B89.out.trans (U.out.below (show w8.heap.size ≤ ym by rw [HY.out]; exact Nat.le_refl _)))
  have XA := Lib.hid (show RdAt w yr yc yb ym [.int .i64 r.1, .int .i64 r.2.1, .string r.2.2] [.int .i64 c.1.1, .string c.1.2, .slice ac c.2.length cc] [.int .i64 x.1.1.1, .int .i64 x.1.1.2, .int .i64 x.1.2.1.1, .string x.1.2.1.2, .slice ab x.1.2.2.length cb, .slice ar x.2.length cr] f wA from ⟨KR.out.upd U.out WY.out NR.out, KC.out.upd U.out WY.out NC.out, KB.out.upd U.out WY.out NB.out, ⟨KR.out.below.trans (U.out.below WY.out), h6.1.congr f fun i hi => by simp [hi]⟩⟩)
  have HSC := Lib.hid (HSC.out.later BA.out)
  have HSB := Lib.hid (HSB.out.later BA.out)
  have HRB := Lib.hid (HRB.out.later BA.out)
  have BX : Hid (Below wA.heap.size wA wA) := Lib.hid (Below.refl _ _)
  clear h6 k0 hy KR KC KB B89 U WY NR NC NB HON
  go_upto_region 7 with fail
  obtain ⟨HA, hHA⟩ : ∃ n, wA.heap.size = n := ⟨_, rfl⟩
  have HHA := Lib.hid hHA
  clear hHA
  go_cut [88] from 39 to 87 (fun s88 wx => s88 = .bool false ∧ (RdAt w yr yc yb ym [.int .i64 r.1, .int .i64 r.2.1, .string r.2.2] [.int .i64 c.1.1, .string c.1.2, .slice ac c.2.length cc] [.int .i64 x.1.1.1, .int .i64 x.1.1.2, .int .i64 x.1.2.1.1, .string x.1.2.1.2, .slice ab x.1.2.2.length cb, .slice ar x.2.length cr] f wx ∧ Below wA.heap.size wA wx))
  case first =>
    rcases HCR.out with ⟨rfl, q1, q2⟩ | ⟨rfl, rfl⟩
    · have HQ1 := Lib.hid q1
      have HQ2 := Lib.hid q2
      clear q1 q2
      rcases HCC.out with ⟨rfl, q3, q4⟩ | ⟨rfl, q3⟩
      · have HQ3 := Lib.hid q3
        have HQ4 := Lib.hid q4
        clear q3 q4
        rcases HCB.out with ⟨rfl, q5, q6⟩ | ⟨rfl, q5⟩
        · have HQ5 := Lib.hid q5
          have HQ6 := Lib.hid q6
          clear q5 q6
          rcases HCM.out with ⟨rfl, d, s9, r10, s13, t15, qM, qF, qB⟩ | ⟨rfl, qM0⟩
          · have HMA := Lib.hid qM
            have HMF := Lib.hid qF
            have HMB := Lib.hid qB
            clear qM qF qB
            clear HCR HCC HCB HCM
            have r0 := XA.out.r.cell 0 _ rfl
            have r1 := XA.out.r.cell 1 _ rfl
            have r2 := XA.out.r.cell 2 _ rfl
            have c0 := XA.out.c.cell 0 _ rfl
            have c1 := XA.out.c.cell 1 _ rfl
            have c2 := XA.out.c.cell 2 _ rfl
            have b0 := XA.out.b.cell 0 _ rfl
            have b1 := XA.out.b.cell 1 _ rfl
            have b2 := XA.out.b.cell 2 _ rfl
            have b3 := XA.out.b.cell 3 _ rfl
            have b4 := XA.out.b.cell 4 _ rfl
            have b5 := XA.out.b.cell 5 _ rfl
            go_wp2_with fail
            go_meet
            case rel => exact ⟨rfl, XA.out, BX.out⟩
          · have HM0 := Lib.hid qM0
            clear qM0
            clear HCR HCC HCB HCM
            have r0 := XA.out.r.cell 0 _ rfl
            have r1 := XA.out.r.cell 1 _ rfl
            have r2 := XA.out.r.cell 2 _ rfl
            have c0 := XA.out.c.cell 0 _ rfl
            have c1 := XA.out.c.cell 1 _ rfl
            have c2 := XA.out.c.cell 2 _ rfl
            have b0 := XA.out.b.cell 0 _ rfl
            have b1 := XA.out.b.cell 1 _ rfl
            have b2 := XA.out.b.cell 2 _ rfl
            have b3 := XA.out.b.cell 3 _ rfl
            have b4 := XA.out.b.cell 4 _ rfl
            have b5 := XA.out.b.cell 5 _ rfl
            have m0 := XA.out.m.at_ 0 _ (by omega) HM0.out
            go_wp2_with fail
            go_meet
            case rel => exact ⟨rfl, XA.out, BX.out⟩
        · have HQ5 := Lib.hid (show (!nzB x) = true by rw [q5]; rfl)
          clear q5
          rcases HCM.out with ⟨rfl, d, s9, r10, s13, t15, qM, qF, qB⟩ | ⟨rfl, qM0⟩
          · have HMA := Lib.hid qM
            have HMF := Lib.hid qF
            have HMB := Lib.hid qB
            clear qM qF qB
            clear HCR HCC HCB HCM
            have r0 := XA.out.r.cell 0 _ rfl
            have r1 := XA.out.r.cell 1 _ rfl
            have r2 := XA.out.r.cell 2 _ rfl
            have c0 := XA.out.c.cell 0 _ rfl
            have c1 := XA.out.c.cell 1 _ rfl
            have c2 := XA.out.c.cell 2 _ rfl
            have b0 := XA.out.b.cell 0 _ rfl
            have b1 := XA.out.b.cell 1 _ rfl
            have b2 := XA.out.b.cell 2 _ rfl
            have b3 := XA.out.b.cell 3 _ rfl
            have b4 := XA.out.b.cell 4 _ rfl
            have b5 := XA.out.b.cell 5 _ rfl
            go_wp2_with fail
            refine (rzblock_is x _ _ true HQ5.out _ (HSB.out.later BX.out) (HRB.out.later BX.out)).mono ?_
            rintro e wQ ⟨rfl, hb⟩
            have XQ := Lib.hid (XA.out.on hb)
            have BQ := Lib.hid (BX.out.trans (hb.mono BX.out.size))
            clear hb r0 r1 r2 c0 c1 c2 b0 b1 b2 b3 b4 b5
            have r0 := XQ.out.r.cell 0 _ rfl
            have r1 := XQ.out.r.cell 1 _ rfl
            have r2 := XQ.out.r.cell 2 _ rfl
            have c0 := XQ.out.c.cell 0 _ rfl
            have c1 := XQ.out.c.cell 1 _ rfl
            have c2 := XQ.out.c.cell 2 _ rfl
            have b0 := XQ.out.b.cell 0 _ rfl
            have b1 := XQ.out.b.cell 1 _ rfl
            have b2 := XQ.out.b.cell 2 _ rfl
            have b3 := XQ.out.b.cell 3 _ rfl
            have b4 := XQ.out.b.cell 4 _ rfl
            have b5 := XQ.out.b.cell 5 _ rfl
            go_wp2_with fail
            go_meet
            case rel => exact ⟨rfl, XQ.out, BQ.out⟩
          · have HM0 := Lib.hid qM0
            clear qM0
            clear HCR HCC HCB HCM
            have r0 := XA.out.r.cell 0 _ rfl
            have r1 := XA.out.r.cell 1 _ rfl
            have r2 := XA.out.r.cell 2 _ rfl
            have c0 := XA.out.c.cell 0 _ rfl
            have c1 := XA.out.c.cell 1 _ rfl
            have c2 := XA.out.c.cell 2 _ rfl
            have b0 := XA.out.b.cell 0 _ rfl
            have b1 := XA.out.b.cell 1 _ rfl
            have b2 := XA.out.b.cell 2 _ rfl
            have b3 := XA.out.b.cell 3 _ rfl
            have b4 := XA.out.b.cell 4 _ rfl
            have b5 := XA.out.b.cell 5 _ rfl
            have m0 := XA.out.m.at_ 0 _ (by omega) HM0.out
            go_wp2_with fail
            refine (rzblock_is x _ _ true HQ5.out _ (HSB.out.later BX.out) (HRB.out.later BX.out)).mono ?_
            rintro e wQ ⟨rfl, hb⟩
            have XQ := Lib.hid (XA.out.on hb)
            have BQ := Lib.hid (BX.out.trans (hb.mono BX.out.size))
            clear hb r0 r1 r2 c0 c1 c2 b0 b1 b2 b3 b4 b5 m0
            have r0 := XQ.out.r.cell 0 _ rfl
            have r1 := XQ.out.r.cell 1 _ rfl
            have r2 := XQ.out.r.cell 2 _ rfl
            have c0 := XQ.out.c.cell 0 _ rfl
            have c1 := XQ.out.c.cell 1 _ rfl
            have c2 := XQ.out.c.cell 2 _ rfl
            have b0 := XQ.out.b.cell 0 _ rfl
            have b1 := XQ.out.b.cell 1 _ rfl
            have b2 := XQ.out.b.cell 2 _ rfl
            have b3 := XQ.out.b.cell 3 _ rfl
            have b4 := XQ.out.b.cell 4 _ rfl
            have b5 := XQ.out.b.cell 5 _ rfl
            have m0 := XQ.out.m.at_ 0 _ (by omega) HM0.out
            go_wp2_with fail
            go_meet
            case rel => exact ⟨rfl, XQ.out, BQ.out⟩
      · have HQ3 := Lib.hid (show (!nzC c) = true by rw [q3]; rfl)
        clear q3
        rcases HCB.out with ⟨rfl, q5, q6⟩ | ⟨rfl, q5⟩
        · have HQ5 := Lib.hid q5
          have HQ6 := Lib.hid q6
          clear q5 q6
          rcases HCM.out with ⟨rfl, d, s9, r10, s13, t15, qM, qF, qB⟩ | ⟨rfl, qM0⟩
          · have HMA := Lib.hid qM
            have HMF := Lib.hid qF
            have HMB := Lib.hid qB
            clear qM qF qB
            clear HCR HCC HCB HCM
            have r0 := XA.out.r.cell 0 _ rfl
            have r1 := XA.out.r.cell 1 _ rfl
            have r2 := XA.out.r.cell 2 _ rfl
            have c0 := XA.out.c.cell 0 _ rfl
            have c1 := XA.out.c.cell 1 _ rfl
            have c2 := XA.out.c.cell 2 _ rfl
            have b0 := XA.out.b.cell 0 _ rfl
            have b1 := XA.out.b.cell 1 _ rfl
            have b2 := XA.out.b.cell 2 _ rfl
            have b3 := XA.out.b.cell 3 _ rfl
            have b4 := XA.out.b.cell 4 _ rfl
            have b5 := XA.out.b.cell 5 _ rfl
            go_wp2_with fail
            refine (rzcert_is c _ true HQ3.out _ (HSC.out.later BX.out)).mono ?_
            rintro e wP ⟨rfl, hb⟩
            have XP := Lib.hid (XA.out.on hb)
            have BP := Lib.hid (BX.out.trans (hb.mono BX.out.size))
            clear hb r0 r1 r2 c0 c1 c2 b0 b1 b2 b3 b4 b5
            have r0 := XP.out.r.cell 0 _ rfl
            have r1 := XP.out.r.cell 1 _ rfl
            have r2 := XP.out.r.cell 2 _ rfl
            have c0 := XP.out.c.cell 0 _ rfl
            have c1 := XP.out.c.cell 1 _ rfl
            have c2 := XP.out.c.cell 2 _ rfl
            have b0 := XP.out.b.cell 0 _ rfl
            have b1 := XP.out.b.cell 1 _ rfl
            have b2 := XP.out.b.cell 2 _ rfl
            have b3 := XP.out.b.cell 3 _ rfl
            have b4 := XP.out.b.cell 4 _ rfl
            have b5 := XP.out.b.cell 5 _ rfl
            go_wp2_with fail
            go_meet
            case rel => exact ⟨rfl, XP.out, BP.out⟩
          · have HM0 := Lib.hid qM0
            clear qM0
            clear HCR HCC HCB HCM
            have r0 := XA.out.r.cell 0 _ rfl
            have r1 := XA.out.r.cell 1 _ rfl
            have r2 := XA.out.r.cell 2 _ rfl
            have c0 := XA.out.c.cell 0 _ rfl
            have c1 := XA.out.c.cell 1 _ rfl
            have c2 := XA.out.c.cell 2 _ rfl
            have b0 := XA.out.b.cell 0 _ rfl
            have b1 := XA.out.b.cell 1 _ rfl
            have b2 := XA.out.b.cell 2 _ rfl
            have b3 := XA.out.b.cell 3 _ rfl
            have b4 := XA.out.b.cell 4 _ rfl
            have b5 := XA.out.b.cell 5 _ rfl
            have m0 := XA.out.m.at_ 0 _ (by omega) HM0.out
            go_wp2_with fail
            refine (rzcert_is c _ true HQ3.out _ (HSC.out.later BX.out)).mono ?_
            rintro e wP ⟨rfl, hb⟩
            have XP := Lib.hid (XA.out.on hb)
            have BP := Lib.hid (BX.out.trans (hb.mono BX.out.size))
            clear hb r0 r1 r2 c0 c1 c2 b0 b1 b2 b3 b4 b5 m0
            have r0 := XP.out.r.cell 0 _ rfl
            have r1 := XP.out.r.cell 1 _ rfl
            have r2 := XP.out.r.cell 2 _ rfl
            have c0 := XP.out.c.cell 0 _ rfl
            have c1 := XP.out.c.cell 1 _ rfl
            have c2 := XP.out.c.cell 2 _ rfl
            have b0 := XP.out.b.cell 0 _ rfl
            have b1 := XP.out.b.cell 1 _ rfl
            have b2 := XP.out.b.cell 2 _ rfl
            have b3 := XP.out.b.cell 3 _ rfl
            have b4 := XP.out.b.cell 4 _ rfl
            have b5 := XP.out.b.cell 5 _ rfl
            have m0 := XP.out.m.at_ 0 _ (by omega) HM0.out
            go_wp2_with fail
            go_meet
            case rel => exact ⟨rfl, XP.out, BP.out⟩
        · have HQ5 := Lib.hid (show (!nzB x) = true by rw [q5]; rfl)
          clear q5
          rcases HCM.out with ⟨rfl, d, s9, r10, s13, t15, qM, qF, qB⟩ | ⟨rfl, qM0⟩
          · have HMA := Lib.hid qM
            have HMF := Lib.hid qF
            have HMB := Lib.hid qB
            clear qM qF qB
            clear HCR HCC HCB HCM
            have r0 := XA.out.r.cell 0 _ rfl
            have r1 := XA.out.r.cell 1 _ rfl
            have r2 := XA.out.r.cell 2 _ rfl
            have c0 := XA.out.c.cell 0 _ rfl
            have c1 := XA.out.c.cell 1 _ rfl
            have c2 := XA.out.c.cell 2 _ rfl
            have b0 := XA.out.b.cell 0 _ rfl
            have b1 := XA.out.b.cell 1 _ rfl
            have b2 := XA.out.b.cell 2 _ rfl
            have b3 := XA.out.b.cell 3 _ rfl
            have b4 := XA.out.b.cell 4 _ rfl
            have b5 := XA.out.b.cell 5 _ rfl
            go_wp2_with fail
            refine (rzcert_is c _ true HQ3.out _ (HSC.out.later BX.out)).mono ?_
            rintro e wP ⟨rfl, hb⟩
            have XP := Lib.hid (XA.out.on hb)
            have BP := Lib.hid (BX.out.trans (hb.mono BX.out.size))
            clear hb r0 r1 r2 c0 c1 c2 b0 b1 b2 b3 b4 b5
            have r0 := XP.out.r.cell 0 _ rfl
            have r1 := XP.out.r.cell 1 _ rfl
            have r2 := XP.out.r.cell 2 _ rfl
            have c0 := XP.out.c.cell 0 _ rfl
            have c1 := XP.out.c.cell 1 _ rfl
            have c2 := XP.out.c.cell 2 _ rfl
            have b0 := XP.out.b.cell 0 _ rfl
            have b1 := XP.out.b.cell 1 _ rfl
            have b2 := XP.out.b.cell 2 _ rfl
            have b3 := XP.out.b.cell 3 _ rfl
            have b4 := XP.out.b.cell 4 _ rfl
            have b5 := XP.out.b.cell 5 _ rfl
            go_wp2_with fail
            refine (rzblock_is x _ _ true HQ5.out _ (HSB.out.later BP.out) (HRB.out.later BP.out)).mono ?_
            rintro e wQ ⟨rfl, hb⟩
            have XQ := Lib.hid (XP.out.on hb)
            have BQ := Lib.hid (BP.out.trans (hb.mono BP.out.size))
            clear hb r0 r1 r2 c0 c1 c2 b0 b1 b2 b3 b4 b5
            have r0 := XQ.out.r.cell 0 _ rfl
            have r1 := XQ.out.r.cell 1 _ rfl
            have r2 := XQ.out.r.cell 2 _ rfl
            have c0 := XQ.out.c.cell 0 _ rfl
            have c1 := XQ.out.c.cell 1 _ rfl
            have c2 := XQ.out.c.cell 2 _ rfl
            have b0 := XQ.out.b.cell 0 _ rfl
            have b1 := XQ.out.b.cell 1 _ rfl
            have b2 := XQ.out.b.cell 2 _ rfl
            have b3 := XQ.out.b.cell 3 _ rfl
            have b4 := XQ.out.b.cell 4 _ rfl
            have b5 := XQ.out.b.cell 5 _ rfl
            go_wp2_with fail
            go_meet
            case rel => exact ⟨rfl, XQ.out, BQ.out⟩
          · have HM0 := Lib.hid qM0
            clear qM0
            clear HCR HCC HCB HCM
            have r0 := XA.out.r.cell 0 _ rfl
            have r1 := XA.out.r.cell 1 _ rfl
            have r2 := XA.out.r.cell 2 _ rfl
            have c0 := XA.out.c.cell 0 _ rfl
            have c1 := XA.out.c.cell 1 _ rfl
            have c2 := XA.out.c.cell 2 _ rfl
            have b0 := XA.out.b.cell 0 _ rfl
            have b1 := XA.out.b.cell 1 _ rfl
            have b2 := XA.out.b.cell 2 _ rfl
            have b3 := XA.out.b.cell 3 _ rfl
            have b4 := XA.out.b.cell 4 _ rfl
            have b5 := XA.out.b.cell 5 _ rfl
            have m0 := XA.out.m.at_ 0 _ (by omega) HM0.out
            go_wp2_with fail
            refine (rzcert_is c _ true HQ3.out _ (HSC.out.later BX.out)).mono ?_
            rintro e wP ⟨rfl, hb⟩
            have XP := Lib.hid (XA.out.on hb)
            have BP := Lib.hid (BX.out.trans (hb.mono BX.out.size))
            clear hb r0 r1 r2 c0 c1 c2 b0 b1 b2 b3 b4 b5 m0
            have r0 := XP.out.r.cell 0 _ rfl
            have r1 := XP.out.r.cell 1 _ rfl
            have r2 := XP.out.r.cell 2 _ rfl
            have c0 := XP.out.c.cell 0 _ rfl
            have c1 := XP.out.c.cell 1 _ rfl
            have c2 := XP.out.c.cell 2 _ rfl
            have b0 := XP.out.b.cell 0 _ rfl
            have b1 := XP.out.b.cell 1 _ rfl
            have b2 := XP.out.b.cell 2 _ rfl
            have b3 := XP.out.b.cell 3 _ rfl
            have b4 := XP.out.b.cell 4 _ rfl
            have b5 := XP.out.b.cell 5 _ rfl
            have m0 := XP.out.m.at_ 0 _ (by omega) HM0.out
            go_wp2_with fail
            refine (rzblock_is x _ _ true HQ5.out _ (HSB.out.later BP.out) (HRB.out.later BP.out)).mono ?_
            rintro e wQ ⟨rfl, hb⟩
            have XQ := Lib.hid (XP.out.on hb)
            have BQ := Lib.hid (BP.out.trans (hb.mono BP.out.size))
            clear hb r0 r1 r2 c0 c1 c2 b0 b1 b2 b3 b4 b5 m0
            have r0 := XQ.out.r.cell 0 _ rfl
            have r1 := XQ.out.r.cell 1 _ rfl
            have r2 := XQ.out.r.cell 2 _ rfl
            have c0 := XQ.out.c.cell 0 _ rfl
            have c1 := XQ.out.c.cell 1 _ rfl
            have c2 := XQ.out.c.cell 2 _ rfl
            have b0 := XQ.out.b.cell 0 _ rfl
            have b1 := XQ.out.b.cell 1 _ rfl
            have b2 := XQ.out.b.cell 2 _ rfl
            have b3 := XQ.out.b.cell 3 _ rfl
            have b4 := XQ.out.b.cell 4 _ rfl
            have b5 := XQ.out.b.cell 5 _ rfl
            have m0 := XQ.out.m.at_ 0 _ (by omega) HM0.out
            go_wp2_with fail
            go_meet
            case rel => exact ⟨rfl, XQ.out, BQ.out⟩
    · skip
      rcases HCC.out with ⟨rfl, q3, q4⟩ | ⟨rfl, q3⟩
      · have HQ3 := Lib.hid q3
        have HQ4 := Lib.hid q4
        clear q3 q4
        rcases HCB.out with ⟨rfl, q5, q6⟩ | ⟨rfl, q5⟩
        · have HQ5 := Lib.hid q5
          have HQ6 := Lib.hid q6
          clear q5 q6
          rcases HCM.out with ⟨rfl, d, s9, r10, s13, t15, qM, qF, qB⟩ | ⟨rfl, qM0⟩
          · have HMA := Lib.hid qM
            have HMF := Lib.hid qF
            have HMB := Lib.hid qB
            clear qM qF qB
            clear HCR HCC HCB HCM
            have r0 := XA.out.r.cell 0 _ rfl
            have r1 := XA.out.r.cell 1 _ rfl
            have r2 := XA.out.r.cell 2 _ rfl
            have c0 := XA.out.c.cell 0 _ rfl
            have c1 := XA.out.c.cell 1 _ rfl
            have c2 := XA.out.c.cell 2 _ rfl
            have b0 := XA.out.b.cell 0 _ rfl
            have b1 := XA.out.b.cell 1 _ rfl
            have b2 := XA.out.b.cell 2 _ rfl
            have b3 := XA.out.b.cell 3 _ rfl
            have b4 := XA.out.b.cell 4 _ rfl
            have b5 := XA.out.b.cell 5 _ rfl
            go_wp2_with fail
            go_meet
            case rel => exact ⟨rfl, XA.out, BX.out⟩
          · have HM0 := Lib.hid qM0
            clear qM0
            clear HCR HCC HCB HCM
            have r0 := XA.out.r.cell 0 _ rfl
            have r1 := XA.out.r.cell 1 _ rfl
            have r2 := XA.out.r.cell 2 _ rfl
            have c0 := XA.out.c.cell 0 _ rfl
            have c1 := XA.out.c.cell 1 _ rfl
            have c2 := XA.out.c.cell 2 _ rfl
            have b0 := XA.out.b.cell 0 _ rfl
            have b1 := XA.out.b.cell 1 _ rfl
            have b2 := XA.out.b.cell 2 _ rfl
            have b3 := XA.out.b.cell 3 _ rfl
            have b4 := XA.out.b.cell 4 _ rfl
            have b5 := XA.out.b.cell 5 _ rfl
            have m0 := XA.out.m.at_ 0 _ (by omega) HM0.out
            go_wp2_with fail
            go_meet
            case rel => exact ⟨rfl, XA.out, BX.out⟩
        · have HQ5 := Lib.hid (show (!nzB x) = true by rw [q5]; rfl)
          clear q5
          rcases HCM.out with ⟨rfl, d, s9, r10, s13, t15, qM, qF, qB⟩ | ⟨rfl, qM0⟩
          · have HMA := Lib.hid qM
            have HMF := Lib.hid qF
            have HMB := Lib.hid qB
            clear qM qF qB
            clear HCR HCC HCB HCM
            have r0 := XA.out.r.cell 0 _ rfl
            have r1 := XA.out.r.cell 1 _ rfl
            have r2 := XA.out.r.cell 2 _ rfl
            have c0 := XA.out.c.cell 0 _ rfl
            have c1 := XA.out.c.cell 1 _ rfl
            have c2 := XA.out.c.cell 2 _ rfl
            have b0 := XA.out.b.cell 0 _ rfl
            have b1 := XA.out.b.cell 1 _ rfl
            have b2 := XA.out.b.cell 2 _ rfl
            have b3 := XA.out.b.cell 3 _ rfl
            have b4 := XA.out.b.cell 4 _ rfl
            have b5 := XA.out.b.cell 5 _ rfl
            go_wp2_with fail
            refine (rzblock_is x _ _ true HQ5.out _ (HSB.out.later BX.out) (HRB.out.later BX.out)).mono ?_
            rintro e wQ ⟨rfl, hb⟩
            have XQ := Lib.hid (XA.out.on hb)
            have BQ := Lib.hid (BX.out.trans (hb.mono BX.out.size))
            clear hb r0 r1 r2 c0 c1 c2 b0 b1 b2 b3 b4 b5
            have r0 := XQ.out.r.cell 0 _ rfl
            have r1 := XQ.out.r.cell 1 _ rfl
            have r2 := XQ.out.r.cell 2 _ rfl
            have c0 := XQ.out.c.cell 0 _ rfl
            have c1 := XQ.out.c.cell 1 _ rfl
            have c2 := XQ.out.c.cell 2 _ rfl
            have b0 := XQ.out.b.cell 0 _ rfl
            have b1 := XQ.out.b.cell 1 _ rfl
            have b2 := XQ.out.b.cell 2 _ rfl
            have b3 := XQ.out.b.cell 3 _ rfl
            have b4 := XQ.out.b.cell 4 _ rfl
            have b5 := XQ.out.b.cell 5 _ rfl
            go_wp2_with fail
            go_meet
            case rel => exact ⟨rfl, XQ.out, BQ.out⟩
          · have HM0 := Lib.hid qM0
            clear qM0
            clear HCR HCC HCB HCM
            have r0 := XA.out.r.cell 0 _ rfl
            have r1 := XA.out.r.cell 1 _ rfl
            have r2 := XA.out.r.cell 2 _ rfl
            have c0 := XA.out.c.cell 0 _ rfl
            have c1 := XA.out.c.cell 1 _ rfl
            have c2 := XA.out.c.cell 2 _ rfl
            have b0 := XA.out.b.cell 0 _ rfl
            have b1 := XA.out.b.cell 1 _ rfl
            have b2 := XA.out.b.cell 2 _ rfl
            have b3 := XA.out.b.cell 3 _ rfl
            have b4 := XA.out.b.cell 4 _ rfl
            have b5 := XA.out.b.cell 5 _ rfl
            have m0 := XA.out.m.at_ 0 _ (by omega) HM0.out
            go_wp2_with fail
            refine (rzblock_is x _ _ true HQ5.out _ (HSB.out.later BX.out) (HRB.out.later BX.out)).mono ?_
            rintro e wQ ⟨rfl, hb⟩
            have XQ := Lib.hid (XA.out.on hb)
            have BQ := Lib.hid (BX.out.trans (hb.mono BX.out.size))
            clear hb r0 r1 r2 c0 c1 c2 b0 b1 b2 b3 b4 b5 m0
            have r0 := XQ.out.r.cell 0 _ rfl
            have r1 := XQ.out.r.cell 1 _ rfl
            have r2 := XQ.out.r.cell 2 _ rfl
            have c0 := XQ.out.c.cell 0 _ rfl
            have c1 := XQ.out.c.cell 1 _ rfl
            have c2 := XQ.out.c.cell 2 _ rfl
            have b0 := XQ.out.b.cell 0 _ rfl
            have b1 := XQ.out.b.cell 1 _ rfl
            have b2 := XQ.out.b.cell 2 _ rfl
            have b3 := XQ.out.b.cell 3 _ rfl
            have b4 := XQ.out.b.cell 4 _ rfl
            have b5 := XQ.out.b.cell 5 _ rfl
            have m0 := XQ.out.m.at_ 0 _ (by omega) HM0.out
            go_wp2_with fail
            go_meet
            case rel => exact ⟨rfl, XQ.out, BQ.out⟩
      · have HQ3 := Lib.hid (show (!nzC c) = true by rw [q3]; rfl)
        clear q3
        rcases HCB.out with ⟨rfl, q5, q6⟩ | ⟨rfl, q5⟩
        · have HQ5 := Lib.hid q5
          have HQ6 := Lib.hid q6
          clear q5 q6
          rcases HCM.out with ⟨rfl, d, s9, r10, s13, t15, qM, qF, qB⟩ | ⟨rfl, qM0⟩
          · have HMA := Lib.hid qM
            have HMF := Lib.hid qF
            have HMB := Lib.hid qB
            clear qM qF qB
            clear HCR HCC HCB HCM
            have r0 := XA.out.r.cell 0 _ rfl
            have r1 := XA.out.r.cell 1 _ rfl
            have r2 := XA.out.r.cell 2 _ rfl
            have c0 := XA.out.c.cell 0 _ rfl
            have c1 := XA.out.c.cell 1 _ rfl
            have c2 := XA.out.c.cell 2 _ rfl
            have b0 := XA.out.b.cell 0 _ rfl
            have b1 := XA.out.b.cell 1 _ rfl
            have b2 := XA.out.b.cell 2 _ rfl
            have b3 := XA.out.b.cell 3 _ rfl
            have b4 := XA.out.b.cell 4 _ rfl
            have b5 := XA.out.b.cell 5 _ rfl
            go_wp2_with fail
            refine (rzcert_is c _ true HQ3.out _ (HSC.out.later BX.out)).mono ?_
            rintro e wP ⟨rfl, hb⟩
            have XP := Lib.hid (XA.out.on hb)
            have BP := Lib.hid (BX.out.trans (hb.mono BX.out.size))
            clear hb r0 r1 r2 c0 c1 c2 b0 b1 b2 b3 b4 b5
            have r0 := XP.out.r.cell 0 _ rfl
            have r1 := XP.out.r.cell 1 _ rfl
            have r2 := XP.out.r.cell 2 _ rfl
            have c0 := XP.out.c.cell 0 _ rfl
            have c1 := XP.out.c.cell 1 _ rfl
            have c2 := XP.out.c.cell 2 _ rfl
            have b0 := XP.out.b.cell 0 _ rfl
            have b1 := XP.out.b.cell 1 _ rfl
            have b2 := XP.out.b.cell 2 _ rfl
            have b3 := XP.out.b.cell 3 _ rfl
            have b4 := XP.out.b.cell 4 _ rfl
            have b5 := XP.out.b.cell 5 _ rfl
            go_wp2_with fail
            go_meet
            case rel => exact ⟨rfl, XP.out, BP.out⟩
          · have HM0 := Lib.hid qM0
            clear qM0
            clear HCR HCC HCB HCM
            have r0 := XA.out.r.cell 0 _ rfl
            have r1 := XA.out.r.cell 1 _ rfl
            have r2 := XA.out.r.cell 2 _ rfl
            have c0 := XA.out.c.cell 0 _ rfl
            have c1 := XA.out.c.cell 1 _ rfl
            have c2 := XA.out.c.cell 2 _ rfl
            have b0 := XA.out.b.cell 0 _ rfl
            have b1 := XA.out.b.cell 1 _ rfl
            have b2 := XA.out.b.cell 2 _ rfl
            have b3 := XA.out.b.cell 3 _ rfl
            have b4 := XA.out.b.cell 4 _ rfl
            have b5 := XA.out.b.cell 5 _ rfl
            have m0 := XA.out.m.at_ 0 _ (by omega) HM0.out
            go_wp2_with fail
            refine (rzcert_is c _ true HQ3.out _ (HSC.out.later BX.out)).mono ?_
            rintro e wP ⟨rfl, hb⟩
            have XP := Lib.hid (XA.out.on hb)
            have BP := Lib.hid (BX.out.trans (hb.mono BX.out.size))
            clear hb r0 r1 r2 c0 c1 c2 b0 b1 b2 b3 b4 b5 m0
            have r0 := XP.out.r.cell 0 _ rfl
            have r1 := XP.out.r.cell 1 _ rfl
            have r2 := XP.out.r.cell 2 _ rfl
            have c0 := XP.out.c.cell 0 _ rfl
            have c1 := XP.out.c.cell 1 _ rfl
            have c2 := XP.out.c.cell 2 _ rfl
            have b0 := XP.out.b.cell 0 _ rfl
            have b1 := XP.out.b.cell 1 _ rfl
            have b2 := XP.out.b.cell 2 _ rfl
            have b3 := XP.out.b.cell 3 _ rfl
            have b4 := XP.out.b.cell 4 _ rfl
            have b5 := XP.out.b.cell 5 _ rfl
            have m0 := XP.out.m.at_ 0 _ (by omega) HM0.out
            go_wp2_with fail
            go_meet
            case rel => exact ⟨rfl, XP.out, BP.out⟩
        · have HQ5 := Lib.hid (show (!nzB x) = true by rw [q5]; rfl)
          clear q5
          rcases HCM.out with ⟨rfl, d, s9, r10, s13, t15, qM, qF, qB⟩ | ⟨rfl, qM0⟩
          · have HMA := Lib.hid qM
            have HMF := Lib.hid qF
            have HMB := Lib.hid qB
            clear qM qF qB
            clear HCR HCC HCB HCM
            have r0 := XA.out.r.cell 0 _ rfl
            have r1 := XA.out.r.cell 1 _ rfl
            have r2 := XA.out.r.cell 2 _ rfl
            have c0 := XA.out.c.cell 0 _ rfl
            have c1 := XA.out.c.cell 1 _ rfl
            have c2 := XA.out.c.cell 2 _ rfl
            have b0 := XA.out.b.cell 0 _ rfl
            have b1 := XA.out.b.cell 1 _ rfl
            have b2 := XA.out.b.cell 2 _ rfl
            have b3 := XA.out.b.cell 3 _ rfl
            have b4 := XA.out.b.cell 4 _ rfl
            have b5 := XA.out.b.cell 5 _ rfl
            go_wp2_with fail
            refine (rzcert_is c _ true HQ3.out _ (HSC.out.later BX.out)).mono ?_
            rintro e wP ⟨rfl, hb⟩
            have XP := Lib.hid (XA.out.on hb)
            have BP := Lib.hid (BX.out.trans (hb.mono BX.out.size))
            clear hb r0 r1 r2 c0 c1 c2 b0 b1 b2 b3 b4 b5
            have r0 := XP.out.r.cell 0 _ rfl
            have r1 := XP.out.r.cell 1 _ rfl
            have r2 := XP.out.r.cell 2 _ rfl
            have c0 := XP.out.c.cell 0 _ rfl
            have c1 := XP.out.c.cell 1 _ rfl
            have c2 := XP.out.c.cell 2 _ rfl
            have b0 := XP.out.b.cell 0 _ rfl
            have b1 := XP.out.b.cell 1 _ rfl
            have b2 := XP.out.b.cell 2 _ rfl
            have b3 := XP.out.b.cell 3 _ rfl
            have b4 := XP.out.b.cell 4 _ rfl
            have b5 := XP.out.b.cell 5 _ rfl
            go_wp2_with fail
            refine (rzblock_is x _ _ true HQ5.out _ (HSB.out.later BP.out) (HRB.out.later BP.out)).mono ?_
            rintro e wQ ⟨rfl, hb⟩
            have XQ := Lib.hid (XP.out.on hb)
            have BQ := Lib.hid (BP.out.trans (hb.mono BP.out.size))
            clear hb r0 r1 r2 c0 c1 c2 b0 b1 b2 b3 b4 b5
            have r0 := XQ.out.r.cell 0 _ rfl
            have r1 := XQ.out.r.cell 1 _ rfl
            have r2 := XQ.out.r.cell 2 _ rfl
            have c0 := XQ.out.c.cell 0 _ rfl
            have c1 := XQ.out.c.cell 1 _ rfl
            have c2 := XQ.out.c.cell 2 _ rfl
            have b0 := XQ.out.b.cell 0 _ rfl
            have b1 := XQ.out.b.cell 1 _ rfl
            have b2 := XQ.out.b.cell 2 _ rfl
            have b3 := XQ.out.b.cell 3 _ rfl
            have b4 := XQ.out.b.cell 4 _ rfl
            have b5 := XQ.out.b.cell 5 _ rfl
            go_wp2_with fail
            go_meet
            case rel => exact ⟨rfl, XQ.out, BQ.out⟩
          · have HM0 := Lib.hid qM0
            clear qM0
            clear HCR HCC HCB HCM
            have r0 := XA.out.r.cell 0 _ rfl
            have r1 := XA.out.r.cell 1 _ rfl
            have r2 := XA.out.r.cell 2 _ rfl
            have c0 := XA.out.c.cell 0 _ rfl
            have c1 := XA.out.c.cell 1 _ rfl
            have c2 := XA.out.c.cell 2 _ rfl
            have b0 := XA.out.b.cell 0 _ rfl
            have b1 := XA.out.b.cell 1 _ rfl
            have b2 := XA.out.b.cell 2 _ rfl
            have b3 := XA.out.b.cell 3 _ rfl
            have b4 := XA.out.b.cell 4 _ rfl
            have b5 := XA.out.b.cell 5 _ rfl
            have m0 := XA.out.m.at_ 0 _ (by omega) HM0.out
            go_wp2_with fail
            refine (rzcert_is c _ true HQ3.out _ (HSC.out.later BX.out)).mono ?_
            rintro e wP ⟨rfl, hb⟩
            have XP := Lib.hid (XA.out.on hb)
            have BP := Lib.hid (BX.out.trans (hb.mono BX.out.size))
            clear hb r0 r1 r2 c0 c1 c2 b0 b1 b2 b3 b4 b5 m0
            have r0 := XP.out.r.cell 0 _ rfl
            have r1 := XP.out.r.cell 1 _ rfl
            have r2 := XP.out.r.cell 2 _ rfl
            have c0 := XP.out.c.cell 0 _ rfl
            have c1 := XP.out.c.cell 1 _ rfl
            have c2 := XP.out.c.cell 2 _ rfl
            have b0 := XP.out.b.cell 0 _ rfl
            have b1 := XP.out.b.cell 1 _ rfl
            have b2 := XP.out.b.cell 2 _ rfl
            have b3 := XP.out.b.cell 3 _ rfl
            have b4 := XP.out.b.cell 4 _ rfl
            have b5 := XP.out.b.cell 5 _ rfl
            have m0 := XP.out.m.at_ 0 _ (by omega) HM0.out
            go_wp2_with fail
            refine (rzblock_is x _ _ true HQ5.out _ (HSB.out.later BP.out) (HRB.out.later BP.out)).mono ?_
            rintro e wQ ⟨rfl, hb⟩
            have XQ := Lib.hid (XP.out.on hb)
            have BQ := Lib.hid (BP.out.trans (hb.mono BP.out.size))
            clear hb r0 r1 r2 c0 c1 c2 b0 b1 b2 b3 b4 b5 m0
            have r0 := XQ.out.r.cell 0 _ rfl
            have r1 := XQ.out.r.cell 1 _ rfl
            have r2 := XQ.out.r.cell 2 _ rfl
            have c0 := XQ.out.c.cell 0 _ rfl
            have c1 := XQ.out.c.cell 1 _ rfl
            have c2 := XQ.out.c.cell 2 _ rfl
            have b0 := XQ.out.b.cell 0 _ rfl
            have b1 := XQ.out.b.cell 1 _ rfl
            have b2 := XQ.out.b.cell 2 _ rfl
            have b3 := XQ.out.b.cell 3 _ rfl
            have b4 := XQ.out.b.cell 4 _ rfl
            have b5 := XQ.out.b.cell 5 _ rfl
            have m0 := XQ.out.m.at_ 0 _ (by omega) HM0.out
            go_wp2_with fail
            go_meet
            case rel => exact ⟨rfl, XQ.out, BQ.out⟩
  case rest =>
  obtain ⟨rfl, hX, hBB⟩ := hcut
  have XC := Lib.hid hX
  have BC := Lib.hid hBB
  clear hX hBB XA BX
  rcases HCR.out with ⟨rfl, q1, q2⟩ | ⟨rfl, rfl⟩
  · have HQ1 := Lib.hid q1
    have HQ2 := Lib.hid q2
    clear q1 q2
    rcases HCC.out with ⟨rfl, q3, q4⟩ | ⟨rfl, q3⟩
    · have HQ3 := Lib.hid q3
      have HQ4 := Lib.hid q4
      clear q3 q4
      rcases HCB.out with ⟨rfl, q5, q6⟩ | ⟨rfl, q5⟩
      · have HQ5 := Lib.hid q5
        have HQ6 := Lib.hid q6
        clear q5 q6
        rcases HCM.out with ⟨rfl, d, s9, r10, s13, t15, qM, qF, qB⟩ | ⟨rfl, qM0⟩
        · have HMA := Lib.hid qM
          have HMF := Lib.hid qF
          have HMB := Lib.hid qB
          clear qM qF qB
          clear HCR HCC HCB HCM
          have r0 := XC.out.r.cell 0 _ rfl
          have r1 := XC.out.r.cell 1 _ rfl
          have r2 := XC.out.r.cell 2 _ rfl
          have c0 := XC.out.c.cell 0 _ rfl
          have c1 := XC.out.c.cell 1 _ rfl
          have c2 := XC.out.c.cell 2 _ rfl
          have b0 := XC.out.b.cell 0 _ rfl
          have b1 := XC.out.b.cell 1 _ rfl
          have b2 := XC.out.b.cell 2 _ rfl
          have b3 := XC.out.b.cell 3 _ rfl
          have b4 := XC.out.b.cell 4 _ rfl
          have b5 := XC.out.b.cell 5 _ rfl
          go_wp2_with fail
          refine (rightreq_is r true (decide_eq_true HQ1.out) _).mono ?_
          rintro e wR1 ⟨rfl, hb⟩
          have XR1 := Lib.hid (XC.out.on hb)
          have BR1 := Lib.hid (BC.out.trans (hb.mono BC.out.size))
          clear hb r0 r1 r2 c0 c1 c2 b0 b1 b2 b3 b4 b5
          have r0 := XR1.out.r.cell 0 _ rfl
          have r1 := XR1.out.r.cell 1 _ rfl
          have r2 := XR1.out.r.cell 2 _ rfl
          have c0 := XR1.out.c.cell 0 _ rfl
          have c1 := XR1.out.c.cell 1 _ rfl
          have c2 := XR1.out.c.cell 2 _ rfl
          have b0 := XR1.out.b.cell 0 _ rfl
          have b1 := XR1.out.b.cell 1 _ rfl
          have b2 := XR1.out.b.cell 2 _ rfl
          have b3 := XR1.out.b.cell 3 _ rfl
          have b4 := XR1.out.b.cell 4 _ rfl
          have b5 := XR1.out.b.cell 5 _ rfl
          go_wp2_with fail
          refine (rreq_is r b HQ2.out (by have := HQ1.out.2.2.2.2; omega) _).mono ?_
          rintro e wR2 ⟨rfl, hb⟩
          have XR2 := Lib.hid (XR1.out.on hb)
          have BR2 := Lib.hid (BR1.out.trans (hb.mono BR1.out.size))
          clear hb r0 r1 r2 c0 c1 c2 b0 b1 b2 b3 b4 b5
          have r0 := XR2.out.r.cell 0 _ rfl
          have r1 := XR2.out.r.cell 1 _ rfl
          have r2 := XR2.out.r.cell 2 _ rfl
          have c0 := XR2.out.c.cell 0 _ rfl
          have c1 := XR2.out.c.cell 1 _ rfl
          have c2 := XR2.out.c.cell 2 _ rfl
          have b0 := XR2.out.b.cell 0 _ rfl
          have b1 := XR2.out.b.cell 1 _ rfl
          have b2 := XR2.out.b.cell 2 _ rfl
          have b3 := XR2.out.b.cell 3 _ rfl
          have b4 := XR2.out.b.cell 4 _ rfl
          have b5 := XR2.out.b.cell 5 _ rfl
          go_wp2_with fail
          refine (rightcert_is c _ true HQ3.out _ (HSC.out.later BR2.out) (right_small HQ3.out).2.2.2).mono ?_
          rintro e wR3 ⟨rfl, hb⟩
          have XR3 := Lib.hid (XR2.out.on hb)
          have BR3 := Lib.hid (BR2.out.trans (hb.mono BR2.out.size))
          clear hb r0 r1 r2 c0 c1 c2 b0 b1 b2 b3 b4 b5
          have r0 := XR3.out.r.cell 0 _ rfl
          have r1 := XR3.out.r.cell 1 _ rfl
          have r2 := XR3.out.r.cell 2 _ rfl
          have c0 := XR3.out.c.cell 0 _ rfl
          have c1 := XR3.out.c.cell 1 _ rfl
          have c2 := XR3.out.c.cell 2 _ rfl
          have b0 := XR3.out.b.cell 0 _ rfl
          have b1 := XR3.out.b.cell 1 _ rfl
          have b2 := XR3.out.b.cell 2 _ rfl
          have b3 := XR3.out.b.cell 3 _ rfl
          have b4 := XR3.out.b.cell 4 _ rfl
          have b5 := XR3.out.b.cell 5 _ rfl
          go_wp2_with fail
          refine (rcert_is c _ b HQ4.out _ (HSC.out.later BR3.out) (by have := (right_small HQ3.out).2.1; omega) (right_small HQ3.out).1).mono ?_
          rintro e wR4 ⟨rfl, hb⟩
          have XR4 := Lib.hid (XR3.out.on hb)
          have BR4 := Lib.hid (BR3.out.trans (hb.mono BR3.out.size))
          clear hb r0 r1 r2 c0 c1 c2 b0 b1 b2 b3 b4 b5
          have r0 := XR4.out.r.cell 0 _ rfl
          have r1 := XR4.out.r.cell 1 _ rfl
          have r2 := XR4.out.r.cell 2 _ rfl
          have c0 := XR4.out.c.cell 0 _ rfl
          have c1 := XR4.out.c.cell 1 _ rfl
          have c2 := XR4.out.c.cell 2 _ rfl
          have b0 := XR4.out.b.cell 0 _ rfl
          have b1 := XR4.out.b.cell 1 _ rfl
          have b2 := XR4.out.b.cell 2 _ rfl
          have b3 := XR4.out.b.cell 3 _ rfl
          have b4 := XR4.out.b.cell 4 _ rfl
          have b5 := XR4.out.b.cell 5 _ rfl
          go_wp2_with fail
          refine (rightblock_is x _ _ true HQ5.out _ (HSB.out.later BR4.out) (HRB.out.later BR4.out) (right_smallB HQ5.out).2.2.2.1).mono ?_
          rintro e wR5 ⟨rfl, hb⟩
          have XR5 := Lib.hid (XR4.out.on hb)
          have BR5 := Lib.hid (BR4.out.trans (hb.mono BR4.out.size))
          clear hb r0 r1 r2 c0 c1 c2 b0 b1 b2 b3 b4 b5
          have r0 := XR5.out.r.cell 0 _ rfl
          have r1 := XR5.out.r.cell 1 _ rfl
          have r2 := XR5.out.r.cell 2 _ rfl
          have c0 := XR5.out.c.cell 0 _ rfl
          have c1 := XR5.out.c.cell 1 _ rfl
          have c2 := XR5.out.c.cell 2 _ rfl
          have b0 := XR5.out.b.cell 0 _ rfl
          have b1 := XR5.out.b.cell 1 _ rfl
          have b2 := XR5.out.b.cell 2 _ rfl
          have b3 := XR5.out.b.cell 3 _ rfl
          have b4 := XR5.out.b.cell 4 _ rfl
          have b5 := XR5.out.b.cell 5 _ rfl
          go_wp2_with fail
          refine (rblock_is x _ _ b HQ6.out _ (HSB.out.later BR5.out) (HRB.out.later BR5.out) (by have := (right_smallB HQ5.out).2.2.1; omega) (right_smallB HQ5.out).1 (right_smallB HQ5.out).2.1).mono ?_
          rintro e wR6 ⟨rfl, hb⟩
          have XR6 := Lib.hid (XR5.out.on hb)
          have BR6 := Lib.hid (BR5.out.trans (hb.mono BR5.out.size))
          clear hb r0 r1 r2 c0 c1 c2 b0 b1 b2 b3 b4 b5
          have r0 := XR6.out.r.cell 0 _ rfl
          have r1 := XR6.out.r.cell 1 _ rfl
          have r2 := XR6.out.r.cell 2 _ rfl
          have c0 := XR6.out.c.cell 0 _ rfl
          have c1 := XR6.out.c.cell 1 _ rfl
          have c2 := XR6.out.c.cell 2 _ rfl
          have b0 := XR6.out.b.cell 0 _ rfl
          have b1 := XR6.out.b.cell 1 _ rfl
          have b2 := XR6.out.b.cell 2 _ rfl
          have b3 := XR6.out.b.cell 3 _ rfl
          have b4 := XR6.out.b.cell 4 _ rfl
          have b5 := XR6.out.b.cell 5 _ rfl
          go_wp2_with (with_reducible refine hold_load (.tmp 9) rfl ?_)
          refine wpl_load_w (.tmp 9) ym 0 21 21 f (by rfl) rfl (by rfl) (agg_msg _) (size_msg _) XR6.out.m.blk.cells (by omega) ?_
          simp only [Nat.zero_add]
          go_wp2_with fail
          refine (rightmsg_is true _ f d.1.1.1.1.1.1.1.1.1.1 d.1.1.1.1.1.1.1.1.1.2 d.1.1.1.1.1.1.1.1.2 d.1.1.1.1.1.1.1.2 d.1.1.1.1.1.1.2 (d.1.1.1.1.1.2.getD noB) (d.1.1.1.1.2.getD noC) (d.1.1.1.2.getD noS) (d.1.1.2.getD noR) d.1.2 d.2 s9 r10 s13 t15 (HMA.out.later (BA.out.trans (BR6.out.mono BA.out.size))) (right_smallM HMF.out).2 (rightMsg_iff.2 HMF.out)).mono ?_
          rintro e wR7 ⟨rfl, hb⟩
          have XR7 := Lib.hid (XR6.out.on hb)
          have BR7 := Lib.hid (BR6.out.trans (hb.mono BR6.out.size))
          clear hb r0 r1 r2 c0 c1 c2 b0 b1 b2 b3 b4 b5
          have r0 := XR7.out.r.cell 0 _ rfl
          have r1 := XR7.out.r.cell 1 _ rfl
          have r2 := XR7.out.r.cell 2 _ rfl
          have c0 := XR7.out.c.cell 0 _ rfl
          have c1 := XR7.out.c.cell 1 _ rfl
          have c2 := XR7.out.c.cell 2 _ rfl
          have b0 := XR7.out.b.cell 0 _ rfl
          have b1 := XR7.out.b.cell 1 _ rfl
          have b2 := XR7.out.b.cell 2 _ rfl
          have b3 := XR7.out.b.cell 3 _ rfl
          have b4 := XR7.out.b.cell 4 _ rfl
          have b5 := XR7.out.b.cell 5 _ rfl
          go_wp2_with (with_reducible refine hold_load (.tmp 9) rfl ?_)
          refine wpl_load_w (.tmp 9) ym 0 21 21 f (by rfl) rfl (by rfl) (agg_msg _) (size_msg _) XR7.out.m.blk.cells (by omega) ?_
          simp only [Nat.zero_add]
          go_wp2_with fail
          refine (rmsg_is b _ f d.1.1.1.1.1.1.1.1.1.1 d.1.1.1.1.1.1.1.1.1.2 d.1.1.1.1.1.1.1.1.2 d.1.1.1.1.1.1.1.2 d.1.1.1.1.1.1.2 (d.1.1.1.1.1.2.getD noB) (d.1.1.1.1.2.getD noC) (d.1.1.1.2.getD noS) (d.1.1.2.getD noR) d.1.2 d.2 s9 r10 s13 t15 (HMA.out.later (BA.out.trans (BR7.out.mono BA.out.size))) (right_smallM HMF.out).1 HMB.out).mono ?_
          rintro e wR8 ⟨rfl, hb⟩
          have XR8 := Lib.hid (XR7.out.on hb)
          have BR8 := Lib.hid (BR7.out.trans (hb.mono BR7.out.size))
          clear hb r0 r1 r2 c0 c1 c2 b0 b1 b2 b3 b4 b5
          go_wp2_with fail
          go_ret
          exact ⟨rfl, XR8.out.r.below⟩
        · have HM0 := Lib.hid qM0
          clear qM0
          clear HCR HCC HCB HCM
          have r0 := XC.out.r.cell 0 _ rfl
          have r1 := XC.out.r.cell 1 _ rfl
          have r2 := XC.out.r.cell 2 _ rfl
          have c0 := XC.out.c.cell 0 _ rfl
          have c1 := XC.out.c.cell 1 _ rfl
          have c2 := XC.out.c.cell 2 _ rfl
          have b0 := XC.out.b.cell 0 _ rfl
          have b1 := XC.out.b.cell 1 _ rfl
          have b2 := XC.out.b.cell 2 _ rfl
          have b3 := XC.out.b.cell 3 _ rfl
          have b4 := XC.out.b.cell 4 _ rfl
          have b5 := XC.out.b.cell 5 _ rfl
          go_wp2_with fail
          refine (rightreq_is r true (decide_eq_true HQ1.out) _).mono ?_
          rintro e wR1 ⟨rfl, hb⟩
          have XR1 := Lib.hid (XC.out.on hb)
          have BR1 := Lib.hid (BC.out.trans (hb.mono BC.out.size))
          clear hb r0 r1 r2 c0 c1 c2 b0 b1 b2 b3 b4 b5
          have r0 := XR1.out.r.cell 0 _ rfl
          have r1 := XR1.out.r.cell 1 _ rfl
          have r2 := XR1.out.r.cell 2 _ rfl
          have c0 := XR1.out.c.cell 0 _ rfl
          have c1 := XR1.out.c.cell 1 _ rfl
          have c2 := XR1.out.c.cell 2 _ rfl
          have b0 := XR1.out.b.cell 0 _ rfl
          have b1 := XR1.out.b.cell 1 _ rfl
          have b2 := XR1.out.b.cell 2 _ rfl
          have b3 := XR1.out.b.cell 3 _ rfl
          have b4 := XR1.out.b.cell 4 _ rfl
          have b5 := XR1.out.b.cell 5 _ rfl
          go_wp2_with fail
          refine (rreq_is r b HQ2.out (by have := HQ1.out.2.2.2.2; omega) _).mono ?_
          rintro e wR2 ⟨rfl, hb⟩
          have XR2 := Lib.hid (XR1.out.on hb)
          have BR2 := Lib.hid (BR1.out.trans (hb.mono BR1.out.size))
          clear hb r0 r1 r2 c0 c1 c2 b0 b1 b2 b3 b4 b5
          have r0 := XR2.out.r.cell 0 _ rfl
          have r1 := XR2.out.r.cell 1 _ rfl
          have r2 := XR2.out.r.cell 2 _ rfl
          have c0 := XR2.out.c.cell 0 _ rfl
          have c1 := XR2.out.c.cell 1 _ rfl
          have c2 := XR2.out.c.cell 2 _ rfl
          have b0 := XR2.out.b.cell 0 _ rfl
          have b1 := XR2.out.b.cell 1 _ rfl
          have b2 := XR2.out.b.cell 2 _ rfl
          have b3 := XR2.out.b.cell 3 _ rfl
          have b4 := XR2.out.b.cell 4 _ rfl
          have b5 := XR2.out.b.cell 5 _ rfl
          go_wp2_with fail
          refine (rightcert_is c _ true HQ3.out _ (HSC.out.later BR2.out) (right_small HQ3.out).2.2.2).mono ?_
          rintro e wR3 ⟨rfl, hb⟩
          have XR3 := Lib.hid (XR2.out.on hb)
          have BR3 := Lib.hid (BR2.out.trans (hb.mono BR2.out.size))
          clear hb r0 r1 r2 c0 c1 c2 b0 b1 b2 b3 b4 b5
          have r0 := XR3.out.r.cell 0 _ rfl
          have r1 := XR3.out.r.cell 1 _ rfl
          have r2 := XR3.out.r.cell 2 _ rfl
          have c0 := XR3.out.c.cell 0 _ rfl
          have c1 := XR3.out.c.cell 1 _ rfl
          have c2 := XR3.out.c.cell 2 _ rfl
          have b0 := XR3.out.b.cell 0 _ rfl
          have b1 := XR3.out.b.cell 1 _ rfl
          have b2 := XR3.out.b.cell 2 _ rfl
          have b3 := XR3.out.b.cell 3 _ rfl
          have b4 := XR3.out.b.cell 4 _ rfl
          have b5 := XR3.out.b.cell 5 _ rfl
          go_wp2_with fail
          refine (rcert_is c _ b HQ4.out _ (HSC.out.later BR3.out) (by have := (right_small HQ3.out).2.1; omega) (right_small HQ3.out).1).mono ?_
          rintro e wR4 ⟨rfl, hb⟩
          have XR4 := Lib.hid (XR3.out.on hb)
          have BR4 := Lib.hid (BR3.out.trans (hb.mono BR3.out.size))
          clear hb r0 r1 r2 c0 c1 c2 b0 b1 b2 b3 b4 b5
          have r0 := XR4.out.r.cell 0 _ rfl
          have r1 := XR4.out.r.cell 1 _ rfl
          have r2 := XR4.out.r.cell 2 _ rfl
          have c0 := XR4.out.c.cell 0 _ rfl
          have c1 := XR4.out.c.cell 1 _ rfl
          have c2 := XR4.out.c.cell 2 _ rfl
          have b0 := XR4.out.b.cell 0 _ rfl
          have b1 := XR4.out.b.cell 1 _ rfl
          have b2 := XR4.out.b.cell 2 _ rfl
          have b3 := XR4.out.b.cell 3 _ rfl
          have b4 := XR4.out.b.cell 4 _ rfl
          have b5 := XR4.out.b.cell 5 _ rfl
          go_wp2_with fail
          refine (rightblock_is x _ _ true HQ5.out _ (HSB.out.later BR4.out) (HRB.out.later BR4.out) (right_smallB HQ5.out).2.2.2.1).mono ?_
          rintro e wR5 ⟨rfl, hb⟩
          have XR5 := Lib.hid (XR4.out.on hb)
          have BR5 := Lib.hid (BR4.out.trans (hb.mono BR4.out.size))
          clear hb r0 r1 r2 c0 c1 c2 b0 b1 b2 b3 b4 b5
          have r0 := XR5.out.r.cell 0 _ rfl
          have r1 := XR5.out.r.cell 1 _ rfl
          have r2 := XR5.out.r.cell 2 _ rfl
          have c0 := XR5.out.c.cell 0 _ rfl
          have c1 := XR5.out.c.cell 1 _ rfl
          have c2 := XR5.out.c.cell 2 _ rfl
          have b0 := XR5.out.b.cell 0 _ rfl
          have b1 := XR5.out.b.cell 1 _ rfl
          have b2 := XR5.out.b.cell 2 _ rfl
          have b3 := XR5.out.b.cell 3 _ rfl
          have b4 := XR5.out.b.cell 4 _ rfl
          have b5 := XR5.out.b.cell 5 _ rfl
          go_wp2_with fail
          refine (rblock_is x _ _ b HQ6.out _ (HSB.out.later BR5.out) (HRB.out.later BR5.out) (by have := (right_smallB HQ5.out).2.2.1; omega) (right_smallB HQ5.out).1 (right_smallB HQ5.out).2.1).mono ?_
          rintro e wR6 ⟨rfl, hb⟩
          have XR6 := Lib.hid (XR5.out.on hb)
          have BR6 := Lib.hid (BR5.out.trans (hb.mono BR5.out.size))
          clear hb r0 r1 r2 c0 c1 c2 b0 b1 b2 b3 b4 b5
          go_wp2_with fail
          go_ret
          exact ⟨rfl, XR6.out.r.below⟩
      · have HQ5 := Lib.hid (show (!nzB x) = true by rw [q5]; rfl)
        clear q5
        rcases HCM.out with ⟨rfl, d, s9, r10, s13, t15, qM, qF, qB⟩ | ⟨rfl, qM0⟩
        · have HMA := Lib.hid qM
          have HMF := Lib.hid qF
          have HMB := Lib.hid qB
          clear qM qF qB
          clear HCR HCC HCB HCM
          have r0 := XC.out.r.cell 0 _ rfl
          have r1 := XC.out.r.cell 1 _ rfl
          have r2 := XC.out.r.cell 2 _ rfl
          have c0 := XC.out.c.cell 0 _ rfl
          have c1 := XC.out.c.cell 1 _ rfl
          have c2 := XC.out.c.cell 2 _ rfl
          have b0 := XC.out.b.cell 0 _ rfl
          have b1 := XC.out.b.cell 1 _ rfl
          have b2 := XC.out.b.cell 2 _ rfl
          have b3 := XC.out.b.cell 3 _ rfl
          have b4 := XC.out.b.cell 4 _ rfl
          have b5 := XC.out.b.cell 5 _ rfl
          go_wp2_with fail
          refine (rightreq_is r true (decide_eq_true HQ1.out) _).mono ?_
          rintro e wR1 ⟨rfl, hb⟩
          have XR1 := Lib.hid (XC.out.on hb)
          have BR1 := Lib.hid (BC.out.trans (hb.mono BC.out.size))
          clear hb r0 r1 r2 c0 c1 c2 b0 b1 b2 b3 b4 b5
          have r0 := XR1.out.r.cell 0 _ rfl
          have r1 := XR1.out.r.cell 1 _ rfl
          have r2 := XR1.out.r.cell 2 _ rfl
          have c0 := XR1.out.c.cell 0 _ rfl
          have c1 := XR1.out.c.cell 1 _ rfl
          have c2 := XR1.out.c.cell 2 _ rfl
          have b0 := XR1.out.b.cell 0 _ rfl
          have b1 := XR1.out.b.cell 1 _ rfl
          have b2 := XR1.out.b.cell 2 _ rfl
          have b3 := XR1.out.b.cell 3 _ rfl
          have b4 := XR1.out.b.cell 4 _ rfl
          have b5 := XR1.out.b.cell 5 _ rfl
          go_wp2_with fail
          refine (rreq_is r b HQ2.out (by have := HQ1.out.2.2.2.2; omega) _).mono ?_
          rintro e wR2 ⟨rfl, hb⟩
          have XR2 := Lib.hid (XR1.out.on hb)
          have BR2 := Lib.hid (BR1.out.trans (hb.mono BR1.out.size))
          clear hb r0 r1 r2 c0 c1 c2 b0 b1 b2 b3 b4 b5
          have r0 := XR2.out.r.cell 0 _ rfl
          have r1 := XR2.out.r.cell 1 _ rfl
          have r2 := XR2.out.r.cell 2 _ rfl
          have c0 := XR2.out.c.cell 0 _ rfl
          have c1 := XR2.out.c.cell 1 _ rfl
          have c2 := XR2.out.c.cell 2 _ rfl
          have b0 := XR2.out.b.cell 0 _ rfl
          have b1 := XR2.out.b.cell 1 _ rfl
          have b2 := XR2.out.b.cell 2 _ rfl
          have b3 := XR2.out.b.cell 3 _ rfl
          have b4 := XR2.out.b.cell 4 _ rfl
          have b5 := XR2.out.b.cell 5 _ rfl
          go_wp2_with fail
          refine (rightcert_is c _ true HQ3.out _ (HSC.out.later BR2.out) (right_small HQ3.out).2.2.2).mono ?_
          rintro e wR3 ⟨rfl, hb⟩
          have XR3 := Lib.hid (XR2.out.on hb)
          have BR3 := Lib.hid (BR2.out.trans (hb.mono BR2.out.size))
          clear hb r0 r1 r2 c0 c1 c2 b0 b1 b2 b3 b4 b5
          have r0 := XR3.out.r.cell 0 _ rfl
          have r1 := XR3.out.r.cell 1 _ rfl
          have r2 := XR3.out.r.cell 2 _ rfl
          have c0 := XR3.out.c.cell 0 _ rfl
          have c1 := XR3.out.c.cell 1 _ rfl
          have c2 := XR3.out.c.cell 2 _ rfl
          have b0 := XR3.out.b.cell 0 _ rfl
          have b1 := XR3.out.b.cell 1 _ rfl
          have b2 := XR3.out.b.cell 2 _ rfl
          have b3 := XR3.out.b.cell 3 _ rfl
          have b4 := XR3.out.b.cell 4 _ rfl
          have b5 := XR3.out.b.cell 5 _ rfl
          go_wp2_with fail
          refine (rcert_is c _ b HQ4.out _ (HSC.out.later BR3.out) (by have := (right_small HQ3.out).2.1; omega) (right_small HQ3.out).1).mono ?_
          rintro e wR4 ⟨rfl, hb⟩
          have XR4 := Lib.hid (XR3.out.on hb)
          have BR4 := Lib.hid (BR3.out.trans (hb.mono BR3.out.size))
          clear hb r0 r1 r2 c0 c1 c2 b0 b1 b2 b3 b4 b5
          have r0 := XR4.out.r.cell 0 _ rfl
          have r1 := XR4.out.r.cell 1 _ rfl
          have r2 := XR4.out.r.cell 2 _ rfl
          have c0 := XR4.out.c.cell 0 _ rfl
          have c1 := XR4.out.c.cell 1 _ rfl
          have c2 := XR4.out.c.cell 2 _ rfl
          have b0 := XR4.out.b.cell 0 _ rfl
          have b1 := XR4.out.b.cell 1 _ rfl
          have b2 := XR4.out.b.cell 2 _ rfl
          have b3 := XR4.out.b.cell 3 _ rfl
          have b4 := XR4.out.b.cell 4 _ rfl
          have b5 := XR4.out.b.cell 5 _ rfl
          go_wp2_with (with_reducible refine hold_load (.tmp 9) rfl ?_)
          refine wpl_load_w (.tmp 9) ym 0 21 21 f (by rfl) rfl (by rfl) (agg_msg _) (size_msg _) XR4.out.m.blk.cells (by omega) ?_
          simp only [Nat.zero_add]
          go_wp2_with fail
          refine (rightmsg_is true _ f d.1.1.1.1.1.1.1.1.1.1 d.1.1.1.1.1.1.1.1.1.2 d.1.1.1.1.1.1.1.1.2 d.1.1.1.1.1.1.1.2 d.1.1.1.1.1.1.2 (d.1.1.1.1.1.2.getD noB) (d.1.1.1.1.2.getD noC) (d.1.1.1.2.getD noS) (d.1.1.2.getD noR) d.1.2 d.2 s9 r10 s13 t15 (HMA.out.later (BA.out.trans (BR4.out.mono BA.out.size))) (right_smallM HMF.out).2 (rightMsg_iff.2 HMF.out)).mono ?_
          rintro e wR5 ⟨rfl, hb⟩
          have XR5 := Lib.hid (XR4.out.on hb)
          have BR5 := Lib.hid (BR4.out.trans (hb.mono BR4.out.size))
          clear hb r0 r1 r2 c0 c1 c2 b0 b1 b2 b3 b4 b5
          have r0 := XR5.out.r.cell 0 _ rfl
          have r1 := XR5.out.r.cell 1 _ rfl
          have r2 := XR5.out.r.cell 2 _ rfl
          have c0 := XR5.out.c.cell 0 _ rfl
          have c1 := XR5.out.c.cell 1 _ rfl
          have c2 := XR5.out.c.cell 2 _ rfl
          have b0 := XR5.out.b.cell 0 _ rfl
          have b1 := XR5.out.b.cell 1 _ rfl
          have b2 := XR5.out.b.cell 2 _ rfl
          have b3 := XR5.out.b.cell 3 _ rfl
          have b4 := XR5.out.b.cell 4 _ rfl
          have b5 := XR5.out.b.cell 5 _ rfl
          go_wp2_with (with_reducible refine hold_load (.tmp 9) rfl ?_)
          refine wpl_load_w (.tmp 9) ym 0 21 21 f (by rfl) rfl (by rfl) (agg_msg _) (size_msg _) XR5.out.m.blk.cells (by omega) ?_
          simp only [Nat.zero_add]
          go_wp2_with fail
          refine (rmsg_is b _ f d.1.1.1.1.1.1.1.1.1.1 d.1.1.1.1.1.1.1.1.1.2 d.1.1.1.1.1.1.1.1.2 d.1.1.1.1.1.1.1.2 d.1.1.1.1.1.1.2 (d.1.1.1.1.1.2.getD noB) (d.1.1.1.1.2.getD noC) (d.1.1.1.2.getD noS) (d.1.1.2.getD noR) d.1.2 d.2 s9 r10 s13 t15 (HMA.out.later (BA.out.trans (BR5.out.mono BA.out.size))) (right_smallM HMF.out).1 HMB.out).mono ?_
          rintro e wR6 ⟨rfl, hb⟩
          have XR6 := Lib.hid (XR5.out.on hb)
          have BR6 := Lib.hid (BR5.out.trans (hb.mono BR5.out.size))
          clear hb r0 r1 r2 c0 c1 c2 b0 b1 b2 b3 b4 b5
          go_wp2_with fail
          go_ret
          exact ⟨rfl, XR6.out.r.below⟩
        · have HM0 := Lib.hid qM0
          clear qM0
          clear HCR HCC HCB HCM
          have r0 := XC.out.r.cell 0 _ rfl
          have r1 := XC.out.r.cell 1 _ rfl
          have r2 := XC.out.r.cell 2 _ rfl
          have c0 := XC.out.c.cell 0 _ rfl
          have c1 := XC.out.c.cell 1 _ rfl
          have c2 := XC.out.c.cell 2 _ rfl
          have b0 := XC.out.b.cell 0 _ rfl
          have b1 := XC.out.b.cell 1 _ rfl
          have b2 := XC.out.b.cell 2 _ rfl
          have b3 := XC.out.b.cell 3 _ rfl
          have b4 := XC.out.b.cell 4 _ rfl
          have b5 := XC.out.b.cell 5 _ rfl
          go_wp2_with fail
          refine (rightreq_is r true (decide_eq_true HQ1.out) _).mono ?_
          rintro e wR1 ⟨rfl, hb⟩
          have XR1 := Lib.hid (XC.out.on hb)
          have BR1 := Lib.hid (BC.out.trans (hb.mono BC.out.size))
          clear hb r0 r1 r2 c0 c1 c2 b0 b1 b2 b3 b4 b5
          have r0 := XR1.out.r.cell 0 _ rfl
          have r1 := XR1.out.r.cell 1 _ rfl
          have r2 := XR1.out.r.cell 2 _ rfl
          have c0 := XR1.out.c.cell 0 _ rfl
          have c1 := XR1.out.c.cell 1 _ rfl
          have c2 := XR1.out.c.cell 2 _ rfl
          have b0 := XR1.out.b.cell 0 _ rfl
          have b1 := XR1.out.b.cell 1 _ rfl
          have b2 := XR1.out.b.cell 2 _ rfl
          have b3 := XR1.out.b.cell 3 _ rfl
          have b4 := XR1.out.b.cell 4 _ rfl
          have b5 := XR1.out.b.cell 5 _ rfl
          go_wp2_with fail
          refine (rreq_is r b HQ2.out (by have := HQ1.out.2.2.2.2; omega) _).mono ?_
          rintro e wR2 ⟨rfl, hb⟩
          have XR2 := Lib.hid (XR1.out.on hb)
          have BR2 := Lib.hid (BR1.out.trans (hb.mono BR1.out.size))
          clear hb r0 r1 r2 c0 c1 c2 b0 b1 b2 b3 b4 b5
          have r0 := XR2.out.r.cell 0 _ rfl
          have r1 := XR2.out.r.cell 1 _ rfl
          have r2 := XR2.out.r.cell 2 _ rfl
          have c0 := XR2.out.c.cell 0 _ rfl
          have c1 := XR2.out.c.cell 1 _ rfl
          have c2 := XR2.out.c.cell 2 _ rfl
          have b0 := XR2.out.b.cell 0 _ rfl
          have b1 := XR2.out.b.cell 1 _ rfl
          have b2 := XR2.out.b.cell 2 _ rfl
          have b3 := XR2.out.b.cell 3 _ rfl
          have b4 := XR2.out.b.cell 4 _ rfl
          have b5 := XR2.out.b.cell 5 _ rfl
          go_wp2_with fail
          refine (rightcert_is c _ true HQ3.out _ (HSC.out.later BR2.out) (right_small HQ3.out).2.2.2).mono ?_
          rintro e wR3 ⟨rfl, hb⟩
          have XR3 := Lib.hid (XR2.out.on hb)
          have BR3 := Lib.hid (BR2.out.trans (hb.mono BR2.out.size))
          clear hb r0 r1 r2 c0 c1 c2 b0 b1 b2 b3 b4 b5
          have r0 := XR3.out.r.cell 0 _ rfl
          have r1 := XR3.out.r.cell 1 _ rfl
          have r2 := XR3.out.r.cell 2 _ rfl
          have c0 := XR3.out.c.cell 0 _ rfl
          have c1 := XR3.out.c.cell 1 _ rfl
          have c2 := XR3.out.c.cell 2 _ rfl
          have b0 := XR3.out.b.cell 0 _ rfl
          have b1 := XR3.out.b.cell 1 _ rfl
          have b2 := XR3.out.b.cell 2 _ rfl
          have b3 := XR3.out.b.cell 3 _ rfl
          have b4 := XR3.out.b.cell 4 _ rfl
          have b5 := XR3.out.b.cell 5 _ rfl
          go_wp2_with fail
          refine (rcert_is c _ b HQ4.out _ (HSC.out.later BR3.out) (by have := (right_small HQ3.out).2.1; omega) (right_small HQ3.out).1).mono ?_
          rintro e wR4 ⟨rfl, hb⟩
          have XR4 := Lib.hid (XR3.out.on hb)
          have BR4 := Lib.hid (BR3.out.trans (hb.mono BR3.out.size))
          clear hb r0 r1 r2 c0 c1 c2 b0 b1 b2 b3 b4 b5
          go_wp2_with fail
          go_ret
          exact ⟨rfl, XR4.out.r.below⟩
    · have HQ3 := Lib.hid (show (!nzC c) = true by rw [q3]; rfl)
      clear q3
      rcases HCB.out with ⟨rfl, q5, q6⟩ | ⟨rfl, q5⟩
      · have HQ5 := Lib.hid q5
        have HQ6 := Lib.hid q6
        clear q5 q6
        rcases HCM.out with ⟨rfl, d, s9, r10, s13, t15, qM, qF, qB⟩ | ⟨rfl, qM0⟩
        · have HMA := Lib.hid qM
          have HMF := Lib.hid qF
          have HMB := Lib.hid qB
          clear qM qF qB
          clear HCR HCC HCB HCM
          have r0 := XC.out.r.cell 0 _ rfl
          have r1 := XC.out.r.cell 1 _ rfl
          have r2 := XC.out.r.cell 2 _ rfl
          have c0 := XC.out.c.cell 0 _ rfl
          have c1 := XC.out.c.cell 1 _ rfl
          have c2 := XC.out.c.cell 2 _ rfl
          have b0 := XC.out.b.cell 0 _ rfl
          have b1 := XC.out.b.cell 1 _ rfl
          have b2 := XC.out.b.cell 2 _ rfl
          have b3 := XC.out.b.cell 3 _ rfl
          have b4 := XC.out.b.cell 4 _ rfl
          have b5 := XC.out.b.cell 5 _ rfl
          go_wp2_with fail
          refine (rightreq_is r true (decide_eq_true HQ1.out) _).mono ?_
          rintro e wR1 ⟨rfl, hb⟩
          have XR1 := Lib.hid (XC.out.on hb)
          have BR1 := Lib.hid (BC.out.trans (hb.mono BC.out.size))
          clear hb r0 r1 r2 c0 c1 c2 b0 b1 b2 b3 b4 b5
          have r0 := XR1.out.r.cell 0 _ rfl
          have r1 := XR1.out.r.cell 1 _ rfl
          have r2 := XR1.out.r.cell 2 _ rfl
          have c0 := XR1.out.c.cell 0 _ rfl
          have c1 := XR1.out.c.cell 1 _ rfl
          have c2 := XR1.out.c.cell 2 _ rfl
          have b0 := XR1.out.b.cell 0 _ rfl
          have b1 := XR1.out.b.cell 1 _ rfl
          have b2 := XR1.out.b.cell 2 _ rfl
          have b3 := XR1.out.b.cell 3 _ rfl
          have b4 := XR1.out.b.cell 4 _ rfl
          have b5 := XR1.out.b.cell 5 _ rfl
          go_wp2_with fail
          refine (rreq_is r b HQ2.out (by have := HQ1.out.2.2.2.2; omega) _).mono ?_
          rintro e wR2 ⟨rfl, hb⟩
          have XR2 := Lib.hid (XR1.out.on hb)
          have BR2 := Lib.hid (BR1.out.trans (hb.mono BR1.out.size))
          clear hb r0 r1 r2 c0 c1 c2 b0 b1 b2 b3 b4 b5
          have r0 := XR2.out.r.cell 0 _ rfl
          have r1 := XR2.out.r.cell 1 _ rfl
          have r2 := XR2.out.r.cell 2 _ rfl
          have c0 := XR2.out.c.cell 0 _ rfl
          have c1 := XR2.out.c.cell 1 _ rfl
          have c2 := XR2.out.c.cell 2 _ rfl
          have b0 := XR2.out.b.cell 0 _ rfl
          have b1 := XR2.out.b.cell 1 _ rfl
          have b2 := XR2.out.b.cell 2 _ rfl
          have b3 := XR2.out.b.cell 3 _ rfl
          have b4 := XR2.out.b.cell 4 _ rfl
          have b5 := XR2.out.b.cell 5 _ rfl
          go_wp2_with fail
          refine (rightblock_is x _ _ true HQ5.out _ (HSB.out.later BR2.out) (HRB.out.later BR2.out) (right_smallB HQ5.out).2.2.2.1).mono ?_
          rintro e wR3 ⟨rfl, hb⟩
          have XR3 := Lib.hid (XR2.out.on hb)
          have BR3 := Lib.hid (BR2.out.trans (hb.mono BR2.out.size))
          clear hb r0 r1 r2 c0 c1 c2 b0 b1 b2 b3 b4 b5
          have r0 := XR3.out.r.cell 0 _ rfl
          have r1 := XR3.out.r.cell 1 _ rfl
          have r2 := XR3.out.r.cell 2 _ rfl
          have c0 := XR3.out.c.cell 0 _ rfl
          have c1 := XR3.out.c.cell 1 _ rfl
          have c2 := XR3.out.c.cell 2 _ rfl
          have b0 := XR3.out.b.cell 0 _ rfl
          have b1 := XR3.out.b.cell 1 _ rfl
          have b2 := XR3.out.b.cell 2 _ rfl
          have b3 := XR3.out.b.cell 3 _ rfl
          have b4 := XR3.out.b.cell 4 _ rfl
          have b5 := XR3.out.b.cell 5 _ rfl
          go_wp2_with fail
          refine (rblock_is x _ _ b HQ6.out _ (HSB.out.later BR3.out) (HRB.out.later BR3.out) (by have := (right_smallB HQ5.out).2.2.1; omega) (right_smallB HQ5.out).1 (right_smallB HQ5.out).2.1).mono ?_
          rintro e wR4 ⟨rfl, hb⟩
          have XR4 := Lib.hid (XR3.out.on hb)
          have BR4 := Lib.hid (BR3.out.trans (hb.mono BR3.out.size))
          clear hb r0 r1 r2 c0 c1 c2 b0 b1 b2 b3 b4 b5
          have r0 := XR4.out.r.cell 0 _ rfl
          have r1 := XR4.out.r.cell 1 _ rfl
          have r2 := XR4.out.r.cell 2 _ rfl
          have c0 := XR4.out.c.cell 0 _ rfl
          have c1 := XR4.out.c.cell 1 _ rfl
          have c2 := XR4.out.c.cell 2 _ rfl
          have b0 := XR4.out.b.cell 0 _ rfl
          have b1 := XR4.out.b.cell 1 _ rfl
          have b2 := XR4.out.b.cell 2 _ rfl
          have b3 := XR4.out.b.cell 3 _ rfl
          have b4 := XR4.out.b.cell 4 _ rfl
          have b5 := XR4.out.b.cell 5 _ rfl
          go_wp2_with (with_reducible refine hold_load (.tmp 9) rfl ?_)
          refine wpl_load_w (.tmp 9) ym 0 21 21 f (by rfl) rfl (by rfl) (agg_msg _) (size_msg _) XR4.out.m.blk.cells (by omega) ?_
          simp only [Nat.zero_add]
          go_wp2_with fail
          refine (rightmsg_is true _ f d.1.1.1.1.1.1.1.1.1.1 d.1.1.1.1.1.1.1.1.1.2 d.1.1.1.1.1.1.1.1.2 d.1.1.1.1.1.1.1.2 d.1.1.1.1.1.1.2 (d.1.1.1.1.1.2.getD noB) (d.1.1.1.1.2.getD noC) (d.1.1.1.2.getD noS) (d.1.1.2.getD noR) d.1.2 d.2 s9 r10 s13 t15 (HMA.out.later (BA.out.trans (BR4.out.mono BA.out.size))) (right_smallM HMF.out).2 (rightMsg_iff.2 HMF.out)).mono ?_
          rintro e wR5 ⟨rfl, hb⟩
          have XR5 := Lib.hid (XR4.out.on hb)
          have BR5 := Lib.hid (BR4.out.trans (hb.mono BR4.out.size))
          clear hb r0 r1 r2 c0 c1 c2 b0 b1 b2 b3 b4 b5
          have r0 := XR5.out.r.cell 0 _ rfl
          have r1 := XR5.out.r.cell 1 _ rfl
          have r2 := XR5.out.r.cell 2 _ rfl
          have c0 := XR5.out.c.cell 0 _ rfl
          have c1 := XR5.out.c.cell 1 _ rfl
          have c2 := XR5.out.c.cell 2 _ rfl
          have b0 := XR5.out.b.cell 0 _ rfl
          have b1 := XR5.out.b.cell 1 _ rfl
          have b2 := XR5.out.b.cell 2 _ rfl
          have b3 := XR5.out.b.cell 3 _ rfl
          have b4 := XR5.out.b.cell 4 _ rfl
          have b5 := XR5.out.b.cell 5 _ rfl
          go_wp2_with (with_reducible refine hold_load (.tmp 9) rfl ?_)
          refine wpl_load_w (.tmp 9) ym 0 21 21 f (by rfl) rfl (by rfl) (agg_msg _) (size_msg _) XR5.out.m.blk.cells (by omega) ?_
          simp only [Nat.zero_add]
          go_wp2_with fail
          refine (rmsg_is b _ f d.1.1.1.1.1.1.1.1.1.1 d.1.1.1.1.1.1.1.1.1.2 d.1.1.1.1.1.1.1.1.2 d.1.1.1.1.1.1.1.2 d.1.1.1.1.1.1.2 (d.1.1.1.1.1.2.getD noB) (d.1.1.1.1.2.getD noC) (d.1.1.1.2.getD noS) (d.1.1.2.getD noR) d.1.2 d.2 s9 r10 s13 t15 (HMA.out.later (BA.out.trans (BR5.out.mono BA.out.size))) (right_smallM HMF.out).1 HMB.out).mono ?_
          rintro e wR6 ⟨rfl, hb⟩
          have XR6 := Lib.hid (XR5.out.on hb)
          have BR6 := Lib.hid (BR5.out.trans (hb.mono BR5.out.size))
          clear hb r0 r1 r2 c0 c1 c2 b0 b1 b2 b3 b4 b5
          go_wp2_with fail
          go_ret
          exact ⟨rfl, XR6.out.r.below⟩
        · have HM0 := Lib.hid qM0
          clear qM0
          clear HCR HCC HCB HCM
          have r0 := XC.out.r.cell 0 _ rfl
          have r1 := XC.out.r.cell 1 _ rfl
          have r2 := XC.out.r.cell 2 _ rfl
          have c0 := XC.out.c.cell 0 _ rfl
          have c1 := XC.out.c.cell 1 _ rfl
          have c2 := XC.out.c.cell 2 _ rfl
          have b0 := XC.out.b.cell 0 _ rfl
          have b1 := XC.out.b.cell 1 _ rfl
          have b2 := XC.out.b.cell 2 _ rfl
          have b3 := XC.out.b.cell 3 _ rfl
          have b4 := XC.out.b.cell 4 _ rfl
          have b5 := XC.out.b.cell 5 _ rfl
          go_wp2_with fail
          refine (rightreq_is r true (decide_eq_true HQ1.out) _).mono ?_
          rintro e wR1 ⟨rfl, hb⟩
          have XR1 := Lib.hid (XC.out.on hb)
          have BR1 := Lib.hid (BC.out.trans (hb.mono BC.out.size))
          clear hb r0 r1 r2 c0 c1 c2 b0 b1 b2 b3 b4 b5
          have r0 := XR1.out.r.cell 0 _ rfl
          have r1 := XR1.out.r.cell 1 _ rfl
          have r2 := XR1.out.r.cell 2 _ rfl
          have c0 := XR1.out.c.cell 0 _ rfl
          have c1 := XR1.out.c.cell 1 _ rfl
          have c2 := XR1.out.c.cell 2 _ rfl
          have b0 := XR1.out.b.cell 0 _ rfl
          have b1 := XR1.out.b.cell 1 _ rfl
          have b2 := XR1.out.b.cell 2 _ rfl
          have b3 := XR1.out.b.cell 3 _ rfl
          have b4 := XR1.out.b.cell 4 _ rfl
          have b5 := XR1.out.b.cell 5 _ rfl
          go_wp2_with fail
          refine (rreq_is r b HQ2.out (by have := HQ1.out.2.2.2.2; omega) _).mono ?_
          rintro e wR2 ⟨rfl, hb⟩
          have XR2 := Lib.hid (XR1.out.on hb)
          have BR2 := Lib.hid (BR1.out.trans (hb.mono BR1.out.size))
          clear hb r0 r1 r2 c0 c1 c2 b0 b1 b2 b3 b4 b5
          have r0 := XR2.out.r.cell 0 _ rfl
          have r1 := XR2.out.r.cell 1 _ rfl
          have r2 := XR2.out.r.cell 2 _ rfl
          have c0 := XR2.out.c.cell 0 _ rfl
          have c1 := XR2.out.c.cell 1 _ rfl
          have c2 := XR2.out.c.cell 2 _ rfl
          have b0 := XR2.out.b.cell 0 _ rfl
          have b1 := XR2.out.b.cell 1 _ rfl
          have b2 := XR2.out.b.cell 2 _ rfl
          have b3 := XR2.out.b.cell 3 _ rfl
          have b4 := XR2.out.b.cell 4 _ rfl
          have b5 := XR2.out.b.cell 5 _ rfl
          go_wp2_with fail
          refine (rightblock_is x _ _ true HQ5.out _ (HSB.out.later BR2.out) (HRB.out.later BR2.out) (right_smallB HQ5.out).2.2.2.1).mono ?_
          rintro e wR3 ⟨rfl, hb⟩
          have XR3 := Lib.hid (XR2.out.on hb)
          have BR3 := Lib.hid (BR2.out.trans (hb.mono BR2.out.size))
          clear hb r0 r1 r2 c0 c1 c2 b0 b1 b2 b3 b4 b5
          have r0 := XR3.out.r.cell 0 _ rfl
          have r1 := XR3.out.r.cell 1 _ rfl
          have r2 := XR3.out.r.cell 2 _ rfl
          have c0 := XR3.out.c.cell 0 _ rfl
          have c1 := XR3.out.c.cell 1 _ rfl
          have c2 := XR3.out.c.cell 2 _ rfl
          have b0 := XR3.out.b.cell 0 _ rfl
          have b1 := XR3.out.b.cell 1 _ rfl
          have b2 := XR3.out.b.cell 2 _ rfl
          have b3 := XR3.out.b.cell 3 _ rfl
          have b4 := XR3.out.b.cell 4 _ rfl
          have b5 := XR3.out.b.cell 5 _ rfl
          go_wp2_with fail
          refine (rblock_is x _ _ b HQ6.out _ (HSB.out.later BR3.out) (HRB.out.later BR3.out) (by have := (right_smallB HQ5.out).2.2.1; omega) (right_smallB HQ5.out).1 (right_smallB HQ5.out).2.1).mono ?_
          rintro e wR4 ⟨rfl, hb⟩
          have XR4 := Lib.hid (XR3.out.on hb)
          have BR4 := Lib.hid (BR3.out.trans (hb.mono BR3.out.size))
          clear hb r0 r1 r2 c0 c1 c2 b0 b1 b2 b3 b4 b5
          go_wp2_with fail
          go_ret
          exact ⟨rfl, XR4.out.r.below⟩
      · have HQ5 := Lib.hid (show (!nzB x) = true by rw [q5]; rfl)
        clear q5
        rcases HCM.out with ⟨rfl, d, s9, r10, s13, t15, qM, qF, qB⟩ | ⟨rfl, qM0⟩
        · have HMA := Lib.hid qM
          have HMF := Lib.hid qF
          have HMB := Lib.hid qB
          clear qM qF qB
          clear HCR HCC HCB HCM
          have r0 := XC.out.r.cell 0 _ rfl
          have r1 := XC.out.r.cell 1 _ rfl
          have r2 := XC.out.r.cell 2 _ rfl
          have c0 := XC.out.c.cell 0 _ rfl
          have c1 := XC.out.c.cell 1 _ rfl
          have c2 := XC.out.c.cell 2 _ rfl
          have b0 := XC.out.b.cell 0 _ rfl
          have b1 := XC.out.b.cell 1 _ rfl
          have b2 := XC.out.b.cell 2 _ rfl
          have b3 := XC.out.b.cell 3 _ rfl
          have b4 := XC.out.b.cell 4 _ rfl
          have b5 := XC.out.b.cell 5 _ rfl
          go_wp2_with fail
          refine (rightreq_is r true (decide_eq_true HQ1.out) _).mono ?_
          rintro e wR1 ⟨rfl, hb⟩
          have XR1 := Lib.hid (XC.out.on hb)
          have BR1 := Lib.hid (BC.out.trans (hb.mono BC.out.size))
          clear hb r0 r1 r2 c0 c1 c2 b0 b1 b2 b3 b4 b5
          have r0 := XR1.out.r.cell 0 _ rfl
          have r1 := XR1.out.r.cell 1 _ rfl
          have r2 := XR1.out.r.cell 2 _ rfl
          have c0 := XR1.out.c.cell 0 _ rfl
          have c1 := XR1.out.c.cell 1 _ rfl
          have c2 := XR1.out.c.cell 2 _ rfl
          have b0 := XR1.out.b.cell 0 _ rfl
          have b1 := XR1.out.b.cell 1 _ rfl
          have b2 := XR1.out.b.cell 2 _ rfl
          have b3 := XR1.out.b.cell 3 _ rfl
          have b4 := XR1.out.b.cell 4 _ rfl
          have b5 := XR1.out.b.cell 5 _ rfl
          go_wp2_with fail
          refine (rreq_is r b HQ2.out (by have := HQ1.out.2.2.2.2; omega) _).mono ?_
          rintro e wR2 ⟨rfl, hb⟩
          have XR2 := Lib.hid (XR1.out.on hb)
          have BR2 := Lib.hid (BR1.out.trans (hb.mono BR1.out.size))
          clear hb r0 r1 r2 c0 c1 c2 b0 b1 b2 b3 b4 b5
          have r0 := XR2.out.r.cell 0 _ rfl
          have r1 := XR2.out.r.cell 1 _ rfl
          have r2 := XR2.out.r.cell 2 _ rfl
          have c0 := XR2.out.c.cell 0 _ rfl
          have c1 := XR2.out.c.cell 1 _ rfl
          have c2 := XR2.out.c.cell 2 _ rfl
          have b0 := XR2.out.b.cell 0 _ rfl
          have b1 := XR2.out.b.cell 1 _ rfl
          have b2 := XR2.out.b.cell 2 _ rfl
          have b3 := XR2.out.b.cell 3 _ rfl
          have b4 := XR2.out.b.cell 4 _ rfl
          have b5 := XR2.out.b.cell 5 _ rfl
          go_wp2_with (with_reducible refine hold_load (.tmp 9) rfl ?_)
          refine wpl_load_w (.tmp 9) ym 0 21 21 f (by rfl) rfl (by rfl) (agg_msg _) (size_msg _) XR2.out.m.blk.cells (by omega) ?_
          simp only [Nat.zero_add]
          go_wp2_with fail
          refine (rightmsg_is true _ f d.1.1.1.1.1.1.1.1.1.1 d.1.1.1.1.1.1.1.1.1.2 d.1.1.1.1.1.1.1.1.2 d.1.1.1.1.1.1.1.2 d.1.1.1.1.1.1.2 (d.1.1.1.1.1.2.getD noB) (d.1.1.1.1.2.getD noC) (d.1.1.1.2.getD noS) (d.1.1.2.getD noR) d.1.2 d.2 s9 r10 s13 t15 (HMA.out.later (BA.out.trans (BR2.out.mono BA.out.size))) (right_smallM HMF.out).2 (rightMsg_iff.2 HMF.out)).mono ?_
          rintro e wR3 ⟨rfl, hb⟩
          have XR3 := Lib.hid (XR2.out.on hb)
          have BR3 := Lib.hid (BR2.out.trans (hb.mono BR2.out.size))
          clear hb r0 r1 r2 c0 c1 c2 b0 b1 b2 b3 b4 b5
          have r0 := XR3.out.r.cell 0 _ rfl
          have r1 := XR3.out.r.cell 1 _ rfl
          have r2 := XR3.out.r.cell 2 _ rfl
          have c0 := XR3.out.c.cell 0 _ rfl
          have c1 := XR3.out.c.cell 1 _ rfl
          have c2 := XR3.out.c.cell 2 _ rfl
          have b0 := XR3.out.b.cell 0 _ rfl
          have b1 := XR3.out.b.cell 1 _ rfl
          have b2 := XR3.out.b.cell 2 _ rfl
          have b3 := XR3.out.b.cell 3 _ rfl
          have b4 := XR3.out.b.cell 4 _ rfl
          have b5 := XR3.out.b.cell 5 _ rfl
          go_wp2_with (with_reducible refine hold_load (.tmp 9) rfl ?_)
          refine wpl_load_w (.tmp 9) ym 0 21 21 f (by rfl) rfl (by rfl) (agg_msg _) (size_msg _) XR3.out.m.blk.cells (by omega) ?_
          simp only [Nat.zero_add]
          go_wp2_with fail
          refine (rmsg_is b _ f d.1.1.1.1.1.1.1.1.1.1 d.1.1.1.1.1.1.1.1.1.2 d.1.1.1.1.1.1.1.1.2 d.1.1.1.1.1.1.1.2 d.1.1.1.1.1.1.2 (d.1.1.1.1.1.2.getD noB) (d.1.1.1.1.2.getD noC) (d.1.1.1.2.getD noS) (d.1.1.2.getD noR) d.1.2 d.2 s9 r10 s13 t15 (HMA.out.later (BA.out.trans (BR3.out.mono BA.out.size))) (right_smallM HMF.out).1 HMB.out).mono ?_
          rintro e wR4 ⟨rfl, hb⟩
          have XR4 := Lib.hid (XR3.out.on hb)
          have BR4 := Lib.hid (BR3.out.trans (hb.mono BR3.out.size))
          clear hb r0 r1 r2 c0 c1 c2 b0 b1 b2 b3 b4 b5
          go_wp2_with fail
          go_ret
          exact ⟨rfl, XR4.out.r.below⟩
        · have HM0 := Lib.hid qM0
          clear qM0
          clear HCR HCC HCB HCM
          have r0 := XC.out.r.cell 0 _ rfl
          have r1 := XC.out.r.cell 1 _ rfl
          have r2 := XC.out.r.cell 2 _ rfl
          have c0 := XC.out.c.cell 0 _ rfl
          have c1 := XC.out.c.cell 1 _ rfl
          have c2 := XC.out.c.cell 2 _ rfl
          have b0 := XC.out.b.cell 0 _ rfl
          have b1 := XC.out.b.cell 1 _ rfl
          have b2 := XC.out.b.cell 2 _ rfl
          have b3 := XC.out.b.cell 3 _ rfl
          have b4 := XC.out.b.cell 4 _ rfl
          have b5 := XC.out.b.cell 5 _ rfl
          go_wp2_with fail
          refine (rightreq_is r true (decide_eq_true HQ1.out) _).mono ?_
          rintro e wR1 ⟨rfl, hb⟩
          have XR1 := Lib.hid (XC.out.on hb)
          have BR1 := Lib.hid (BC.out.trans (hb.mono BC.out.size))
          clear hb r0 r1 r2 c0 c1 c2 b0 b1 b2 b3 b4 b5
          have r0 := XR1.out.r.cell 0 _ rfl
          have r1 := XR1.out.r.cell 1 _ rfl
          have r2 := XR1.out.r.cell 2 _ rfl
          have c0 := XR1.out.c.cell 0 _ rfl
          have c1 := XR1.out.c.cell 1 _ rfl
          have c2 := XR1.out.c.cell 2 _ rfl
          have b0 := XR1.out.b.cell 0 _ rfl
          have b1 := XR1.out.b.cell 1 _ rfl
          have b2 := XR1.out.b.cell 2 _ rfl
          have b3 := XR1.out.b.cell 3 _ rfl
          have b4 := XR1.out.b.cell 4 _ rfl
          have b5 := XR1.out.b.cell 5 _ rfl
          go_wp2_with fail
          refine (rreq_is r b HQ2.out (by have := HQ1.out.2.2.2.2; omega) _).mono ?_
          rintro e wR2 ⟨rfl, hb⟩
          have XR2 := Lib.hid (XR1.out.on hb)
          have BR2 := Lib.hid (BR1.out.trans (hb.mono BR1.out.size))
          clear hb r0 r1 r2 c0 c1 c2 b0 b1 b2 b3 b4 b5
          go_wp2_with fail
          go_ret
          exact ⟨rfl, XR2.out.r.below⟩
  · skip
    rcases HCC.out with ⟨rfl, q3, q4⟩ | ⟨rfl, q3⟩
    · have HQ3 := Lib.hid q3
      have HQ4 := Lib.hid q4
      clear q3 q4
      rcases HCB.out with ⟨rfl, q5, q6⟩ | ⟨rfl, q5⟩
      · have HQ5 := Lib.hid q5
        have HQ6 := Lib.hid q6
        clear q5 q6
        rcases HCM.out with ⟨rfl, d, s9, r10, s13, t15, qM, qF, qB⟩ | ⟨rfl, qM0⟩
        · have HMA := Lib.hid qM
          have HMF := Lib.hid qF
          have HMB := Lib.hid qB
          clear qM qF qB
          clear HCR HCC HCB HCM
          have r0 := XC.out.r.cell 0 _ rfl
          have r1 := XC.out.r.cell 1 _ rfl
          have r2 := XC.out.r.cell 2 _ rfl
          have c0 := XC.out.c.cell 0 _ rfl
          have c1 := XC.out.c.cell 1 _ rfl
          have c2 := XC.out.c.cell 2 _ rfl
          have b0 := XC.out.b.cell 0 _ rfl
          have b1 := XC.out.b.cell 1 _ rfl
          have b2 := XC.out.b.cell 2 _ rfl
          have b3 := XC.out.b.cell 3 _ rfl
          have b4 := XC.out.b.cell 4 _ rfl
          have b5 := XC.out.b.cell 5 _ rfl
          go_wp2_with fail
          refine (rightcert_is c _ true HQ3.out _ (HSC.out.later BC.out) (right_small HQ3.out).2.2.2).mono ?_
          rintro e wR1 ⟨rfl, hb⟩
          have XR1 := Lib.hid (XC.out.on hb)
          have BR1 := Lib.hid (BC.out.trans (hb.mono BC.out.size))
          clear hb r0 r1 r2 c0 c1 c2 b0 b1 b2 b3 b4 b5
          have r0 := XR1.out.r.cell 0 _ rfl
          have r1 := XR1.out.r.cell 1 _ rfl
          have r2 := XR1.out.r.cell 2 _ rfl
          have c0 := XR1.out.c.cell 0 _ rfl
          have c1 := XR1.out.c.cell 1 _ rfl
          have c2 := XR1.out.c.cell 2 _ rfl
          have b0 := XR1.out.b.cell 0 _ rfl
          have b1 := XR1.out.b.cell 1 _ rfl
          have b2 := XR1.out.b.cell 2 _ rfl
          have b3 := XR1.out.b.cell 3 _ rfl
          have b4 := XR1.out.b.cell 4 _ rfl
          have b5 := XR1.out.b.cell 5 _ rfl
          go_wp2_with fail
          refine (rcert_is c _ b HQ4.out _ (HSC.out.later BR1.out) (by have := (right_small HQ3.out).2.1; omega) (right_small HQ3.out).1).mono ?_
          rintro e wR2 ⟨rfl, hb⟩
          have XR2 := Lib.hid (XR1.out.on hb)
          have BR2 := Lib.hid (BR1.out.trans (hb.mono BR1.out.size))
          clear hb r0 r1 r2 c0 c1 c2 b0 b1 b2 b3 b4 b5
          have r0 := XR2.out.r.cell 0 _ rfl
          have r1 := XR2.out.r.cell 1 _ rfl
          have r2 := XR2.out.r.cell 2 _ rfl
          have c0 := XR2.out.c.cell 0 _ rfl
          have c1 := XR2.out.c.cell 1 _ rfl
          have c2 := XR2.out.c.cell 2 _ rfl
          have b0 := XR2.out.b.cell 0 _ rfl
          have b1 := XR2.out.b.cell 1 _ rfl
          have b2 := XR2.out.b.cell 2 _ rfl
          have b3 := XR2.out.b.cell 3 _ rfl
          have b4 := XR2.out.b.cell 4 _ rfl
          have b5 := XR2.out.b.cell 5 _ rfl
          go_wp2_with fail
          refine (rightblock_is x _ _ true HQ5.out _ (HSB.out.later BR2.out) (HRB.out.later BR2.out) (right_smallB HQ5.out).2.2.2.1).mono ?_
          rintro e wR3 ⟨rfl, hb⟩
          have XR3 := Lib.hid (XR2.out.on hb)
          have BR3 := Lib.hid (BR2.out.trans (hb.mono BR2.out.size))
          clear hb r0 r1 r2 c0 c1 c2 b0 b1 b2 b3 b4 b5
          have r0 := XR3.out.r.cell 0 _ rfl
          have r1 := XR3.out.r.cell 1 _ rfl
          have r2 := XR3.out.r.cell 2 _ rfl
          have c0 := XR3.out.c.cell 0 _ rfl
          have c1 := XR3.out.c.cell 1 _ rfl
          have c2 := XR3.out.c.cell 2 _ rfl
          have b0 := XR3.out.b.cell 0 _ rfl
          have b1 := XR3.out.b.cell 1 _ rfl
          have b2 := XR3.out.b.cell 2 _ rfl
          have b3 := XR3.out.b.cell 3 _ rfl
          have b4 := XR3.out.b.cell 4 _ rfl
          have b5 := XR3.out.b.cell 5 _ rfl
          go_wp2_with fail
          refine (rblock_is x _ _ b HQ6.out _ (HSB.out.later BR3.out) (HRB.out.later BR3.out) (by have := (right_smallB HQ5.out).2.2.1; omega) (right_smallB HQ5.out).1 (right_smallB HQ5.out).2.1).mono ?_
          rintro e wR4 ⟨rfl, hb⟩
          have XR4 := Lib.hid (XR3.out.on hb)
          have BR4 := Lib.hid (BR3.out.trans (hb.mono BR3.out.size))
          clear hb r0 r1 r2 c0 c1 c2 b0 b1 b2 b3 b4 b5
          have r0 := XR4.out.r.cell 0 _ rfl
          have r1 := XR4.out.r.cell 1 _ rfl
          have r2 := XR4.out.r.cell 2 _ rfl
          have c0 := XR4.out.c.cell 0 _ rfl
          have c1 := XR4.out.c.cell 1 _ rfl
          have c2 := XR4.out.c.cell 2 _ rfl
          have b0 := XR4.out.b.cell 0 _ rfl
          have b1 := XR4.out.b.cell 1 _ rfl
          have b2 := XR4.out.b.cell 2 _ rfl
          have b3 := XR4.out.b.cell 3 _ rfl
          have b4 := XR4.out.b.cell 4 _ rfl
          have b5 := XR4.out.b.cell 5 _ rfl
          go_wp2_with (with_reducible refine hold_load (.tmp 9) rfl ?_)
          refine wpl_load_w (.tmp 9) ym 0 21 21 f (by rfl) rfl (by rfl) (agg_msg _) (size_msg _) XR4.out.m.blk.cells (by omega) ?_
          simp only [Nat.zero_add]
          go_wp2_with fail
          refine (rightmsg_is true _ f d.1.1.1.1.1.1.1.1.1.1 d.1.1.1.1.1.1.1.1.1.2 d.1.1.1.1.1.1.1.1.2 d.1.1.1.1.1.1.1.2 d.1.1.1.1.1.1.2 (d.1.1.1.1.1.2.getD noB) (d.1.1.1.1.2.getD noC) (d.1.1.1.2.getD noS) (d.1.1.2.getD noR) d.1.2 d.2 s9 r10 s13 t15 (HMA.out.later (BA.out.trans (BR4.out.mono BA.out.size))) (right_smallM HMF.out).2 (rightMsg_iff.2 HMF.out)).mono ?_
          rintro e wR5 ⟨rfl, hb⟩
          have XR5 := Lib.hid (XR4.out.on hb)
          have BR5 := Lib.hid (BR4.out.trans (hb.mono BR4.out.size))
          clear hb r0 r1 r2 c0 c1 c2 b0 b1 b2 b3 b4 b5
          have r0 := XR5.out.r.cell 0 _ rfl
          have r1 := XR5.out.r.cell 1 _ rfl
          have r2 := XR5.out.r.cell 2 _ rfl
          have c0 := XR5.out.c.cell 0 _ rfl
          have c1 := XR5.out.c.cell 1 _ rfl
          have c2 := XR5.out.c.cell 2 _ rfl
          have b0 := XR5.out.b.cell 0 _ rfl
          have b1 := XR5.out.b.cell 1 _ rfl
          have b2 := XR5.out.b.cell 2 _ rfl
          have b3 := XR5.out.b.cell 3 _ rfl
          have b4 := XR5.out.b.cell 4 _ rfl
          have b5 := XR5.out.b.cell 5 _ rfl
          go_wp2_with (with_reducible refine hold_load (.tmp 9) rfl ?_)
          refine wpl_load_w (.tmp 9) ym 0 21 21 f (by rfl) rfl (by rfl) (agg_msg _) (size_msg _) XR5.out.m.blk.cells (by omega) ?_
          simp only [Nat.zero_add]
          go_wp2_with fail
          refine (rmsg_is b _ f d.1.1.1.1.1.1.1.1.1.1 d.1.1.1.1.1.1.1.1.1.2 d.1.1.1.1.1.1.1.1.2 d.1.1.1.1.1.1.1.2 d.1.1.1.1.1.1.2 (d.1.1.1.1.1.2.getD noB) (d.1.1.1.1.2.getD noC) (d.1.1.1.2.getD noS) (d.1.1.2.getD noR) d.1.2 d.2 s9 r10 s13 t15 (HMA.out.later (BA.out.trans (BR5.out.mono BA.out.size))) (right_smallM HMF.out).1 HMB.out).mono ?_
          rintro e wR6 ⟨rfl, hb⟩
          have XR6 := Lib.hid (XR5.out.on hb)
          have BR6 := Lib.hid (BR5.out.trans (hb.mono BR5.out.size))
          clear hb r0 r1 r2 c0 c1 c2 b0 b1 b2 b3 b4 b5
          go_wp2_with fail
          go_ret
          exact ⟨rfl, XR6.out.r.below⟩
        · have HM0 := Lib.hid qM0
          clear qM0
          clear HCR HCC HCB HCM
          have r0 := XC.out.r.cell 0 _ rfl
          have r1 := XC.out.r.cell 1 _ rfl
          have r2 := XC.out.r.cell 2 _ rfl
          have c0 := XC.out.c.cell 0 _ rfl
          have c1 := XC.out.c.cell 1 _ rfl
          have c2 := XC.out.c.cell 2 _ rfl
          have b0 := XC.out.b.cell 0 _ rfl
          have b1 := XC.out.b.cell 1 _ rfl
          have b2 := XC.out.b.cell 2 _ rfl
          have b3 := XC.out.b.cell 3 _ rfl
          have b4 := XC.out.b.cell 4 _ rfl
          have b5 := XC.out.b.cell 5 _ rfl
          go_wp2_with fail
          refine (rightcert_is c _ true HQ3.out _ (HSC.out.later BC.out) (right_small HQ3.out).2.2.2).mono ?_
          rintro e wR1 ⟨rfl, hb⟩
          have XR1 := Lib.hid (XC.out.on hb)
          have BR1 := Lib.hid (BC.out.trans (hb.mono BC.out.size))
          clear hb r0 r1 r2 c0 c1 c2 b0 b1 b2 b3 b4 b5
          have r0 := XR1.out.r.cell 0 _ rfl
          have r1 := XR1.out.r.cell 1 _ rfl
          have r2 := XR1.out.r.cell 2 _ rfl
          have c0 := XR1.out.c.cell 0 _ rfl
          have c1 := XR1.out.c.cell 1 _ rfl
          have c2 := XR1.out.c.cell 2 _ rfl
          have b0 := XR1.out.b.cell 0 _ rfl
          have b1 := XR1.out.b.cell 1 _ rfl
          have b2 := XR1.out.b.cell 2 _ rfl
          have b3 := XR1.out.b.cell 3 _ rfl
          have b4 := XR1.out.b.cell 4 _ rfl
          have b5 := XR1.out.b.cell 5 _ rfl
          go_wp2_with fail
          refine (rcert_is c _ b HQ4.out _ (HSC.out.later BR1.out) (by have := (right_small HQ3.out).2.1; omega) (right_small HQ3.out).1).mono ?_
          rintro e wR2 ⟨rfl, hb⟩
          have XR2 := Lib.hid (XR1.out.on hb)
          have BR2 := Lib.hid (BR1.out.trans (hb.mono BR1.out.size))
          clear hb r0 r1 r2 c0 c1 c2 b0 b1 b2 b3 b4 b5
          have r0 := XR2.out.r.cell 0 _ rfl
          have r1 := XR2.out.r.cell 1 _ rfl
          have r2 := XR2.out.r.cell 2 _ rfl
          have c0 := XR2.out.c.cell 0 _ rfl
          have c1 := XR2.out.c.cell 1 _ rfl
          have c2 := XR2.out.c.cell 2 _ rfl
          have b0 := XR2.out.b.cell 0 _ rfl
          have b1 := XR2.out.b.cell 1 _ rfl
          have b2 := XR2.out.b.cell 2 _ rfl
          have b3 := XR2.out.b.cell 3 _ rfl
          have b4 := XR2.out.b.cell 4 _ rfl
          have b5 := XR2.out.b.cell 5 _ rfl
          go_wp2_with fail
          refine (rightblock_is x _ _ true HQ5.out _ (HSB.out.later BR2.out) (HRB.out.later BR2.out) (right_smallB HQ5.out).2.2.2.1).mono ?_
          rintro e wR3 ⟨rfl, hb⟩
          have XR3 := Lib.hid (XR2.out.on hb)
          have BR3 := Lib.hid (BR2.out.trans (hb.mono BR2.out.size))
          clear hb r0 r1 r2 c0 c1 c2 b0 b1 b2 b3 b4 b5
          have r0 := XR3.out.r.cell 0 _ rfl
          have r1 := XR3.out.r.cell 1 _ rfl
          have r2 := XR3.out.r.cell 2 _ rfl
          have c0 := XR3.out.c.cell 0 _ rfl
          have c1 := XR3.out.c.cell 1 _ rfl
          have c2 := XR3.out.c.cell 2 _ rfl
          have b0 := XR3.out.b.cell 0 _ rfl
          have b1 := XR3.out.b.cell 1 _ rfl
          have b2 := XR3.out.b.cell 2 _ rfl
          have b3 := XR3.out.b.cell 3 _ rfl
          have b4 := XR3.out.b.cell 4 _ rfl
          have b5 := XR3.out.b.cell 5 _ rfl
          go_wp2_with fail
          refine (rblock_is x _ _ b HQ6.out _ (HSB.out.later BR3.out) (HRB.out.later BR3.out) (by have := (right_smallB HQ5.out).2.2.1; omega) (right_smallB HQ5.out).1 (right_smallB HQ5.out).2.1).mono ?_
          rintro e wR4 ⟨rfl, hb⟩
          have XR4 := Lib.hid (XR3.out.on hb)
          have BR4 := Lib.hid (BR3.out.trans (hb.mono BR3.out.size))
          clear hb r0 r1 r2 c0 c1 c2 b0 b1 b2 b3 b4 b5
          go_wp2_with fail
          go_ret
          exact ⟨rfl, XR4.out.r.below⟩
      · have HQ5 := Lib.hid (show (!nzB x) = true by rw [q5]; rfl)
        clear q5
        rcases HCM.out with ⟨rfl, d, s9, r10, s13, t15, qM, qF, qB⟩ | ⟨rfl, qM0⟩
        · have HMA := Lib.hid qM
          have HMF := Lib.hid qF
          have HMB := Lib.hid qB
          clear qM qF qB
          clear HCR HCC HCB HCM
          have r0 := XC.out.r.cell 0 _ rfl
          have r1 := XC.out.r.cell 1 _ rfl
          have r2 := XC.out.r.cell 2 _ rfl
          have c0 := XC.out.c.cell 0 _ rfl
          have c1 := XC.out.c.cell 1 _ rfl
          have c2 := XC.out.c.cell 2 _ rfl
          have b0 := XC.out.b.cell 0 _ rfl
          have b1 := XC.out.b.cell 1 _ rfl
          have b2 := XC.out.b.cell 2 _ rfl
          have b3 := XC.out.b.cell 3 _ rfl
          have b4 := XC.out.b.cell 4 _ rfl
          have b5 := XC.out.b.cell 5 _ rfl
          go_wp2_with fail
          refine (rightcert_is c _ true HQ3.out _ (HSC.out.later BC.out) (right_small HQ3.out).2.2.2).mono ?_
          rintro e wR1 ⟨rfl, hb⟩
          have XR1 := Lib.hid (XC.out.on hb)
          have BR1 := Lib.hid (BC.out.trans (hb.mono BC.out.size))
          clear hb r0 r1 r2 c0 c1 c2 b0 b1 b2 b3 b4 b5
          have r0 := XR1.out.r.cell 0 _ rfl
          have r1 := XR1.out.r.cell 1 _ rfl
          have r2 := XR1.out.r.cell 2 _ rfl
          have c0 := XR1.out.c.cell 0 _ rfl
          have c1 := XR1.out.c.cell 1 _ rfl
          have c2 := XR1.out.c.cell 2 _ rfl
          have b0 := XR1.out.b.cell 0 _ rfl
          have b1 := XR1.out.b.cell 1 _ rfl
          have b2 := XR1.out.b.cell 2 _ rfl
          have b3 := XR1.out.b.cell 3 _ rfl
          have b4 := XR1.out.b.cell 4 _ rfl
          have b5 := XR1.out.b.cell 5 _ rfl
          go_wp2_with fail
          refine (rcert_is c _ b HQ4.out _ (HSC.out.later BR1.out) (by have := (right_small HQ3.out).2.1; omega) (right_small HQ3.out).1).mono ?_
          rintro e wR2 ⟨rfl, hb⟩
          have XR2 := Lib.hid (XR1.out.on hb)
          have BR2 := Lib.hid (BR1.out.trans (hb.mono BR1.out.size))
          clear hb r0 r1 r2 c0 c1 c2 b0 b1 b2 b3 b4 b5
          have r0 := XR2.out.r.cell 0 _ rfl
          have r1 := XR2.out.r.cell 1 _ rfl
          have r2 := XR2.out.r.cell 2 _ rfl
          have c0 := XR2.out.c.cell 0 _ rfl
          have c1 := XR2.out.c.cell 1 _ rfl
          have c2 := XR2.out.c.cell 2 _ rfl
          have b0 := XR2.out.b.cell 0 _ rfl
          have b1 := XR2.out.b.cell 1 _ rfl
          have b2 := XR2.out.b.cell 2 _ rfl
          have b3 := XR2.out.b.cell 3 _ rfl
          have b4 := XR2.out.b.cell 4 _ rfl
          have b5 := XR2.out.b.cell 5 _ rfl
          go_wp2_with (with_reducible refine hold_load (.tmp 9) rfl ?_)
          refine wpl_load_w (.tmp 9) ym 0 21 21 f (by rfl) rfl (by rfl) (agg_msg _) (size_msg _) XR2.out.m.blk.cells (by omega) ?_
          simp only [Nat.zero_add]
          go_wp2_with fail
          refine (rightmsg_is true _ f d.1.1.1.1.1.1.1.1.1.1 d.1.1.1.1.1.1.1.1.1.2 d.1.1.1.1.1.1.1.1.2 d.1.1.1.1.1.1.1.2 d.1.1.1.1.1.1.2 (d.1.1.1.1.1.2.getD noB) (d.1.1.1.1.2.getD noC) (d.1.1.1.2.getD noS) (d.1.1.2.getD noR) d.1.2 d.2 s9 r10 s13 t15 (HMA.out.later (BA.out.trans (BR2.out.mono BA.out.size))) (right_smallM HMF.out).2 (rightMsg_iff.2 HMF.out)).mono ?_
          rintro e wR3 ⟨rfl, hb⟩
          have XR3 := Lib.hid (XR2.out.on hb)
          have BR3 := Lib.hid (BR2.out.trans (hb.mono BR2.out.size))
          clear hb r0 r1 r2 c0 c1 c2 b0 b1 b2 b3 b4 b5
          have r0 := XR3.out.r.cell 0 _ rfl
          have r1 := XR3.out.r.cell 1 _ rfl
          have r2 := XR3.out.r.cell 2 _ rfl
          have c0 := XR3.out.c.cell 0 _ rfl
          have c1 := XR3.out.c.cell 1 _ rfl
          have c2 := XR3.out.c.cell 2 _ rfl
          have b0 := XR3.out.b.cell 0 _ rfl
          have b1 := XR3.out.b.cell 1 _ rfl
          have b2 := XR3.out.b.cell 2 _ rfl
          have b3 := XR3.out.b.cell 3 _ rfl
          have b4 := XR3.out.b.cell 4 _ rfl
          have b5 := XR3.out.b.cell 5 _ rfl
          go_wp2_with (with_reducible refine hold_load (.tmp 9) rfl ?_)
          refine wpl_load_w (.tmp 9) ym 0 21 21 f (by rfl) rfl (by rfl) (agg_msg _) (size_msg _) XR3.out.m.blk.cells (by omega) ?_
          simp only [Nat.zero_add]
          go_wp2_with fail
          refine (rmsg_is b _ f d.1.1.1.1.1.1.1.1.1.1 d.1.1.1.1.1.1.1.1.1.2 d.1.1.1.1.1.1.1.1.2 d.1.1.1.1.1.1.1.2 d.1.1.1.1.1.1.2 (d.1.1.1.1.1.2.getD noB) (d.1.1.1.1.2.getD noC) (d.1.1.1.2.getD noS) (d.1.1.2.getD noR) d.1.2 d.2 s9 r10 s13 t15 (HMA.out.later (BA.out.trans (BR3.out.mono BA.out.size))) (right_smallM HMF.out).1 HMB.out).mono ?_
          rintro e wR4 ⟨rfl, hb⟩
          have XR4 := Lib.hid (XR3.out.on hb)
          have BR4 := Lib.hid (BR3.out.trans (hb.mono BR3.out.size))
          clear hb r0 r1 r2 c0 c1 c2 b0 b1 b2 b3 b4 b5
          go_wp2_with fail
          go_ret
          exact ⟨rfl, XR4.out.r.below⟩
        · have HM0 := Lib.hid qM0
          clear qM0
          clear HCR HCC HCB HCM
          have r0 := XC.out.r.cell 0 _ rfl
          have r1 := XC.out.r.cell 1 _ rfl
          have r2 := XC.out.r.cell 2 _ rfl
          have c0 := XC.out.c.cell 0 _ rfl
          have c1 := XC.out.c.cell 1 _ rfl
          have c2 := XC.out.c.cell 2 _ rfl
          have b0 := XC.out.b.cell 0 _ rfl
          have b1 := XC.out.b.cell 1 _ rfl
          have b2 := XC.out.b.cell 2 _ rfl
          have b3 := XC.out.b.cell 3 _ rfl
          have b4 := XC.out.b.cell 4 _ rfl
          have b5 := XC.out.b.cell 5 _ rfl
          go_wp2_with fail
          refine (rightcert_is c _ true HQ3.out _ (HSC.out.later BC.out) (right_small HQ3.out).2.2.2).mono ?_
          rintro e wR1 ⟨rfl, hb⟩
          have XR1 := Lib.hid (XC.out.on hb)
          have BR1 := Lib.hid (BC.out.trans (hb.mono BC.out.size))
          clear hb r0 r1 r2 c0 c1 c2 b0 b1 b2 b3 b4 b5
          have r0 := XR1.out.r.cell 0 _ rfl
          have r1 := XR1.out.r.cell 1 _ rfl
          have r2 := XR1.out.r.cell 2 _ rfl
          have c0 := XR1.out.c.cell 0 _ rfl
          have c1 := XR1.out.c.cell 1 _ rfl
          have c2 := XR1.out.c.cell 2 _ rfl
          have b0 := XR1.out.b.cell 0 _ rfl
          have b1 := XR1.out.b.cell 1 _ rfl
          have b2 := XR1.out.b.cell 2 _ rfl
          have b3 := XR1.out.b.cell 3 _ rfl
          have b4 := XR1.out.b.cell 4 _ rfl
          have b5 := XR1.out.b.cell 5 _ rfl
          go_wp2_with fail
          refine (rcert_is c _ b HQ4.out _ (HSC.out.later BR1.out) (by have := (right_small HQ3.out).2.1; omega) (right_small HQ3.out).1).mono ?_
          rintro e wR2 ⟨rfl, hb⟩
          have XR2 := Lib.hid (XR1.out.on hb)
          have BR2 := Lib.hid (BR1.out.trans (hb.mono BR1.out.size))
          clear hb r0 r1 r2 c0 c1 c2 b0 b1 b2 b3 b4 b5
          go_wp2_with fail
          go_ret
          exact ⟨rfl, XR2.out.r.below⟩
    · have HQ3 := Lib.hid (show (!nzC c) = true by rw [q3]; rfl)
      clear q3
      rcases HCB.out with ⟨rfl, q5, q6⟩ | ⟨rfl, q5⟩
      · have HQ5 := Lib.hid q5
        have HQ6 := Lib.hid q6
        clear q5 q6
        rcases HCM.out with ⟨rfl, d, s9, r10, s13, t15, qM, qF, qB⟩ | ⟨rfl, qM0⟩
        · have HMA := Lib.hid qM
          have HMF := Lib.hid qF
          have HMB := Lib.hid qB
          clear qM qF qB
          clear HCR HCC HCB HCM
          have r0 := XC.out.r.cell 0 _ rfl
          have r1 := XC.out.r.cell 1 _ rfl
          have r2 := XC.out.r.cell 2 _ rfl
          have c0 := XC.out.c.cell 0 _ rfl
          have c1 := XC.out.c.cell 1 _ rfl
          have c2 := XC.out.c.cell 2 _ rfl
          have b0 := XC.out.b.cell 0 _ rfl
          have b1 := XC.out.b.cell 1 _ rfl
          have b2 := XC.out.b.cell 2 _ rfl
          have b3 := XC.out.b.cell 3 _ rfl
          have b4 := XC.out.b.cell 4 _ rfl
          have b5 := XC.out.b.cell 5 _ rfl
          go_wp2_with fail
          refine (rightblock_is x _ _ true HQ5.out _ (HSB.out.later BC.out) (HRB.out.later BC.out) (right_smallB HQ5.out).2.2.2.1).mono ?_
          rintro e wR1 ⟨rfl, hb⟩
          have XR1 := Lib.hid (XC.out.on hb)
          have BR1 := Lib.hid (BC.out.trans (hb.mono BC.out.size))
          clear hb r0 r1 r2 c0 c1 c2 b0 b1 b2 b3 b4 b5
          have r0 := XR1.out.r.cell 0 _ rfl
          have r1 := XR1.out.r.cell 1 _ rfl
          have r2 := XR1.out.r.cell 2 _ rfl
          have c0 := XR1.out.c.cell 0 _ rfl
          have c1 := XR1.out.c.cell 1 _ rfl
          have c2 := XR1.out.c.cell 2 _ rfl
          have b0 := XR1.out.b.cell 0 _ rfl
          have b1 := XR1.out.b.cell 1 _ rfl
          have b2 := XR1.out.b.cell 2 _ rfl
          have b3 := XR1.out.b.cell 3 _ rfl
          have b4 := XR1.out.b.cell 4 _ rfl
          have b5 := XR1.out.b.cell 5 _ rfl
          go_wp2_with fail
          refine (rblock_is x _ _ b HQ6.out _ (HSB.out.later BR1.out) (HRB.out.later BR1.out) (by have := (right_smallB HQ5.out).2.2.1; omega) (right_smallB HQ5.out).1 (right_smallB HQ5.out).2.1).mono ?_
          rintro e wR2 ⟨rfl, hb⟩
          have XR2 := Lib.hid (XR1.out.on hb)
          have BR2 := Lib.hid (BR1.out.trans (hb.mono BR1.out.size))
          clear hb r0 r1 r2 c0 c1 c2 b0 b1 b2 b3 b4 b5
          have r0 := XR2.out.r.cell 0 _ rfl
          have r1 := XR2.out.r.cell 1 _ rfl
          have r2 := XR2.out.r.cell 2 _ rfl
          have c0 := XR2.out.c.cell 0 _ rfl
          have c1 := XR2.out.c.cell 1 _ rfl
          have c2 := XR2.out.c.cell 2 _ rfl
          have b0 := XR2.out.b.cell 0 _ rfl
          have b1 := XR2.out.b.cell 1 _ rfl
          have b2 := XR2.out.b.cell 2 _ rfl
          have b3 := XR2.out.b.cell 3 _ rfl
          have b4 := XR2.out.b.cell 4 _ rfl
          have b5 := XR2.out.b.cell 5 _ rfl
          go_wp2_with (with_reducible refine hold_load (.tmp 9) rfl ?_)
          refine wpl_load_w (.tmp 9) ym 0 21 21 f (by rfl) rfl (by rfl) (agg_msg _) (size_msg _) XR2.out.m.blk.cells (by omega) ?_
          simp only [Nat.zero_add]
          go_wp2_with fail
          refine (rightmsg_is true _ f d.1.1.1.1.1.1.1.1.1.1 d.1.1.1.1.1.1.1.1.1.2 d.1.1.1.1.1.1.1.1.2 d.1.1.1.1.1.1.1.2 d.1.1.1.1.1.1.2 (d.1.1.1.1.1.2.getD noB) (d.1.1.1.1.2.getD noC) (d.1.1.1.2.getD noS) (d.1.1.2.getD noR) d.1.2 d.2 s9 r10 s13 t15 (HMA.out.later (BA.out.trans (BR2.out.mono BA.out.size))) (right_smallM HMF.out).2 (rightMsg_iff.2 HMF.out)).mono ?_
          rintro e wR3 ⟨rfl, hb⟩
          have XR3 := Lib.hid (XR2.out.on hb)
          have BR3 := Lib.hid (BR2.out.trans (hb.mono BR2.out.size))
          clear hb r0 r1 r2 c0 c1 c2 b0 b1 b2 b3 b4 b5
          have r0 := XR3.out.r.cell 0 _ rfl
          have r1 := XR3.out.r.cell 1 _ rfl
          have r2 := XR3.out.r.cell 2 _ rfl
          have c0 := XR3.out.c.cell 0 _ rfl
          have c1 := XR3.out.c.cell 1 _ rfl
          have c2 := XR3.out.c.cell 2 _ rfl
          have b0 := XR3.out.b.cell 0 _ rfl
          have b1 := XR3.out.b.cell 1 _ rfl
          have b2 := XR3.out.b.cell 2 _ rfl
          have b3 := XR3.out.b.cell 3 _ rfl
          have b4 := XR3.out.b.cell 4 _ rfl
          have b5 := XR3.out.b.cell 5 _ rfl
          go_wp2_with (with_reducible refine hold_load (.tmp 9) rfl ?_)
          refine wpl_load_w (.tmp 9) ym 0 21 21 f (by rfl) rfl (by rfl) (agg_msg _) (size_msg _) XR3.out.m.blk.cells (by omega) ?_
          simp only [Nat.zero_add]
          go_wp2_with fail
          refine (rmsg_is b _ f d.1.1.1.1.1.1.1.1.1.1 d.1.1.1.1.1.1.1.1.1.2 d.1.1.1.1.1.1.1.1.2 d.1.1.1.1.1.1.1.2 d.1.1.1.1.1.1.2 (d.1.1.1.1.1.2.getD noB) (d.1.1.1.1.2.getD noC) (d.1.1.1.2.getD noS) (d.1.1.2.getD noR) d.1.2 d.2 s9 r10 s13 t15 (HMA.out.later (BA.out.trans (BR3.out.mono BA.out.size))) (right_smallM HMF.out).1 HMB.out).mono ?_
          rintro e wR4 ⟨rfl, hb⟩
          have XR4 := Lib.hid (XR3.out.on hb)
          have BR4 := Lib.hid (BR3.out.trans (hb.mono BR3.out.size))
          clear hb r0 r1 r2 c0 c1 c2 b0 b1 b2 b3 b4 b5
          go_wp2_with fail
          go_ret
          exact ⟨rfl, XR4.out.r.below⟩
        · have HM0 := Lib.hid qM0
          clear qM0
          clear HCR HCC HCB HCM
          have r0 := XC.out.r.cell 0 _ rfl
          have r1 := XC.out.r.cell 1 _ rfl
          have r2 := XC.out.r.cell 2 _ rfl
          have c0 := XC.out.c.cell 0 _ rfl
          have c1 := XC.out.c.cell 1 _ rfl
          have c2 := XC.out.c.cell 2 _ rfl
          have b0 := XC.out.b.cell 0 _ rfl
          have b1 := XC.out.b.cell 1 _ rfl
          have b2 := XC.out.b.cell 2 _ rfl
          have b3 := XC.out.b.cell 3 _ rfl
          have b4 := XC.out.b.cell 4 _ rfl
          have b5 := XC.out.b.cell 5 _ rfl
          go_wp2_with fail
          refine (rightblock_is x _ _ true HQ5.out _ (HSB.out.later BC.out) (HRB.out.later BC.out) (right_smallB HQ5.out).2.2.2.1).mono ?_
          rintro e wR1 ⟨rfl, hb⟩
          have XR1 := Lib.hid (XC.out.on hb)
          have BR1 := Lib.hid (BC.out.trans (hb.mono BC.out.size))
          clear hb r0 r1 r2 c0 c1 c2 b0 b1 b2 b3 b4 b5
          have r0 := XR1.out.r.cell 0 _ rfl
          have r1 := XR1.out.r.cell 1 _ rfl
          have r2 := XR1.out.r.cell 2 _ rfl
          have c0 := XR1.out.c.cell 0 _ rfl
          have c1 := XR1.out.c.cell 1 _ rfl
          have c2 := XR1.out.c.cell 2 _ rfl
          have b0 := XR1.out.b.cell 0 _ rfl
          have b1 := XR1.out.b.cell 1 _ rfl
          have b2 := XR1.out.b.cell 2 _ rfl
          have b3 := XR1.out.b.cell 3 _ rfl
          have b4 := XR1.out.b.cell 4 _ rfl
          have b5 := XR1.out.b.cell 5 _ rfl
          go_wp2_with fail
          refine (rblock_is x _ _ b HQ6.out _ (HSB.out.later BR1.out) (HRB.out.later BR1.out) (by have := (right_smallB HQ5.out).2.2.1; omega) (right_smallB HQ5.out).1 (right_smallB HQ5.out).2.1).mono ?_
          rintro e wR2 ⟨rfl, hb⟩
          have XR2 := Lib.hid (XR1.out.on hb)
          have BR2 := Lib.hid (BR1.out.trans (hb.mono BR1.out.size))
          clear hb r0 r1 r2 c0 c1 c2 b0 b1 b2 b3 b4 b5
          go_wp2_with fail
          go_ret
          exact ⟨rfl, XR2.out.r.below⟩
      · have HQ5 := Lib.hid (show (!nzB x) = true by rw [q5]; rfl)
        clear q5
        rcases HCM.out with ⟨rfl, d, s9, r10, s13, t15, qM, qF, qB⟩ | ⟨rfl, qM0⟩
        · have HMA := Lib.hid qM
          have HMF := Lib.hid qF
          have HMB := Lib.hid qB
          clear qM qF qB
          clear HCR HCC HCB HCM
          have r0 := XC.out.r.cell 0 _ rfl
          have r1 := XC.out.r.cell 1 _ rfl
          have r2 := XC.out.r.cell 2 _ rfl
          have c0 := XC.out.c.cell 0 _ rfl
          have c1 := XC.out.c.cell 1 _ rfl
          have c2 := XC.out.c.cell 2 _ rfl
          have b0 := XC.out.b.cell 0 _ rfl
          have b1 := XC.out.b.cell 1 _ rfl
          have b2 := XC.out.b.cell 2 _ rfl
          have b3 := XC.out.b.cell 3 _ rfl
          have b4 := XC.out.b.cell 4 _ rfl
          have b5 := XC.out.b.cell 5 _ rfl
          go_wp2_with (with_reducible refine hold_load (.tmp 9) rfl ?_)
          refine wpl_load_w (.tmp 9) ym 0 21 21 f (by rfl) rfl (by rfl) (agg_msg _) (size_msg _) XC.out.m.blk.cells (by omega) ?_
          simp only [Nat.zero_add]
          go_wp2_with fail
          refine (rightmsg_is true _ f d.1.1.1.1.1.1.1.1.1.1 d.1.1.1.1.1.1.1.1.1.2 d.1.1.1.1.1.1.1.1.2 d.1.1.1.1.1.1.1.2 d.1.1.1.1.1.1.2 (d.1.1.1.1.1.2.getD noB) (d.1.1.1.1.2.getD noC) (d.1.1.1.2.getD noS) (d.1.1.2.getD noR) d.1.2 d.2 s9 r10 s13 t15 (HMA.out.later (BA.out.trans (BC.out.mono BA.out.size))) (right_smallM HMF.out).2 (rightMsg_iff.2 HMF.out)).mono ?_
          rintro e wR1 ⟨rfl, hb⟩
          have XR1 := Lib.hid (XC.out.on hb)
          have BR1 := Lib.hid (BC.out.trans (hb.mono BC.out.size))
          clear hb r0 r1 r2 c0 c1 c2 b0 b1 b2 b3 b4 b5
          have r0 := XR1.out.r.cell 0 _ rfl
          have r1 := XR1.out.r.cell 1 _ rfl
          have r2 := XR1.out.r.cell 2 _ rfl
          have c0 := XR1.out.c.cell 0 _ rfl
          have c1 := XR1.out.c.cell 1 _ rfl
          have c2 := XR1.out.c.cell 2 _ rfl
          have b0 := XR1.out.b.cell 0 _ rfl
          have b1 := XR1.out.b.cell 1 _ rfl
          have b2 := XR1.out.b.cell 2 _ rfl
          have b3 := XR1.out.b.cell 3 _ rfl
          have b4 := XR1.out.b.cell 4 _ rfl
          have b5 := XR1.out.b.cell 5 _ rfl
          go_wp2_with (with_reducible refine hold_load (.tmp 9) rfl ?_)
          refine wpl_load_w (.tmp 9) ym 0 21 21 f (by rfl) rfl (by rfl) (agg_msg _) (size_msg _) XR1.out.m.blk.cells (by omega) ?_
          simp only [Nat.zero_add]
          go_wp2_with fail
          refine (rmsg_is b _ f d.1.1.1.1.1.1.1.1.1.1 d.1.1.1.1.1.1.1.1.1.2 d.1.1.1.1.1.1.1.1.2 d.1.1.1.1.1.1.1.2 d.1.1.1.1.1.1.2 (d.1.1.1.1.1.2.getD noB) (d.1.1.1.1.2.getD noC) (d.1.1.1.2.getD noS) (d.1.1.2.getD noR) d.1.2 d.2 s9 r10 s13 t15 (HMA.out.later (BA.out.trans (BR1.out.mono BA.out.size))) (right_smallM HMF.out).1 HMB.out).mono ?_
          rintro e wR2 ⟨rfl, hb⟩
          have XR2 := Lib.hid (XR1.out.on hb)
          have BR2 := Lib.hid (BR1.out.trans (hb.mono BR1.out.size))
          clear hb r0 r1 r2 c0 c1 c2 b0 b1 b2 b3 b4 b5
          go_wp2_with fail
          go_ret
          exact ⟨rfl, XR2.out.r.below⟩
        · have HM0 := Lib.hid qM0
          clear qM0
          clear HCR HCC HCB HCM
          go_wp2_with fail
          go_ret
          exact ⟨rfl, XC.out.r.below⟩
end Go.Proofs.Ytacnbpmoceocbaa
