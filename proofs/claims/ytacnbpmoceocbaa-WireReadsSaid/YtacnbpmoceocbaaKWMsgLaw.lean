/-
  The walk of the law WireMsgs.
-/
import Derived.Test.YtacnbpmoceocbaaKWMsgMath
open Go Go.RowKit
namespace BB
section
variable {P : Program} {ops : Array Oper} {Q : Exit → Act → World → Prop} {a : Act} {w : World} {rest : List Oper} {o : Oper}
theorem wpl_load_w {T : TypeId} (ad : Operand) (b off N m : Nat) (f : Nat → Value) (hg : Region.wanted o (yielded ops a.tmps) = true) (ho : o.op = .load T ad) (ha : a.eval ad = .pointer (some ⟨b, off, none⟩))
    (hT : (isAgg T).run P w = .ok true w) (hS : (Go.sizeOf T).run P w = .ok m w) (hb : Cells w b N f) (hN : off + m ≤ N)
    (hK : wpList P ops Q rest (a.put o.dst (.agg (row m fun i => f (off + i)))) w) : wpList P ops Q (o :: rest) a w := by
  refine wpList_step fun K hK' => ?_
  rw [if_pos hg]
  have := hK' _ _ hK
  unfold Oper.wp
  rw [run_op_load ho ha hT hS hb hN]
  exact this
theorem wpl_not (hg : Region.wanted o (yielded ops a.tmps) = false) (hK : wpList P ops Q rest (a.put o.dst undef) w) : wpList P ops Q (o :: rest) a w := by
  unfold wpList
  rw [if_neg (by rw [hg]; simp)]
  exact hK
end
end BB
namespace Go.Proofs.Ytacnbpmoceocbaa
open WW BB
theorem _root_.WW.MBox.upd {w w1 w2 : World} {g b : Nat} {f : Nat → Value} (h : MBox w g f w1) (u : Upd b w1 w2) (hb : w.heap.size ≤ b) (hne : g ≠ b) : MBox w g f w2 :=
  ⟨h.below.trans (u.below hb), h.blk.upd u hne⟩
theorem zM_at (w : World) : MsgAt w zM 0 0 0 0 ⟨#[]⟩ noB noC noS noR 0 ⟨#[]⟩ (.slice none 0 0) (.slice none 0 0) (.slice none 0 0) (.slice none 0 0) :=
  ⟨rfl, rfl, rfl, rfl, rfl, rfl, rfl, rfl, rfl, rfl, rfl, rfl, rfl, rfl, rfl, rfl, rfl, rfl, rfl, rfl, rfl, sigs_nil w, reqs_nil w, sigs_nil w, strs_nil w⟩
theorem rmsg_is (B : ByteArray) (w : World) (f : Nat → Value) (k fr dst v : Int) (h : ByteArray) (x : BlockD) (c : CertD) (s : Int × List ByteArray) (r : Int × Int × ByteArray) (ix : Int) (tg : ByteArray) (s9 r10 s13 t15 : Value)
    (M : MsgAt w f k fr dst v h x c s r ix tg s9 r10 s13 t15) (hm : SmallM h tg x c s r) (hB : msgB k fr dst v h x c s r ix tg = B) :
    Calls Try.prog 36 #[.agg (row 21 f)] w fun e w' => e = .returned (.string B) ∧ Below w.heap.size w w' := hB ▸ rmsg_any w f k fr dst v h x c s r ix tg s9 r10 s13 t15 M hm
theorem msg_is (B : ByteArray) (w : World) (f : Nat → Value) (k fr dst v : Int) (h : ByteArray) (x : BlockD) (c : CertD) (s : Int × List ByteArray) (r : Int × Int × ByteArray) (ix : Int) (tg : ByteArray) (s9 r10 s13 t15 : Value)
    (M : MsgAt w f k fr dst v h x c s r ix tg s9 r10 s13 t15) (hm : SmallM h tg x c s r) (hB : msgB k fr dst v h x c s r ix tg = B) :
    Calls Try.prog 34 #[.agg (row 21 f)] w fun e w' => e = .returned (.string B) ∧ Below w.heap.size w w' := hB ▸ msg_any w f k fr dst v h x c s r ix tg s9 r10 s13 t15 M hm
theorem fewmsg_is (b : Bool) (w : World) (f : Nat → Value) (k fr dst v : Int) (h : ByteArray) (x : BlockD) (c : CertD) (s : Int × List ByteArray) (r : Int × Int × ByteArray) (ix : Int) (tg : ByteArray) (s9 r10 s13 t15 : Value)
    (M : MsgAt w f k fr dst v h x c s r ix tg s9 r10 s13 t15) (hm : MemM x c s) (hb : fewMsg h tg x c s r = b) :
    Calls Try.prog 33 #[.agg (row 21 f)] w fun e w' => e = .returned (.bool b) ∧ Below w.heap.size w w' := hb ▸ fewmsg_any w f k fr dst v h x c s r ix tg s9 r10 s13 t15 M hm
theorem rightmsg_is (b : Bool) (w : World) (f : Nat → Value) (k fr dst v : Int) (h : ByteArray) (x : BlockD) (c : CertD) (s : Int × List ByteArray) (r : Int × Int × ByteArray) (ix : Int) (tg : ByteArray) (s9 r10 s13 t15 : Value)
    (M : MsgAt w f k fr dst v h x c s r ix tg s9 r10 s13 t15) (hm : MemM x c s) (hb : rightMsg k fr dst v h x c s r ix tg = b) :
    Calls Try.prog 37 #[.agg (row 21 f)] w fun e w' => e = .returned (.bool b) ∧ Below w.heap.size w w' := hb ▸ rightmsg_any w f k fr dst v h x c s r ix tg s9 r10 s13 t15 M hm
theorem zmsg_any (w : World) : Calls Try.prog 36 #[.agg (row 21 zM)] w fun e w' => e = .returned (.string (msgB 0 0 0 0 ⟨#[]⟩ noB noC noS noR 0 ⟨#[]⟩)) ∧ Below w.heap.size w w' :=
  rmsg_any w zM _ _ _ _ _ _ _ _ _ _ _ _ _ _ _ (zM_at w) (smallM_mk (Nat.zero_le _) (Nat.zero_le _) (Nat.zero_le _) smallS_nil smallR_nil (Nat.zero_le _) smallS_nil (by show (flat []).length ≤ _; rw [flat_nil]; omega) (Nat.zero_le _) (Nat.zero_le _))
theorem zmsg_lit (w : World) : Calls Try.prog 36 #[.agg #[.int .i64 0, .int .i64 0, .int .i64 0, .int .i64 0, .string ⟨#[]⟩, .int .i64 0, .int .i64 0, .int .i64 0, .string ⟨#[]⟩, .slice none 0 0, .slice none 0 0, .int .i64 0, .string ⟨#[]⟩, .slice none 0 0, .int .i64 0, .slice none 0 0, .int .i64 0, .int .i64 0, .string ⟨#[]⟩, .int .i64 0, .string ⟨#[]⟩]] w fun e w' => e = .returned (.string (msgB 0 0 0 0 ⟨#[]⟩ noB noC noS noR 0 ⟨#[]⟩)) ∧ Below w.heap.size w w' := by
  rw [zM_row]; exact zmsg_any w
theorem optR_get (r : Int × Int × ByteArray) : (opt nzR r).getD noR = r := by
  cases h : nzR r with
  | true => rw [opt_yes h]; rfl
  | false =>
    rw [opt_no h]
    unfold nzR at h
    simp at h
    obtain ⟨rc, rq, rb⟩ := r
    obtain ⟨h1, h2, h3⟩ := h
    simp only at h1 h2 h3
    subst h1 h2 h3
    rfl
set_option maxRecDepth 100000 in
set_option maxHeartbeats 16000000 in
theorem msgs_many (w : World) (f : Nat → Value) (k fr dst v : Int) (h : ByteArray) (x : BlockD) (c : CertD) (s : Int × List ByteArray) (r : Int × Int × ByteArray) (ix : Int) (tg : ByteArray) (s9 r10 s13 t15 : Value)
    (M : MsgAt w f k fr dst v h x c s r ix tg s9 r10 s13 t15) (hm : MemM x c s) (hf : fewMsg h tg x c s r = false) :
    Calls Try.prog 8 #[.agg (row 21 f)] w fun e w' => e = .returned (.bool true) ∧ Below w.heap.size w w' := by
  have HF := Lib.hid hf
  clear hf
  have MM := Lib.hid M
  have HM := Lib.hid hm
  clear M hm
  go_enter Try.func8, Try.ntmps8
  go_wp2_with fail
  have X0 := Lib.hid (mbox_mk w f 52)
  obtain ⟨g, hg⟩ : ∃ g, w.heap.size = g := ⟨_, rfl⟩
  rw [hg] at X0 ⊢
  have HG := Lib.hid hg
  clear hg
  generalize w.alloc (.cells (row 21 f) 52) = w0 at *
  refine (awake2_any _).mono ?_
  rintro e w1 ⟨rfl, hb⟩
  have X1 := Lib.hid (X0.out.on hb)
  clear hb X0
  go_wp2_with (with_reducible refine hold_load (.tmp 1) rfl ?_)
  refine wpl_load_w (.tmp 1) g 0 21 21 f (by rfl) rfl (by rfl) (agg_msg _) (size_msg _) X1.out.blk.cells (by omega) ?_
  simp only [Nat.zero_add]
  go_wp2_with fail
  refine (fewmsg_is false w1 f k fr dst v h x c s r ix tg s9 r10 s13 t15 (MM.out.later X1.out.below) HM.out HF.out).mono ?_
  rintro e w2 ⟨rfl, hb⟩
  have X2 := Lib.hid (X1.out.on hb)
  clear hb X1
  go_wp2_with fail
  refine (awake2_any _).mono ?_
  rintro e w3 ⟨rfl, hb⟩
  have X3 := Lib.hid (X2.out.on hb)
  clear hb X2
  go_wp2_with fail
  go_ret
  exact ⟨rfl, X3.out.below⟩
set_option maxRecDepth 100000 in
set_option maxHeartbeats 16000000 in
theorem msgs_right (w : World) (f : Nat → Value) (k fr dst v : Int) (h : ByteArray) (x : BlockD) (c : CertD) (s : Int × List ByteArray) (r : Int × Int × ByteArray) (ix : Int) (tg : ByteArray) (s9 r10 s13 t15 : Value)
    (M : MsgAt w f k fr dst v h x c s r ix tg s9 r10 s13 t15) (hm : MemM x c s) (hf : fewMsg h tg x c s r = true) (hr : rightMsg k fr dst v h x c s r ix tg = true) :
    Calls Try.prog 8 #[.agg (row 21 f)] w fun e w' => e = .returned (.bool true) ∧ Below w.heap.size w w' := by
  have HRF := Lib.hid (rightMsg_iff.1 hr)
  have HF := Lib.hid hf
  have HSM := Lib.hid (few_smallM hf).1
  have HBZ := Lib.hid ((few_smallM hf).2 k fr dst v ix)
  obtain ⟨B, hB⟩ : ∃ B, msgB k fr dst v h x c s r ix tg = B := ⟨_, rfl⟩
  have HB := Lib.hid hB
  have HBZ' := HBZ.out
  rw [hB] at HBZ'
  have HBZ := Lib.hid HBZ'
  have HRT := Lib.hid hr
  clear hf hB HBZ' hr
  obtain ⟨d, hd⟩ : ∃ d, toD k fr dst v h x c s r ix tg = d := ⟨_, rfl⟩
  have HD := Lib.hid hd
  have HRD := Lib.hid (show msgRd B = some d by rw [← HB.out, ← msgD_toD, msgRd_put (msgOk_of HRF.out), HD.out])
  clear hd
  have MM := Lib.hid M
  have HM := Lib.hid hm
  clear M hm
  go_enter Try.func8, Try.ntmps8
  go_wp2_with fail
  have X0 := Lib.hid (mbox_mk w f 52)
  obtain ⟨g, hg⟩ : ∃ g, w.heap.size = g := ⟨_, rfl⟩
  rw [hg] at X0 ⊢
  have HG := Lib.hid hg
  clear hg
  generalize w.alloc (.cells (row 21 f) 52) = w0 at *
  refine (awake2_any _).mono ?_
  rintro e w1 ⟨rfl, hb⟩
  have X1 := Lib.hid (X0.out.on hb)
  clear hb X0
  go_wp2_with (with_reducible refine hold_load (.tmp 1) rfl ?_)
  refine wpl_load_w (.tmp 1) g 0 21 21 f (by rfl) rfl (by rfl) (agg_msg _) (size_msg _) X1.out.blk.cells (by omega) ?_
  simp only [Nat.zero_add]
  go_wp2_with fail
  refine (fewmsg_is true w1 f k fr dst v h x c s r ix tg s9 r10 s13 t15 (MM.out.later X1.out.below) HM.out HF.out).mono ?_
  rintro e w2 ⟨rfl, hb⟩
  have X2 := Lib.hid (X1.out.on hb)
  clear hb X1
  go_wp2_with (with_reducible refine hold_load (.tmp 1) rfl ?_)
  refine wpl_load (.tmp 1) g 0 21 21 f rfl rfl (by rfl) (agg_msg _) (size_msg _) X2.out.blk.cells (by omega) ?_
  simp only [Nat.zero_add]
  go_wp2_with fail
  refine (msg_is B w2 f k fr dst v h x c s r ix tg s9 r10 s13 t15 (MM.out.later X2.out.below) HSM.out HB.out).mono ?_
  rintro e w3 ⟨rfl, hb⟩
  have X3 := Lib.hid (X2.out.on hb)
  clear hb X2
  go_wp2_with fail
  refine (read_msg B HBZ.out w3).mono ?_
  rintro e w4 ⟨he, hb⟩
  rw [HRD.out] at he
  have X4 := Lib.hid (X3.out.on hb)
  have Z34 := Lib.hid hb.size
  clear hb X3
  obtain ⟨f', lo, hi, rfl, _, _, hR⟩ := he
  have HR := Lib.hid hR
  obtain ⟨u9, u10, u13, u15, hMA⟩ := msgR_cells hR
  have MA4 := Lib.hid hMA
  clear hR hMA
  go_wp2_with (with_reducible refine hold_store (.tmp 4) (.tmp 19) rfl ?_)
  obtain ⟨y, hy⟩ : ∃ y, w4.heap.size = y := ⟨_, rfl⟩
  have k0 : Blk (w4.alloc (.cells #[.int .i64 0, .int .i64 0, .int .i64 0, .int .i64 0, .string ⟨#[]⟩, .int .i64 0, .int .i64 0, .int .i64 0, .string ⟨#[]⟩, .slice none 0 0, .slice none 0 0, .int .i64 0, .string ⟨#[]⟩, .slice none 0 0, .int .i64 0, .slice none 0 0, .int .i64 0, .int .i64 0, .string ⟨#[]⟩, .int .i64 0, .string ⟨#[]⟩] 52)) y 21 zM := Blk.new' hy.symm zM_row
  have b0 := (Below.refl w4.heap.size w4).alloc (Nat.le_refl _) (.cells #[.int .i64 0, .int .i64 0, .int .i64 0, .int .i64 0, .string ⟨#[]⟩, .int .i64 0, .int .i64 0, .int .i64 0, .string ⟨#[]⟩, .slice none 0 0, .slice none 0 0, .int .i64 0, .string ⟨#[]⟩, .slice none 0 0, .int .i64 0, .slice none 0 0, .int .i64 0, .int .i64 0, .string ⟨#[]⟩, .int .i64 0, .string ⟨#[]⟩] 52)
  have X5 := Lib.hid (X4.out.on b0)
  have GY := Lib.hid (show g ≠ y by rw [← hy]; exact Nat.ne_of_lt X4.out.blk.lt)
  have WY := Lib.hid (show w.heap.size ≤ y by rw [← hy]; exact X4.out.below.size)
  have B45 := Lib.hid b0
  have HY := Lib.hid hy
  clear X4 b0
  rw [hy]
  generalize w4.alloc (.cells #[.int .i64 0, .int .i64 0, .int .i64 0, .int .i64 0, .string ⟨#[]⟩, .int .i64 0, .int .i64 0, .int .i64 0, .string ⟨#[]⟩, .slice none 0 0, .slice none 0 0, .int .i64 0, .string ⟨#[]⟩, .slice none 0 0, .int .i64 0, .slice none 0 0, .int .i64 0, .int .i64 0, .string ⟨#[]⟩, .int .i64 0, .string ⟨#[]⟩] 52) = w5 at *
  refine wpl_store (.tmp 4) (.tmp 19) y 0 21 21 zM f' rfl rfl (by rfl) (by rfl) (size_msg _) k0 (by omega) (msg_one HR.out) ?_
  intro w6 h6
  have K6 := Lib.hid (h6.1.congr f' fun i hi => by simp [hi])
  have X6 := Lib.hid (X5.out.upd h6.2 WY.out GY.out)
  have B46 := Lib.hid (B45.out.trans (h6.2.below (show w4.heap.size ≤ y by rw [HY.out]; exact Nat.le_refl _)))
  clear h6 k0 X5 B45 hy
  go_wp2_with (with_reducible refine hold_load (.tmp 1) rfl ?_)
  refine wpl_load (.tmp 1) g 0 21 21 f rfl rfl (by rfl) (agg_msg _) (size_msg _) X6.out.blk.cells (by omega) ?_
  simp only [Nat.zero_add]
  go_wp2_with fail
  refine (rmsg_is B w6 f k fr dst v h x c s r ix tg s9 r10 s13 t15 (MM.out.later X6.out.below) HSM.out HB.out).mono ?_
  rintro e w7 ⟨rfl, hb⟩
  have X7 := Lib.hid (X6.out.on hb)
  have K7 := Lib.hid (K6.out.below hb K6.out.lt)
  have B47 := Lib.hid (B46.out.trans (hb.mono B46.out.size))
  clear hb X6 K6 B46
  go_wp2_with (with_reducible refine hold_load (.tmp 1) rfl ?_)
  refine wpl_load (.tmp 1) g 0 21 21 f rfl rfl (by rfl) (agg_msg _) (size_msg _) X7.out.blk.cells (by omega) ?_
  simp only [Nat.zero_add]
  go_wp2_with fail
  refine (rightmsg_is true w7 f k fr dst v h x c s r ix tg s9 r10 s13 t15 (MM.out.later X7.out.below) HM.out HRT.out).mono ?_
  rintro e w8 ⟨rfl, hb⟩
  have X8 := Lib.hid (X7.out.on hb)
  have K8 := Lib.hid (K7.out.below hb K7.out.lt)
  have B48 := Lib.hid (B47.out.trans (hb.mono B47.out.size))
  clear hb X7 K7 B47
  have RF := Lib.hid (rightF_of (d := d) (by rw [← HD.out]; exact msgOk_of HRF.out))
  have HBD := Lib.hid (show msgB d.1.1.1.1.1.1.1.1.1.1 d.1.1.1.1.1.1.1.1.1.2 d.1.1.1.1.1.1.1.1.2 d.1.1.1.1.1.1.1.2 d.1.1.1.1.1.1.2 (d.1.1.1.1.1.2.getD noB) (d.1.1.1.1.2.getD noC) (d.1.1.1.2.getD noS) (d.1.1.2.getD noR) d.1.2 d.2 = B by rw [← msgD_toD, RF.out.2, ← HB.out, ← HD.out]; rfl)
  go_wp2_with (with_reducible refine hold_load (.tmp 4) rfl ?_)
  refine wpl_load_w (.tmp 4) y 0 21 21 f' (by rfl) rfl (by rfl) (agg_msg _) (size_msg _) K8.out.cells (by omega) ?_
  simp only [Nat.zero_add]
  go_wp2_with fail
  refine (rmsg_is B w8 f' d.1.1.1.1.1.1.1.1.1.1 d.1.1.1.1.1.1.1.1.1.2 d.1.1.1.1.1.1.1.1.2 d.1.1.1.1.1.1.1.2 d.1.1.1.1.1.1.2 (d.1.1.1.1.1.2.getD noB) (d.1.1.1.1.2.getD noC) (d.1.1.1.2.getD noS) (d.1.1.2.getD noR) d.1.2 d.2 _ _ _ _ (MA4.out.later B48.out) (right_smallM RF.out.1).1 HBD.out).mono ?_
  rintro e w9 ⟨rfl, hb⟩
  have X9 := Lib.hid (X8.out.on hb)
  have K9 := Lib.hid (K8.out.below hb K8.out.lt)
  have B49 := Lib.hid (B48.out.trans (hb.mono B48.out.size))
  clear hb X8 K8 B48
  have x0 : w9.cell? ⟨y, 0, none⟩ = some (.int .i64 k) := by rw [K9.out.get 0 (by omega), MA4.out.y0, ← HD.out]; rfl
  have x1 : w9.cell? ⟨y, 1, none⟩ = some (.int .i64 fr) := by rw [K9.out.get 1 (by omega), MA4.out.y1, ← HD.out]; rfl
  have hrr : (d.1.1.2.getD noR) = r := by rw [← HD.out]; exact optR_get r
  have x16 : w9.cell? ⟨y, 16, none⟩ = some (.int .i64 r.1) := by rw [K9.out.get 16 (by omega), MA4.out.y16, hrr]
  have x17 : w9.cell? ⟨y, 17, none⟩ = some (.int .i64 r.2.1) := by rw [K9.out.get 17 (by omega), MA4.out.y17, hrr]
  have x18 : w9.cell? ⟨y, 18, none⟩ = some (.string r.2.2) := by rw [K9.out.get 18 (by omega), MA4.out.y18, hrr]
  have x19 : w9.cell? ⟨y, 19, none⟩ = some (.int .i64 ix) := by rw [K9.out.get 19 (by omega), MA4.out.y19, ← HD.out]; rfl
  have c0 := X9.out.at_ 0 _ (by omega) MM.out.y0
  have c1 := X9.out.at_ 1 _ (by omega) MM.out.y1
  have c16 := X9.out.at_ 16 _ (by omega) MM.out.y16
  have c17 := X9.out.at_ 17 _ (by omega) MM.out.y17
  have c18 := X9.out.at_ 18 _ (by omega) MM.out.y18
  have c19 := X9.out.at_ 19 _ (by omega) MM.out.y19
  clear hrr
  go_wp2_with fail
  go_ret
  exact ⟨rfl, X9.out.below⟩
set_option maxRecDepth 100000 in
set_option maxHeartbeats 16000000 in
theorem msgs_none (w : World) (f : Nat → Value) (k fr dst v : Int) (h : ByteArray) (x : BlockD) (c : CertD) (s : Int × List ByteArray) (r : Int × Int × ByteArray) (ix : Int) (tg : ByteArray) (s9 r10 s13 t15 : Value)
    (M : MsgAt w f k fr dst v h x c s r ix tg s9 r10 s13 t15) (hm : MemM x c s) (hf : fewMsg h tg x c s r = true) (hr : rightMsg k fr dst v h x c s r ix tg = false) (hrd : msgRd (msgB k fr dst v h x c s r ix tg) = none) :
    Calls Try.prog 8 #[.agg (row 21 f)] w fun e w' => e = .returned (.bool true) ∧ Below w.heap.size w w' := by
  have HF := Lib.hid hf
  have HSM := Lib.hid (few_smallM hf).1
  have HBZ := Lib.hid ((few_smallM hf).2 k fr dst v ix)
  obtain ⟨B, hB⟩ : ∃ B, msgB k fr dst v h x c s r ix tg = B := ⟨_, rfl⟩
  have HB := Lib.hid hB
  have HBZ' := HBZ.out
  rw [hB] at HBZ'
  have HBZ := Lib.hid HBZ'
  have HRT := Lib.hid hr
  clear hf hB HBZ' hr
  have HRD := Lib.hid (show msgRd B = none by rw [← HB.out]; exact hrd)
  clear hrd
  have MM := Lib.hid M
  have HM := Lib.hid hm
  clear M hm
  go_enter Try.func8, Try.ntmps8
  go_wp2_with fail
  have X0 := Lib.hid (mbox_mk w f 52)
  obtain ⟨g, hg⟩ : ∃ g, w.heap.size = g := ⟨_, rfl⟩
  rw [hg] at X0 ⊢
  have HG := Lib.hid hg
  clear hg
  generalize w.alloc (.cells (row 21 f) 52) = w0 at *
  refine (awake2_any _).mono ?_
  rintro e w1 ⟨rfl, hb⟩
  have X1 := Lib.hid (X0.out.on hb)
  clear hb X0
  go_wp2_with (with_reducible refine hold_load (.tmp 1) rfl ?_)
  refine wpl_load_w (.tmp 1) g 0 21 21 f (by rfl) rfl (by rfl) (agg_msg _) (size_msg _) X1.out.blk.cells (by omega) ?_
  simp only [Nat.zero_add]
  go_wp2_with fail
  refine (fewmsg_is true w1 f k fr dst v h x c s r ix tg s9 r10 s13 t15 (MM.out.later X1.out.below) HM.out HF.out).mono ?_
  rintro e w2 ⟨rfl, hb⟩
  have X2 := Lib.hid (X1.out.on hb)
  clear hb X1
  go_wp2_with (with_reducible refine hold_load (.tmp 1) rfl ?_)
  refine wpl_load (.tmp 1) g 0 21 21 f rfl rfl (by rfl) (agg_msg _) (size_msg _) X2.out.blk.cells (by omega) ?_
  simp only [Nat.zero_add]
  go_wp2_with fail
  refine (msg_is B w2 f k fr dst v h x c s r ix tg s9 r10 s13 t15 (MM.out.later X2.out.below) HSM.out HB.out).mono ?_
  rintro e w3 ⟨rfl, hb⟩
  have X3 := Lib.hid (X2.out.on hb)
  clear hb X2
  go_wp2_with fail
  refine (read_msg B HBZ.out w3).mono ?_
  rintro e w4 ⟨he, hb⟩
  rw [HRD.out] at he
  have X4 := Lib.hid (X3.out.on hb)
  have Z34 := Lib.hid hb.size
  clear hb X3
  obtain rfl : e = .returned (.tuple #[.agg (row 21 zM), .int .i64 2]) := he
  go_wp2_with (with_reducible refine hold_store (.tmp 4) (.tmp 19) rfl ?_)
  obtain ⟨y, hy⟩ : ∃ y, w4.heap.size = y := ⟨_, rfl⟩
  have k0 : Blk (w4.alloc (.cells #[.int .i64 0, .int .i64 0, .int .i64 0, .int .i64 0, .string ⟨#[]⟩, .int .i64 0, .int .i64 0, .int .i64 0, .string ⟨#[]⟩, .slice none 0 0, .slice none 0 0, .int .i64 0, .string ⟨#[]⟩, .slice none 0 0, .int .i64 0, .slice none 0 0, .int .i64 0, .int .i64 0, .string ⟨#[]⟩, .int .i64 0, .string ⟨#[]⟩] 52)) y 21 zM := Blk.new' hy.symm zM_row
  have b0 := (Below.refl w4.heap.size w4).alloc (Nat.le_refl _) (.cells #[.int .i64 0, .int .i64 0, .int .i64 0, .int .i64 0, .string ⟨#[]⟩, .int .i64 0, .int .i64 0, .int .i64 0, .string ⟨#[]⟩, .slice none 0 0, .slice none 0 0, .int .i64 0, .string ⟨#[]⟩, .slice none 0 0, .int .i64 0, .slice none 0 0, .int .i64 0, .int .i64 0, .string ⟨#[]⟩, .int .i64 0, .string ⟨#[]⟩] 52)
  have X5 := Lib.hid (X4.out.on b0)
  have GY := Lib.hid (show g ≠ y by rw [← hy]; exact Nat.ne_of_lt X4.out.blk.lt)
  have WY := Lib.hid (show w.heap.size ≤ y by rw [← hy]; exact X4.out.below.size)
  have B45 := Lib.hid b0
  have HY := Lib.hid hy
  clear X4 b0
  rw [hy]
  generalize w4.alloc (.cells #[.int .i64 0, .int .i64 0, .int .i64 0, .int .i64 0, .string ⟨#[]⟩, .int .i64 0, .int .i64 0, .int .i64 0, .string ⟨#[]⟩, .slice none 0 0, .slice none 0 0, .int .i64 0, .string ⟨#[]⟩, .slice none 0 0, .int .i64 0, .slice none 0 0, .int .i64 0, .int .i64 0, .string ⟨#[]⟩, .int .i64 0, .string ⟨#[]⟩] 52) = w5 at *
  refine wpl_store (.tmp 4) (.tmp 19) y 0 21 21 zM zM rfl rfl (by rfl) (by rfl) (size_msg _) k0 (by omega) zM_one ?_
  intro w6 h6
  have K6 := Lib.hid (h6.1.congr zM fun i hi => by simp [hi])
  have X6 := Lib.hid (X5.out.upd h6.2 WY.out GY.out)
  have B46 := Lib.hid (B45.out.trans (h6.2.below (show w4.heap.size ≤ y by rw [HY.out]; exact Nat.le_refl _)))
  clear h6 k0 X5 B45 hy
  go_wp2_with (with_reducible refine hold_load (.tmp 1) rfl ?_)
  refine wpl_load (.tmp 1) g 0 21 21 f rfl rfl (by rfl) (agg_msg _) (size_msg _) X6.out.blk.cells (by omega) ?_
  simp only [Nat.zero_add]
  go_wp2_with fail
  refine (rmsg_is B w6 f k fr dst v h x c s r ix tg s9 r10 s13 t15 (MM.out.later X6.out.below) HSM.out HB.out).mono ?_
  rintro e w7 ⟨rfl, hb⟩
  have X7 := Lib.hid (X6.out.on hb)
  have K7 := Lib.hid (K6.out.below hb K6.out.lt)
  have B47 := Lib.hid (B46.out.trans (hb.mono B46.out.size))
  clear hb X6 K6 B46
  go_wp2_with (with_reducible refine hold_load (.tmp 1) rfl ?_)
  refine wpl_load (.tmp 1) g 0 21 21 f rfl rfl (by rfl) (agg_msg _) (size_msg _) X7.out.blk.cells (by omega) ?_
  simp only [Nat.zero_add]
  go_wp2_with fail
  refine (rightmsg_is false w7 f k fr dst v h x c s r ix tg s9 r10 s13 t15 (MM.out.later X7.out.below) HM.out HRT.out).mono ?_
  rintro e w8 ⟨rfl, hb⟩
  have X8 := Lib.hid (X7.out.on hb)
  have K8 := Lib.hid (K7.out.below hb K7.out.lt)
  have B48 := Lib.hid (B47.out.trans (hb.mono B47.out.size))
  clear hb X7 K7 B47
  go_wp2_with (with_reducible refine hold_load (.tmp 4) rfl ?_)
  refine wpl_load_w (.tmp 4) y 0 21 21 zM (by rfl) rfl (by rfl) (agg_msg _) (size_msg _) K8.out.cells (by omega) ?_
  simp only [Nat.zero_add]
  obtain ⟨BZ, hBZ⟩ : ∃ BZ, msgB 0 0 0 0 ⟨#[]⟩ noB noC noS noR 0 ⟨#[]⟩ = BZ := ⟨_, rfl⟩
  have HZ1 := Lib.hid (fun wx => hBZ ▸ zmsg_any wx)
  have HZ2 := Lib.hid (fun wx => hBZ ▸ zmsg_lit wx)
  clear hBZ
  go_wp2_with fail
  refine (HZ1.out w8).mono ?_
  rintro e w9 ⟨rfl, hb⟩
  have X9 := Lib.hid (X8.out.on hb)
  have K9 := Lib.hid (K8.out.below hb K8.out.lt)
  have B49 := Lib.hid (B48.out.trans (hb.mono B48.out.size))
  clear hb X8 K8 B48
  go_wp2_with fail
  refine (HZ2.out w9).mono ?_
  rintro e w10 ⟨rfl, hb⟩
  have X10 := Lib.hid (X9.out.on hb)
  clear hb X9
  go_wp2_with fail
  go_ret
  exact ⟨rfl, X10.out.below⟩
set_option maxRecDepth 100000 in
set_option maxHeartbeats 16000000 in
theorem msgs_other (w : World) (f : Nat → Value) (k fr dst v : Int) (h : ByteArray) (x : BlockD) (c : CertD) (s : Int × List ByteArray) (r : Int × Int × ByteArray) (ix : Int) (tg : ByteArray) (s9 r10 s13 t15 : Value)
    (M : MsgAt w f k fr dst v h x c s r ix tg s9 r10 s13 t15) (hm : MemM x c s) (hf : fewMsg h tg x c s r = true) (hr : rightMsg k fr dst v h x c s r ix tg = false) (d : MsgD) (hrd : msgRd (msgB k fr dst v h x c s r ix tg) = some d) :
    Calls Try.prog 8 #[.agg (row 21 f)] w fun e w' => e = .returned (.bool true) ∧ Below w.heap.size w w' := by
  have HF := Lib.hid hf
  have HSM := Lib.hid (few_smallM hf).1
  have HBZ := Lib.hid ((few_smallM hf).2 k fr dst v ix)
  obtain ⟨B, hB⟩ : ∃ B, msgB k fr dst v h x c s r ix tg = B := ⟨_, rfl⟩
  have HB := Lib.hid hB
  have HBZ' := HBZ.out
  rw [hB] at HBZ'
  have HBZ := Lib.hid HBZ'
  have HRT := Lib.hid hr
  clear hf hB HBZ' hr
  have HRD := Lib.hid (show msgRd B = some d by rw [← HB.out]; exact hrd)
  have HSN := Lib.hid (msgRd_sound HRD.out)
  have RF := Lib.hid (rightF_of HSN.out.2)
  have HBD := Lib.hid (show msgB d.1.1.1.1.1.1.1.1.1.1 d.1.1.1.1.1.1.1.1.1.2 d.1.1.1.1.1.1.1.1.2 d.1.1.1.1.1.1.1.2 d.1.1.1.1.1.1.2 (d.1.1.1.1.1.2.getD noB) (d.1.1.1.1.2.getD noC) (d.1.1.1.2.getD noS) (d.1.1.2.getD noR) d.1.2 d.2 = B by rw [← msgD_toD, RF.out.2]; exact HSN.out.1.symm)
  clear hrd
  have MM := Lib.hid M
  have HM := Lib.hid hm
  clear M hm
  go_enter Try.func8, Try.ntmps8
  go_wp2_with fail
  have X0 := Lib.hid (mbox_mk w f 52)
  obtain ⟨g, hg⟩ : ∃ g, w.heap.size = g := ⟨_, rfl⟩
  rw [hg] at X0 ⊢
  have HG := Lib.hid hg
  clear hg
  generalize w.alloc (.cells (row 21 f) 52) = w0 at *
  refine (awake2_any _).mono ?_
  rintro e w1 ⟨rfl, hb⟩
  have X1 := Lib.hid (X0.out.on hb)
  clear hb X0
  go_wp2_with (with_reducible refine hold_load (.tmp 1) rfl ?_)
  refine wpl_load_w (.tmp 1) g 0 21 21 f (by rfl) rfl (by rfl) (agg_msg _) (size_msg _) X1.out.blk.cells (by omega) ?_
  simp only [Nat.zero_add]
  go_wp2_with fail
  refine (fewmsg_is true w1 f k fr dst v h x c s r ix tg s9 r10 s13 t15 (MM.out.later X1.out.below) HM.out HF.out).mono ?_
  rintro e w2 ⟨rfl, hb⟩
  have X2 := Lib.hid (X1.out.on hb)
  clear hb X1
  go_wp2_with (with_reducible refine hold_load (.tmp 1) rfl ?_)
  refine wpl_load (.tmp 1) g 0 21 21 f rfl rfl (by rfl) (agg_msg _) (size_msg _) X2.out.blk.cells (by omega) ?_
  simp only [Nat.zero_add]
  go_wp2_with fail
  refine (msg_is B w2 f k fr dst v h x c s r ix tg s9 r10 s13 t15 (MM.out.later X2.out.below) HSM.out HB.out).mono ?_
  rintro e w3 ⟨rfl, hb⟩
  have X3 := Lib.hid (X2.out.on hb)
  clear hb X2
  go_wp2_with fail
  refine (read_msg B HBZ.out w3).mono ?_
  rintro e w4 ⟨he, hb⟩
  rw [HRD.out] at he
  have X4 := Lib.hid (X3.out.on hb)
  have Z34 := Lib.hid hb.size
  clear hb X3
  obtain ⟨f', lo, hi, rfl, _, _, hR⟩ := he
  have HR := Lib.hid hR
  obtain ⟨u9, u10, u13, u15, hMA⟩ := msgR_cells hR
  have MA4 := Lib.hid hMA
  clear hR hMA
  go_wp2_with (with_reducible refine hold_store (.tmp 4) (.tmp 19) rfl ?_)
  obtain ⟨y, hy⟩ : ∃ y, w4.heap.size = y := ⟨_, rfl⟩
  have k0 : Blk (w4.alloc (.cells #[.int .i64 0, .int .i64 0, .int .i64 0, .int .i64 0, .string ⟨#[]⟩, .int .i64 0, .int .i64 0, .int .i64 0, .string ⟨#[]⟩, .slice none 0 0, .slice none 0 0, .int .i64 0, .string ⟨#[]⟩, .slice none 0 0, .int .i64 0, .slice none 0 0, .int .i64 0, .int .i64 0, .string ⟨#[]⟩, .int .i64 0, .string ⟨#[]⟩] 52)) y 21 zM := Blk.new' hy.symm zM_row
  have b0 := (Below.refl w4.heap.size w4).alloc (Nat.le_refl _) (.cells #[.int .i64 0, .int .i64 0, .int .i64 0, .int .i64 0, .string ⟨#[]⟩, .int .i64 0, .int .i64 0, .int .i64 0, .string ⟨#[]⟩, .slice none 0 0, .slice none 0 0, .int .i64 0, .string ⟨#[]⟩, .slice none 0 0, .int .i64 0, .slice none 0 0, .int .i64 0, .int .i64 0, .string ⟨#[]⟩, .int .i64 0, .string ⟨#[]⟩] 52)
  have X5 := Lib.hid (X4.out.on b0)
  have GY := Lib.hid (show g ≠ y by rw [← hy]; exact Nat.ne_of_lt X4.out.blk.lt)
  have WY := Lib.hid (show w.heap.size ≤ y by rw [← hy]; exact X4.out.below.size)
  have B45 := Lib.hid b0
  have HY := Lib.hid hy
  clear X4 b0
  rw [hy]
  generalize w4.alloc (.cells #[.int .i64 0, .int .i64 0, .int .i64 0, .int .i64 0, .string ⟨#[]⟩, .int .i64 0, .int .i64 0, .int .i64 0, .string ⟨#[]⟩, .slice none 0 0, .slice none 0 0, .int .i64 0, .string ⟨#[]⟩, .slice none 0 0, .int .i64 0, .slice none 0 0, .int .i64 0, .int .i64 0, .string ⟨#[]⟩, .int .i64 0, .string ⟨#[]⟩] 52) = w5 at *
  refine wpl_store (.tmp 4) (.tmp 19) y 0 21 21 zM f' rfl rfl (by rfl) (by rfl) (size_msg _) k0 (by omega) (msg_one HR.out) ?_
  intro w6 h6
  have K6 := Lib.hid (h6.1.congr f' fun i hi => by simp [hi])
  have X6 := Lib.hid (X5.out.upd h6.2 WY.out GY.out)
  have B46 := Lib.hid (B45.out.trans (h6.2.below (show w4.heap.size ≤ y by rw [HY.out]; exact Nat.le_refl _)))
  clear h6 k0 X5 B45 hy
  go_wp2_with (with_reducible refine hold_load (.tmp 1) rfl ?_)
  refine wpl_load (.tmp 1) g 0 21 21 f rfl rfl (by rfl) (agg_msg _) (size_msg _) X6.out.blk.cells (by omega) ?_
  simp only [Nat.zero_add]
  go_wp2_with fail
  refine (rmsg_is B w6 f k fr dst v h x c s r ix tg s9 r10 s13 t15 (MM.out.later X6.out.below) HSM.out HB.out).mono ?_
  rintro e w7 ⟨rfl, hb⟩
  have X7 := Lib.hid (X6.out.on hb)
  have K7 := Lib.hid (K6.out.below hb K6.out.lt)
  have B47 := Lib.hid (B46.out.trans (hb.mono B46.out.size))
  clear hb X6 K6 B46
  go_wp2_with (with_reducible refine hold_load (.tmp 1) rfl ?_)
  refine wpl_load (.tmp 1) g 0 21 21 f rfl rfl (by rfl) (agg_msg _) (size_msg _) X7.out.blk.cells (by omega) ?_
  simp only [Nat.zero_add]
  go_wp2_with fail
  refine (rightmsg_is false w7 f k fr dst v h x c s r ix tg s9 r10 s13 t15 (MM.out.later X7.out.below) HM.out HRT.out).mono ?_
  rintro e w8 ⟨rfl, hb⟩
  have X8 := Lib.hid (X7.out.on hb)
  have K8 := Lib.hid (K7.out.below hb K7.out.lt)
  have B48 := Lib.hid (B47.out.trans (hb.mono B47.out.size))
  clear hb X7 K7 B47
  go_wp2_with (with_reducible refine hold_load (.tmp 4) rfl ?_)
  refine wpl_not (by rfl) ?_
  go_wp2_with (with_reducible refine hold_load (.tmp 4) rfl ?_)
  refine wpl_load_w (.tmp 4) y 0 21 21 f' (by rfl) rfl (by rfl) (agg_msg _) (size_msg _) K8.out.cells (by omega) ?_
  simp only [Nat.zero_add]
  go_wp2_with fail
  refine (rightmsg_is true w8 f' d.1.1.1.1.1.1.1.1.1.1 d.1.1.1.1.1.1.1.1.1.2 d.1.1.1.1.1.1.1.1.2 d.1.1.1.1.1.1.1.2 d.1.1.1.1.1.1.2 (d.1.1.1.1.1.2.getD noB) (d.1.1.1.1.2.getD noC) (d.1.1.1.2.getD noS) (d.1.1.2.getD noR) d.1.2 d.2 _ _ _ _ (MA4.out.later B48.out) (right_smallM RF.out.1).2 (rightMsg_iff.2 RF.out.1)).mono ?_
  rintro e w9 ⟨rfl, hb⟩
  have X9 := Lib.hid (X8.out.on hb)
  have K9 := Lib.hid (K8.out.below hb K8.out.lt)
  have B49 := Lib.hid (B48.out.trans (hb.mono B48.out.size))
  clear hb X8 K8 B48
  go_wp2_with (with_reducible refine hold_load (.tmp 4) rfl ?_)
  refine wpl_load_w (.tmp 4) y 0 21 21 f' (by rfl) rfl (by rfl) (agg_msg _) (size_msg _) K9.out.cells (by omega) ?_
  simp only [Nat.zero_add]
  go_wp2_with fail
  refine (rmsg_is B w9 f' d.1.1.1.1.1.1.1.1.1.1 d.1.1.1.1.1.1.1.1.1.2 d.1.1.1.1.1.1.1.1.2 d.1.1.1.1.1.1.1.2 d.1.1.1.1.1.1.2 (d.1.1.1.1.1.2.getD noB) (d.1.1.1.1.2.getD noC) (d.1.1.1.2.getD noS) (d.1.1.2.getD noR) d.1.2 d.2 _ _ _ _ (MA4.out.later B49.out) (right_smallM RF.out.1).1 HBD.out).mono ?_
  rintro e w10 ⟨rfl, hb⟩
  have X10 := Lib.hid (X9.out.on hb)
  clear hb X9
  go_wp2_with fail
  go_ret
  exact ⟨rfl, X10.out.below⟩
theorem msgs_walk (w : World) (f : Nat → Value) (k fr dst v : Int) (h : ByteArray) (x : BlockD) (c : CertD) (s : Int × List ByteArray) (r : Int × Int × ByteArray) (ix : Int) (tg : ByteArray) (s9 r10 s13 t15 : Value)
    (M : MsgAt w f k fr dst v h x c s r ix tg s9 r10 s13 t15) (hm : MemM x c s) :
    Calls Try.prog 8 #[.agg (row 21 f)] w fun e w' => e = .returned (.bool true) ∧ Below w.heap.size w w' := by
  rcases hf : fewMsg h tg x c s r with _ | _
  · exact msgs_many w f k fr dst v h x c s r ix tg s9 r10 s13 t15 M hm hf
  · rcases hr : rightMsg k fr dst v h x c s r ix tg with _ | _
    · rcases hrd : msgRd (msgB k fr dst v h x c s r ix tg) with _ | d
      · exact msgs_none w f k fr dst v h x c s r ix tg s9 r10 s13 t15 M hm hf hr hrd
      · exact msgs_other w f k fr dst v h x c s r ix tg s9 r10 s13 t15 M hm hf hr d hrd
    · exact msgs_right w f k fr dst v h x c s r ix tg s9 r10 s13 t15 M hm hf hr
end Go.Proofs.Ytacnbpmoceocbaa
