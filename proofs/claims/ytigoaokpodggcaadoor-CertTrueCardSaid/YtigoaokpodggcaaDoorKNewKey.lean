/-
  The walk of New with a key.
-/
import Derived.Test.YtigoaokpodggcaaDoorKMixed
import Derived.Test.YtigoaokpodggcaaDoorKLOpen
import Derived.Test.YtigoaokpodggcaaDoorKWAppR
section
open Go Go.RowKit
namespace BB
/-- the cells of a digest on its way -/
def dgc (h : Nat → BitVec 32) (B : Nat → Nat) (fl be : Nat) : Nat → Value := fun i =>
  if i < 8 then cw .u32 h i else if i < 72 then cb B (i - 8) else if i = 72 then .int .i64 (fl : Int) else .int .u64 (be : Int)
section
variable {b n : Nat} {f : Nat → Value} {w w1 w2 w3 : World}
end
section
variable {P : Program} {ops : Array Oper} {Q : Exit → Act → World → Prop} {a : Act} {w : World} {rest : List Oper} {o : Oper}
theorem stl_load_as {K : Act → Prop} {T : TypeId} (ad : Operand) (b off N m : Nat) (f g : Nat → Value) (hg : o.guard = none) (ho : o.op = .load T ad) (ha : a.eval ad = .pointer (some ⟨b, off, none⟩))
    (hT : (isAgg T).run P w = .ok true w) (hS : (Go.sizeOf T).run P w = .ok m w) (hb : Cells w b N f) (hN : off + m ≤ N) (e : ∀ i, i < m → f (off + i) = g i)
    (hK : wpStill P ops w K rest (a.put o.dst (.agg (row m g)))) : wpStill P ops w K (o :: rest) a :=
  stl_load ad b off N m f hg ho ha hT hS hb hN (by rw [row_congr m _ g e]; exact hK)
theorem wpl_load_as {T : TypeId} (ad : Operand) (b off N m : Nat) (f g : Nat → Value) (hg : o.guard = none) (ho : o.op = .load T ad) (ha : a.eval ad = .pointer (some ⟨b, off, none⟩))
    (hT : (isAgg T).run P w = .ok true w) (hS : (Go.sizeOf T).run P w = .ok m w) (hb : Cells w b N f) (hN : off + m ≤ N) (e : ∀ i, i < m → f (off + i) = g i)
    (hK : wpList P ops Q rest (a.put o.dst (.agg (row m g))) w) : wpList P ops Q (o :: rest) a w :=
  wpl_load ad b off N m f hg ho ha hT hS hb hN (by rw [row_congr m _ g e]; exact hK)
end
theorem dgc_w (h : Nat → BitVec 32) (B : Nat → Nat) (fl be : Nat) : ∀ i, i < 8 → dgc h B fl be (0 + i) = cw .u32 h i := fun i hi => by simp [dgc, hi]
theorem dgc_b (h : Nat → BitVec 32) (B : Nat → Nat) (fl be : Nat) : ∀ i, i < 64 → dgc h B fl be (8 + i) = cb B i := fun i hi => by
  unfold dgc; rw [if_neg (by omega), if_pos (by omega)]; congr 1; omega
theorem dgc_put_be (h : Nat → BitVec 32) (B : Nat → Nat) (fl be x : Nat) : ∀ i, i < 74 → put (dgc h B fl be) 73 (.int .u64 (x : Int)) i = dgc h B fl x i := fun i hi => by
  unfold put dgc
  by_cases e : i = 73
  · subst e; simp
  · rw [if_neg e]; split; rfl; split; rfl; split; rfl; omega
theorem dgc_put_fl (h : Nat → BitVec 32) (B : Nat → Nat) (fl be x : Nat) : ∀ i, i < 74 → put (dgc h B fl be) 72 (.int .i64 (x : Int)) i = dgc h B x be i := fun i hi => by
  unfold put dgc
  by_cases e : i = 72
  · subst e; simp
  · simp only [if_neg e]
theorem dgc_set_w (h h' : Nat → BitVec 32) (B : Nat → Nat) (fl be : Nat) : ∀ i, i < 74 → (if 0 ≤ i ∧ i < 0 + 8 then cw .u32 h' (i - 0) else dgc h B fl be i) = dgc h' B fl be i := fun i hi => by
  unfold dgc
  by_cases e : i < 8
  · simp [e]
  · rw [if_neg (by omega), if_neg e, if_neg e]
theorem dgc_set_b (h : Nat → BitVec 32) (B B' : Nat → Nat) (fl be : Nat) : ∀ i, i < 74 → (if 8 ≤ i ∧ i < 8 + 64 then cb B' (i - 8) else dgc h B fl be i) = dgc h B' fl be i := fun i hi => by
  unfold dgc
  by_cases e : 8 ≤ i ∧ i < 72
  · rw [if_pos (by omega), if_neg (by omega), if_pos (by omega)]
  · simp only [show ¬ (8 ≤ i ∧ i < 8 + 64) by omega, if_false]
    by_cases e1 : i < 8
    · simp [e1]
    · have e2 : ¬ i < 72 := by omega
      simp [e1, e2]
end BB
namespace Go.Proofs.YtigoaokpodggcaaDoor
open BB
/-- a block that is none of the tables' -/
def NoTab (b : Nat) : Prop := b ≠ 0 ∧ b ≠ 1 ∧ b ≠ 2
theorem Tabs.keep {w w' : World} {b : Nat} (h : Tabs w) (hk : Keep b w w') (hb : NoTab b) : Tabs w' :=
  ⟨h.iv.keep hk h.l1 (Ne.symm hb.1), h.sg.keep hk h.l2 (Ne.symm hb.2.1), h.pl.keep hk h.l3 (Ne.symm hb.2.2), Nat.lt_of_lt_of_le h.l1 hk.size, Nat.lt_of_lt_of_le h.l2 hk.size, Nat.lt_of_lt_of_le h.l3 hk.size⟩
set_option maxRecDepth 100000 in
set_option maxHeartbeats 1000000 in
theorem next_any (b : Nat) (h : Nat → BitVec 32) (B : Nat → Nat) (hB : ∀ i, B i < 256) (fl be : Nat) (hbe : be + 64 < 18446744073709551616) (w : World) (hd : Blk w b 74 (dgc h B fl be)) (hT : Tabs w) (hb : NoTab b) :
    Calls Tryd.prog 93 #[.pointer (some ⟨b, 0, none⟩)] w fun e w' => e = .returned (.tuple #[]) ∧ Keep b w w' ∧ Blk w' b 74 (dgc (comp h B (be + 64) false) (fun _ => 0) 0 (be + 64)) := by
  have HB := Lib.hid hB
  have HT := Lib.hid hT
  have HN := Lib.hid hbe
  have HT' := Lib.hid hb
  have HD := Lib.hid hd
  have c73 : w.cell? ⟨b, 73, none⟩ = some (.int .u64 (be : Int)) := hd.get 73 (by omega)
  have f73 := hd.frz 73
  have w73 : IntKind.u64.wrap ((be : Int) + 64) = (be : Int) + 64 := by rw [IntKind.wrap_u64]; omega
  clear hB hT hbe hd hb
  go_enter Tryd.func93, Tryd.ntmps93
  go_wp2_with fail
  refine abs_wp (fun w' => Keep b w w' ∧ Blk w' b 74 (dgc h B fl (be + 64))) ⟨(Upd.set _ _ _ _).keep, ((HD.out.set 73 _).congr _ (dgc_put_be h B fl be (be + 64)))⟩ ?_
  clear c73 f73 w73
  rintro w1 ⟨k1, d1⟩
  refine order_abs [0] [1, 2, 3, 4, 5, 6, 7, 8, 9, 10, 11, 12] 13 [14, 15, 16] (by kernel_rfl) (by kernel_rfl) (fun _ _ d _ _ h => by cases d <;> exact h) fun w2 hs => ?_
  simp only [pick, List.filterMap, List.getElem?_toArray, List.getElem?_cons_zero, List.getElem?_cons_succ]
  refine ⟨_, Or.inl ⟨by rfl, fun _ => rfl⟩, ?_⟩
  have k2 := k1.trans (hs.upd b).keep
  have d2 := d1.same hs
  have c73 : w2.cell? ⟨b, 73, none⟩ = some (.int .u64 ((be + 64 : Nat) : Int)) := d2.get 73 (by omega)
  clear hs k1 d1
  clear w1
  have D2 := Lib.hid d2
  clear d2
  repeat still_step
  refine stl_load_as (.tmp 12) b 0 74 8 _ (cw .u32 h) rfl rfl rfl (agg_w8 _) (size_w8 _) D2.out.cells (by omega) (dgc_w h B fl (be + 64)) ?_
  repeat still_step
  refine stl_load_as (.tmp 16) b 8 74 64 _ (cb B) rfl rfl rfl (agg_b64 _) (size_b64 _) D2.out.cells (by omega) (dgc_b h B fl (be + 64)) ?_
  repeat still_step
  refine wpStill_nil ?_
  clear c73
  go_wp2_with (first
    | (go_at_call 94; refine (mixed_any h B HB.out (be + 64) HN.out false _ (HT.out.keep k2 HT'.out)).mono ?_; rintro e w3 ⟨rfl, hb3⟩)
    | with_reducible refine hold_store (.tmp 24) (.tmp 22) rfl ?_)
  refine wpl_store (.tmp 24) (.tmp 22) b 0 74 8 (dgc h B fl (be + 64)) (cw .u32 (comp h B (be + 64) false)) rfl rfl rfl rfl (size_w8 _) (D2.out.below hb3 D2.out.lt) (by omega) (fun _ _ => rfl) ?_
  intro w4 h4
  have k4 := (k2.trans (keep_of_below hb3 (Nat.le_refl _) b)).trans h4.2.keep
  have D4 := Lib.hid (h4.1.congr (dgc (comp h B (be + 64) false) B fl (be + 64)) (dgc_set_w h (comp h B (be + 64) false) B fl (be + 64)))
  clear h4 hb3 D2 k2
  clear w2 w3
  go_wp2_with (with_reducible refine hold_store (.tmp 28) (.tmp 26) rfl ?_)
  refine wpl_store (.tmp 28) (.tmp 26) b 8 74 64 (dgc (comp h B (be + 64) false) B fl (be + 64)) (cb fun _ => 0) rfl rfl rfl rfl (size_b64 _) D4.out (by omega) (fun _ _ => rfl) ?_
  intro w5 h5
  have k5 := k4.trans h5.2.keep
  have D5 := Lib.hid (h5.1.congr (dgc (comp h B (be + 64) false) (fun _ => 0) fl (be + 64)) (dgc_set_b (comp h B (be + 64) false) B (fun _ => 0) fl (be + 64)))
  clear h5 D4 k4
  clear w4
  have c72 : w5.cell? ⟨b, 72, none⟩ = some (.int .i64 (fl : Int)) := D5.out.get 72 (by omega)
  have f72 := D5.out.frz 72
  go_wp2_with fail
  go_end0
  exact ⟨rfl, k5.trans (Upd.set _ _ _ _).keep, (D5.out.set 72 _).congr _ (dgc_put_fl _ _ _ _ 0)⟩
end Go.Proofs.YtigoaokpodggcaaDoor
end
section
open Go Go.RowKit
namespace Go.Proofs.YtigoaokpodggcaaDoor
open BB
/-- block b is the digest s -/
def Dg (w : World) (b : Nat) (s : St) : Prop := Blk w b 74 (dgc s.h s.B s.fl s.be)
theorem Dg.fl {w : World} {b : Nat} {s : St} (h : Dg w b s) : w.cell? ⟨b, 72, none⟩ = some (.int .i64 (s.fl : Int)) := h.get 72 (by omega)
theorem under_bytes (w : World) : (underlying 39).run Tryd.prog w = .ok (.slice 5) w := by kernel_rfl
theorem under_b64 (w : World) : (underlying 121).run Tryd.prog w = .ok (.array 64 5) w := by kernel_rfl
theorem size_byte (w : World) : (Go.sizeOf 5).run Tryd.prog w = .ok 1 w := by kernel_rfl
theorem extract_drop (r str : ByteArray) (k n : Nat) (hr : r.data.toList = str.data.toList.drop k) : (r.extract n r.size).data.toList = str.data.toList.drop (k + n) := by
  have : (r.extract n r.size).data = r.data.extract n r.size := by simp
  rw [this, Array.toList_extract, List.extract_eq_take_drop, hr, List.drop_drop]
  apply List.take_of_length_le
  have h1 : r.data.toList.length = (str.data.toList.drop k).length := by rw [hr]
  simp only [List.length_drop, Array.length_toList] at h1 ⊢
  show _ ≤ r.data.size - n
  omega
theorem sb_take (l : List UInt8) (n i : Nat) (h : i < n) : sb (l.take n) i = sb l i := by simp [sb, h]
theorem dgc_chunk (h : Nat → BitVec 32) (B : Nat → Nat) (fl be n : Nat) (l : List UInt8) (hn : fl + n ≤ 64) : ∀ i, i < 74 →
    put (fun j => if 8 + fl ≤ j ∧ j < 8 + fl + n then cb (sb l) (j - (8 + fl)) else dgc h B fl be j) 72 (.int .i64 ((fl : Int) + (n : Int))) i =
      dgc h (fun j => if fl ≤ j ∧ j < fl + n then sb (l.take n) (j - fl) else B j) (fl + n) be i := fun i hi => by
  by_cases e : i = 72
  · subst e; rw [put_same]; simp [dgc]
  · rw [put_other _ _ e]
    by_cases h1 : 8 + fl ≤ i ∧ i < 8 + fl + n
    · rw [if_pos h1]
      unfold dgc
      rw [if_neg (by omega), if_pos (by omega)]
      unfold cb
      dsimp only
      rw [if_pos (by omega), sb_take _ _ _ (by omega), show i - (8 + fl) = i - 8 - fl by omega]
    · rw [if_neg h1]
      unfold dgc
      by_cases h2 : i < 8
      · simp [h2]
      · by_cases h3 : i < 72
        · rw [if_neg h2, if_pos h3, if_neg h2, if_pos h3]
          unfold cb
          dsimp only
          rw [if_neg (by omega)]
        · rw [if_neg h2, if_neg h3, if_neg e, if_neg h2, if_neg h3, if_neg e]
theorem write_step {r str : ByteArray} {k n b : Nat} {s S T : St} {w4 w5 : World} (hr : r.data.toList = str.data.toList.drop k) (hS : S = s.feed (str.data.toList.take k)) (hT : T = S.next) (hfl : S.fl ≤ 64)
    (hn : n = min r.size (64 - T.fl)) (h0 : 0 < n) (hnr : n ≤ r.size) (h64 : T.fl < 64)
    (h5 : MS w4 b 74 (put (fun j => if 8 + T.fl ≤ j ∧ j < 8 + T.fl + n then cb (sb r.data.toList) (j - (8 + T.fl)) else dgc T.h T.B T.fl T.be j) 72 (.int .i64 ((T.fl : Int) + (n : Int)))) w5) :
    Dg w5 b (s.feed (str.data.toList.take (k + n))) := by
  have hl : (r.data.toList.take n).length = n := by
    rw [List.length_take, Array.length_toList]; exact Nat.min_eq_left hnr
  have hne : r.data.toList.take n ≠ [] := fun e => by rw [e] at hl; simp at hl; omega
  have e1 : s.feed (str.data.toList.take (k + n)) = T.feed (r.data.toList.take n) := by
    rw [List.take_add, St.feed_append, ← hS, ← hr, St.feed_next S hfl _ hne, ← hT]
  rw [e1, St.feed_chunk _ T (by rw [hl]; omega), hl]
  exact h5.1.congr _ (dgc_chunk T.h T.B T.fl T.be n r.data.toList (by omega))
set_option maxRecDepth 100000 in
set_option maxHeartbeats 1000000 in
theorem write_any (b : Nat) (s : St) (L : Nat) (hs : s.Ok L) (str : ByteArray) (hl : L + str.size < 4611686018427387904) (w : World) (hd : Dg w b s) (hT : Tabs w) (hb : NoTab b) :
    Calls Tryd.prog 75 #[.pointer (some ⟨b, 0, none⟩), .string str] w fun e w' => e = .returned (.tuple #[]) ∧ Keep b w w' ∧ Dg w' b (s.feed str.data.toList) := by
  have HS := Lib.hid hs
  have HL := Lib.hid hl
  have HD := Lib.hid hd
  have HT := Lib.hid hT
  have HB := Lib.hid hb
  clear hs hl hd hT hb
  go_enter Tryd.func75, Tryd.ntmps75
  go_wp2_with fail
  go_loopw [1] (fun bs wr => ∃ (k : Nat) (r : ByteArray), k ≤ str.size ∧ bs = .string r ∧ r.data.toList = str.data.toList.drop k ∧ Keep b w wr ∧ Dg wr b (s.feed (str.data.toList.take k))) (fun bs _ => sizeV bs)
  case atStart => exact ⟨0, str, by omega, rfl, by simp, Keep.refl _ _, by simpa [St.feed_nil] using HD.out⟩
  case round =>
    obtain ⟨k, r, hk, rfl, hr, hkeep, hdg⟩ := hrel
    have hsz : r.size = str.size - k := by
      have := congrArg List.length hr
      simpa using this
    have ok := HS.out.feed (str.data.toList.take k)
    have hlen : (str.data.toList.take k).length = k := by simp; omega
    rw [hlen] at ok
    obtain ⟨S, hS⟩ : ∃ S, S = s.feed (str.data.toList.take k) := ⟨_, rfl⟩
    rw [← hS] at hdg ok
    have HR := Lib.hid hr
    have HSS := Lib.hid hS
    have HZ := Lib.hid hsz
    have HDG := Lib.hid hdg
    have OK := Lib.hid ok
    clear hr hS hlen ok
    by_cases hz : k < str.size
    · have hr0 : (0 : Int) < (r.size : Int) := by omega
      have hr1 : (r.size : Int) ≤ 4611686018427387904 := by have := HL.out; omega
      have c72 := hdg.fl
      clear hsz hdg
      by_cases hf : S.fl = 64
      · have hf' : ((S.fl : Int) == 64) = true := by rw [hf]; rfl
        have hbe : S.be + 64 < 18446744073709551616 := by have := OK.out.tot; have := HL.out; omega
        have HF := Lib.hid hf
        have CALL := Lib.hid (next_any b S.h S.B OK.out.B S.fl S.be hbe wr)
        clear hf hbe
        go_wp2_with (go_at_call 93; refine (CALL.out HDG.out (HT.out.keep hkeep HB.out) HB.out).mono ?_; rintro e w1 ⟨rfl, hk1, hd1⟩)
        clear c72
        refine abs_wp (fun w' => Keep b w w' ∧ Dg w' b S.next) ⟨hkeep.trans hk1, by unfold St.next; rw [if_pos HF.out]; exact hd1⟩ ?_
        clear hd1 hk1 CALL
        clear w1
        rintro w2 ⟨hk2, hd2⟩
        have hT64 := St.next_fl S OK.out.fl
        have HNX := Lib.hid OK.out.next
        obtain ⟨T, hT⟩ : ∃ T, T = S.next := ⟨_, rfl⟩
        rw [← hT] at hd2 hT64
        rw [← hT] at HNX
        have HTT := Lib.hid hT
        clear hT
        have hT64' : (T.fl : Int) < 64 := by omega
        refine tail_abs 9 (by kernel_rfl) (by kernel_rfl) fun w3 hs3 => ?_
        simp only [List.take_succ_cons, List.take_zero, List.drop_succ_cons, List.drop_zero]
        have d3 : Dg w3 b T := hd2.same hs3
        have k3 := hk2.trans (hs3.upd b).keep
        have c72 := d3.fl
        have D3 := Lib.hid d3
        clear hs3 hk2 hd2 d3 hf'
        clear w2
        repeat still_step
        refine stl_slice (.tmp 17) (.tmp 21) b 8 T.fl rfl rfl rfl rfl (under_b64 _) (size_byte _) hT64 ?_
        repeat still_step
        refine wpStill_nil ?_
        obtain ⟨n, hn⟩ : ∃ n, n = min r.size (64 - T.fl) := ⟨_, rfl⟩
        refine wpl_copy_str (.tmp 22) (.tmp 23) b (8 + T.fl) 74 (64 - T.fl) (64 - T.fl) n (dgc T.h T.B T.fl T.be) r rfl rfl rfl rfl (under_bytes _) (size_byte _) D3.out (by omega) hn ?_
        intro w4 h4
        have c4 : w4.cell? ⟨b, 72, none⟩ = some (.int .i64 (T.fl : Int)) := by
          have := h4.1.get 72 (by omega)
          rw [if_neg (by omega)] at this
          exact this
        have f4 := h4.1.frz 72
        have n1 : (n : Int) ≤ 64 := by omega
        have n2 : 0 < n := by omega
        have n3 : (n : Int) ≤ (r.size : Int) := by omega
        have n4 : n ≤ r.size := by omega
        have s4 : IntKind.i64.wrap ((T.fl : Int) + (n : Int)) = (T.fl : Int) + (n : Int) := IntWalk.i64_in _ (by omega)
        have HN := Lib.hid hn
        clear hn c72
        have D5 := write_step HR.out HSS.out HTT.out OK.out.fl HN.out n2 n4 hT64 (h4.set 72 (.int .i64 ((T.fl : Int) + (n : Int))))
        go_wp2_with fail
        have e1 := extract_drop r str k n HR.out
        have e2 : (r.extract n r.size).size < r.size := by rw [ByteArray.size_extract]; omega
        refine ⟨⟨k + n, r.extract n r.size, by have := HZ.out; omega, rfl, e1, (k3.trans h4.2.keep).trans (Upd.set _ _ _ _).keep, D5⟩, e2⟩
      · have hf' : ((S.fl : Int) == 64) = false := by
          rw [beq_eq_false_iff_ne]; omega
        have HF := Lib.hid hf
        clear hf
        go_wp2_with fail
        clear c72
        refine abs_wp (fun w' => Keep b w w' ∧ Dg w' b S.next) ⟨hkeep, by unfold St.next; rw [if_neg HF.out]; exact HDG.out⟩ ?_
        rintro w2 ⟨hk2, hd2⟩
        have hT64 := St.next_fl S OK.out.fl
        have HNX := Lib.hid OK.out.next
        obtain ⟨T, hT⟩ : ∃ T, T = S.next := ⟨_, rfl⟩
        rw [← hT] at hd2 hT64
        rw [← hT] at HNX
        have HTT := Lib.hid hT
        clear hT
        have hT64' : (T.fl : Int) < 64 := by omega
        refine tail_abs 9 (by kernel_rfl) (by kernel_rfl) fun w3 hs3 => ?_
        simp only [List.take_succ_cons, List.take_zero, List.drop_succ_cons, List.drop_zero]
        have d3 : Dg w3 b T := hd2.same hs3
        have k3 := hk2.trans (hs3.upd b).keep
        have c72 := d3.fl
        have D3 := Lib.hid d3
        clear hs3 hk2 hd2 d3 hf'
        clear w2
        repeat still_step
        refine stl_slice (.tmp 17) (.tmp 21) b 8 T.fl rfl rfl rfl rfl (under_b64 _) (size_byte _) hT64 ?_
        repeat still_step
        refine wpStill_nil ?_
        obtain ⟨n, hn⟩ : ∃ n, n = min r.size (64 - T.fl) := ⟨_, rfl⟩
        refine wpl_copy_str (.tmp 22) (.tmp 23) b (8 + T.fl) 74 (64 - T.fl) (64 - T.fl) n (dgc T.h T.B T.fl T.be) r rfl rfl rfl rfl (under_bytes _) (size_byte _) D3.out (by omega) hn ?_
        intro w4 h4
        have c4 : w4.cell? ⟨b, 72, none⟩ = some (.int .i64 (T.fl : Int)) := by
          have := h4.1.get 72 (by omega)
          rw [if_neg (by omega)] at this
          exact this
        have f4 := h4.1.frz 72
        have n1 : (n : Int) ≤ 64 := by omega
        have n2 : 0 < n := by omega
        have n3 : (n : Int) ≤ (r.size : Int) := by omega
        have n4 : n ≤ r.size := by omega
        have s4 : IntKind.i64.wrap ((T.fl : Int) + (n : Int)) = (T.fl : Int) + (n : Int) := IntWalk.i64_in _ (by omega)
        have HN := Lib.hid hn
        clear hn c72
        have D5 := write_step HR.out HSS.out HTT.out OK.out.fl HN.out n2 n4 hT64 (h4.set 72 (.int .i64 ((T.fl : Int) + (n : Int))))
        go_wp2_with fail
        have e1 := extract_drop r str k n HR.out
        have e2 : (r.extract n r.size).size < r.size := by rw [ByteArray.size_extract]; omega
        refine ⟨⟨k + n, r.extract n r.size, by have := HZ.out; omega, rfl, e1, (k3.trans h4.2.keep).trans (Upd.set _ _ _ _).keep, D5⟩, e2⟩
    · have hr0 : ¬ (0 : Int) < (r.size : Int) := by omega
      clear hsz
      go_wp2_with fail
      go_end0
      refine ⟨rfl, hkeep, ?_⟩
      have := HDG.out
      rw [HSS.out, List.take_of_length_le (by simp; omega)] at this
      exact this
end Go.Proofs.YtigoaokpodggcaaDoor
end
section
open Go Go.RowKit
namespace BB
def obyte (v : Nat → BitVec 32) (i : Nat) : Nat := (v (i / 4)).toNat / 2 ^ (8 * (i % 4)) % 256
def ostep (v : Nat → BitVec 32) : Nat → Nat → Nat
  | 0 => fun _ => 0
  | k + 1 => put (ostep v k) k (obyte v k)
theorem ostep_lt (v : Nat → BitVec 32) (k i : Nat) (h : i < k) : ostep v k i = obyte v i := by
  induction k with
  | zero => omega
  | succ k ih =>
    show put (ostep v k) k (obyte v k) i = _
    by_cases e : i = k
    · subst e; rw [put_same]
    · rw [put_other _ _ e]; exact ih (by omega)
/-- the digest's text -/
def outL (v : Nat → BitVec 32) : List UInt8 := (List.range 32).map fun i => UInt8.ofNat (obyte v i)
def outS (v : Nat → BitVec 32) : ByteArray := ⟨(outL v).toArray⟩
/-- the words behind all that was written -/
def St.done (s : St) : Nat → BitVec 32 := comp s.h s.B (s.be + s.fl) true
theorem out_conv {P : Program} {w : World} {src dst e ob : Nat} {v : Nat → BitVec 32} (hs : P.underlying src = some (.slice e)) (he : P.underlying e = some (.int .u8)) (hd : P.underlying dst = some .string)
    (hb : Blk w ob 32 (cb (ostep v 32))) : (convert src dst (.slice (some ⟨ob, 0, none⟩) 32 32)).run P w = .ok (.string (outS v)) w := by
  have h := run_convert_bytes_arg (P := P) w src e hs he ob 0 32 32 ((List.range 32).map fun i => (obyte v i : Int)) (by simp) (fun i hi => by
    rw [Nat.zero_add, hb.get i hi]
    unfold cb
    rw [ostep_lt v 32 i hi]
    simp [hi]) dst hd
  rw [h]
  have : strOfNums ((List.range 32).map fun i => (obyte v i : Int)) = outS v := by
    unfold outS outL strOfNums
    simp [List.map_map, Function.comp_def]
  rw [this]
end BB
namespace Go.Proofs.YtigoaokpodggcaaDoor
open BB
theorem Dg.be {w : World} {b : Nat} {s : St} (h : Dg w b s) : w.cell? ⟨b, 73, none⟩ = some (.int .u64 (s.be : Int)) := h.get 73 (by omega)
theorem under_b32 (w : World) : (underlying 125).run Tryd.prog w = .ok (.array 32 5) w := by kernel_rfl
structure SumAt (v : Nat → BitVec 32) (w : World) (wb ob k : Nat) (w' : World) : Prop where
  below : Below w.heap.size w w'
  words : Blk w' wb 8 (cw .u32 v)
  out : Blk w' ob 32 (cb (ostep v k))
  l1 : w.heap.size ≤ wb
  l2 : w.heap.size ≤ ob
  ne : wb ≠ ob
theorem SumAt.next {v : Nat → BitVec 32} {w : World} {wb ob k : Nat} {w' : World} (h : SumAt v w wb ob k w') (q r : Nat) (hq : q = k / 4) (hr : r = k % 4) :
    SumAt v w wb ob (k + 1) (w'.setCell ⟨ob, k, none⟩ (.int .u8 (((v q).toNat : Int) / 2 ^ (8 * r) % 256))) := by
  refine ⟨h.below.setCell h.l2 _, h.words.set_other _ _ h.ne, ?_, h.l1, h.l2, h.ne⟩
  have e : Value.int .u8 (((v q).toNat : Int) / 2 ^ (8 * r) % 256) = .int .u8 ((obyte v k : Nat) : Int) := by
    subst hq; subst hr; unfold obyte; congr 1
  rw [e]
  exact (h.out.set k _).congr _ fun i _ => by
    show put (cb (ostep v k)) k _ i = cb (put (ostep v k) k (obyte v k)) i
    unfold cb put; split <;> rfl
set_option maxRecDepth 100000 in
set_option maxHeartbeats 1000000 in
theorem dsum_any (b : Nat) (s : St) (L : Nat) (hs : s.Ok L) (hl : L < 4611686018427387904) (w : World) (hd : Dg w b s) (hT : Tabs w) (hb : NoTab b) :
    Calls Tryd.prog 76 #[.pointer (some ⟨b, 0, none⟩)] w fun e w' => e = .returned (.string (outS s.done)) ∧ Below w.heap.size w w' := by
  have HS := Lib.hid hs
  have HL := Lib.hid hl
  have HD := Lib.hid hd
  have HT := Lib.hid hT
  have HB := Lib.hid hb
  clear hs hl hd hT hb
  go_enter Tryd.func76, Tryd.ntmps76
  go_wp2_with fail
  have hlt := HD.out.lt
  refine call_alloc (a1 := ?a1) [0, 1, 2, 3, 4, 5, 6, 7, 8, 9, 10, 11, 12, 13, 14, 15, 16, 17] 18 19 20 _ _ _ 94 8 #[.agg (row 8 (cw .u32 s.h)), .agg (row 64 (cb s.B)), .int .u64 ((s.be + s.fl : Nat) : Int), .bool true] (cw .u32 s.done) _ 120 120 24 3
    (by kernel_rfl) (by kernel_rfl) (fun _ _ d _ _ h => by cases d <;> exact h) rfl rfl rfl rfl rfl rfl rfl rfl rfl (by decide) (fun w2 hs2 => ?_) ?_ ?_ ?_ rfl (fun w' => ?_) ⟨fun _ => .int .u32 0, rfl⟩ ?_ rfl size_w8 (fun _ _ => rfl) ?_
  rotate_left 1
  · simp only [pick, List.filterMap, List.getElem?_toArray, List.getElem?_cons_zero, List.getElem?_cons_succ]
    have D2 : Dg w2 b s := HD.out.same hs2
    refine held_step (.pointer (some ⟨b, 0, none⟩)) rfl (fun _ _ => rfl) ?_
    refine held_step (.pointer (some ⟨b, 0, none⟩)) rfl (fun _ _ => rfl) ?_
    simp only [Act.put, List.setIfInBounds_toArray, List.set_cons_zero, List.set_cons_succ]
    refine held_step (.pointer (some ⟨b, 0, none⟩)) rfl (fun _ _ => by go_simp) ?_
    simp only [Act.put, List.setIfInBounds_toArray, List.set_cons_zero, List.set_cons_succ]
    refine held_step (.agg (row 8 (cw .u32 s.h))) rfl (fun w' hS => ?_) ?_
    · rw [← row_congr 8 _ _ (dgc_w s.h s.B s.fl s.be)]
      exact run_op_load rfl rfl (agg_w8 _) (size_w8 _) (Blk.cells (Blk.below D2 hS (Blk.lt D2))) (by omega)
    simp only [Act.put, List.setIfInBounds_toArray, List.set_cons_zero, List.set_cons_succ]
    refine held_step (.pointer (some ⟨b, 0, none⟩)) rfl (fun _ _ => rfl) ?_
    refine held_step (.pointer (some ⟨b, 0, none⟩)) rfl (fun _ _ => rfl) ?_
    simp only [Act.put, List.setIfInBounds_toArray, List.set_cons_zero, List.set_cons_succ]
    refine held_step (.pointer (some ⟨b, 8, none⟩)) rfl (fun _ _ => by go_simp) ?_
    simp only [Act.put, List.setIfInBounds_toArray, List.set_cons_zero, List.set_cons_succ]
    refine held_step (.agg (row 64 (cb s.B))) rfl (fun w' hS => ?_) ?_
    · rw [← row_congr 64 _ _ (dgc_b s.h s.B s.fl s.be)]
      exact run_op_load rfl rfl (agg_b64 _) (size_b64 _) (Blk.cells (Blk.below D2 hS (Blk.lt D2))) (by omega)
    simp only [Act.put, List.setIfInBounds_toArray, List.set_cons_zero, List.set_cons_succ]
    refine held_step (.pointer (some ⟨b, 0, none⟩)) rfl (fun _ _ => rfl) ?_
    refine held_step (.pointer (some ⟨b, 0, none⟩)) rfl (fun _ _ => rfl) ?_
    simp only [Act.put, List.setIfInBounds_toArray, List.set_cons_zero, List.set_cons_succ]
    refine held_step (.pointer (some ⟨b, 73, none⟩)) rfl (fun _ _ => by go_simp) ?_
    simp only [Act.put, List.setIfInBounds_toArray, List.set_cons_zero, List.set_cons_succ]
    refine held_step (.int .u64 (s.be : Int)) rfl (fun w' hS => ?_) ?_
    · have c73 := Dg.be (show Dg w' b s from Blk.below D2 hS (Blk.lt D2))
      go_simp
    simp only [Act.put, List.setIfInBounds_toArray, List.set_cons_zero, List.set_cons_succ]
    refine held_step (.pointer (some ⟨b, 0, none⟩)) rfl (fun _ _ => rfl) ?_
    refine held_step (.pointer (some ⟨b, 0, none⟩)) rfl (fun _ _ => rfl) ?_
    simp only [Act.put, List.setIfInBounds_toArray, List.set_cons_zero, List.set_cons_succ]
    refine held_step (.pointer (some ⟨b, 72, none⟩)) rfl (fun _ _ => by go_simp) ?_
    simp only [Act.put, List.setIfInBounds_toArray, List.set_cons_zero, List.set_cons_succ]
    refine held_step (.int .i64 (s.fl : Int)) rfl (fun w' hS => ?_) ?_
    · have c72 := Dg.fl (show Dg w' b s from Blk.below D2 hS (Blk.lt D2))
      go_simp
    simp only [Act.put, List.setIfInBounds_toArray, List.set_cons_zero, List.set_cons_succ]
    refine held_step (.int .u64 (s.fl : Int)) rfl (fun w' hS => ?_) ?_
    · have u1 : IntKind.u64.wrap (s.fl : Int) = (s.fl : Int) := by have := HS.out.fl; rw [IntKind.wrap_u64]; omega
      go_simp
    simp only [Act.put, List.setIfInBounds_toArray, List.set_cons_zero, List.set_cons_succ]
    refine held_step (.int .u64 ((s.be + s.fl : Nat) : Int)) rfl (fun w' hS => ?_) ?_
    · have u2 : IntKind.u64.wrap ((s.be : Int) + (s.fl : Int)) = ((s.be + s.fl : Nat) : Int) := by have := HS.out.tot; have := HL.out; rw [IntKind.wrap_u64]; omega
      go_simp
    simp only [Act.put, List.setIfInBounds_toArray, List.set_cons_zero, List.set_cons_succ]
    exact rfl
  · intro w'; go_simp
  · intro p w'; go_simp
  · intro w2 w' hs2 hb
    have hb0 : Below w.heap.size w w' := (hs2.below _).trans (hs2.heap ▸ hb)
    exact mixed_any s.h s.B HS.out.B (s.be + s.fl) (by have := HS.out.tot; have := HL.out; omega) true w' (HT.out.below hb0 (Nat.le_refl _))
  · go_simp
    rfl
  · intro p; exact ⟨rfl, rfl⟩
  · intro p w' hb hp hblk
    go_wp2_with fail
    have hl8 := hblk.lt
    refine abs_wp (fun w2 => SumAt s.done w p w'.heap.size 0 w2) ⟨hb.alloc hb.size _, hblk.alloc _, Blk.new' rfl rfl, hp, hb.size, by omega⟩ ?_
    clear hblk hlt hl8
    generalize w'.heap.size = ob
    intro w2 h2
    go_loopw [25] (fun i wr => ∃ k : Nat, k ≤ 32 ∧ i = .int .i64 k ∧ SumAt s.done w p ob k wr) (fun i _ => 32 - (intOf i).toNat)
    case atStart => exact ⟨0, by omega, rfl, h2⟩
    case round =>
      clear h2
      obtain ⟨k, hk, rfl, hr⟩ := hrel
      by_cases hlt : k < 32
      · have hlt' : (k : Int) < 32 := by omega
        obtain ⟨q, hq⟩ : ∃ q, q = k / 4 := ⟨_, rfl⟩
        obtain ⟨r, hr4⟩ : ∃ r, r = k % 4 := ⟨_, rfl⟩
        have q1 : (k : Int) / 4 = (q : Int) := by omega
        have q2 : (q : Int) < 8 := by omega
        have r1 : (k : Int) % 4 = (r : Int) := by omega
        have r2 : (r : Int) < 4 := by omega
        have cw1 : wr.cell? ⟨p, q, none⟩ = some (.int .u32 ((s.done q).toNat : Int)) := hr.words.get q (by omega)
        have co := hr.out.get k hlt
        have fo := hr.out.frz k
        unfold cb at co
        have HQ := Lib.hid hq
        have HR := Lib.hid hr4
        clear hq hr4
        go_wp2_with fail
        go_roundw
        case rel => exact ⟨k + 1, by omega, by go_num, hr.next q r HQ.out HR.out⟩
        case measure => simp [intOf]; omega
      · obtain rfl : k = 32 := by omega
        have hconv := out_conv (P := Tryd.prog) (w := wr) (src := 39) (dst := 9) (e := 5) (by kernel_rfl) (by kernel_rfl) (by kernel_rfl) hr.out
        go_wp2_with fail
        go_ret
        exact ⟨rfl, hr.below⟩
end Go.Proofs.YtigoaokpodggcaaDoor
end
section
open Go Go.RowKit
namespace BB
/-- how the words begin, by the key's length -/
def h0 (n : Nat) : Nat → BitVec 32 := put iv 0 (iv 0 ^^^ (0x01010020 ^^^ BitVec.ofNat 32 (n * 256)))
/-- a digest that begins with the key l, of at most 32 bytes -/
def st0 (l : List UInt8) : St := if l = [] then ⟨h0 0, fun _ => 0, 0, 0⟩ else ⟨h0 l.length, fun j => if j < l.length then sb l j else 0, 64, 0⟩
theorem st0_ok (l : List UInt8) : (st0 l).Ok (if l = [] then 0 else 64) := by
  unfold st0
  split
  · exact ⟨by show 0 ≤ 64; omega, fun _ => by show 0 < 256; omega, rfl⟩
  · refine ⟨Nat.le_refl _, fun i => ?_, rfl⟩
    show (if i < l.length then sb l i else 0) < 256
    split
    · exact sb_lt _ _
    · omega
theorem xor_h0 (n : Nat) (hn : n ≤ 32) : Value.int .u32 (bits .xor .u32 ((iv 0).toNat : Int) (bits .xor .u32 16842784 ((n : Int) * 256))) = .int .u32 ((iv 0 ^^^ (0x01010020 ^^^ BitVec.ofNat 32 (n * 256))).toNat : Int) := by
  have e1 : ((n : Int) * 256) = ((BitVec.ofNat 32 (n * 256)).toNat : Int) := by rw [BitVec.toNat_ofNat]; omega
  have e2 : (16842784 : Int) = ((0x01010020 : BitVec 32).toNat : Int) := rfl
  rw [e1, e2, bvxor, bvxor]
theorem dgc_put0 (h : Nat → BitVec 32) (B : Nat → Nat) (fl be : Nat) (x : BitVec 32) (u : Value) (hu : u = .int .u32 (x.toNat : Int)) : ∀ i, i < 74 → put (dgc h B fl be) 0 u i = dgc (put h 0 x) B fl be i := fun i _ => by
  subst hu
  unfold put dgc
  by_cases e : i = 0
  · subst e; simp [cw]
  · simp only [if_neg e]
    by_cases e8 : i < 8
    · simp [e8, cw, e]
    · simp [e8]
section
variable {P : Program} {ops : Array Oper} {Q : Exit → Act → World → Prop} {a : Act} {w : World} {rest : List Oper} {o : Oper}
theorem wpl_build1 {T i : Nat} (x : Operand) (v0 v : Value) (hg : o.guard = none) (ho : o.op = .build T #[(i, x)]) (hx : a.eval x = v0) (h : (Instr.build T #[(i, v0)]).run P w = .ok v w)
    (hK : wpList P ops Q rest (a.put o.dst v) w) : wpList P ops Q (o :: rest) a w := by
  refine wpl_value hg ?_ hK
  unfold execOp
  simp only [ho, Sem.run_bind, Sem.run_pure, List.map_toArray, List.map_cons, List.map_nil, hx, h, Result.andThen_ok]
end
end BB
namespace Go.Proofs.YtigoaokpodggcaaDoor
open BB
theorem build_digest (w : World) : (Instr.build 123 #[(0, .agg (row 8 (cw .u32 iv)))]).run Tryd.prog w = .ok (.agg (row 74 (dgc iv (fun _ => 0) 0 0))) w := by kernel_rfl
set_option maxRecDepth 100000 in
set_option maxHeartbeats 1000000 in
theorem new_none (w : World) (hT : Tabs w) :
    Calls Tryd.prog 74 #[.string ⟨#[]⟩] w fun e w' => e = .returned (.pointer (some ⟨w.heap.size, 0, none⟩)) ∧ Below w.heap.size w w' ∧ Dg w' w.heap.size (st0 []) := by
  have HT := Lib.hid hT
  have B0 := Lib.hid (build_digest w)
  clear hT
  go_enter Tryd.func74, Tryd.ntmps74
  go_wp2_with (with_reducible refine hold_load (Operand.global 0) rfl ?_)
  refine wpl_load_as (Operand.global 0) 0 0 8 8 _ (cw .u32 iv) rfl rfl rfl (agg_w8 _) (size_w8 _) HT.out.iv (by omega) (fun i hi => by rw [Nat.zero_add]) ?_
  refine wpl_build1 (.tmp 9) _ _ rfl rfl rfl B0.out ?_
  go_wp2_with fail
  refine abs_wp (fun w' => Below w.heap.size w w' ∧ Blk w' w.heap.size 74 (dgc iv (fun _ => 0) 0 0)) ⟨(Below.refl _ _).alloc (Nat.le_refl _) _, Blk.new' rfl rfl⟩ ?_
  rintro w1 ⟨b1, d1⟩
  refine tail_abs 14 (by kernel_rfl) (by kernel_rfl) fun w2 hs2 => ?_
  simp only [List.take_succ_cons, List.take_zero, List.drop_succ_cons, List.drop_zero]
  have d2 := d1.same hs2
  have b2 := b1.trans (hs2.below _)
  have c0 : w2.cell? ⟨w.heap.size, 0, none⟩ = some (.int .u32 ((iv 0).toNat : Int)) := d2.get 0 (by omega)
  have f0 := d2.frz 0
  clear hs2 b1 d1
  clear w1
  repeat still_step
  refine wpStill_nil ?_
  go_wp2_with fail
  go_ret
  refine ⟨rfl, b2.setCell (Nat.le_refl _) _, ?_⟩
  exact (d2.set 0 _).congr (dgc (h0 0) (fun _ => 0) 0 0) (dgc_put0 iv (fun _ => 0) 0 0 _ _ (show Value.int .u32 (bits .xor .u32 ((iv 0).toNat : Int) (bits .xor .u32 16842784 0)) = _ from xor_h0 0 (by omega)))
end Go.Proofs.YtigoaokpodggcaaDoor
end
section
open Go Go.RowKit
namespace BB
theorem wstep_congr (B B' : Nat → Nat) (k : Nat) (h : ∀ j, j < k → B j = B' j) : wstep B k = wstep B' k := by
  induction k with
  | zero => rfl
  | succ k ih =>
    show put (wstep B k) (k / 4) _ = put (wstep B' k) (k / 4) _
    rw [ih (fun j hj => h j (by omega)), h k (by omega)]
theorem comp_congr (w : Nat → BitVec 32) (B B' : Nat → Nat) (n : Nat) (last : Bool) (h : ∀ j, j < 64 → B j = B' j) : comp w B n last = comp w B' n last := by
  unfold comp; rw [wstep_congr B B' 64 h]
/-- the k-th block of the bytes b -/
def rblk (b : Nat → Nat) (k : Nat) : Nat → Nat := fun j => b (64 * k + j)
/-- the words behind k blocks, none of which was the last one -/
def rwords (n : Nat) (b : Nat → Nat) : Nat → Nat → BitVec 32
  | 0 => h0 n
  | k + 1 => comp (rwords n b k) (rblk b k) (64 * (k + 1)) false
theorem rwords_congr (n : Nat) (b b' : Nat → Nat) (k : Nat) (h : ∀ j, j < 64 * k → b j = b' j) : rwords n b k = rwords n b' k := by
  induction k with
  | zero => rfl
  | succ k ih =>
    show comp _ _ _ _ = comp _ _ _ _
    rw [ih (fun j hj => h j (by omega))]
    exact comp_congr _ _ _ _ _ fun j hj => h _ (by omega)
theorem sb_append_lt (A : List UInt8) (c : UInt8) (j : Nat) (h : j < A.length) : sb (A ++ [c]) j = sb A j := by
  simp [sb, List.getElem?_append_left h]
theorem sb_append_at (A : List UInt8) (c : UInt8) : sb (A ++ [c]) A.length = c.toNat := by simp [sb]
theorem sb_ge (A : List UInt8) (j : Nat) (h : A.length ≤ j) : sb A j = 0 := by simp [sb, List.getElem?_eq_none h]
/-- s is what the bytes A make of an empty digest -/
def FedAs (n : Nat) (A : List UInt8) (s : St) : Prop :=
  ∃ m, s.h = rwords n (sb A) m ∧ s.be = 64 * m ∧ A.length = 64 * m + s.fl ∧ s.fl ≤ 64 ∧ (m = 0 ∨ 0 < s.fl) ∧ ∀ j, s.B j = if j < s.fl then sb A (64 * m + j) else 0
theorem fed_nil (n : Nat) : FedAs n [] ⟨h0 n, fun _ => 0, 0, 0⟩ := ⟨0, rfl, rfl, rfl, Nat.zero_le _, Or.inl rfl, fun j => by simp⟩
theorem fed_add (n : Nat) (A : List UInt8) (c : UInt8) (s : St) (h : FedAs n A s) : FedAs n (A ++ [c]) (s.add c) := by
  obtain ⟨m, hh, hb, hl, hf, hm, hB⟩ := h
  by_cases e : s.fl = 64
  · have hn : s.next = ⟨comp s.h s.B (s.be + 64) false, fun _ => 0, 0, s.be + 64⟩ := by unfold St.next; rw [if_pos e]
    have ha : s.add c = ⟨comp s.h s.B (s.be + 64) false, put (fun _ => 0) 0 c.toNat, 1, s.be + 64⟩ := by unfold St.add; rw [hn]
    rw [ha]
    refine ⟨m + 1, ?_, ?_, ?_, by show 1 ≤ 64; omega, Or.inr (by show 0 < 1; omega), fun j => ?_⟩
    · show comp s.h s.B (s.be + 64) false = comp (rwords n (sb (A ++ [c])) m) (rblk (sb (A ++ [c])) m) (64 * (m + 1)) false
      rw [hh, hb, rwords_congr n (sb A) (sb (A ++ [c])) m (fun j hj => (sb_append_lt A c j (by omega)).symm)]
      refine comp_congr _ _ _ _ _ fun j hj => ?_
      rw [hB, if_pos (by omega)]
      exact (sb_append_lt A c _ (by omega)).symm
    · show s.be + 64 = 64 * (m + 1); omega
    · show (A ++ [c]).length = 64 * (m + 1) + 1; simp; omega
    · show put (fun _ => 0) 0 c.toNat j = if j < 1 then sb (A ++ [c]) (64 * (m + 1) + j) else 0
      by_cases hj : j = 0
      · subst hj
        rw [put_same, if_pos (by omega), show 64 * (m + 1) + 0 = A.length by omega, sb_append_at]
      · rw [put_other _ _ hj, if_neg (by omega)]
  · have hn : s.next = s := by unfold St.next; rw [if_neg e]
    have ha : s.add c = ⟨s.h, put s.B s.fl c.toNat, s.fl + 1, s.be⟩ := by unfold St.add; rw [hn]
    rw [ha]
    refine ⟨m, ?_, hb, ?_, by show s.fl + 1 ≤ 64; omega, Or.inr (by show 0 < s.fl + 1; omega), fun j => ?_⟩
    · show s.h = _
      rw [hh]
      exact rwords_congr n (sb A) (sb (A ++ [c])) m (fun j hj => (sb_append_lt A c j (by omega)).symm)
    · show (A ++ [c]).length = 64 * m + (s.fl + 1); simp; omega
    · show put s.B s.fl c.toNat j = if j < s.fl + 1 then sb (A ++ [c]) (64 * m + j) else 0
      by_cases hj : j = s.fl
      · subst hj
        rw [put_same, if_pos (by omega), ← hl, sb_append_at]
      · rw [put_other _ _ hj, hB]
        by_cases h2 : j < s.fl
        · rw [if_pos h2, if_pos (by omega), sb_append_lt A c _ (by omega)]
        · rw [if_neg h2, if_neg (by omega)]
theorem fed_feed (n : Nat) (l : List UInt8) : ∀ (A : List UInt8) (s : St), FedAs n A s → FedAs n (A ++ l) (s.feed l) := by
  induction l with
  | nil => intro A s h; simpa [St.feed] using h
  | cons c l ih =>
    intro A s h
    have := ih (A ++ [c]) (s.add c) (fed_add n A c s h)
    rw [List.append_assoc, List.singleton_append] at this
    exact this
/-- the words that the reference makes of the bytes A -/
def rdone (n : Nat) (A : List UInt8) : Nat → BitVec 32 := comp (rwords n (sb A) ((A.length - 1) / 64)) (rblk (sb A) ((A.length - 1) / 64)) A.length true
theorem fed_done (n : Nat) (A : List UInt8) (s : St) (h : FedAs n A s) : s.done = rdone n A := by
  obtain ⟨m, hh, hb, hl, hf, hm, hB⟩ := h
  have e : (A.length - 1) / 64 = m := by omega
  unfold St.done rdone
  rw [e, hh, hb, ← hl]
  refine comp_congr _ _ _ _ _ fun j hj => ?_
  rw [hB]
  show _ = sb A (64 * m + j)
  by_cases h2 : j < s.fl
  · rw [if_pos h2]
  · rw [if_neg h2, sb_ge A _ (by omega)]
/-- the key's block -/
def kblock (l : List UInt8) : List UInt8 := if l = [] then [] else l ++ List.replicate (64 - l.length) 0
theorem fed_st0 (l : List UInt8) (h32 : l.length ≤ 32) : FedAs l.length (kblock l) (st0 l) := by
  by_cases h : l = []
  · subst h
    exact fed_nil 0
  · have e1 : kblock l = l ++ List.replicate (64 - l.length) 0 := by unfold kblock; rw [if_neg h]
    have e2 : st0 l = ⟨h0 l.length, fun j => if j < l.length then sb l j else 0, 64, 0⟩ := by unfold st0; rw [if_neg h]
    rw [e1, e2]
    refine ⟨0, rfl, rfl, by simp; omega, Nat.le_refl _, Or.inl rfl, fun j => ?_⟩
    show (if j < l.length then sb l j else 0) = if j < 64 then sb (l ++ List.replicate (64 - l.length) 0) (64 * 0 + j) else 0
    rw [Nat.mul_zero, Nat.zero_add]
    by_cases h1 : j < l.length
    · rw [if_pos h1, if_pos (by omega)]
      simp [sb, List.getElem?_append_left h1]
    · rw [if_neg h1]
      by_cases h2 : j < 64
      · rw [if_pos h2]
        have h3 : j - l.length < 64 - l.length := by omega
        simp [sb, List.getElem?_append_right (show l.length ≤ j by omega), h3]
      · rw [if_neg h2]
/-- the digest is the reference's -/
theorem done_eq (key b : List UInt8) (h32 : key.length ≤ 32) : ((st0 key).feed b).done = rdone key.length (kblock key ++ b) :=
  fed_done _ _ _ (fed_feed _ b _ _ (fed_st0 key h32))
end BB
end
section
open Go Go.RowKit
namespace BB
theorem conv4 {P : Program} (w : World) (src dst e : TypeId) (hs : P.underlying src = some (.slice e)) (he : P.underlying e = some (.int .u8)) (hd : P.underlying dst = some .string) (a b c d : Int) :
    (convert src dst (.slice (some ⟨w.heap.size, 0, none⟩) 4 4)).run P (w.alloc (.cells #[.int .u8 a, .int .u8 b, .int .u8 c, .int .u8 d] e)) = .ok (.string (strOfNums [a, b, c, d])) (w.alloc (.cells #[.int .u8 a, .int .u8 b, .int .u8 c, .int .u8 d] e)) := by
  refine run_convert_bytes_arg _ src e hs he _ 0 4 4 [a, b, c, d] rfl (fun i hi => ?_) dst hd
  have hn : (w.alloc (.cells #[.int .u8 a, .int .u8 b, .int .u8 c, .int .u8 d] e)).heap[w.heap.size]? = some (.cells #[.int .u8 a, .int .u8 b, .int .u8 c, .int .u8 d] e) := by show (w.heap.push _)[w.heap.size]? = _; simp
  rw [Nat.zero_add]
  match i, hi with
  | 0, _ => unfold World.cell?; rw [hn]; rfl
  | 1, _ => unfold World.cell?; rw [hn]; rfl
  | 2, _ => unfold World.cell?; rw [hn]; rfl
  | 3, _ => unfold World.cell?; rw [hn]; rfl
/-- a word's four bytes, the lowest first -/
def quad (x : BitVec 32) : ByteArray := ⟨#[UInt8.ofNat (x.toNat % 256), UInt8.ofNat (x.toNat / 256 % 256), UInt8.ofNat (x.toNat / 65536 % 256), UInt8.ofNat (x.toNat / 16777216 % 256)]⟩
theorem quad_nums (x : BitVec 32) : strOfNums [(x.toNat : Int) % 256, (x.toNat : Int) / 256 % 256, (x.toNat : Int) / 65536 % 256, (x.toNat : Int) / 16777216] = quad x := by
  have hx := x.isLt
  unfold quad strOfNums
  generalize x.toNat = n at *
  have e1 : ((n : Int) / 16777216).toNat = n / 16777216 % 256 := by omega
  have e2 : ((n : Int) / 65536 % 256).toNat = n / 65536 % 256 := by omega
  have e3 : ((n : Int) / 256 % 256).toNat = n / 256 % 256 := by omega
  have e4 : ((n : Int) % 256).toNat = n % 256 := by omega
  simp only [List.map_cons, List.map_nil, e1, e2, e3, e4]
theorem outL_len (v : Nat → BitVec 32) : (outL v).length = 32 := by simp [outL]
theorem outL_get (v : Nat → BitVec 32) (i : Nat) (h : i < 32) : (outL v)[i]? = some (UInt8.ofNat (obyte v i)) := by
  simp [outL, h]
theorem quad_take (v : Nat → BitVec 32) (k : Nat) (h : k < 8) : (outL v).take (4 * k) ++ (quad (v k)).data.toList = (outL v).take (4 * (k + 1)) := by
  have hl := outL_len v
  apply List.ext_getElem?
  intro j
  by_cases h1 : j < 4 * k
  · rw [List.getElem?_append_left (by simp; omega), List.getElem?_take_of_lt h1, List.getElem?_take_of_lt (by omega)]
  · rw [List.getElem?_append_right (by simp; omega)]
    have ht : (List.take (4 * k) (outL v)).length = 4 * k := by simp; omega
    rw [ht]
    by_cases h2 : j < 4 * (k + 1)
    · rw [List.getElem?_take_of_lt h2, outL_get v j (by omega)]
      have hc : j - 4 * k = 0 ∨ j - 4 * k = 1 ∨ j - 4 * k = 2 ∨ j - 4 * k = 3 := by omega
      rcases hc with h3 | h3 | h3 | h3
      · have : j = 4 * k := by omega
        subst this
        simp [quad, obyte, show 4 * k / 4 = k by omega]
      · obtain rfl : j = 4 * k + 1 := by omega
        simp [quad, obyte, show (4 * k + 1) / 4 = k by omega, show (4 * k + 1) % 4 = 1 by omega]
      · obtain rfl : j = 4 * k + 2 := by omega
        simp [quad, obyte, show (4 * k + 2) / 4 = k by omega, show (4 * k + 2) % 4 = 2 by omega]
      · obtain rfl : j = 4 * k + 3 := by omega
        simp [quad, obyte, show (4 * k + 3) / 4 = k by omega, show (4 * k + 3) % 4 = 3 by omega]
    · rw [List.getElem?_eq_none (by simp [quad]; omega), List.getElem?_eq_none (by simp; omega)]
theorem out_take8 (v : Nat → BitVec 32) : (⟨((outL v).take (4 * 8)).toArray⟩ : ByteArray) = outS v := by
  unfold outS; rw [List.take_of_length_le (by simp [outL])]
theorem quad_snoc (v : Nat → BitVec 32) (k : Nat) (h : k < 8) : Value.string (⟨((outL v).take (4 * k)).toArray⟩ ++ quad (v k)) = .string ⟨((outL v).take (4 * (k + 1))).toArray⟩ := by
  congr 1
  apply ByteArray.ext
  apply Array.toList_inj.1
  rw [← quad_take v k h]
  simp
end BB
end
section
open Go Go.RowKit
namespace BB
theorem st0_key (l : List UInt8) (h : l ≠ []) : st0 l = ⟨h0 l.length, fun j => if j < l.length then sb l j else 0, 64, 0⟩ := by unfold st0; rw [if_neg h]
theorem dgc_key (l : List UInt8) (n : Nat) (hn : l.length = n) (h32 : n ≤ 32) : ∀ i, i < 74 → put (fun j => if 8 ≤ j ∧ j < 8 + n then cb (sb l) (j - 8) else dgc (h0 n) (fun _ => 0) 0 0 j) 72 (.int .i64 64) i =
    dgc (h0 l.length) (fun j => if j < l.length then sb l j else 0) 64 0 i := fun i hi => by
  rw [hn]
  by_cases e : i = 72
  · subst e; rw [put_same]; simp [dgc]
  · rw [put_other _ _ e]
    by_cases h1 : 8 ≤ i ∧ i < 8 + n
    · rw [if_pos h1]
      unfold dgc
      rw [if_neg (by omega), if_pos (by omega)]
      unfold cb
      dsimp only
      rw [if_pos (by omega)]
    · rw [if_neg h1]
      unfold dgc
      by_cases h2 : i < 8
      · simp [h2]
      · by_cases h3 : i < 72
        · rw [if_neg h2, if_pos h3, if_neg h2, if_pos h3]
          unfold cb
          dsimp only
          rw [if_neg (by omega)]
        · rw [if_neg h2, if_neg h3, if_neg e, if_neg h2, if_neg h3, if_neg e]
section
variable {P : Program} {ops : Array Oper} {Q : Exit → Act → World → Prop} {a : Act} {w : World} {rest : List Oper} {o : Oper}
theorem hold_slice {T : TypeId} {x : Operand} {p q r : Option Operand} (_ho : o.op = .slice T x p q r) (h : Held (wpList P ops Q (o :: rest) a w)) : wpList P ops Q (o :: rest) a w := h
theorem wpl_slice_all {t n e : Nat} (x : Operand) (b off : Nat) (hg : o.guard = none) (ho : o.op = .slice t x none none none) (hx : a.eval x = .pointer (some ⟨b, off, none⟩))
    (hU : (underlying t).run P w = .ok (.array n e) w) (hS : (Go.sizeOf e).run P w = .ok 1 w)
    (hK : wpList P ops Q rest (a.put o.dst (.slice (some ⟨b, off, none⟩) n n)) w) : wpList P ops Q (o :: rest) a w := by
  refine wpl_value hg ?_ hK
  have := run_slice_all (P := P) (b := b) (off := off) hU hS
  unfold execOp
  simp only [ho, Option.map_none, hx, Sem.run_bind, this, Result.andThen_ok, Sem.run_pure]
end
end BB
namespace Go.Proofs.YtigoaokpodggcaaDoor
open BB
set_option maxRecDepth 100000 in
set_option maxHeartbeats 2000000 in
theorem new_short (K : ByteArray) (h0k : 0 < K.size) (h32 : K.size ≤ 32) (w : World) (hT : Tabs w) :
    Calls Tryd.prog 74 #[.string K] w fun e w' => e = .returned (.pointer (some ⟨w.heap.size, 0, none⟩)) ∧ Below w.heap.size w w' ∧ Dg w' w.heap.size (st0 K.data.toList) := by
  have HT := Lib.hid hT
  have B0 := Lib.hid (build_digest w)
  have s1 : ¬ (32 : Int) < (K.size : Int) := by omega
  have s2 : (0 : Int) < (K.size : Int) := by omega
  have H0 := Lib.hid h0k
  have H32 := Lib.hid h32
  clear hT h0k h32
  go_enter Tryd.func74, Tryd.ntmps74
  go_wp2_with (with_reducible refine hold_load (Operand.global 0) rfl ?_)
  refine wpl_load_as (Operand.global 0) 0 0 8 8 _ (cw .u32 iv) rfl rfl rfl (agg_w8 _) (size_w8 _) HT.out.iv (by omega) (fun i hi => by rw [Nat.zero_add]) ?_
  refine wpl_build1 (.tmp 9) _ _ rfl rfl rfl B0.out ?_
  go_wp2_with fail
  refine abs_wp (fun w' => Below w.heap.size w w' ∧ Blk w' w.heap.size 74 (dgc iv (fun _ => 0) 0 0)) ⟨(Below.refl _ _).alloc (Nat.le_refl _) _, Blk.new' rfl rfl⟩ ?_
  rintro w1 ⟨b1, d1⟩
  refine tail_abs 14 (by kernel_rfl) (by kernel_rfl) fun w2 hs2 => ?_
  simp only [List.take_succ_cons, List.take_zero, List.drop_succ_cons, List.drop_zero]
  have d2 := d1.same hs2
  have b2 := b1.trans (hs2.below _)
  have c0 : w2.cell? ⟨w.heap.size, 0, none⟩ = some (.int .u32 ((iv 0).toNat : Int)) := d2.get 0 (by omega)
  have f0 := d2.frz 0
  have m1 : IntKind.u32.wrap (K.size : Int) = (K.size : Int) := by have := H32.out; rw [IntKind.wrap_u32']; omega
  have m2 : IntKind.u32.wrap ((K.size : Int) * 256) = (K.size : Int) * 256 := by have := H32.out; rw [IntKind.wrap_u32']; omega
  clear hs2 b1 d1
  clear w1
  repeat still_step
  refine wpStill_nil ?_
  clear m1 m2
  go_wp2_with (with_reducible refine hold_slice rfl ?_)
  refine abs_list (fun w' => Below w.heap.size w w' ∧ Blk w' w.heap.size 74 (dgc (h0 K.size) (fun _ => 0) 0 0)) ⟨b2.setCell (Nat.le_refl _) _, (d2.set 0 _).congr (dgc (h0 K.size) (fun _ => 0) 0 0) (dgc_put0 iv (fun _ => 0) 0 0 _ _ (xor_h0 K.size H32.out))⟩ ?_
  clear c0 f0 d2 b2
  clear w2
  rintro w1 ⟨b1, d1⟩
  refine wpl_slice_all (.tmp 31) w.heap.size 8 rfl rfl (by rfl) (under_b64 _) (size_byte _) ?_
  go_wp2_with (with_reducible refine hold_copy rfl ?_)
  refine wpl_copy_str (.tmp 32) (.tmp 33) w.heap.size 8 74 64 64 K.size (dgc (h0 K.size) (fun _ => 0) 0 0) K rfl rfl (by rfl) (by rfl) (under_bytes _) (size_byte _) d1 (by have := H32.out; omega) (by have := H32.out; omega) ?_
  intro w4 h4
  have c4 : w4.cell? ⟨w.heap.size, 72, none⟩ = some (.int .i64 0) := by
    have h32 := H32.out
    have := h4.1.get 72 (by omega)
    rw [if_neg (by omega)] at this
    exact this
  have f4 := h4.1.frz 72
  have hl : K.data.toList.length = K.size := by simp
  have D5 := Lib.hid ((h4.1.set 72 (.int .i64 64)).congr _ (dgc_key K.data.toList K.size hl H32.out))
  clear hl
  go_wp2_with fail
  go_ret
  refine ⟨rfl, (b1.trans (h4.2.below (Nat.le_refl _))).setCell (Nat.le_refl _) _, ?_⟩
  have hne : K.data.toList ≠ [] := fun e => by
    have h0 := H0.out
    have : K.data.toList.length = K.size := by simp
    rw [e] at this
    simp at this
    omega
  rw [st0_key _ hne]
  exact D5.out
end Go.Proofs.YtigoaokpodggcaaDoor
end
