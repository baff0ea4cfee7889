/-
  The walk of Write: bytes behind those that are there.
-/
import Derived.Test.YtfbjjlejmcpphaaDoorDig
import Derived.Test.YtfbjjlejmcpphaaDoorStr
open Go Go.RowKit
namespace Go.Proofs.YtfbjjlejmcpphaaDoor
open BB
/-- block b is the digest s -/
def Dg (w : World) (b : Nat) (s : St) : Prop := Blk w b 74 (dgc s.h s.B s.fl s.be)
theorem Dg.fl {w : World} {b : Nat} {s : St} (h : Dg w b s) : w.cell? ⟨b, 72, none⟩ = some (.int .i64 (s.fl : Int)) := h.get 72 (by omega)
theorem under_bytes (w : World) : (underlying 38).run Tryd.prog w = .ok (.slice 5) w := by kernel_rfl
theorem under_b64 (w : World) : (underlying 62).run Tryd.prog w = .ok (.array 64 5) w := by kernel_rfl
theorem size_byte (w : World) : (Go.sizeOf 5).run Tryd.prog w = .ok 1 w := by kernel_rfl
theorem extract_drop (r str : ByteArray) (k n : Nat) (hr : r.data.toList = str.data.toList.drop k) : (r.extract n r.size).data.toList = str.data.toList.drop (k + n) := by
  have : (r.extract n r.size).data = r.data.extract n r.size := by simp
  rw [this, Array.toList_extract, List.extract_eq_take_drop, hr, List.drop_drop]
  apply List.take_of_length_le
  have h1 : r.data.toList.length = (str.data.toList.drop k).length := by rw [hr]
  simp only [List.length_drop, Array.length_toList] at h1 ⊢
  show _ ≤ r.data.size - n
  omega
theorem sb_take (l : List UInt8) (n i : Nat) (h : i < n) : sb (l.take n) i = sb l i := by simp [sb, h]
theorem dgc_chunk (h : Nat → BitVec 32) (B : Nat → Nat) (fl be n : Nat) (l : List UInt8) (hn : fl + n ≤ 64) : ∀ i, i < 74 →
    put (fun j => if 8 + fl ≤ j ∧ j < 8 + fl + n then cb (sb l) (j - (8 + fl)) else dgc h B fl be j) 72 (.int .i64 ((fl : Int) + (n : Int))) i =
      dgc h (fun j => if fl ≤ j ∧ j < fl + n then sb (l.take n) (j - fl) else B j) (fl + n) be i := fun i hi => by
  by_cases e : i = 72
  · subst e; rw [put_same]; simp [dgc]
  · rw [put_other _ _ e]
    by_cases h1 : 8 + fl ≤ i ∧ i < 8 + fl + n
    · rw [if_pos h1]
      unfold dgc
      rw [if_neg (by omega), if_pos (by omega)]
      unfold cb
      dsimp only
      rw [if_pos (by omega), sb_take _ _ _ (by omega), show i - (8 + fl) = i - 8 - fl by omega]
    · rw [if_neg h1]
      unfold dgc
      by_cases h2 : i < 8
      · simp [h2]
      · by_cases h3 : i < 72
        · rw [if_neg h2, if_pos h3, if_neg h2, if_pos h3]
          unfold cb
          dsimp only
          rw [if_neg (by omega)]
        · rw [if_neg h2, if_neg h3, if_neg e, if_neg h2, if_neg h3, if_neg e]
theorem write_step {r str : ByteArray} {k n b : Nat} {s S T : St} {w4 w5 : World} (hr : r.data.toList = str.data.toList.drop k) (hS : S = s.feed (str.data.toList.take k)) (hT : T = S.next) (hfl : S.fl ≤ 64)
    (hn : n = min r.size (64 - T.fl)) (h0 : 0 < n) (hnr : n ≤ r.size) (h64 : T.fl < 64)
    (h5 : MS w4 b 74 (put (fun j => if 8 + T.fl ≤ j ∧ j < 8 + T.fl + n then cb (sb r.data.toList) (j - (8 + T.fl)) else dgc T.h T.B T.fl T.be j) 72 (.int .i64 ((T.fl : Int) + (n : Int)))) w5) :
    Dg w5 b (s.feed (str.data.toList.take (k + n))) := by
  have hl : (r.data.toList.take n).length = n := by
    rw [List.length_take, Array.length_toList]; exact Nat.min_eq_left hnr
  have hne : r.data.toList.take n ≠ [] := fun e => by rw [e] at hl; simp at hl; omega
  have e1 : s.feed (str.data.toList.take (k + n)) = T.feed (r.data.toList.take n) := by
    rw [List.take_add, St.feed_append, ← hS, ← hr, St.feed_next S hfl _ hne, ← hT]
  rw [e1, St.feed_chunk _ T (by rw [hl]; omega), hl]
  exact h5.1.congr _ (dgc_chunk T.h T.B T.fl T.be n r.data.toList (by omega))
set_option maxRecDepth 100000 in
set_option maxHeartbeats 1000000 in
theorem write_any (b : Nat) (s : St) (L : Nat) (hs : s.Ok L) (str : ByteArray) (hl : L + str.size < 4611686018427387904) (w : World) (hd : Dg w b s) (hT : Tabs w) (hb : NoTab b) :
    Calls Tryd.prog 32 #[.pointer (some ⟨b, 0, none⟩), .string str] w fun e w' => e = .returned (.tuple #[]) ∧ Keep b w w' ∧ Dg w' b (s.feed str.data.toList) := by
  have HS := Lib.hid hs
  have HL := Lib.hid hl
  have HD := Lib.hid hd
  have HT := Lib.hid hT
  have HB := Lib.hid hb
  clear hs hl hd hT hb
  go_enter Tryd.func32, Tryd.ntmps32
  go_wp2_with fail
  go_loopw [1] (fun bs wr => ∃ (k : Nat) (r : ByteArray), k ≤ str.size ∧ bs = .string r ∧ r.data.toList = str.data.toList.drop k ∧ Keep b w wr ∧ Dg wr b (s.feed (str.data.toList.take k))) (fun bs _ => sizeV bs)
  case atStart => exact ⟨0, str, by omega, rfl, by simp, Keep.refl _ _, by simpa [St.feed_nil] using HD.out⟩
  case round =>
    obtain ⟨k, r, hk, rfl, hr, hkeep, hdg⟩ := hrel
    have hsz : r.size = str.size - k := by
      have := congrArg List.length hr
      simpa using this
    have ok := HS.out.feed (str.data.toList.take k)
    have hlen : (str.data.toList.take k).length = k := by simp; omega
    rw [hlen] at ok
    obtain ⟨S, hS⟩ : ∃ S, S = s.feed (str.data.toList.take k) := ⟨_, rfl⟩
    rw [← hS] at hdg ok
    have HR := Lib.hid hr
    have HSS := Lib.hid hS
    have HZ := Lib.hid hsz
    have HDG := Lib.hid hdg
    have OK := Lib.hid ok
    clear hr hS hlen ok
    by_cases hz : k < str.size
    · have hr0 : (0 : Int) < (r.size : Int) := by omega
      have hr1 : (r.size : Int) ≤ 4611686018427387904 := by have := HL.out; omega
      have c72 := hdg.fl
      clear hsz hdg
      by_cases hf : S.fl = 64
      · have hf' : ((S.fl : Int) == 64) = true := by rw [hf]; rfl
        have hbe : S.be + 64 < 18446744073709551616 := by have := OK.out.tot; have := HL.out; omega
        have HF := Lib.hid hf
        have CALL := Lib.hid (next_any b S.h S.B OK.out.B S.fl S.be hbe wr)
        clear hf hbe
        go_wp2_with (go_at_call 37; refine (CALL.out HDG.out (HT.out.keep hkeep HB.out) HB.out).mono ?_; rintro e w1 ⟨rfl, hk1, hd1⟩)
        clear c72
        refine abs_wp (fun w' => Keep b w w' ∧ Dg w' b S.next) ⟨hkeep.trans hk1, by unfold St.next; rw [if_pos HF.out]; exact hd1⟩ ?_
        clear hd1 hk1 CALL
        clear w1
        rintro w2 ⟨hk2, hd2⟩
        have hT64 := St.next_fl S OK.out.fl
        have HNX := Lib.hid OK.out.next
        obtain ⟨T, hT⟩ : ∃ T, T = S.next := ⟨_, rfl⟩
        rw [← hT] at hd2 hT64
        rw [← hT] at HNX
        have HTT := Lib.hid hT
        clear hT
        have hT64' : (T.fl : Int) < 64 := by omega
        refine tail_abs 9 (by kernel_rfl) (by kernel_rfl) fun w3 hs3 => ?_
        simp only [List.take_succ_cons, List.take_zero, List.drop_succ_cons, List.drop_zero]
        have d3 : Dg w3 b T := hd2.same hs3
        have k3 := hk2.trans (hs3.upd b).keep
        have c72 := d3.fl
        have D3 := Lib.hid d3
        clear hs3 hk2 hd2 d3 hf'
        clear w2
        repeat still_step
        refine stl_slice (.tmp 17) (.tmp 21) b 8 T.fl rfl rfl rfl rfl (under_b64 _) (size_byte _) hT64 ?_
        repeat still_step
        refine wpStill_nil ?_
        obtain ⟨n, hn⟩ : ∃ n, n = min r.size (64 - T.fl) := ⟨_, rfl⟩
        refine wpl_copy_str (.tmp 22) (.tmp 23) b (8 + T.fl) 74 (64 - T.fl) (64 - T.fl) n (dgc T.h T.B T.fl T.be) r rfl rfl rfl rfl (under_bytes _) (size_byte _) D3.out (by omega) hn ?_
        intro w4 h4
        have c4 : w4.cell? ⟨b, 72, none⟩ = some (.int .i64 (T.fl : Int)) := by
          have := h4.1.get 72 (by omega)
          rw [if_neg (by omega)] at this
          exact this
        have f4 := h4.1.frz 72
        have n1 : (n : Int) ≤ 64 := by omega
        have n2 : 0 < n := by omega
        have n3 : (n : Int) ≤ (r.size : Int) := by omega
        have n4 : n ≤ r.size := by omega
        have s4 : IntKind.i64.wrap ((T.fl : Int) + (n : Int)) = (T.fl : Int) + (n : Int) := IntWalk.i64_in _ (by omega)
        have HN := Lib.hid hn
        clear hn c72
        have D5 := write_step HR.out HSS.out HTT.out OK.out.fl HN.out n2 n4 hT64 (h4.set 72 (.int .i64 ((T.fl : Int) + (n : Int))))
        go_wp2_with fail
        have e1 := extract_drop r str k n HR.out
        have e2 : (r.extract n r.size).size < r.size := by rw [ByteArray.size_extract]; omega
        refine ⟨⟨k + n, r.extract n r.size, by have := HZ.out; omega, rfl, e1, (k3.trans h4.2.keep).trans (Upd.set _ _ _ _).keep, D5⟩, e2⟩
      · have hf' : ((S.fl : Int) == 64) = false := by
          rw [beq_eq_false_iff_ne]; omega
        have HF := Lib.hid hf
        clear hf
        go_wp2_with fail
        clear c72
        refine abs_wp (fun w' => Keep b w w' ∧ Dg w' b S.next) ⟨hkeep, by unfold St.next; rw [if_neg HF.out]; exact HDG.out⟩ ?_
        rintro w2 ⟨hk2, hd2⟩
        have hT64 := St.next_fl S OK.out.fl
        have HNX := Lib.hid OK.out.next
        obtain ⟨T, hT⟩ : ∃ T, T = S.next := ⟨_, rfl⟩
        rw [← hT] at hd2 hT64
        rw [← hT] at HNX
        have HTT := Lib.hid hT
        clear hT
        have hT64' : (T.fl : Int) < 64 := by omega
        refine tail_abs 9 (by kernel_rfl) (by kernel_rfl) fun w3 hs3 => ?_
        simp only [List.take_succ_cons, List.take_zero, List.drop_succ_cons, List.drop_zero]
        have d3 : Dg w3 b T := hd2.same hs3
        have k3 := hk2.trans (hs3.upd b).keep
        have c72 := d3.fl
        have D3 := Lib.hid d3
        clear hs3 hk2 hd2 d3 hf'
        clear w2
        repeat still_step
        refine stl_slice (.tmp 17) (.tmp 21) b 8 T.fl rfl rfl rfl rfl (under_b64 _) (size_byte _) hT64 ?_
        repeat still_step
        refine wpStill_nil ?_
        obtain ⟨n, hn⟩ : ∃ n, n = min r.size (64 - T.fl) := ⟨_, rfl⟩
        refine wpl_copy_str (.tmp 22) (.tmp 23) b (8 + T.fl) 74 (64 - T.fl) (64 - T.fl) n (dgc T.h T.B T.fl T.be) r rfl rfl rfl rfl (under_bytes _) (size_byte _) D3.out (by omega) hn ?_
        intro w4 h4
        have c4 : w4.cell? ⟨b, 72, none⟩ = some (.int .i64 (T.fl : Int)) := by
          have := h4.1.get 72 (by omega)
          rw [if_neg (by omega)] at this
          exact this
        have f4 := h4.1.frz 72
        have n1 : (n : Int) ≤ 64 := by omega
        have n2 : 0 < n := by omega
        have n3 : (n : Int) ≤ (r.size : Int) := by omega
        have n4 : n ≤ r.size := by omega
        have s4 : IntKind.i64.wrap ((T.fl : Int) + (n : Int)) = (T.fl : Int) + (n : Int) := IntWalk.i64_in _ (by omega)
        have HN := Lib.hid hn
        clear hn c72
        have D5 := write_step HR.out HSS.out HTT.out OK.out.fl HN.out n2 n4 hT64 (h4.set 72 (.int .i64 ((T.fl : Int) + (n : Int))))
        go_wp2_with fail
        have e1 := extract_drop r str k n HR.out
        have e2 : (r.extract n r.size).size < r.size := by rw [ByteArray.size_extract]; omega
        refine ⟨⟨k + n, r.extract n r.size, by have := HZ.out; omega, rfl, e1, (k3.trans h4.2.keep).trans (Upd.set _ _ _ _).keep, D5⟩, e2⟩
    · have hr0 : ¬ (0 : Int) < (r.size : Int) := by omega
      clear hsz
      go_wp2_with fail
      go_end0
      refine ⟨rfl, hkeep, ?_⟩
      have := HDG.out
      rw [HSS.out, List.take_of_length_le (by simp; omega)] at this
      exact this
end Go.Proofs.YtfbjjlejmcpphaaDoor
