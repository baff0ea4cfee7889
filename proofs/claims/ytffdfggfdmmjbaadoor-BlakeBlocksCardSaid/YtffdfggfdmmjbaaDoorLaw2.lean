/-
  The walk of the law BlakeBlocks.
-/
import Derived.Test.YtffdfggfdmmjbaaDoorLaw1
open Go Go.RowKit
namespace BB
/-- m bytes of one kind -/
def same (m c : Nat) : ByteArray := ⟨(List.replicate m (UInt8.ofNat c)).toArray⟩
theorem same_size (m c : Nat) : (same m c).size = m := by simp [same, ByteArray.size]
theorem same_nums (m c : Nat) : strOfNums (List.replicate m (c : Int)) = same m c := by
  unfold strOfNums same; rw [List.map_replicate]; rfl
/-- the first i of m bytes are c -/
def sfill (c i : Nat) : Nat → Value := fun j => if j < i then .int .u8 (c : Int) else .int .u8 0
theorem sfill_step (c i j : Nat) : put (sfill c i) i (.int .u8 (c : Int)) j = sfill c (i + 1) j := by
  unfold put sfill
  by_cases h : j = i
  · subst h; simp
  · by_cases h2 : j < i
    · simp [h, h2, show j < i + 1 by omega]
    · simp [h, h2, show ¬ j < i + 1 by omega]
theorem conv_same {P : Program} {w : World} {src dst e g m c : Nat} (hs : P.underlying src = some (.slice e)) (he : P.underlying e = some (.int .u8)) (hd : P.underlying dst = some .string)
    (hb : Blk w g m (sfill c m)) : (convert src dst (.slice (some ⟨g, 0, none⟩) m m)).run P w = .ok (.string (same m c)) w := by
  have h := run_convert_bytes_arg (P := P) w src e hs he g 0 m m (List.replicate m (c : Int)) (by simp) (fun i hi => by
    rw [Nat.zero_add, hb.get i hi]
    unfold sfill
    simp [hi]) dst hd
  rw [h, same_nums]
theorem conv1 {P : Program} (w : World) (src dst e : TypeId) (hs : P.underlying src = some (.slice e)) (he : P.underlying e = some (.int .u8)) (hd : P.underlying dst = some .string) (c : Nat) :
    (convert src dst (.slice (some ⟨w.heap.size, 0, none⟩) 1 1)).run P (w.alloc (.cells #[.int .u8 (c : Int)] e)) = .ok (.string (same 1 c)) (w.alloc (.cells #[.int .u8 (c : Int)] e)) := by
  have h := run_convert_bytes_arg (P := P) (w.alloc (.cells #[.int .u8 (c : Int)] e)) src e hs he w.heap.size 0 1 1 [(c : Int)] rfl (fun i hi => by
    obtain rfl : i = 0 := by omega
    exact cell_new1 _ _ _) dst hd
  rw [h, show [(c : Int)] = List.replicate 1 (c : Int) from rfl, same_nums]
end BB
namespace Go.Proofs.YtffdfggfdmmjbaaDoor
open BB
set_option maxRecDepth 100000 in
set_option maxHeartbeats 2000000 in
theorem blocks_walk (n c : Nat) (hn : n < 65536) (hc : c < 256) (key : Bool) (w : World) (hT : Tabs w) :
    Calls Tryd.prog 6 #[.int .u16 n, .int .u8 c, .bool key] w fun e w' => e = .returned (.bool true) ∧ Below w.heap.size w w' := by
  have HT := Lib.hid hT
  clear hT
  obtain ⟨m, hm⟩ : ∃ m, m = n % 300 := ⟨_, rfl⟩
  have hm3 : m < 300 := by omega
  have em : (n : Int) % 300 = (m : Int) := by omega
  have n0 : (0 : Int) ≤ (n : Int) := by omega
  have HM := Lib.hid hm3
  have HC := Lib.hid hc
  clear hm hm3 hn hc
  go_enter Tryd.func6, Tryd.ntmps6
  go_wp2_with fail
  refine (awake_any w HT.out).mono ?_
  rintro e w1 ⟨rfl, hb1⟩
  have HB1 := Lib.hid hb1
  clear hb1
  go_wp2_with (with_reducible refine hold_make rfl ?_)
  refine wpl_make (.tmp 16) (.tmp 16) 37 5 (.int .u8 0) 1 m rfl rfl (by rfl) (by rfl) (by kernel_rfl) info_byte' (by rfl) (by have := HM.out; omega) (by have := HM.out; omega) ?_
  have hz1 := HB1.out.size
  refine abs_list (fun w' => Below w.heap.size w w' ∧ Blk w' w1.heap.size m (sfill c 0)) ⟨HB1.out.alloc hz1 _, Blk.new' rfl ((made_row _ _).trans (row_congr _ _ _ fun j _ => rfl))⟩ ?_
  have HG := Lib.hid hz1
  clear hz1 HB1 em n0
  generalize w1.heap.size = g at *
  clear w1
  rintro w2 ⟨b2, k2⟩
  have m0 : (0 : Int) ≤ (m : Int) := by omega
  go_wp2_with fail
  go_loopw [8] (fun v wr => ∃ i : Nat, i ≤ m ∧ v = .int .i64 (i : Int) ∧ Below w.heap.size w wr ∧ Blk wr g m (sfill c i)) (fun v _ => m - (intOf v).toNat)
  case atStart => exact ⟨0, by omega, rfl, b2, k2⟩
  case round =>
    clear b2 k2
    clear w2
    obtain ⟨i, hi, rfl, hb, hk⟩ := hrel
    by_cases hlt : i < m
    · have hlt' : (i : Int) < (m : Int) := by omega
      have i0 : (0 : Int) ≤ (i : Int) := by omega
      have ib : (i : Int) ≤ 300 := by have := HM.out; omega
      have ci := hk.get i hlt
      have fi := hk.frz i
      have HI := Lib.hid hi
      have HLT := Lib.hid hlt
      clear hi hlt
      go_wp2_with fail
      refine ⟨⟨i + 1, by have := HLT.out; omega, by go_num, hb.setCell HG.out _, (hk.set i _).congr _ fun j _ => sfill_step c i j⟩, ?_⟩
      have := HLT.out
      simp [intOf]; omega
    · obtain rfl : i = m := by omega
      have hlt' : ¬ (i : Int) < (i : Int) := by omega
      have HB := Lib.hid hb
      have HK := Lib.hid hk
      have hcv : ∀ wx, Below wr.heap.size wr wx → (convert 37 9 (.slice (some ⟨g, 0, none⟩) i i)).run Tryd.prog wx = .ok (.string (same i c)) wx := fun wx hx => conv_same (e := 5) (by kernel_rfl) (by kernel_rfl) (by kernel_rfl) (HK.out.below hx HK.out.lt)
      have HCV := Lib.hid hcv
      clear hb hk hi hcv
      have hs0 := same_size i c
      have hs1 := same_size 1 c
      cases key
      · have c1 := HCV.out wr (Below.refl _ _)
        go_wp2_with fail
        refine (keyed_ok ⟨#[]⟩ (same i c) (by decide) (by rw [same_size]; have := HM.out; omega) _ (HT.out.below HB.out (Nat.le_refl _))).mono ?_
        rintro e w3 ⟨rfl, hb3⟩
        have c2 := HCV.out w3 hb3
        have HB3 := Lib.hid (HB.out.trans (hb3.mono HB.out.size))
        clear hb3
        go_wp2_with fail
        refine (rsum_kdg ⟨#[]⟩ (same i c) (by decide) (by rw [same_size]; have := HM.out; omega) _).mono ?_
        rintro e w4 ⟨rfl, hb4⟩
        go_wp2_with fail
        go_ret
        exact ⟨rfl, HB3.out.trans (hb4.mono HB3.out.size)⟩
      · have c1 := HCV.out (wr.alloc (.cells #[.int .u8 (c : Int)] 5)) ((Below.refl _ _).alloc (Nat.le_refl _) _)
        have c0 := conv1 (P := Tryd.prog) wr 37 9 5 (by kernel_rfl) (by kernel_rfl) (by kernel_rfl) c
        have HBA := Lib.hid (HB.out.alloc HB.out.size (.cells #[.int .u8 (c : Int)] 5))
        go_wp2_with fail
        refine (keyed_ok (same 1 c) (same i c) (by rw [same_size]; omega) (by rw [same_size]; have := HM.out; omega) _ (HT.out.below HBA.out (Nat.le_refl _))).mono ?_
        rintro e w3 ⟨rfl, hb3⟩
        have c2 := HCV.out w3 (((Below.refl _ _).alloc (Nat.le_refl _) _).trans (hb3.mono (by simp)))
        have HB3 := Lib.hid (HBA.out.trans (hb3.mono HBA.out.size))
        clear hb3
        go_wp2_with fail
        refine (rsum_kdg (same 1 c) (same i c) (by rw [same_size]; omega) (by rw [same_size]; have := HM.out; omega) _).mono ?_
        rintro e w4 ⟨rfl, hb4⟩
        go_wp2_with fail
        go_ret
        exact ⟨rfl, HB3.out.trans (hb4.mono HB3.out.size)⟩
end Go.Proofs.YtffdfggfdmmjbaaDoor
