/-
  What signs.
-/
import Derived.Test.YtfbjjlejmcpphaaDoorMHolds
open Go Go.RowKit
namespace BB
theorem TBlk.blk {t : TypeId} {w : World} {b n : Nat} {f : Nat → Value} (h : TBlk t w b n f) : Blk w b n f := ⟨t, h⟩
theorem TBlk.set {t : TypeId} {w : World} {b n : Nat} {f : Nat → Value} (h : TBlk t w b n f) (i : Nat) (u : Value) : TBlk t (w.setCell ⟨b, i, none⟩ u) b n (put f i u) := by
  unfold TBlk at h ⊢
  unfold World.setCell
  simp only [Array.getElem?_modify, if_true, h, Option.map_some]
  simp [row_set]
theorem TBlk.below {t : TypeId} {w w' : World} {b n B : Nat} {f : Nat → Value} (h : TBlk t w b n f) (hs : Below B w w') (hb : b < B) : TBlk t w' b n f := (hs.block b hb).trans h
theorem TBlk.congr {t : TypeId} {w : World} {b n : Nat} {f : Nat → Value} (h : TBlk t w b n f) (g : Nat → Value) (e : ∀ i, i < n → f i = g i) : TBlk t w b n g := by
  unfold TBlk at h ⊢; rw [← row_congr n f g e]; exact h
theorem TBlk.lt {t : TypeId} {w : World} {b n : Nat} {f : Nat → Value} (h : TBlk t w b n f) : b < w.heap.size := h.blk.lt
theorem TBlk.set_other {t : TypeId} {w : World} {b n : Nat} {f : Nat → Value} (h : TBlk t w b n f) (a : Addr) (u : Value) (hb : b ≠ a.block) : TBlk t (w.setCell a u) b n f := (Below.heap_setCell w a u b hb).trans h
end BB
namespace MM
open WW BB
/-- the cells of a result that is a zero signature -/
def zS : Nat → Value := fun i => if i = 0 then .int .i64 0 else .slice none 0 0
theorem zS_row : #[.int .i64 0, .slice none 0 0] = row 2 zS := by rfl
/-- the first i tags -/
def tagsF (s : ByteArray) (f : Int) (t : ByteArray) (i : Nat) : Nat → Value := fun j => if j < i then .string (tagB s f (j : Int) t) else .string ⟨#[]⟩
theorem tagsF_put (s : ByteArray) (f : Int) (t : ByteArray) (i : Nat) : put (tagsF s f t i) i (.string (tagB s f (i : Int) t)) = tagsF s f t (i + 1) := by
  funext j
  unfold put tagsF
  by_cases h : j = i
  · subst h; simp
  · by_cases h2 : j < i
    · rw [if_neg h, if_pos h2, if_pos (by omega)]
    · rw [if_neg h, if_neg h2, if_neg (by omega)]
/-- the tags of a signature -/
def tagsL (s : ByteArray) (f : Int) (t : ByteArray) (n : Nat) : List ByteArray := (List.range n).map fun (j : Nat) => tagB s f (j : Int) t
theorem tagsL_len (s : ByteArray) (f : Int) (t : ByteArray) (n : Nat) : (tagsL s f t n).length = n := by simp [tagsL]
theorem tagsL_get (s : ByteArray) (f : Int) (t : ByteArray) (n i : Nat) (h : i < n) : (tagsL s f t n).getD i ⟨#[]⟩ = tagB s f (i : Int) t := by
  simp [tagsL, List.getD, h]
end MM
namespace Go.Proofs.YtfbjjlejmcpphaaDoor
open MM WW BB
theorem info_str : (Tryd.prog.info? 9).map (fun i => (i.zero, i.size, i.bytes)) = some (some (.string ⟨#[]⟩), 1, 16) := by kernel_rfl
/-- where the loop stands -/
structure SgAt (w : World) (a : Nat) (s : ByteArray) (f : Int) (t : ByteArray) (n i : Nat) (wr : World) : Prop where
  below : Below a w wr
  ra : Blk wr a 2 zS
  rb : TBlk 9 wr (a + 1) n (tagsF s f t i)
/-- what is answered -/
def SignOk (w : World) (s : ByteArray) (f : Int) (t : ByteArray) (n : Nat) (e : Ending) (w' : World) : Prop :=
  ∃ b, w.heap.size ≤ b ∧ e = .returned (.tuple #[.agg #[.int .i64 f, .slice (some ⟨b, 0, none⟩) n n], .int .i64 0]) ∧ TBlk 9 w' b n (tagsF s f t n) ∧ Below w.heap.size w w'
set_option maxRecDepth 100000 in
set_option maxHeartbeats 2000000 in
theorem sign_err (s : ByteArray) (f n : Int) (t : ByteArray) (h : amongB f n = false) (w : World) :
    Calls Tryd.prog 12 #[.string s, .int .i64 f, .int .i64 n, .string t] w fun e w' => e = .returned (.tuple #[.agg #[.int .i64 0, .slice none 0 0], .int .i64 1]) ∧ Below w.heap.size w w' := by
  have HA := Lib.hid h
  clear h
  go_enter Tryd.func12, Tryd.ntmps12
  go_wp2_with fail
  obtain ⟨a, ha⟩ : ∃ a, w.heap.size = a := ⟨_, rfl⟩
  have k0 : Blk (w.alloc (.cells #[.int .i64 0, .slice none 0 0] 29)) a 2 zS := Blk.new' ha.symm zS_row
  have b0 := (Below.refl w.heap.size w).alloc (Nat.le_refl _) (.cells #[.int .i64 0, .slice none 0 0] 29)
  rw [ha] at b0 ⊢
  have HAA := Lib.hid ha
  clear ha
  generalize w.alloc (.cells #[.int .i64 0, .slice none 0 0] 29) = w1 at *
  have B0 := Lib.hid b0
  have K0 := Lib.hid k0
  clear b0 k0
  refine (among_is f n false HA.out _).mono ?_
  rintro e w' ⟨rfl, rfl⟩
  have c0 : w1.cell? ⟨a, 0, none⟩ = some (.int .i64 0) := K0.out.get 0 (by omega)
  have g0 := K0.out.frz 0
  have c1 : w1.cell? ⟨a, 1, none⟩ = some (.slice none 0 0) := K0.out.get 1 (by omega)
  have g1 := K0.out.frz 1
  go_wp2_with fail
  have k2 := (K0.out.set 0 (.int .i64 0)).set 1 (.slice none 0 0)
  have q0 := k2.get 0 (by omega)
  have q1 := k2.get 1 (by omega)
  have e0 : put (put zS 0 (.int .i64 0)) 1 (.slice none 0 0) 0 = .int .i64 0 := rfl
  have e1 : put (put zS 0 (.int .i64 0)) 1 (.slice none 0 0) 1 = .slice none 0 0 := rfl
  rw [e0] at q0
  rw [e1] at q1
  refine bodyPost_ret (v := .tuple #[.agg #[.int .i64 0, .slice none 0 0], .int .i64 1]) (by simp [results, Tryd.results12, go_sem, q0, q1]) rfl ⟨rfl, ?_⟩
  rw [HAA.out]
  exact B0.out.trans (((Upd.set _ _ _ _).trans (Upd.set _ _ _ _)).below (Nat.le_refl _))
set_option maxRecDepth 100000 in
set_option maxHeartbeats 4000000 in
theorem sign_ok (s : ByteArray) (f : Int) (n : Nat) (t : ByteArray) (h : amongB f (n : Int) = true) (hs : s.size ≤ 1000) (ht : t.size ≤ 100000) (w : World) (hT : Tabs w) :
    Calls Tryd.prog 12 #[.string s, .int .i64 f, .int .i64 (n : Int), .string t] w (SignOk w s f t n) := by
  obtain ⟨n1, n7, f0, fn⟩ := among_of h
  have HA := Lib.hid h
  have HS := Lib.hid hs
  have HTT := Lib.hid ht
  have HT := Lib.hid hT
  have HRF := Lib.hid (show (0 : Int) ≤ f ∧ f ≤ 20 by omega)
  have HN := Lib.hid (show n ≤ 7 by omega)
  have nn : (0 : Int) ≤ (n : Int) := by omega
  clear h hs ht hT n1 f0 fn
  go_enter Tryd.func12, Tryd.ntmps12
  go_wp2_with fail
  obtain ⟨a, ha⟩ : ∃ a, w.heap.size = a := ⟨_, rfl⟩
  have k0 : Blk (w.alloc (.cells #[.int .i64 0, .slice none 0 0] 29)) a 2 zS := Blk.new' ha.symm zS_row
  have b0 := (Below.refl w.heap.size w).alloc (Nat.le_refl _) (.cells #[.int .i64 0, .slice none 0 0] 29)
  have z1 : (w.alloc (.cells #[.int .i64 0, .slice none 0 0] 29)).heap.size = a + 1 := by simp [ha]
  rw [ha] at b0 ⊢
  have HAA := Lib.hid ha
  clear ha
  generalize w.alloc (.cells #[.int .i64 0, .slice none 0 0] 29) = w1 at *
  have B0 := Lib.hid b0
  have K0 := Lib.hid k0
  have Z1 := Lib.hid z1
  clear b0 k0 z1
  refine (among_is f n true HA.out _).mono ?_
  rintro e w' ⟨rfl, rfl⟩
  go_wp2_with (with_reducible refine hold_make rfl ?_)
  refine wpl_make (.tmp 17) (.tmp 17) 27 9 (.string ⟨#[]⟩) 16 n rfl rfl (by rfl) (by rfl) (by kernel_rfl) info_str (by rfl) (by have := HN.out; omega) (by have := HN.out; omega) ?_
  rw [Z1.out]
  refine abs_list (fun w' => SgAt w a s f t n 0 w') ⟨B0.out.alloc (by rw [Z1.out]; omega) _, K0.out.alloc _, TBlk.new' _ _ _ _ _ _ Z1.out.symm (by rw [made_row]; rfl)⟩ ?_
  intro w2 k2
  clear B0 K0 Z1 w1
  go_wp2_with fail
  go_loopw [21] (fun v wr => ∃ i : Nat, i ≤ n ∧ v = .int .i64 (i : Int) ∧ SgAt w a s f t n i wr) (fun v _ => n - (intOf v).toNat)
  case atStart => exact ⟨0, Nat.zero_le _, rfl, k2⟩
  case round =>
    clear k2
    clear w2
    obtain ⟨i, hi, rfl, hK⟩ := hrel
    have HK := Lib.hid hK
    clear hK
    by_cases hlt : i < n
    · have hlt' : (i : Int) < (n : Int) := by omega
      have i0 : (0 : Int) ≤ (i : Int) := by omega
      have ib : (i : Int) ≤ 7 := by have := HN.out; omega
      have HLT := Lib.hid hlt
      have HRI := Lib.hid (show (0 : Int) ≤ (i : Int) ∧ (i : Int) ≤ 20 by omega)
      clear hi hlt
      go_wp2_with fail
      refine (mtag_in s f i t HRF.out HRI.out HS.out HTT.out wr (tabs_now HT.out HAA.out HK.out.below)).mono ?_
      rintro e w4 ⟨rfl, hb4⟩
      have K4 : Hid (SgAt w a s f t n i w4) := Lib.hid ⟨HK.out.below.trans (hb4.mono (Nat.le_of_lt HK.out.ra.lt)), HK.out.ra.below hb4 HK.out.ra.lt, HK.out.rb.below hb4 HK.out.rb.lt⟩
      clear hb4
      have hc : w4.cell? ⟨a + 1, i, none⟩ = some (tagsF s f t i i) := K4.out.rb.blk.get i HLT.out
      have hg := K4.out.rb.blk.frz i
      go_wp2_with fail
      go_roundw
      case rel => 
        refine ⟨i + 1, by have := HLT.out; omega, by go_num, ?_⟩
        refine ⟨K4.out.below.trans ((Upd.set w4 (a + 1) i _).below (by omega)), K4.out.ra.set_other _ _ (by show a ≠ a + 1; omega), ?_⟩
        rw [← tagsF_put]
        exact K4.out.rb.set i _
      case measure => have := HLT.out; simp [intOf]; omega
    · obtain rfl : i = n := by omega
      have hlt' : ¬ (i : Int) < (i : Int) := by omega
      clear hi hlt
      have c0 : wr.cell? ⟨a, 0, none⟩ = some (.int .i64 0) := HK.out.ra.get 0 (by omega)
      have g0 := HK.out.ra.frz 0
      have c1 : wr.cell? ⟨a, 1, none⟩ = some (.slice none 0 0) := HK.out.ra.get 1 (by omega)
      have g1 := HK.out.ra.frz 1
      go_wp2_with fail
      have k2 := (HK.out.ra.set 0 (.int .i64 f)).set 1 (.slice (some ⟨a + 1, 0, none⟩) i i)
      have q0 := k2.get 0 (by omega)
      have q1 := k2.get 1 (by omega)
      have e0 : put (put zS 0 (.int .i64 f)) 1 (.slice (some ⟨a + 1, 0, none⟩) i i) 0 = .int .i64 f := rfl
      have e1 : put (put zS 0 (.int .i64 f)) 1 (.slice (some ⟨a + 1, 0, none⟩) i i) 1 = .slice (some ⟨a + 1, 0, none⟩) i i := rfl
      rw [e0] at q0
      rw [e1] at q1
      refine bodyPost_ret (v := .tuple #[.agg #[.int .i64 f, .slice (some ⟨a + 1, 0, none⟩) i i], .int .i64 0]) (by simp [results, Tryd.results12, go_sem, q0, q1]) rfl ⟨a + 1, by rw [HAA.out]; omega, rfl, ?_, ?_⟩
      · exact (HK.out.rb.set_other _ _ (by show a + 1 ≠ a; omega)).set_other _ _ (by show a + 1 ≠ a; omega)
      · rw [HAA.out]
        exact HK.out.below.trans (((Upd.set _ _ _ _).trans (Upd.set _ _ _ _)).below (Nat.le_refl _))
end Go.Proofs.YtfbjjlejmcpphaaDoor
