/-
  Cuts of numbers, of bytes and of texts, as what they do to block t.
-/
import Derived.Test.YtbeodmijjanmeaaWBytesCut
import Derived.Test.YtbeodmijjanmeaaWNumCut
import Derived.Test.YtbeodmijjanmeaaWCut
open Go Go.RowKit
namespace WW
open BB
/-- what a cut with the answer x leaves -/
def Eff (t n : Nat) (f : Nat → Value) (w : World) {δ : Type} (eff : δ → (Nat → Value) → Nat → Value) (x : Option (ByteArray × δ)) (ok : Bool) (r : ByteArray) (w' : World) : Prop :=
  match x with
  | none => ok = false ∧ ∃ f', Cell1 t n f' w w'
  | some (r', d) => ok = true ∧ r = r' ∧ Cell1 t n (eff d f) w w'
/-- v cuts off what Sp says, and puts it into block t -/
def CutTo (P : Program) (t n : Nat) (v : Value) (W : World) {δ : Type} (Sp : ByteArray → Option (ByteArray × δ)) (eff : δ → (Nat → Value) → Nat → Value) : Prop :=
  ∀ f b w, b.size ≤ 1000000 → Keep t W w → Blk w t n f → Cut P v b w (Eff t n f w eff (Sp b))
theorem CutTo.later {P : Program} {t n : Nat} {v : Value} {W W' : World} {δ : Type} {Sp : ByteArray → Option (ByteArray × δ)} {eff : δ → (Nat → Value) → Nat → Value} (h : CutTo P t n v W Sp eff) (hk : Keep t W W') : CutTo P t n v W' Sp eff :=
  fun f b w hb hw ht => h f b w hb (hk.trans hw) ht
theorem keep_cell2 {t p : Nat} {v : Value} {w1 w2 : World} (h : w1.cell? ⟨p, 0, none⟩ = some v) (hp : p ≠ t) (hk : Keep t w1 w2) : w2.cell? ⟨p, 0, none⟩ = some v :=
  (World.cell?_of_block (w := w1) (hk.block p (World.block_lt_of_cell? w1 _ h) hp)).trans h
/-- a number put into cell o -/
def putN (o : Nat) (d : Nat) (f : Nat → Value) : Nat → Value := put f o (.int .i64 (d : Int))
/-- a text put into cell o -/
def putS (o : Nat) (d : ByteArray) (f : Nat → Value) : Nat → Value := put f o (.string d)
/-- so many bytes -/
def bytesSp (N : Nat) (b : ByteArray) : Option (ByteArray × ByteArray) := if b.size < N then none else some (b.extract N b.size, b.extract 0 N)
/-- a text whose length fits -/
def textSp (fits : Nat → Bool) (b : ByteArray) : Option (ByteArray × ByteArray) :=
  match numSp 0 2147483647 b with
  | none => none
  | some (r, N) => if fits N then bytesSp N r else none
theorem cell_at (w : World) (u : Value) (t : TypeId) (b : Nat) (hb : b = w.heap.size) : (w.alloc (.cells #[u] t)).cell? ⟨b, 0, none⟩ = some u := by
  subst hb
  have : (w.alloc (.cells #[u] t)).heap[w.heap.size]? = some (.cells #[u] t) := by show (w.heap.push _)[w.heap.size]? = _; simp
  unfold World.cell?; rw [this]; simp
theorem cell_old {w : World} {p : Nat} {v : Value} {o : Obj} (h : w.cell? ⟨p, 0, none⟩ = some v) : (w.alloc o).cell? ⟨p, 0, none⟩ = some v :=
  keep_cell h ((Below.refl _ _).alloc (Nat.le_refl _) _)
theorem Blk.cell1 (w : World) (u : Value) (t : TypeId) : Blk (w.alloc (.cells #[u] t)) w.heap.size 1 (fun _ => u) := Blk.new' rfl (by rfl)
theorem textSp_none (fits : Nat → Bool) (b : ByteArray) (h : numSp 0 2147483647 b = none) : textSp fits b = none := by unfold textSp; rw [h]
theorem textSp_some (fits : Nat → Bool) (b : ByteArray) {r : ByteArray} {d : Nat} (h : numSp 0 2147483647 b = some (r, d)) : textSp fits b = if fits d = true then bytesSp d r else none := by unfold textSp; rw [h]
/-- a closure is made that cuts off what Sp says -/
def Makes (P : Program) (t n : Nat) (w : World) {δ : Type} (Sp : ByteArray → Option (ByteArray × δ)) (eff : δ → (Nat → Value) → Nat → Value) (e : Ending) (w' : World) : Prop :=
  ∃ k env, e = .returned (.func (.func k) #[] env) ∧ Below w.heap.size w w' ∧ CutTo P t n (.func (.func k) #[] env) w' Sp eff
/-- fv tells whether a length fits -/
def FitsV (P : Program) (t : Nat) (fv : Value) (W : World) (fits : Nat → Bool) : Prop :=
  ∀ (d : Nat) w, Keep t W w → CallsV P fv #[.int .i64 (d : Int)] w fun e w' => e = .returned (.bool (fits d)) ∧ Below w.heap.size w w'
end WW
namespace Go.Proofs.Ytbeodmijjanmeaa
open WW BB
theorem own_num : Own Try.prog 86 := ⟨_, Try.func86, by kernel_rfl, by kernel_rfl⟩
theorem own_bytes : Own Try.prog 89 := ⟨_, Try.func89, by kernel_rfl, by kernel_rfl⟩
theorem own_text : Own Try.prog 87 := ⟨_, Try.func87, by kernel_rfl, by kernel_rfl⟩
/-- the closure that cuts a number off into cell o of block t -/
theorem num_to (t n o p q r : Nat) (lo hi : Int) (ho : o < n) (W : World) (hp : W.cell? ⟨p, 0, none⟩ = some (.int .i64 lo)) (hq : W.cell? ⟨q, 0, none⟩ = some (.int .i64 hi)) (hr : W.cell? ⟨r, 0, none⟩ = some (.pointer (some ⟨t, o, none⟩)))
    (p1 : p ≠ t) (q1 : q ≠ t) (r1 : r ≠ t) :
    CutTo Try.prog t n (.func (.func 86) #[] #[.pointer (some ⟨p, 0, none⟩), .pointer (some ⟨q, 0, none⟩), .pointer (some ⟨r, 0, none⟩)]) W (numSp lo hi) (putN o) := by
  intro f b w hb hk ht
  refine ⟨_, _, rfl, own_num, ?_⟩
  have hp := keep_cell2 hp p1 hk
  have hq := keep_cell2 hq q1 hk
  have hr := keep_cell2 hr r1 hk
  unfold numSp
  by_cases h4 : b.size < 4
  · rw [if_pos h4]
    refine (numc_short b _ _ _ w h4).mono ?_
    rintro e w' ⟨rfl, rfl⟩
    exact ⟨false, _, rfl, rfl, f, Keep.refl _ _, ht⟩
  · rw [if_neg h4]
    by_cases hr2 : (rd4 b : Int) < lo ∨ hi < (rd4 b : Int)
    · rw [if_pos hr2]
      refine (numc_out b p q lo hi w (by omega) (by omega) hp hq _).mono ?_
      rintro e w' ⟨rfl, hs⟩
      exact ⟨false, _, rfl, rfl, f, (hs.upd t).keep, ht.same hs⟩
    · rw [if_neg hr2]
      refine (numc_yes b p q r t o n lo hi f w (by omega) (by omega) (by omega) hp hq hr ht ho).mono ?_
      rintro e w' ⟨rfl, hm⟩
      exact ⟨true, _, rfl, rfl, rfl, hm.2.keep, hm.1⟩
theorem bytes_to (t n o p q N : Nat) (ho : o < n) (W : World) (hp : W.cell? ⟨p, 0, none⟩ = some (.int .i64 N)) (hq : W.cell? ⟨q, 0, none⟩ = some (.pointer (some ⟨t, o, none⟩))) (p1 : p ≠ t) (q1 : q ≠ t) :
    CutTo Try.prog t n (.func (.func 89) #[] #[.pointer (some ⟨p, 0, none⟩), .pointer (some ⟨q, 0, none⟩)]) W (bytesSp N) (putS o) := by
  intro f b w hb hk ht
  refine ⟨_, _, rfl, own_bytes, ?_⟩
  have hp := keep_cell2 hp p1 hk
  have hq := keep_cell2 hq q1 hk
  unfold bytesSp
  by_cases h : b.size < N
  · rw [if_pos h]
    refine (bytesc_short b p N _ w h hp).mono ?_
    rintro e w' ⟨rfl, rfl⟩
    exact ⟨false, _, rfl, rfl, f, Keep.refl _ _, ht⟩
  · rw [if_neg h]
    refine (bytesc_yes b p q t o n N f w hb (by omega) p1 q1 hp hq ht ho).mono ?_
    rintro e w' ⟨rfl, hc⟩
    exact ⟨true, _, rfl, rfl, rfl, hc⟩
set_option maxRecDepth 100000 in
/-- cutNumber -/
theorem mk_num (t o n : Nat) (lo hi : Int) (w : World) (ho : o < n) (ht : t < w.heap.size) :
    Calls Try.prog 66 #[.pointer (some ⟨t, o, none⟩), .int .i64 lo, .int .i64 hi] w (Makes Try.prog t n w (numSp lo hi) (putN o)) := by
  have HO := Lib.hid ho
  have HT := Lib.hid ht
  clear ho ht
  go_enter Try.func66, Try.ntmps66
  go_wp2_with fail
  go_ret
  have b1 := (Below.refl w.heap.size w).alloc (Nat.le_refl _) (.cells #[.pointer (some ⟨t, o, none⟩)] 92)
  have b2 := b1.alloc b1.size (.cells #[.int .i64 lo] 3)
  have b3 := b2.alloc b2.size (.cells #[.int .i64 hi] 3)
  have := HT.out
  exact ⟨_, _, rfl, b3, num_to t n o (w.heap.size + 1) (w.heap.size + 2) w.heap.size lo hi HO.out _ (cell_old (cell_at _ _ _ _ (by simp))) (cell_at _ _ _ _ (by simp)) (cell_old (cell_old (cell_at _ _ _ _ rfl))) (by omega) (by omega) (by omega)⟩
set_option maxRecDepth 100000 in
/-- cutBytes -/
theorem mk_bytes (t o n N : Nat) (w : World) (ho : o < n) (ht : t < w.heap.size) :
    Calls Try.prog 71 #[.pointer (some ⟨t, o, none⟩), .int .i64 N] w (Makes Try.prog t n w (bytesSp N) (putS o)) := by
  have HO := Lib.hid ho
  have HT := Lib.hid ht
  clear ho ht
  go_enter Try.func71, Try.ntmps71
  go_wp2_with fail
  go_ret
  have b1 := (Below.refl w.heap.size w).alloc (Nat.le_refl _) (.cells #[.pointer (some ⟨t, o, none⟩)] 94)
  have b2 := b1.alloc b1.size (.cells #[.int .i64 (N : Int)] 3)
  have := HT.out
  exact ⟨_, _, rfl, b2, bytes_to t n o (w.heap.size + 1) w.heap.size N HO.out _ (cell_at _ _ _ _ (by simp)) (cell_old (cell_at _ _ _ _ rfl)) (by omega) (by omega)⟩
set_option maxRecDepth 100000 in
set_option maxHeartbeats 2000000 in
/-- the closure that cuts a text off into cell o of block t -/
theorem text_walk (t n o p q : Nat) (fv : Value) (fits : Nat → Bool) (W : World) (f : Nat → Value) (b : ByteArray) (w : World) (ho : o < n) (hb : b.size ≤ 1000000) (hk : Keep t W w) (ht : Blk w t n f)
    (hf : FitsV Try.prog t fv W fits) (hp : w.cell? ⟨p, 0, none⟩ = some fv) (hq : w.cell? ⟨q, 0, none⟩ = some (.pointer (some ⟨t, o, none⟩))) :
    Calls Try.prog 87 #[.string b, .pointer (some ⟨p, 0, none⟩), .pointer (some ⟨q, 0, none⟩)] w (Ans (Eff t n f w (putS o) (textSp fits b))) := by
  have HO := Lib.hid ho
  have HB := Lib.hid hb
  have HK := Lib.hid hk
  have HT := Lib.hid ht
  have HP := Lib.hid hp
  have HQ := Lib.hid hq
  clear ho hb hk ht hp hq
  obtain ⟨X, hX⟩ : ∃ X, textSp fits b = X := ⟨_, rfl⟩
  rw [hX]
  have HX := Lib.hid hX
  clear hX
  go_enter Try.func87, Try.ntmps87
  go_wp2_with fail
  have k1 := Blk.cell1 w (.int .i64 0) 3
  have b1 := (Below.refl w.heap.size w).alloc (Nat.le_refl _) (.cells #[.int .i64 0] 3)
  have z1 : w.heap.size < (w.alloc (.cells #[.int .i64 0] 3)).heap.size := by simp
  generalize w.alloc (.cells #[.int .i64 0] 3) = w1 at *
  refine (mk_num w.heap.size 0 1 0 2147483647 w1 (by omega) z1).mono ?_
  rintro e w2 ⟨kv, ev, rfl, hb2, hv⟩
  have K2 := Lib.hid (k1.below hb2 z1)
  have B2 := Lib.hid (b1.trans (hb2.mono b1.size))
  have HV := Lib.hid hv
  have HF := Lib.hid hf
  clear k1 b1 z1 hb2 hv hf
  clear w1
  obtain ⟨N1, hN1⟩ : ∃ N1, w.heap.size = N1 := ⟨_, rfl⟩
  rw [hN1] at K2 HV ⊢
  have HN1 := Lib.hid hN1
  clear hN1
  go_wp2_with (with_reducible refine hold_callv rfl rfl ?_)
  refine wpl_callv (v := .func (.func kv) #[] ev) (args := #[.string b]) _ rfl rfl rfl (by simp [Act.eval]) (HV.out _ b w2 HB.out (Keep.refl _ _) K2.out) Ans.ret ?_
  intro u w3 hu
  obtain ⟨ok, r, hr, he⟩ := hu
  injection hr with hr
  subst hr
  rcases hsp : numSp 0 2147483647 b with _ | ⟨r', d⟩
  · rw [hsp] at he
    obtain ⟨rfl, f', c3⟩ := he
    have B3 := Lib.hid (B2.out.trans (c3.1.below (by rw [HN1.out]; exact Nat.le_refl _) B2.out.size))
    have HS := Lib.hid hsp
    clear c3 hsp
    go_wp2_with fail
    go_ret2
    refine ⟨false, _, rfl, ?_⟩
    rw [← HX.out, textSp_none _ _ HS.out]
    exact ⟨rfl, f, keep_of_below B3.out (Nat.le_refl _) t, HT.out.below B3.out HT.out.lt⟩
  · rw [hsp] at he
    obtain ⟨rfl, rfl, c3⟩ := he
    have B3 := Lib.hid (B2.out.trans (c3.1.below (by rw [HN1.out]; exact Nat.le_refl _) B2.out.size))
    have HS := Lib.hid hsp
    have cn : w3.cell? ⟨N1, 0, none⟩ = some (.int .i64 (d : Int)) := c3.2.get 0 (by omega)
    have cp : w3.cell? ⟨p, 0, none⟩ = some fv := keep_cell HP.out B3.out
    have cq : w3.cell? ⟨q, 0, none⟩ = some (.pointer (some ⟨t, o, none⟩)) := keep_cell HQ.out B3.out
    have CN := Lib.hid cn
    have CQ := Lib.hid cq
    have hR : r.size ≤ 1000000 := by
      unfold numSp at hsp
      split at hsp
      · cases hsp
      · split at hsp
        · cases hsp
        · injection hsp with hsp
          injection hsp with h1 h2
          rw [← h1]; have := HB.out; simp; omega
    have HR := Lib.hid hR
    have hf3 := HF.out d w3 (HK.out.trans (keep_of_below B3.out (Nat.le_refl _) t))
    have HF3 := Lib.hid hf3
    clear c3 hsp hR hf3 HF
    go_wp2_with (with_reducible refine hold_callv rfl rfl ?_)
    refine wpl_callv_w (v := fv) (args := #[.int .i64 (d : Int)]) _ rfl rfl rfl (by simp [Act.eval]) HF3.out (fun _ _ ⟨h, _⟩ => ⟨_, h⟩) ?_
    rintro u w4 ⟨hu, hb4⟩
    injection hu with hu
    subst hu
    have B4 := Lib.hid (B3.out.trans (hb4.mono B3.out.size))
    have cn4 := keep_cell CN.out hb4
    have cq4 := keep_cell CQ.out hb4
    clear hb4 cn cq cp
    rcases hfit : fits d with _ | _
    · have HFit := Lib.hid hfit
      clear hfit
      go_wp2_with fail
      go_ret2
      refine ⟨false, _, rfl, ?_⟩
      rw [← HX.out, textSp_some _ _ HS.out, if_neg (by rw [HFit.out]; decide)]
      exact ⟨rfl, f, keep_of_below B4.out (Nat.le_refl _) t, HT.out.below B4.out HT.out.lt⟩
    · have HFit := Lib.hid hfit
      clear hfit
      go_wp2_with fail
      refine (mk_bytes t o n d w4 HO.out (Nat.lt_of_lt_of_le HT.out.lt B4.out.size)).mono ?_
      rintro e w5 ⟨k5, e5, rfl, hb5, hv5⟩
      have B5 := Lib.hid (B4.out.trans (hb5.mono B4.out.size))
      have HV5 := Lib.hid hv5
      clear hb5 hv5 cn4 cq4
      go_wp2_with (with_reducible refine hold_callv rfl rfl ?_)
      refine wpl_callv (v := .func (.func k5) #[] e5) (args := #[.string r]) _ rfl rfl rfl (by simp [Act.eval]) (HV5.out f r w5 HR.out (Keep.refl _ _) (HT.out.below B5.out HT.out.lt)) Ans.ret ?_
      intro u w6 hu
      obtain ⟨ok, r6, hr, he⟩ := hu
      injection hr with hr
      subst hr
      have HE := Lib.hid he
      clear he
      go_wp2_with fail
      go_ret2
      refine ⟨ok, r6, rfl, ?_⟩
      rw [← HX.out, textSp_some _ _ HS.out, if_pos HFit.out]
      have K5 := keep_of_below B5.out (Nat.le_refl _) t
      have he := HE.out
      rcases hsb : bytesSp d r with _ | ⟨r7, d7⟩
      · rw [hsb] at he
        obtain ⟨h1, f', h2⟩ := he
        exact ⟨h1, f', K5.trans h2.1, h2.2⟩
      · rw [hsb] at he
        exact ⟨he.1, he.2.1, K5.trans he.2.2.1, he.2.2.2⟩
end Go.Proofs.Ytbeodmijjanmeaa
