/-
  The walks of the code's digest: a block more, bytes behind, the sum.
-/
import Derived.Test.YtfbjjlejmcpphaaDoorMixed
import Derived.Test.YtfbjjlejmcpphaaDoorWMem
open Go Go.RowKit
namespace BB
/-- the cells of a digest on its way -/
def dgc (h : Nat → BitVec 32) (B : Nat → Nat) (fl be : Nat) : Nat → Value := fun i =>
  if i < 8 then cw .u32 h i else if i < 72 then cb B (i - 8) else if i = 72 then .int .i64 (fl : Int) else .int .u64 (be : Int)
section
variable {b n : Nat} {f : Nat → Value} {w w1 w2 w3 : World}
end
section
variable {P : Program} {ops : Array Oper} {Q : Exit → Act → World → Prop} {a : Act} {w : World} {rest : List Oper} {o : Oper}
theorem stl_load_as {K : Act → Prop} {T : TypeId} (ad : Operand) (b off N m : Nat) (f g : Nat → Value) (hg : o.guard = none) (ho : o.op = .load T ad) (ha : a.eval ad = .pointer (some ⟨b, off, none⟩))
    (hT : (isAgg T).run P w = .ok true w) (hS : (Go.sizeOf T).run P w = .ok m w) (hb : Cells w b N f) (hN : off + m ≤ N) (e : ∀ i, i < m → f (off + i) = g i)
    (hK : wpStill P ops w K rest (a.put o.dst (.agg (row m g)))) : wpStill P ops w K (o :: rest) a :=
  stl_load ad b off N m f hg ho ha hT hS hb hN (by rw [row_congr m _ g e]; exact hK)
theorem wpl_load_as {T : TypeId} (ad : Operand) (b off N m : Nat) (f g : Nat → Value) (hg : o.guard = none) (ho : o.op = .load T ad) (ha : a.eval ad = .pointer (some ⟨b, off, none⟩))
    (hT : (isAgg T).run P w = .ok true w) (hS : (Go.sizeOf T).run P w = .ok m w) (hb : Cells w b N f) (hN : off + m ≤ N) (e : ∀ i, i < m → f (off + i) = g i)
    (hK : wpList P ops Q rest (a.put o.dst (.agg (row m g))) w) : wpList P ops Q (o :: rest) a w :=
  wpl_load ad b off N m f hg ho ha hT hS hb hN (by rw [row_congr m _ g e]; exact hK)
end
theorem dgc_w (h : Nat → BitVec 32) (B : Nat → Nat) (fl be : Nat) : ∀ i, i < 8 → dgc h B fl be (0 + i) = cw .u32 h i := fun i hi => by simp [dgc, hi]
theorem dgc_b (h : Nat → BitVec 32) (B : Nat → Nat) (fl be : Nat) : ∀ i, i < 64 → dgc h B fl be (8 + i) = cb B i := fun i hi => by
  unfold dgc; rw [if_neg (by omega), if_pos (by omega)]; congr 1; omega
theorem dgc_put_be (h : Nat → BitVec 32) (B : Nat → Nat) (fl be x : Nat) : ∀ i, i < 74 → put (dgc h B fl be) 73 (.int .u64 (x : Int)) i = dgc h B fl x i := fun i hi => by
  unfold put dgc
  by_cases e : i = 73
  · subst e; simp
  · rw [if_neg e]; split; rfl; split; rfl; split; rfl; omega
theorem dgc_put_fl (h : Nat → BitVec 32) (B : Nat → Nat) (fl be x : Nat) : ∀ i, i < 74 → put (dgc h B fl be) 72 (.int .i64 (x : Int)) i = dgc h B x be i := fun i hi => by
  unfold put dgc
  by_cases e : i = 72
  · subst e; simp
  · simp only [if_neg e]
theorem dgc_set_w (h h' : Nat → BitVec 32) (B : Nat → Nat) (fl be : Nat) : ∀ i, i < 74 → (if 0 ≤ i ∧ i < 0 + 8 then cw .u32 h' (i - 0) else dgc h B fl be i) = dgc h' B fl be i := fun i hi => by
  unfold dgc
  by_cases e : i < 8
  · simp [e]
  · rw [if_neg (by omega), if_neg e, if_neg e]
theorem dgc_set_b (h : Nat → BitVec 32) (B B' : Nat → Nat) (fl be : Nat) : ∀ i, i < 74 → (if 8 ≤ i ∧ i < 8 + 64 then cb B' (i - 8) else dgc h B fl be i) = dgc h B' fl be i := fun i hi => by
  unfold dgc
  by_cases e : 8 ≤ i ∧ i < 72
  · rw [if_pos (by omega), if_neg (by omega), if_pos (by omega)]
  · simp only [show ¬ (8 ≤ i ∧ i < 8 + 64) by omega, if_false]
    by_cases e1 : i < 8
    · simp [e1]
    · have e2 : ¬ i < 72 := by omega
      simp [e1, e2]
end BB
namespace Go.Proofs.YtfbjjlejmcpphaaDoor
open BB
/-- a block that is none of the tables' -/
def NoTab (b : Nat) : Prop := b ≠ 0 ∧ b ≠ 1 ∧ b ≠ 2
theorem Tabs.keep {w w' : World} {b : Nat} (h : Tabs w) (hk : Keep b w w') (hb : NoTab b) : Tabs w' :=
  ⟨h.iv.keep hk h.l1 (Ne.symm hb.1), h.sg.keep hk h.l2 (Ne.symm hb.2.1), h.pl.keep hk h.l3 (Ne.symm hb.2.2), Nat.lt_of_lt_of_le h.l1 hk.size, Nat.lt_of_lt_of_le h.l2 hk.size, Nat.lt_of_lt_of_le h.l3 hk.size⟩
set_option maxRecDepth 100000 in
set_option maxHeartbeats 1000000 in
theorem next_any (b : Nat) (h : Nat → BitVec 32) (B : Nat → Nat) (hB : ∀ i, B i < 256) (fl be : Nat) (hbe : be + 64 < 18446744073709551616) (w : World) (hd : Blk w b 74 (dgc h B fl be)) (hT : Tabs w) (hb : NoTab b) :
    Calls Tryd.prog 37 #[.pointer (some ⟨b, 0, none⟩)] w fun e w' => e = .returned (.tuple #[]) ∧ Keep b w w' ∧ Blk w' b 74 (dgc (comp h B (be + 64) false) (fun _ => 0) 0 (be + 64)) := by
  have HB := Lib.hid hB
  have HT := Lib.hid hT
  have HN := Lib.hid hbe
  have HT' := Lib.hid hb
  have HD := Lib.hid hd
  have c73 : w.cell? ⟨b, 73, none⟩ = some (.int .u64 (be : Int)) := hd.get 73 (by omega)
  have f73 := hd.frz 73
  have w73 : IntKind.u64.wrap ((be : Int) + 64) = (be : Int) + 64 := by rw [IntKind.wrap_u64]; omega
  clear hB hT hbe hd hb
  go_enter Tryd.func37, Tryd.ntmps37
  go_wp2_with fail
  refine abs_wp (fun w' => Keep b w w' ∧ Blk w' b 74 (dgc h B fl (be + 64))) ⟨(Upd.set _ _ _ _).keep, ((HD.out.set 73 _).congr _ (dgc_put_be h B fl be (be + 64)))⟩ ?_
  clear c73 f73 w73
  rintro w1 ⟨k1, d1⟩
  refine order_abs [0] [1, 2, 3, 4, 5, 6, 7, 8, 9, 10, 11, 12] 13 [14, 15, 16] (by kernel_rfl) (by kernel_rfl) (fun _ _ d _ _ h => by cases d <;> exact h) fun w2 hs => ?_
  simp only [pick, List.filterMap, List.getElem?_toArray, List.getElem?_cons_zero, List.getElem?_cons_succ]
  refine ⟨_, Or.inl ⟨by rfl, fun _ => rfl⟩, ?_⟩
  have k2 := k1.trans (hs.upd b).keep
  have d2 := d1.same hs
  have c73 : w2.cell? ⟨b, 73, none⟩ = some (.int .u64 ((be + 64 : Nat) : Int)) := d2.get 73 (by omega)
  clear hs k1 d1
  clear w1
  have D2 := Lib.hid d2
  clear d2
  repeat still_step
  refine stl_load_as (.tmp 12) b 0 74 8 _ (cw .u32 h) rfl rfl rfl (agg_w8 _) (size_w8 _) D2.out.cells (by omega) (dgc_w h B fl (be + 64)) ?_
  repeat still_step
  refine stl_load_as (.tmp 16) b 8 74 64 _ (cb B) rfl rfl rfl (agg_b64 _) (size_b64 _) D2.out.cells (by omega) (dgc_b h B fl (be + 64)) ?_
  repeat still_step
  refine wpStill_nil ?_
  clear c73
  go_wp2_with (first
    | (go_at_call 38; refine (mixed_any h B HB.out (be + 64) HN.out false _ (HT.out.keep k2 HT'.out)).mono ?_; rintro e w3 ⟨rfl, hb3⟩)
    | with_reducible refine hold_store (.tmp 24) (.tmp 22) rfl ?_)
  refine wpl_store (.tmp 24) (.tmp 22) b 0 74 8 (dgc h B fl (be + 64)) (cw .u32 (comp h B (be + 64) false)) rfl rfl rfl rfl (size_w8 _) (D2.out.below hb3 D2.out.lt) (by omega) (fun _ _ => rfl) ?_
  intro w4 h4
  have k4 := (k2.trans (keep_of_below hb3 (Nat.le_refl _) b)).trans h4.2.keep
  have D4 := Lib.hid (h4.1.congr (dgc (comp h B (be + 64) false) B fl (be + 64)) (dgc_set_w h (comp h B (be + 64) false) B fl (be + 64)))
  clear h4 hb3 D2 k2
  clear w2 w3
  go_wp2_with (with_reducible refine hold_store (.tmp 28) (.tmp 26) rfl ?_)
  refine wpl_store (.tmp 28) (.tmp 26) b 8 74 64 (dgc (comp h B (be + 64) false) B fl (be + 64)) (cb fun _ => 0) rfl rfl rfl rfl (size_b64 _) D4.out (by omega) (fun _ _ => rfl) ?_
  intro w5 h5
  have k5 := k4.trans h5.2.keep
  have D5 := Lib.hid (h5.1.congr (dgc (comp h B (be + 64) false) (fun _ => 0) fl (be + 64)) (dgc_set_b (comp h B (be + 64) false) B (fun _ => 0) fl (be + 64)))
  clear h5 D4 k4
  clear w4
  have c72 : w5.cell? ⟨b, 72, none⟩ = some (.int .i64 (fl : Int)) := D5.out.get 72 (by omega)
  have f72 := D5.out.frz 72
  go_wp2_with fail
  go_end0
  exact ⟨rfl, k5.trans (Upd.set _ _ _ _).keep, (D5.out.set 72 _).congr _ (dgc_put_fl _ _ _ _ 0)⟩
end Go.Proofs.YtfbjjlejmcpphaaDoor
