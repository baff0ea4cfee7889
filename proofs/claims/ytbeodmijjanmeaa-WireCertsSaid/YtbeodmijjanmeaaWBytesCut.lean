/-
  The walk of the closure that cuts bytes off.
-/
import Derived.Test.YtbeodmijjanmeaaWClone
open Go Go.RowKit
namespace WW
open BB
theorem Blk.cell_set {w : World} {p t o : Nat} {u v : Value} (h : w.cell? ⟨p, 0, none⟩ = some v) (hp : p ≠ t) : (w.setCell ⟨t, o, none⟩ u).cell? ⟨p, 0, none⟩ = some v :=
  (World.cell?_of_block (w := w) (Below.heap_setCell w ⟨t, o, none⟩ u p hp)).trans h
/-- what a cut leaves of the memory: block t alone has turned -/
def Cell1 (t n : Nat) (f : Nat → Value) (w w' : World) : Prop := Keep t w w' ∧ Blk w' t n f
theorem Cell1.call {t n : Nat} {f : Nat → Value} {w w1 w2 : World} (h : Cell1 t n f w w1) (hb : Below w1.heap.size w1 w2) : Cell1 t n f w w2 :=
  ⟨h.1.trans (keep_of_below hb (Nat.le_refl _) t), h.2.below hb h.2.lt⟩
theorem Cell1.store {t n : Nat} {f : Nat → Value} {w w1 : World} (h : Cell1 t n f w w1) (o : Nat) (u : Value) : Cell1 t n (put f o u) w (w1.setCell ⟨t, o, none⟩ u) :=
  ⟨h.1.trans (Upd.set _ _ _ _).keep, h.2.set o u⟩
theorem keep_cell {p : Nat} {v : Value} {w1 w2 : World} (h : w1.cell? ⟨p, 0, none⟩ = some v) (hb : Below w1.heap.size w1 w2) : w2.cell? ⟨p, 0, none⟩ = some v :=
  (hb.cell (p := ⟨p, 0, none⟩) (World.block_lt_of_cell? w1 _ h)).trans h
end WW
namespace Go.Proofs.Ytbeodmijjanmeaa
open WW BB
set_option maxRecDepth 100000 in
set_option maxHeartbeats 2000000 in
theorem bytesc_short (b : ByteArray) (p : Nat) (N : Nat) (vr : Value) (w : World) (hN : b.size < N) (hp : w.cell? ⟨p, 0, none⟩ = some (.int .i64 N)) :
    Calls Try.prog 89 #[.string b, .pointer (some ⟨p, 0, none⟩), vr] w fun e w' => e = .returned (.tuple #[.string ⟨#[]⟩, .bool false]) ∧ w = w' := by
  have g4 : (b.size : Int) < (N : Int) := by omega
  clear hN
  go_enter Try.func89, Try.ntmps89
  go_wp2_with fail
  go_ret2
  exact ⟨rfl, rfl⟩
set_option maxRecDepth 100000 in
set_option maxHeartbeats 2000000 in
theorem bytesc_yes (b : ByteArray) (p q t o n N : Nat) (f : Nat → Value) (w : World) (hb : b.size ≤ 1000000) (hN : N ≤ b.size) (hpt : p ≠ t) (hqt : q ≠ t)
    (hp : w.cell? ⟨p, 0, none⟩ = some (.int .i64 N)) (hq : w.cell? ⟨q, 0, none⟩ = some (.pointer (some ⟨t, o, none⟩))) (ht : Blk w t n f) (ho : o < n) :
    Calls Try.prog 89 #[.string b, .pointer (some ⟨p, 0, none⟩), .pointer (some ⟨q, 0, none⟩)] w fun e w' =>
      e = .returned (.tuple #[.string (b.extract N b.size), .bool true]) ∧ Cell1 t n (put f o (.string (b.extract 0 N))) w w' := by
  have g4 : ¬ (b.size : Int) < (N : Int) := by omega
  have g5 : (N : Int) ≤ (b.size : Int) := by omega
  have g6 : (0 : Int) ≤ (N : Int) := by omega
  have HB := Lib.hid hb
  have HO := Lib.hid ho
  have HN := Lib.hid hN
  have hsx : (b.extract 0 N).size ≤ 1000000 := by simp; omega
  have HSX := Lib.hid hsx
  have T0 := Lib.hid (⟨Keep.refl t w, ht⟩ : Cell1 t n f w w)
  clear hb ho ht hsx
  go_enter Try.func89, Try.ntmps89
  go_wp2_with fail
  have hst : w.drew.cell? ⟨p, 0, none⟩ = some (.int .i64 N) ∧ w.drew.cell? ⟨q, 0, none⟩ = some (.pointer (some ⟨t, o, none⟩)) := ⟨hp, hq⟩
  have T1 : Hid (Cell1 t n f w w.drew) := Lib.hid ⟨(Same.drewN w 1 |>.upd t).keep, T0.out.2.same (Same.drewN w 1)⟩
  clear T0
  have S1 := Lib.hid hst.1
  have S2 := Lib.hid hst.2
  go_region_held3 (fun w' => w'.cell? ⟨p, 0, none⟩ = some (.int .i64 N) ∧ w'.cell? ⟨q, 0, none⟩ = some (.pointer (some ⟨t, o, none⟩)))
    (first | exact hst | exact hk | exact hks)
    ((go_at_call 90; refine (clone_any _ HSX.out _).mono ?_; rintro e w1 ⟨rfl, hb1⟩;
      have T2 := Lib.hid (T1.out.call hb1);
      have hk : w1.cell? ⟨p, 0, none⟩ = some (.int .i64 N) ∧ w1.cell? ⟨q, 0, none⟩ = some (.pointer (some ⟨t, o, none⟩)) := ⟨keep_cell S1.out hb1, keep_cell S2.out hb1⟩;
      have hks : (w1.setCell ⟨t, o, none⟩ (.string (b.extract 0 N))).cell? ⟨p, 0, none⟩ = some (.int .i64 N) ∧ (w1.setCell ⟨t, o, none⟩ (.string (b.extract 0 N))).cell? ⟨q, 0, none⟩ = some (.pointer (some ⟨t, o, none⟩)) := ⟨Blk.cell_set hk.1 hpt, Blk.cell_set hk.2 hqt⟩;
      have ct := T2.out.2.get o HO.out;
      have ft := T2.out.2.frz o;
      have TF := Lib.hid (T2.out.store o (.string (b.extract 0 N)))))
  obtain ⟨c1, c2⟩ := hks
  clear hk ct ft S1 S2 hst
  go_wp2_with fail
  go_ret2
  exact ⟨rfl, TF.out⟩
end Go.Proofs.Ytbeodmijjanmeaa
