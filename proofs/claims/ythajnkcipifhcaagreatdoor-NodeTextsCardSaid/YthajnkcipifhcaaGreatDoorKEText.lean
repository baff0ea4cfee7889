/-
  A vote's text, and the first certificate: the code's, and the reference's.
-/
import Derived.Test.YthajnkcipifhcaaGreatDoorKLaw1
import Derived.Test.YthajnkcipifhcaaGreatDoorKWFewS
section
open Go Go.RowKit
namespace MM
open WW BB
/-- what a key is the digest of -/
def keyT (s : ByteArray) (a b : Int) : ByteArray := ⟨#[75]⟩ ++ txt s ++ num (min a b) ++ num (max a b)
/-- a key, of nodes from 0 to 20 -/
def keyB (s : ByteArray) (a b : Int) : ByteArray := dg (keyT s a b)
/-- a tag -/
def tagB (s : ByteArray) (a b : Int) (t : ByteArray) : ByteArray := (kdg (keyB s a b) t).extract 0 16
end MM
namespace Go.Proofs.YthajnkcipifhcaaGreatDoor
open MM WW BB
end Go.Proofs.YthajnkcipifhcaaGreatDoor
end
section
open Go Go.RowKit
namespace CC
open MM WW BB
/-- a vote's text -/
def textB (v : Int) (k : ByteArray) : ByteArray := ⟨#[86]⟩ ++ num v ++ k
/-- the first block's digest -/
def firstD : ByteArray := dg ⟨#[102, 105, 114, 115, 116]⟩
theorem firstD_size : firstD.size = 32 := dsize _
/-- the cells of a certificate -/
def cC (v : Value) (k : ByteArray) (s : Value) : Nat → Value := fun i => if i = 0 then v else if i = 1 then .string k else s
theorem cC_row (v : Value) (k : ByteArray) (s : Value) : #[v, .string k, s] = row 3 (cC v k s) := by rfl
end CC
namespace Go.Proofs.YthajnkcipifhcaaGreatDoor
open CC MM WW BB
set_option maxRecDepth 100000 in
set_option maxHeartbeats 1000000 in
theorem first_any (w : World) (hT : Tabs w) : Calls Tryz.prog 37 #[] w fun e w' => e = .returned (.agg #[.int .i64 0, .string firstD, .slice none 0 0]) ∧ Below w.heap.size w w' := by
  have HT := Lib.hid hT
  clear hT
  go_enter Tryz.func37, Tryz.ntmps37
  go_wp2_with fail
  obtain ⟨a, ha⟩ : ∃ a, w.heap.size = a := ⟨_, rfl⟩
  have k0 : Blk (w.alloc (.cells #[.int .i64 0, .string ⟨#[]⟩, .slice none 0 0] 33)) a 3 (cC (.int .i64 0) ⟨#[]⟩ (.slice none 0 0)) := Blk.new' ha.symm (cC_row _ _ _)
  have b0 := (Below.refl w.heap.size w).alloc (Nat.le_refl _) (.cells #[.int .i64 0, .string ⟨#[]⟩, .slice none 0 0] 33)
  have HT1 := Lib.hid (HT.out.below b0 (Nat.le_refl _))
  rw [ha] at b0 ⊢
  have HAA := Lib.hid ha
  clear ha
  generalize w.alloc (.cells #[.int .i64 0, .string ⟨#[]⟩, .slice none 0 0] 33) = w1 at *
  refine (sum_any ⟨#[102, 105, 114, 115, 116]⟩ (by decide) w1 HT1.out).mono ?_
  rintro e w2 ⟨rfl, hb2⟩
  have B2 := Lib.hid (b0.trans (hb2.mono (Nat.le_of_lt k0.lt)))
  have K2 := Lib.hid (k0.below hb2 k0.lt)
  clear b0 k0 hb2
  have c0 : w2.cell? ⟨a, 0, none⟩ = some (.int .i64 0) := K2.out.get 0 (by omega)
  have g0 := K2.out.frz 0
  have c1 : w2.cell? ⟨a, 1, none⟩ = some (.string ⟨#[]⟩) := K2.out.get 1 (by omega)
  have g1 := K2.out.frz 1
  have c2 : w2.cell? ⟨a, 2, none⟩ = some (.slice none 0 0) := K2.out.get 2 (by omega)
  have g2 := K2.out.frz 2
  go_wp2_with fail
  have k3 := ((K2.out.set 0 (.int .i64 0)).set 1 (.string firstD)).set 2 (.slice none 0 0)
  have q0 := k3.get 0 (by omega)
  have q1 := k3.get 1 (by omega)
  have q2 := k3.get 2 (by omega)
  rw [show put (put (put (cC (.int .i64 0) ⟨#[]⟩ (.slice none 0 0)) 0 (.int .i64 0)) 1 (.string firstD)) 2 (.slice none 0 0) 0 = .int .i64 0 from rfl] at q0
  rw [show put (put (put (cC (.int .i64 0) ⟨#[]⟩ (.slice none 0 0)) 0 (.int .i64 0)) 1 (.string firstD)) 2 (.slice none 0 0) 1 = .string firstD from rfl] at q1
  rw [show put (put (put (cC (.int .i64 0) ⟨#[]⟩ (.slice none 0 0)) 0 (.int .i64 0)) 1 (.string firstD)) 2 (.slice none 0 0) 2 = .slice none 0 0 from rfl] at q2
  unfold firstD at q0 q1 q2 ⊢
  refine bodyPost_ret (v := .agg #[.int .i64 0, .string (dg ⟨#[102, 105, 114, 115, 116]⟩), .slice none 0 0]) (by simp [results, Tryz.results37, go_sem, q0, q1, q2]) rfl ⟨rfl, ?_⟩
  rw [HAA.out]
  exact B2.out.trans ((((Upd.set _ _ _ _).trans (Upd.set _ _ _ _)).trans (Upd.set _ _ _ _)).below (Nat.le_refl _))
end Go.Proofs.YthajnkcipifhcaaGreatDoor
end
