/-
  Slices of requests that are put behind one another in a new row. No program is named here.
-/
import Derived.Test.YthajnkcipifhcaaGreatDoorKFItem
import Derived.Test.YthajnkcipifhcaaGreatDoorKLNum
import Derived.Test.YthajnkcipifhcaaGreatDoorKPlanN
import Derived.Test.YthajnkcipifhcaaGreatDoorKERefS
import Derived.Test.YthajnkcipifhcaaGreatDoorKJUnlike
import Derived.Test.YthajnkcipifhcaaGreatDoorKCallsW
import Derived.Laws.AppendOwn
import Derived.Test.YthajnkcipifhcaaGreatDoorKJRow
import Derived.Test.YthajnkcipifhcaaGreatDoorKZMath
import Derived.Test.YthajnkcipifhcaaGreatDoorKWFew
import Derived.Test.YthajnkcipifhcaaGreatDoorChecked
import Derived.Deep.RegionHeld3
import Derived.Test.YthajnkcipifhcaaGreatDoorKJRefT
section
open Go Go.RowKit
namespace FF
open WW BB
/-- the blocks of A stay as they are -/
structure Keeps (A : Nat → Prop) (w w' : World) : Prop where
  b0 : Below 0 w w'
  block : ∀ b, A b → b < w.heap.size → w'.heap[b]? = w.heap[b]?
theorem Keeps.refl (A : Nat → Prop) (w : World) : Keeps A w w := ⟨Below.refl 0 w, fun _ _ _ => rfl⟩
theorem Keeps.trans {A : Nat → Prop} {w1 w2 w3 : World} (h : Keeps A w1 w2) (k : Keeps A w2 w3) : Keeps A w1 w3 := ⟨h.b0.trans k.b0, fun b hb hl => (k.block b hb (Nat.lt_of_lt_of_le hl h.b0.size)).trans (h.block b hb hl)⟩
theorem Keeps.of {A : Nat → Prop} {w w' : World} (h : Below w.heap.size w w') : Keeps A w w' := ⟨h.mono (Nat.zero_le _), fun b _ hl => h.block b hl⟩
theorem Keeps.upd {A : Nat → Prop} {c : Nat} {w w' : World} (h : Upd c w w') (hA : ∀ b, A b → b ≠ c) : Keeps A w w' := ⟨h.below (Nat.zero_le _), fun b hb _ => h.block b (hA b hb)⟩
theorem Keeps.sub {A A' : Nat → Prop} {w w' : World} (h : Keeps A w w') (hA : ∀ b, A' b → b < w.heap.size → A b) : Keeps A' w w' := ⟨h.b0, fun b hb hl => h.block b (hA b hb hl) hl⟩
theorem Keeps.below {w w' : World} (h : Keeps (fun b => b < w.heap.size) w w') : Below w.heap.size w w' := ⟨h.b0.os, h.b0.tape, h.b0.output, h.b0.size, fun k hk => h.block k hk hk⟩
/-- what is said of a world rests upon the blocks of A -/
def Dep (A : Nat → Prop) (w : World) (P : World → Prop) : Prop := ∀ w', Keeps A w w' → P w'
theorem Dep.now {A : Nat → Prop} {w : World} {P : World → Prop} (h : Dep A w P) : P w := h w (Keeps.refl A w)
theorem Dep.on {A : Nat → Prop} {w w' : World} {P : World → Prop} (h : Dep A w P) (hk : Keeps A w w') : Dep A w' P := fun w2 h2 => h w2 (hk.trans h2)
theorem Dep.more {A A' : Nat → Prop} {w : World} {P : World → Prop} (h : Dep A w P) (hA : ∀ b, A b → b < w.heap.size → A' b) : Dep A' w P := fun w2 h2 => h w2 (h2.sub hA)
/-- the forest F, resting upon the blocks of A -/
def FoD (A : Nat → Prop) (w : World) (F : Fo) (nv ov : Value) : Prop := ∃ N O : List Iv, N.map Prod.fst = F.nodes ∧ O.map Prod.fst = F.orph ∧ Dep A w (fun w' => IvAt w' nv N ∧ IvAt w' ov O)
theorem FoD.now {A : Nat → Prop} {w : World} {F : Fo} {nv ov : Value} (h : FoD A w F nv ov) : FoAt w F nv ov := by
  obtain ⟨N, O, h1, h2, h3⟩ := h
  exact ⟨N, O, h1, h2, h3.now.1, h3.now.2⟩
theorem FoD.on {A : Nat → Prop} {w w' : World} {F : Fo} {nv ov : Value} (h : FoD A w F nv ov) (hk : Keeps A w w') : FoD A w' F nv ov := by
  obtain ⟨N, O, h1, h2, h3⟩ := h
  exact ⟨N, O, h1, h2, h3.on hk⟩
theorem FoD.more {A A' : Nat → Prop} {w : World} {F : Fo} {nv ov : Value} (h : FoD A w F nv ov) (hA : ∀ b, A b → b < w.heap.size → A' b) : FoD A' w F nv ov := by
  obtain ⟨N, O, h1, h2, h3⟩ := h
  exact ⟨N, O, h1, h2, h3.more hA⟩
/-- a list as a row -/
def rowL (l : List Value) (i : Nat) : Value := l.getD i undef
/-- the call's three boxes: the forest, the item, the result -/
structure PuS (w : World) (g : Nat) (f1 f2 f3 : Nat → Value) (w' : World) : Prop where
  below : Below w.heap.size w w'
  lo : w.heap.size = g
  a : Blk w' g 4 f1
  b : Blk w' (g + 1) 7 f2
  c : Blk w' (g + 1 + 1) 4 f3
theorem PuS.on {w : World} {g : Nat} {f1 f2 f3 : Nat → Value} {w1 w2 : World} (h : PuS w g f1 f2 f3 w1) (hb : Below w1.heap.size w1 w2) : PuS w g f1 f2 f3 w2 :=
  ⟨h.below.trans (hb.mono h.below.size), h.lo, h.a.below hb h.a.lt, h.b.below hb h.b.lt, h.c.below hb h.c.lt⟩
end FF
namespace Go.Proofs.YthajnkcipifhcaaGreatDoor
open FF JJ CC WW BB
end Go.Proofs.YthajnkcipifhcaaGreatDoor
end
section
open Go Go.RowKit
namespace FF
open WW BB
/-- the call's two boxes: the forest, the result -/
structure AdS (w : World) (g : Nat) (f1 f3 : Nat → Value) (w' : World) : Prop where
  below : Below w.heap.size w w'
  lo : w.heap.size = g
  a : Blk w' g 4 f1
  c : Blk w' (g + 1) 4 f3
theorem AdS.on {w : World} {g : Nat} {f1 f3 : Nat → Value} {w1 w2 : World} (h : AdS w g f1 f3 w1) (hb : Below w1.heap.size w1 w2) : AdS w g f1 f3 w2 :=
  ⟨h.below.trans (hb.mono h.below.size), h.lo, h.a.below hb h.a.lt, h.c.below hb h.c.lt⟩
end FF
namespace Go.Proofs.YthajnkcipifhcaaGreatDoor
open FF JJ CC WW BB
end Go.Proofs.YthajnkcipifhcaaGreatDoor
end
section
open Go Go.RowKit
namespace RR
open FF BB
theorem row2_ (a b : Value) : (#[a, b] : Array Value) = row 2 (rowL [a, b]) := rfl
theorem row3_ (a b c : Value) : (#[a, b, c] : Array Value) = row 3 (rowL [a, b, c]) := rfl
theorem row4_ (a b c d : Value) : (#[a, b, c, d] : Array Value) = row 4 (rowL [a, b, c, d]) := rfl
theorem row6_ (a b c d e f : Value) : (#[a, b, c, d, e, f] : Array Value) = row 6 (rowL [a, b, c, d, e, f]) := rfl
theorem rset2 {w : World} {a : Nat} {f : Nat → Value} (h : Blk w a 2 f) (u0 u1 : Value) :
    Blk ((w.setCell ⟨a, 0, none⟩ u0).setCell ⟨a, 1, none⟩ u1) a 2 (rowL [u0, u1]) ∧ Upd a w ((w.setCell ⟨a, 0, none⟩ u0).setCell ⟨a, 1, none⟩ u1) := by
  refine ⟨((h.set 0 u0).set 1 u1).congr _ fun i hi => ?_, ((Upd.refl a w).trans (Upd.set _ _ _ _)).trans (Upd.set _ _ _ _)⟩
  match i, hi with
  | 0, _ => rfl
  | 1, _ => rfl
theorem cells2 {w : World} {b : Nat} {x y : Value} (h : Blk w b 2 (rowL [x, y])) : w.cell? ⟨b, 0, none⟩ = some x ∧ w.cell? ⟨b, 1, none⟩ = some y := ⟨h.get 0 (by omega), h.get 1 (by omega)⟩
theorem cells3 {w : World} {b : Nat} {x y z : Value} (h : Blk w b 3 (rowL [x, y, z])) : w.cell? ⟨b, 0, none⟩ = some x ∧ w.cell? ⟨b, 1, none⟩ = some y ∧ w.cell? ⟨b, 2, none⟩ = some z := ⟨h.get 0 (by omega), h.get 1 (by omega), h.get 2 (by omega)⟩
theorem cells4 {w : World} {b : Nat} {x y z u : Value} (h : Blk w b 4 (rowL [x, y, z, u])) : w.cell? ⟨b, 0, none⟩ = some x ∧ w.cell? ⟨b, 1, none⟩ = some y ∧ w.cell? ⟨b, 2, none⟩ = some z ∧ w.cell? ⟨b, 3, none⟩ = some u := ⟨h.get 0 (by omega), h.get 1 (by omega), h.get 2 (by omega), h.get 3 (by omega)⟩
theorem cells6 {w : World} {b : Nat} {x y z u v t : Value} (h : Blk w b 6 (rowL [x, y, z, u, v, t])) : w.cell? ⟨b, 0, none⟩ = some x ∧ w.cell? ⟨b, 1, none⟩ = some y ∧ w.cell? ⟨b, 2, none⟩ = some z ∧ w.cell? ⟨b, 3, none⟩ = some u ∧ w.cell? ⟨b, 4, none⟩ = some v ∧ w.cell? ⟨b, 5, none⟩ = some t :=
  ⟨h.get 0 (by omega), h.get 1 (by omega), h.get 2 (by omega), h.get 3 (by omega), h.get 4 (by omega), h.get 5 (by omega)⟩
end RR
namespace BB
/-- a store in a plan -/
theorem pl_store {P : Program} {ops : Array Oper} {S : World → Prop} {Q : Exit → Act → World → Prop} {i : Nat} {r : List (Bool × Nat)} {a : Act} {w w' : World} (o : Oper) (ho : ops[i]? = some o) (hg : o.guard = none) (h : (execOp a.eval o).run P w = .ok .skip w') (hS : S w') (hK : wpPlan P ops Q S r (a.put o.dst undef) w') : wpPlan P ops Q S ((false, i) :: r) a w := by
  show wpOp P ops Q i _ a w
  unfold wpOp; simp only [ho, Region.wanted, hg, if_true]
  left; unfold Oper.wp; rw [h]; exact ⟨hS, hK⟩
end BB
end
section
open Go Go.RowKit
namespace SS
open WW BB FF
def cutL (s : Lg) : Lg :=
  let all := s.safe ++ s.wait
  let e := (splitS all).2
  { s with safe := all.extract 0 (min e s.safe.size), wait := all.extract (min e s.safe.size) e }
/-- a call that counts against the fuse, done -/
def burnL (s : Lg) : Lg := if 0 < s.fuse then { s with fuse := s.fuse - 1 } else s
def appendL (s : Lg) (b : ByteArray) : Lg × Int :=
  if s.gone = true then (s, 8) else if b.size = 0 ∨ 4000 < b.size then (s, 1) else if s.fuse = 0 then ({ s with gone := true }, 8) else ({ burnL s with wait := s.wait ++ txt b }, 0)
def syncL (s : Lg) : Lg × Int :=
  if s.gone = true then (s, 8) else if s.fuse = 0 then ({ s with gone := true }, 8) else ({ burnL s with safe := s.safe ++ s.wait, wait := ⟨#[]⟩ }, 0)
def cutA (s : Lg) : Lg × Int := if s.gone = true then (s, 8) else (cutL s, 0)
theorem burn_same (s : Lg) : (burnL s).safe = s.safe ∧ (burnL s).wait = s.wait ∧ (burnL s).gone = s.gone := by
  unfold burnL; split <;> exact ⟨rfl, rfl, rfl⟩
def sizeL (s : Lg) : Nat := s.safe.size + s.wait.size
end SS
end
section
open Go Go.RowKit
namespace RR
open WW BB
def nearI (n : Int) : Int := min (max n 0) 1000000
/-- what the first k bytes tell -/
def hn (b : ByteArray) : Nat → Nat
  | 0 => 0
  | k + 1 => hn b k * 256 + (b.data.toList.getD k 0).toNat
theorem hn_lt (b : ByteArray) : ∀ k, hn b k < 256 ^ k
  | 0 => by show 0 < 1; omega
  | k + 1 => by
    have h := hn_lt b k
    have h1 := UInt8.toNat_lt (b.data.toList.getD k 0)
    show hn b k * 256 + (b.data.toList.getD k 0).toNat < 256 ^ k * 256
    omega
theorem hn_four (b : ByteArray) : hn b 4 = rd4 b := by
  unfold rd4
  simp only [hn]
  omega
theorem hn_step (b : ByteArray) (k : Nat) (hk : k < 4) (hb : k < b.size) : bits .or .u32 (IntKind.u32.wrap ((hn b k : Int) * 256)) (IntKind.u32.wrap (b[k].toNat : Int)) = (hn b (k + 1) : Int) := by
  have h := hn_lt b k
  have h3 : 256 ^ k ≤ 256 ^ 3 := Nat.pow_le_pow_right (by omega) (by omega)
  have h4 : hn b k < 16777216 := Nat.lt_of_lt_of_le h (by simpa using h3)
  have h1 := UInt8.toNat_lt (b.data.toList.getD k 0)
  rw [get_byte]
  have e1 : IntKind.u32.wrap ((hn b k : Int) * 256) = ((hn b k * 256 : Nat) : Int) := by rw [IntKind.wrap_u32']; omega
  have e2 : IntKind.u32.wrap ((b.data.toList.getD k 0).toNat : Int) = ((b.data.toList.getD k 0).toNat : Int) := by rw [IntKind.wrap_u32']; omega
  rw [e1, e2, or_u32 _ _ (by omega) (by omega)]
  show _ = ((hn b k * 256 + (b.data.toList.getD k 0).toNat : Nat) : Int)
  rw [show hn b k * 256 = 2 ^ 8 * hn b k by omega, ← Nat.two_pow_add_eq_or_of_lt (by omega)]
end RR
namespace Go.Proofs.YthajnkcipifhcaaGreatDoor
open RR FF WW BB
set_option maxRecDepth 100000 in
theorem near_is (n x : Int) (hx : nearI n = x) (w : World) : Calls Tryz.prog 312 #[.int .i64 n] w fun e w' => e = .returned (.int .i64 x) ∧ w' = w := by
  subst hx
  go_enter Tryz.func312, Tryz.ntmps312
  go_wp2_with fail
  go_ret
  exact ⟨rfl, rfl⟩
set_option maxRecDepth 100000 in
set_option maxHeartbeats 1000000 in
theorem rnum_is (b : ByteArray) (x : Nat) (hb : b.size = 4) (hx : rd4 b = x) (w : World) : Calls Tryz.prog 279 #[.string b] w fun e w' => e = .returned (.int .i64 (x : Int)) ∧ w' = w := by
  have HB := Lib.hid hb
  have HX := Lib.hid hx
  have HX2 := Lib.hid (show wrap64 (x : Int) = (x : Int) by have h := rd4_lt b; exact IntWalk.wrap64_in _ (by omega))
  clear hb hx
  go_enter Tryz.func279, Tryz.ntmps279
  go_wp2_with fail
  go_loop [3, 5] (fun n i => ∃ k : Nat, k ≤ 4 ∧ i = .int .i64 (k : Int) ∧ n = .int .u32 (hn b k : Int)) (fun _ i => 4 - (intOf i).toNat)
  case atStart => exact ⟨0, by omega, rfl, rfl⟩
  case round =>
    obtain ⟨k, hk, rfl, rfl⟩ := hrel
    by_cases hlt : k < 4
    · have h1 : k < b.size := by rw [HB.out]; exact hlt
      have h2 : (k : Int) < 4 := by omega
      have h3 : (0 : Int) ≤ (k : Int) := by omega
      have h4 : (k : Int) < (b.size : Int) := by omega
      have E := Lib.hid (show bits .or .u32 ((hn b k : Int) * 256 % 4294967296) ((b[k].toNat : Int) % 4294967296) = (hn b (k + 1) : Int) by rw [← IntKind.wrap_u32', ← IntKind.wrap_u32']; exact hn_step b k hlt h1)
      have HLT := Lib.hid hlt
      clear hk
      go_wp2_with fail
      go_round
      case rel => exact ⟨k + 1, by have := HLT.out; omega, by go_num, by rw [E.out]⟩
      case measure => have := HLT.out; simp [intOf]; omega
    · obtain rfl : k = 4 := by omega
      have h2 : ¬ ((4 : Nat) : Int) < 4 := by omega
      have E := Lib.hid (show hn b 4 = x by rw [hn_four]; exact HX.out)
      go_wp2_with fail
      go_ret
      refine ⟨?_, rfl⟩
      show Ending.returned (.int .i64 (wrap64 (hn b 4 : Int))) = _
      rw [E.out, HX2.out]
set_option maxRecDepth 100000 in
set_option maxHeartbeats 2000000 in
theorem bounded_is (a b x y : Int) (hx : nearI a = x) (hy : nearI b = y) (w : World) : Calls Tryz.prog 280 #[.agg #[.int .i64 a, .int .i64 b]] w fun e w' => e = .returned (.agg #[.int .i64 x, .int .i64 y]) ∧ Below w.heap.size w w' := by
  have HX := Lib.hid hx
  have HY := Lib.hid hy
  have X2 := Lib.hid (((Below.refl w.heap.size w).alloc (Nat.le_refl _) (.cells #[.int .i64 a, .int .i64 b] 49)).alloc (by simp) (.cells #[.int .i64 0, .int .i64 0] 49))
  have R0 := Lib.hid (show Blk ((w.alloc (.cells #[.int .i64 a, .int .i64 b] 49)).alloc (.cells #[.int .i64 0, .int .i64 0] 49)) w.heap.size 2 (rowL [.int .i64 a, .int .i64 b]) from (Blk.new' rfl (row2_ _ _)).alloc _)
  have R1 := Lib.hid (show Blk ((w.alloc (.cells #[.int .i64 a, .int .i64 b] 49)).alloc (.cells #[.int .i64 0, .int .i64 0] 49)) (w.heap.size + 1) 2 (rowL [.int .i64 0, .int .i64 0]) from Blk.new' (by simp) (row2_ _ _))
  clear hx hy
  go_enter Tryz.func280, Tryz.ntmps280
  go_wp2_with fail
  obtain ⟨w0, hw0⟩ : ∃ w0, (w.alloc (.cells #[.int .i64 a, .int .i64 b] 49)).alloc (.cells #[.int .i64 0, .int .i64 0] 49) = w0 := ⟨_, rfl⟩
  rw [hw0] at X2 R0 R1
  rw [hw0]
  clear hw0
  refine tail_abs 7 (by kernel_rfl) (by kernel_rfl) fun w2 hs2 => ?_
  have Y2 := Lib.hid (X2.out.trans (hs2.below _))
  have S1 := Lib.hid (R1.out.same hs2)
  obtain ⟨c0, c1⟩ := cells2 (R0.out.same hs2)
  clear hs2
  simp only [List.take_succ_cons, List.take_zero, List.drop_succ_cons, List.drop_zero]
  iterate 2 still_step
  still_call (near_is a x HX.out w2)
  iterate 2 still_step
  still_call (near_is b y HY.out w2)
  iterate 1 still_step
  refine wpStill_nil ?_
  obtain ⟨e0, e1⟩ := cells2 S1.out
  have f0 := S1.out.frz 0
  have f1 := S1.out.frz 1
  go_wp2_with fail
  obtain ⟨xi, ui⟩ := rset2 S1.out (.int .i64 x) (.int .i64 y)
  obtain ⟨p0, p1⟩ := cells2 xi
  refine bodyPost_ret (v := .agg #[.int .i64 x, .int .i64 y]) (by simp [results, Tryz.results280, go_sem, p0, p1]) rfl ⟨rfl, ?_⟩
  exact Y2.out.trans (ui.below (by omega))
end Go.Proofs.YthajnkcipifhcaaGreatDoor
end
section
open Go Go.RowKit
namespace RR
open WW BB
/-- what is answered of the state that is read, or of none -/
def ansR (o : Option (Int × Int)) : Int × Int × Int := match o with | some s => (s.1, s.2, 0) | none => (0, 0, 2)
theorem take_size {b : ByteArray} (h : b.size = 8) : (b.extract 0 4).size = 4 ∧ (b.extract 4 b.size).size = 4 := by
  rw [ByteArray.size_extract, ByteArray.size_extract]; omega
theorem near_in {n : Int} (h : 0 ≤ n ∧ n ≤ 1000000) : nearI n = n := by unfold nearI; omega
theorem near_out {n : Int} (h : 1000000 < n) : nearI n = 1000000 := by unfold nearI; omega
end RR
namespace Go.Proofs.YthajnkcipifhcaaGreatDoor
open RR FF WW BB
set_option maxRecDepth 100000 in
set_option maxHeartbeats 2000000 in
theorem read_short (b : ByteArray) (h8 : b.size ≠ 8) (w : World) : Calls Tryz.prog 235 #[.string b] w fun e w' => e = .returned (.tuple #[.agg #[.int .i64 0, .int .i64 0], .int .i64 2]) ∧ Below w.heap.size w w' := by
  have t1 : ((b.size : Int) == 8) = false := by rw [beq_eq_false_iff_ne]; omega
  have t2 : ¬ (b.size : Int) = 8 := by omega
  clear h8
  go_enter Tryz.func235, Tryz.ntmps235
  go_wp2_with fail
  refine bodyPost_ret (v := .tuple #[.agg #[.int .i64 0, .int .i64 0], .int .i64 2]) (by simp [results, Tryz.results235, go_sem]) rfl ⟨rfl, ?_⟩
  exact (Below.refl w.heap.size w).alloc (Nat.le_refl _) _
set_option maxRecDepth 100000 in
set_option maxHeartbeats 4000000 in
theorem read_full (b : ByteArray) (h8 : b.size = 8) (n m : Nat) (hn : rd4 (b.extract 0 4) = n) (hm : rd4 (b.extract 4 b.size) = m) (x y z : Int) (hz : ansR (if n ≤ 1000000 ∧ m ≤ 1000000 then some ((n : Int), (m : Int)) else none) = (x, y, z)) (w : World) :
    Calls Tryz.prog 235 #[.string b] w fun e w' => e = .returned (.tuple #[.agg #[.int .i64 x, .int .i64 y], .int .i64 z]) ∧ Below w.heap.size w w' := by
  obtain ⟨X, hX⟩ : ∃ X, b.extract 0 4 = X := ⟨_, rfl⟩
  obtain ⟨Y, hY⟩ : ∃ Y, b.extract 4 b.size = Y := ⟨_, rfl⟩
  have hY' : b.extract 4 8 = Y := by rw [← h8]; exact hY
  have H1 := Lib.hid (show X.size = 4 ∧ rd4 X = n from hX ▸ ⟨(take_size h8).1, hn⟩)
  have H2 := Lib.hid (show Y.size = 4 ∧ rd4 Y = m from hY ▸ ⟨(take_size h8).2, hm⟩)
  have HZ := Lib.hid hz
  have t0 : (b.size : Int) = 8 := by omega
  have t1 : ((b.size : Int) == 8) = true := by rw [beq_iff_eq]; omega
  have t2 : (4 : Int) ≤ (b.size : Int) := by omega
  have X1 := Lib.hid ((Below.refl w.heap.size w).alloc (Nat.le_refl _) (.cells #[.int .i64 0, .int .i64 0] 49))
  have R1 := Lib.hid (show Blk (w.alloc (.cells #[.int .i64 0, .int .i64 0] 49)) w.heap.size 2 (rowL [.int .i64 0, .int .i64 0]) from Blk.new' rfl (row2_ _ _))
  clear h8 hn hm hz
  go_enter Tryz.func235, Tryz.ntmps235
  go_upto_region 3 with fail
  obtain ⟨w0, hw0⟩ : ∃ w0, w.alloc (.cells #[.int .i64 0, .int .i64 0] 49) = w0 := ⟨_, rfl⟩
  rw [hw0] at X1 R1
  rw [hw0]
  clear hw0
  have hst : Below w0.heap.size w0 w0.drew := (Below.refl _ _).drew
  have hst2 : ∀ x y : Value, Below w0.heap.size w0 (w0.alloc (.cells #[x, y] 49)).drew := fun x y => ((Below.refl _ _).alloc (Nat.le_refl _) _).drew
  go_cut [4] from 9 to 15 (fun s wx => ∃ y, s = .pointer (some ⟨y, 0, none⟩) ∧ Blk wx y 2 (rowL [.int .i64 (n : Int), .int .i64 (m : Int)]) ∧ Below w0.heap.size w0 wx ∧ w0.heap.size ≤ y)
  case first =>
    go_wp2_with fail
    go_region_held3 (fun w' => Below w0.heap.size w0 w')
      (first | exact hst | exact hst2 _ _ | assumption)
      (first
        | (go_at_call 279; (with_reducible refine (rnum_is X n H1.out.1 H1.out.2 _).mono ?_); rintro e w1 ⟨rfl, rfl⟩)
        | (go_at_call 279; (with_reducible refine (rnum_is Y m H2.out.1 H2.out.2 _).mono ?_); rintro e w1 ⟨rfl, rfl⟩))
    all_goals
      go_wp2_with fail
      go_meet
      exact ⟨w0.heap.size, rfl, (Blk.new' (w := w0) (t := 49) rfl (row2_ (.int .i64 (n : Int)) (.int .i64 (m : Int)))).of_heap rfl, hst2 _ _, Nat.le_refl _⟩
  case rest =>
    obtain ⟨q, rfl, hy, hb, hl⟩ := hcut
    have HY := Lib.hid hy
    have YB := Lib.hid hb
    have YL := Lib.hid hl
    have HSC := Lib.hid (fun (wx : World) (h : Below wc.heap.size wc wx) => cells2 (HY.out.below h HY.out.lt))
    clear hy hb hl hst hst2 hX hY hY' t0 t1 t2
    go_wp2_with fail
    refine plan_abs (fun wx => Below wc.heap.size wc wx) [(true, 0), (true, 1), (false, 2), (true, 3)] (by kernel_rfl) (by kernel_rfl) (fun _ _ d _ _ h => by cases d <;> exact h) fun w5 hs5 => ⟨hs5.below _, ?_⟩
    have Z5 := Lib.hid (show Below wc.heap.size wc w5 from hs5.below _)
    clear hs5
    iterate 2 (refine pl_run _ ?_ rfl rfl ?_ ?_; rotate_left; (focus (intro w' hS; obtain ⟨d0, d1⟩ := HSC.out w' hS; go_simp; exact rfl)); simp only [Act.put, List.setIfInBounds_toArray, List.set_cons_zero, List.set_cons_succ, List.getElem_toArray, List.getElem_cons_zero, List.getElem_cons_succ])
    by_cases h1 : n ≤ 1000000
    · by_cases h2 : m ≤ 1000000
      · obtain ⟨rfl, rfl, rfl⟩ : (n : Int) = x ∧ (m : Int) = y ∧ 0 = z := by
          have := HZ.out
          rw [if_pos ⟨h1, h2⟩] at this
          exact ⟨congrArg (·.1) this, congrArg (·.2.1) this, congrArg (·.2.2) this⟩
        have HNB := Lib.hid (And.intro (near_in (n := (n : Int)) (by omega)) (near_in (n := (m : Int)) (by omega)))
        clear h1 h2
        refine pl_call1 (v := .agg #[.int .i64 (n : Int), .int .i64 (m : Int)]) (R := fun w' => Below w5.heap.size w5 w') _ rfl rfl (by go_simp) (bounded_is (n : Int) (m : Int) (n : Int) (m : Int) (HNB.out.1) (HNB.out.2) _) (fun w' h => Z5.out.trans (h.mono Z5.out.size)) fun w6 hb6 => ?_
        have Z6 := Lib.hid (Z5.out.trans (hb6.mono Z5.out.size))
        clear hb6
        simp only [Act.put, List.setIfInBounds_toArray, List.set_cons_zero, List.set_cons_succ, List.getElem_toArray, List.getElem_cons_zero, List.getElem_cons_succ]
        iterate 1 (refine pl_run _ ?_ rfl rfl ?_ ?_; rotate_left; (focus (intro w' hS; obtain ⟨d0, d1⟩ := HSC.out w' hS; go_simp; exact rfl)); simp only [Act.put, List.setIfInBounds_toArray, List.set_cons_zero, List.set_cons_succ, List.getElem_toArray, List.getElem_cons_zero, List.getElem_cons_succ])
        refine pl_end ?_
        obtain ⟨d0, d1⟩ := HSC.out w6 Z6.out
        have S1 := Lib.hid (R1.out.below (YB.out.trans (Z6.out.mono YB.out.size)) R1.out.lt)
        obtain ⟨e0, e1⟩ := cells2 S1.out
        have f0 := S1.out.frz 0
        have f1 := S1.out.frz 1
        go_wp2_with fail
        obtain ⟨xi, ui⟩ := rset2 S1.out (.int .i64 (n : Int)) (.int .i64 (m : Int))
        obtain ⟨p0, p1⟩ := cells2 xi
        refine bodyPost_ret (v := .tuple #[.agg #[.int .i64 (n : Int), .int .i64 (m : Int)], .int .i64 0]) (by simp [results, Tryz.results235, go_sem, p0, p1]) rfl ⟨rfl, ?_⟩
        exact (X1.out.trans ((YB.out.trans (Z6.out.mono YB.out.size)).mono X1.out.size)).trans (ui.below (Nat.le_refl _))
      · obtain ⟨rfl, rfl, rfl⟩ : 0 = x ∧ 0 = y ∧ 2 = z := by
          have := HZ.out
          rw [if_neg (fun h => h2 h.2)] at this
          exact ⟨congrArg (·.1) this, congrArg (·.2.1) this, congrArg (·.2.2) this⟩
        have HNB := Lib.hid (And.intro (near_in (n := (n : Int)) (by omega)) (near_out (n := (m : Int)) (by omega)))
        have hne : ¬ (m : Int) = 1000000 := by omega
        clear h1 h2
        refine pl_call1 (v := .agg #[.int .i64 (n : Int), .int .i64 1000000]) (R := fun w' => Below w5.heap.size w5 w') _ rfl rfl (by go_simp) (bounded_is (n : Int) (m : Int) (n : Int) 1000000 (HNB.out.1) (HNB.out.2) _) (fun w' h => Z5.out.trans (h.mono Z5.out.size)) fun w6 hb6 => ?_
        have Z6 := Lib.hid (Z5.out.trans (hb6.mono Z5.out.size))
        clear hb6
        simp only [Act.put, List.setIfInBounds_toArray, List.set_cons_zero, List.set_cons_succ, List.getElem_toArray, List.getElem_cons_zero, List.getElem_cons_succ]
        iterate 1 (refine pl_run _ ?_ rfl rfl ?_ ?_; rotate_left; (focus (intro w' hS; obtain ⟨d0, d1⟩ := HSC.out w' hS; go_simp; exact rfl)); simp only [Act.put, List.setIfInBounds_toArray, List.set_cons_zero, List.set_cons_succ, List.getElem_toArray, List.getElem_cons_zero, List.getElem_cons_succ])
        refine pl_end ?_
        obtain ⟨d0, d1⟩ := HSC.out w6 Z6.out
        have S1 := Lib.hid (R1.out.below (YB.out.trans (Z6.out.mono YB.out.size)) R1.out.lt)
        obtain ⟨e0, e1⟩ := cells2 S1.out
        have f0 := S1.out.frz 0
        have f1 := S1.out.frz 1
        go_wp2_with fail
        obtain ⟨xi, ui⟩ := rset2 S1.out (.int .i64 0) (.int .i64 0)
        obtain ⟨p0, p1⟩ := cells2 xi
        refine bodyPost_ret (v := .tuple #[.agg #[.int .i64 0, .int .i64 0], .int .i64 2]) (by simp [results, Tryz.results235, go_sem, p0, p1]) rfl ⟨rfl, ?_⟩
        exact (X1.out.trans ((YB.out.trans (Z6.out.mono YB.out.size)).mono X1.out.size)).trans (ui.below (Nat.le_refl _))
    · obtain ⟨rfl, rfl, rfl⟩ : 0 = x ∧ 0 = y ∧ 2 = z := by
        have := HZ.out
        rw [if_neg (fun h => h1 h.1)] at this
        exact ⟨congrArg (·.1) this, congrArg (·.2.1) this, congrArg (·.2.2) this⟩
      have hne : ¬ (n : Int) = 1000000 := by omega
      obtain ⟨y', hy'⟩ : ∃ y', nearI (m : Int) = y' := ⟨_, rfl⟩
      have HNB := Lib.hid (And.intro (near_out (n := (n : Int)) (by omega)) hy')
      clear h1 hy'
      refine pl_call1 (v := .agg #[.int .i64 1000000, .int .i64 y']) (R := fun w' => Below w5.heap.size w5 w') _ rfl rfl (by go_simp) (bounded_is (n : Int) (m : Int) 1000000 y' (HNB.out.1) (HNB.out.2) _) (fun w' h => Z5.out.trans (h.mono Z5.out.size)) fun w6 hb6 => ?_
      have Z6 := Lib.hid (Z5.out.trans (hb6.mono Z5.out.size))
      clear hb6
      simp only [Act.put, List.setIfInBounds_toArray, List.set_cons_zero, List.set_cons_succ, List.getElem_toArray, List.getElem_cons_zero, List.getElem_cons_succ]
      iterate 1 (refine pl_run _ ?_ rfl rfl ?_ ?_; rotate_left; (focus (intro w' hS; obtain ⟨d0, d1⟩ := HSC.out w' hS; go_simp; exact rfl)); simp only [Act.put, List.setIfInBounds_toArray, List.set_cons_zero, List.set_cons_succ, List.getElem_toArray, List.getElem_cons_zero, List.getElem_cons_succ])
      refine pl_end ?_
      obtain ⟨d0, d1⟩ := HSC.out w6 Z6.out
      have S1 := Lib.hid (R1.out.below (YB.out.trans (Z6.out.mono YB.out.size)) R1.out.lt)
      obtain ⟨e0, e1⟩ := cells2 S1.out
      have f0 := S1.out.frz 0
      have f1 := S1.out.frz 1
      go_wp2_with fail
      obtain ⟨xi, ui⟩ := rset2 S1.out (.int .i64 0) (.int .i64 0)
      obtain ⟨p0, p1⟩ := cells2 xi
      refine bodyPost_ret (v := .tuple #[.agg #[.int .i64 0, .int .i64 0], .int .i64 2]) (by simp [results, Tryz.results235, go_sem, p0, p1]) rfl ⟨rfl, ?_⟩
      exact (X1.out.trans ((YB.out.trans (Z6.out.mono YB.out.size)).mono X1.out.size)).trans (ui.below (Nat.le_refl _))
end Go.Proofs.YthajnkcipifhcaaGreatDoor
end
section
open Go Go.RowKit
namespace TI
/-- the span behind so many that failed -/
def spanF (k : Int) : Int := if k ≤ 0 then 4 else if k = 1 then 8 else 16
theorem span_bound (k : Int) : 4 ≤ spanF k ∧ spanF k ≤ 16 := by unfold spanF; split <;> (try split) <;> omega
/-- a timer: its view, how many failed, how many ticks are left -/
abbrev Tim := Int × Int × Int
/-- a view that there is -/
def clampV (v : Int) : Int := min (max v 1) 1000001
def newT (v : Int) : Tim := (clampV v, 0, 4)
def tickT (t : Tim) : Tim × Bool := if t.1 = 1000001 then (t, false) else if 1 < t.2.2 then ((t.1, t.2.1, t.2.2 - 1), false) else ((t.1 + 1, t.2.1 + 1, spanF (t.2.1 + 1)), true)
def enterT (t : Tim) (v : Int) : Tim × Bool := if t.1 = 1000001 then (t, false) else if v ≤ t.1 then (t, false) else ((min v 1000001, 0, 4), true)
/-- a call: its kind, its view -/
abbrev OpT := Nat × Int
/-- what always holds -/
def InvT (t : Tim) : Prop := 1 ≤ t.1 ∧ t.1 ≤ 1000001 ∧ 0 ≤ t.2.1 ∧ t.2.1 < t.1 ∧ 1 ≤ t.2.2 ∧ t.2.2 ≤ 16
theorem inv_tick {t : Tim} (h : InvT t) : InvT (tickT t).1 := by
  unfold tickT
  have := span_bound (t.2.1 + 1)
  split
  · exact h
  · split
    · unfold InvT at h ⊢; simp only; omega
    · unfold InvT at h ⊢; simp only; omega
theorem inv_enter {t : Tim} (h : InvT t) (v : Int) : InvT (enterT t v).1 := by
  unfold enterT
  split
  · exact h
  · split
    · exact h
    · unfold InvT at h ⊢; simp only; omega
end TI
namespace TI
open FF WW BB
end TI
end
section
open Go Go.RowKit
namespace GA
open WW
def clampN (n : Int) : Nat := (min (max n 1) 7).toNat
def newG (n : Int) : List Int := List.replicate (clampN n) 0
theorem clampN_is (n : Int) : ((clampN n : Nat) : Int) = min (max n 1) 7 := by unfold clampN; omega
theorem clampN_le (n : Int) : 1 ≤ clampN n ∧ clampN n ≤ 7 := by unfold clampN; omega
end GA
namespace GA
open FF WW BB
end GA
end
section
open Go Go.RowKit
namespace TI
open FF WW BB
/-- the timer behind a call -/
def Next15 (At : (Nat → Prop) → World → Nat → Tim → Prop) (O : Nat → Prop) (w : World) (g : Nat) (t : Tim) (w' : World) : Prop :=
  ∃ O', At O' w' g t ∧ Keeps (fun b => ¬ O b) w w' ∧ ∀ b, O' b → O b ∨ w.heap.size ≤ b
end TI
namespace Go.Proofs.YthajnkcipifhcaaGreatDoor
open TI FF WW BB
end Go.Proofs.YthajnkcipifhcaaGreatDoor
end
section
open Go Go.RowKit
namespace TI
open RR FF WW BB
/-- the code's timer: how many views are below, how many failed, how many ticks went by -/
def timL (t : Tim) : List Value := [.int .i64 (t.1 - 1), .int .i64 t.2.1, .int .i64 (spanF t.2.1 - t.2.2)]
def At15 (O : Nat → Prop) (w : World) (g : Nat) (t : Tim) : Prop := Blk w g 3 (rowL (timL t)) ∧ ∀ b, O b ↔ b = g
theorem Next15.after {O : Nat → Prop} {w w1 w' : World} {g : Nat} {t : Tim} (h : Next15 At15 O w1 g t w') (hb : Keeps (fun b => ¬ O b) w w1) : Next15 At15 O w g t w' := by
  obtain ⟨O', h1, h2, h3⟩ := h
  exact ⟨O', h1, hb.trans h2, fun b hO => (h3 b hO).imp_right (Nat.le_trans hb.b0.size)⟩
end TI
namespace Go.Proofs.YthajnkcipifhcaaGreatDoor
open TI RR FF WW BB
set_option maxRecDepth 100000 in
set_option maxHeartbeats 1000000 in
/-- bits.Len(4) -/
theorem len4_15 (w : World) : Calls Tryz.prog 222 #[.int .u64 4] w fun e w' => e = .returned (.int .i64 3) ∧ Below w.heap.size w w' := by
  go_enter Tryz.func222, Tryz.ntmps222
  go_wp2_with fail
  refine Calls.mono (R := fun e w' => e = .returned (.int .i64 3) ∧ Below w.heap.size w w') ?_ ?_
  · go_enter Tryz.func265, Tryz.ntmps265
    go_wp2_with fail
    go_ret
    exact ⟨by kernel_rfl, Below.refl _ _⟩
  · rintro e w1 ⟨rfl, hb⟩
    go_wp2_with fail
    go_ret
    exact ⟨rfl, hb⟩
set_option maxRecDepth 100000 in
set_option maxHeartbeats 1000000 in
theorem span15 (w : World) (k : Int) (hk : -9223372036854775808 ≤ k ∧ k ≤ 9223372036854775807) : Calls Tryz.prog 161 #[.int .i64 k] w fun e w' => e = .returned (.int .i64 (spanF k)) ∧ Below w.heap.size w w' := by
  obtain ⟨d, hd, hs⟩ : ∃ d : Int, min (max k 0) 3 = d ∧ (d = 0 ∧ spanF k = 4 ∨ d = 1 ∧ spanF k = 8 ∨ d = 2 ∧ spanF k = 16 ∨ d = 3 ∧ spanF k = 16) := by
    refine ⟨_, rfl, ?_⟩
    unfold spanF
    by_cases h0 : k ≤ 0
    · rw [if_pos h0]; omega
    · rw [if_neg h0]
      by_cases h1 : k = 1
      · rw [if_pos h1]; omega
      · rw [if_neg h1]; omega
  have HS := Lib.hid hs
  clear hs hk
  go_enter Tryz.func161, Tryz.ntmps161
  go_wp2_with fail
  refine (len4_15 w).mono ?_
  rintro e w1 ⟨rfl, hb⟩
  have HB := Lib.hid hb
  clear hb
  go_upto_region 2 with fail
  obtain ⟨rfl, h⟩ | ⟨rfl, h⟩ | ⟨rfl, h⟩ | ⟨rfl, h⟩ := HS.out
  all_goals
    have HE := Lib.hid h
    clear h hd
    go_wp2_with fail
    go_ret
    exact ⟨by rw [HE.out]; rfl, HB.out⟩
/-- a view begun, behind so many that failed -/
def riseT (t : Tim) (v k : Int) : Tim × Bool := if t.1 = 1000001 then (t, false) else if v ≤ t.1 then (t, false) else ((min v 1000001, k, spanF k), true)
end Go.Proofs.YthajnkcipifhcaaGreatDoor
end
section
open Go Go.RowKit
namespace GA
open RR FF WW BB
/-- the views as cells -/
def vwG (t : List Int) : Nat → Value := fun i => .int .i64 (t.getD i 0)
/-- the code's gathering: a box with one slice, and its row -/
def At16 (O : Nat → Prop) (w : World) (g : Nat) (t : List Int) : Prop :=
  ∃ v, Blk w g 1 (rowL [.slice (some ⟨v, 0, none⟩) t.length t.length]) ∧ Blk w v t.length (vwG t) ∧ v ≠ g ∧ ∀ b, O b ↔ b = g ∨ b = v
end GA
namespace Go.Proofs.YthajnkcipifhcaaGreatDoor
open GA RR FF WW BB
set_option maxRecDepth 100000 in
set_option maxHeartbeats 2000000 in
theorem new16 (w : World) (n : Int) : Calls Tryz.prog 36 #[.int .i64 n] w fun e w' => ∃ g O, e = .returned (.pointer (some ⟨g, 0, none⟩)) ∧ At16 O w' g (newG n) ∧ (∀ b, O b → w.heap.size ≤ b) ∧ Below w.heap.size w w' := by
  obtain ⟨m, hm⟩ : ∃ m, clampN n = m := ⟨_, rfl⟩
  have hk : min (max n 1) 7 = (m : Int) := by rw [← hm, clampN_is]
  have HM := Lib.hid (show 1 ≤ m ∧ m ≤ 7 from hm ▸ clampN_le n)
  have HN := Lib.hid (show newG n = List.replicate m 0 by unfold newG; rw [hm])
  have mb : (m : Int) ≤ 7 := by have := HM.out; omega
  have m0 : 0 ≤ (m : Int) := by omega
  clear hm
  go_enter Tryz.func36, Tryz.ntmps36
  go_wp2_with (with_reducible refine hold_make rfl ?_)
  refine wpl_make (.tmp 5) (.tmp 5) 56 3 (.int .i64 0) 8 m rfl rfl (by show _ = Value.int .i64 (m : Int); rw [← hk]; rfl) (by show _ = Value.int .i64 (m : Int); rw [← hk]; rfl) (by kernel_rfl) info_int (by rfl) (by have := HM.out; omega) (by have := HM.out; omega) ?_
  obtain ⟨a, ha⟩ : ∃ a, w.heap.size = a := ⟨_, rfl⟩
  have b0 := (Below.refl w.heap.size w).alloc (Nat.le_refl _) (.cells (madeCells #[.int .i64 0] m) 3)
  have k0 : Blk (w.alloc (.cells (madeCells #[.int .i64 0] m) 3)) a m (fun _ => .int .i64 0) := Blk.new' ha.symm (made_row _ _)
  have z1 : (w.alloc (.cells (madeCells #[.int .i64 0] m) 3)).heap.size = a + 1 := by simp [ha]
  rw [ha] at b0 ⊢
  generalize w.alloc (.cells (madeCells #[.int .i64 0] m) 3) = w1 at *
  have HA := Lib.hid ha
  have B0 := Lib.hid b0
  have K0 := Lib.hid k0
  have Z1 := Lib.hid z1
  clear ha b0 k0 z1
  go_wp2_with fail
  go_ret
  have b1 := B0.out.alloc (by rw [Z1.out]; omega) (.cells #[.slice (some ⟨a, 0, none⟩) m m] 79)
  refine ⟨w1.heap.size, fun b => b = w1.heap.size ∨ b = a, rfl, ⟨a, ?_, ?_, by rw [Z1.out]; omega, fun _ => Iff.rfl⟩, fun b hb => by have := Z1.out; have := HA.out; rcases hb with rfl | rfl <;> omega, HA.out ▸ b1⟩
  · rw [HN.out, List.length_replicate]; exact Blk.new' rfl rfl
  · rw [HN.out, List.length_replicate]
    refine (K0.out.alloc _).congr _ fun i hi => ?_
    unfold vwG
    rw [List.getD_eq_getElem?_getD, List.getElem?_replicate, if_pos hi]; rfl
end Go.Proofs.YthajnkcipifhcaaGreatDoor
end
section
open Go Go.RowKit
namespace ZZ
open FF JJ WW BB
/-- a call's five cells -/
def OpZ (w : World) (b off : Nat) (o : OpP) : Prop :=
  w.cell? ⟨b, off, none⟩ = some (.int .u8 (o.k : Int)) ∧ w.cell? ⟨b, off + 1, none⟩ = some (.int .i64 o.r.1) ∧ w.cell? ⟨b, off + 2, none⟩ = some (.int .i64 o.r.2.1) ∧ w.cell? ⟨b, off + 3, none⟩ = some (.string o.r.2.2) ∧ w.cell? ⟨b, off + 4, none⟩ = some o.lv ∧ ReqsAt w o.lv o.l
theorem OpZ.later {w w' : World} {b off : Nat} {o : OpP} (h : OpZ w b off o) (hb : Below w.heap.size w w') (hl : b < w.heap.size) : OpZ w' b off o := by
  obtain ⟨h0, h1, h2, h3, h4, h5⟩ := h
  have k : ∀ i u, w.cell? ⟨b, i, none⟩ = some u → w'.cell? ⟨b, i, none⟩ = some u := fun i u h => (hb.cell (p := ⟨b, i, none⟩) hl).trans h
  exact ⟨k _ _ h0, k _ _ h1, k _ _ h2, k _ _ h3, k _ _ h4, h5.later hb⟩
/-- v is a slice of calls -/
def OpsZ (w : World) (v : Value) (l : List OpP) : Prop :=
  ∃ a0 cap, v = .slice a0 l.length cap ∧ (l = [] ∨ ∃ b off, a0 = some ⟨b, off, none⟩ ∧ b < w.heap.size ∧ ∀ i, i < l.length → OpZ w b (off + i * 5) (l.getD i opP0))
theorem OpsZ.later {w w' : World} {v : Value} {l : List OpP} (h : OpsZ w v l) (hb : Below w.heap.size w w') : OpsZ w' v l := by
  obtain ⟨a0, cap, e, h⟩ := h
  exact ⟨a0, cap, e, h.imp id fun ⟨b, off, e2, hl, hc⟩ => ⟨b, off, e2, Nat.lt_of_lt_of_le hl hb.size, fun i hi => (hc i hi).later hb hl⟩⟩
/-- the reference's pool: a box of two slices, and what they lie in -/
def RfAt (A : Nat → Prop) (w : World) (y : Nat) (p : Po) : Prop := ∃ wv dv, Blk w y 2 (rowL [wv, dv]) ∧ Dep A w (fun w' => ReqsAt w' wv p.1 ∧ ReqsAt w' dv p.2)
theorem RfAt.keep {A : Nat → Prop} {w w' : World} {y : Nat} {p : Po} (h : RfAt A w y p) (hk : Keeps (fun b => b = y ∨ A b) w w') : RfAt A w' y p := by
  obtain ⟨wv, dv, h1, h2⟩ := h
  exact ⟨wv, dv, h1.of_heap (hk.block y (.inl rfl) h1.lt), h2.on (hk.sub fun b hb _ => .inr hb)⟩
theorem RfAt.on {A : Nat → Prop} {w w' : World} {y : Nat} {p : Po} (h : RfAt A w y p) (hb : Below w.heap.size w w') : RfAt A w' y p := h.keep (Keeps.of hb)
/-- other blocks hold it -/
theorem RfAt.more {A A' : Nat → Prop} {w : World} {y : Nat} {p : Po} (h : RfAt A w y p) (hA : ∀ b, A b → b < w.heap.size → A' b) : RfAt A' w y p := by
  obtain ⟨wv, dv, h1, h2⟩ := h
  exact ⟨wv, dv, h1, h2.more hA⟩
end ZZ
end
section
open Go Go.RowKit
namespace ZZ
open FF JJ WW BB
theorem add_plain (b off k : Nat) : (⟨b, off, none⟩ : Addr).add k = ⟨b, off + k, none⟩ := by unfold Addr.add; split <;> simp [*]
end ZZ
end
