/-
  What the code's node answers that has heard nothing for it; a message's text (layer 18).
-/
import Derived.Test.YthajnkcipifhcaaGreatDoorKTOps
import Derived.Test.YthajnkcipifhcaaGreatDoorKFItem
import Derived.Test.YthajnkcipifhcaaGreatDoorKLNum
import Derived.Test.YthajnkcipifhcaaGreatDoorKPlanN
import Derived.Test.YthajnkcipifhcaaGreatDoorKERefS
import Derived.Test.YthajnkcipifhcaaGreatDoorKJUnlike
import Derived.Test.YthajnkcipifhcaaGreatDoorKSWalkC
import Derived.Test.YthajnkcipifhcaaGreatDoorKWFewS
import Derived.Test.YthajnkcipifhcaaGreatDoorKSWalkR
import Derived.Test.YthajnkcipifhcaaGreatDoorKNoStr
import Derived.Maps.AppendAt
import Derived.Test.YthajnkcipifhcaaGreatDoorKJCopy
import Derived.Test.YthajnkcipifhcaaGreatDoorKNoCText
import Derived.Test.YthajnkcipifhcaaGreatDoorKWMsgLaw
import Derived.Test.YthajnkcipifhcaaGreatDoorKWFew
import Derived.Test.YthajnkcipifhcaaGreatDoorKZNum
import Derived.Test.YthajnkcipifhcaaGreatDoorKSRunM
section
open Go Go.RowKit
namespace TT
open SS RR WW BB FF JJ
/-- what is remembered is right -/
def OkT (st : MemT) : Prop := rightS st.1 ∧ (∀ b ∈ st.2, blockOk b) ∧ st.2.length ≤ 1000
/-- a block whose bytes are not too many -/
def SmallT (b : BlockD) : Prop := SmallB (parI b) (sigsI b) b.2
theorem SmallT.d {b : BlockD} (h : SmallT b) : SmallD b := ⟨by have := h.1; omega, h.2.1, h.2.2.1⟩
theorem ok_none : OkT ((0, 0), []) := ⟨⟨by show (0 : Int) ≤ 0; omega, by show (0 : Int) ≤ 1000000; omega, by show (0 : Int) ≤ 0; omega, by show (0 : Int) ≤ 1000000; omega⟩, fun _ h => (by cases h), Nat.zero_le _⟩
theorem readS_right {b : ByteArray} {s : StT} (h : readS b = some s) : rightS s := by
  unfold readS at h
  split at h
  · split at h
    · rename_i h2
      injection h with h
      subst h
      exact ⟨by show (0 : Int) ≤ ((_ : Nat) : Int); omega, by show ((_ : Nat) : Int) ≤ 1000000; omega, by show (0 : Int) ≤ ((_ : Nat) : Int); omega, by show ((_ : Nat) : Int) ≤ 1000000; omega⟩
    · cases h
  · cases h
theorem up_right {a b : StT} (h : rightS a) (k : rightS b) : rightS (upS a b) := by
  obtain ⟨a1, a2, a3, a4⟩ := h
  obtain ⟨b1, b2, b3, b4⟩ := k
  exact ⟨by show 0 ≤ max a.1 b.1; omega, by show max a.1 b.1 ≤ 1000000; omega, by show 0 ≤ max a.2 b.2; omega, by show max a.2 b.2 ≤ 1000000; omega⟩
theorem recall_ok : ∀ (l : List ByteArray) (a : MemT), rightS a.1 → (∀ b ∈ a.2, blockOk b) → rightS (recallL l a).1 ∧ (∀ b ∈ (recallL l a).2, blockOk b) ∧ (recallL l a).2.length ≤ a.2.length + l.length
  | [], a, h, k => ⟨h, k, by show a.2.length ≤ a.2.length + 0; omega⟩
  | r :: l, a, h, k => by
    cases hx : oneD r with
    | none => rw [recall_stop hx]; exact ⟨h, k, by omega⟩
    | some x =>
      rw [recall_cons hx]
      unfold oneD at hx
      split at hx
      · cases hs : readS (r.extract 1 r.size) with
        | none => rw [hs] at hx; cases hx
        | some s =>
          rw [hs] at hx
          injection hx with hx
          subst hx
          obtain ⟨i1, i2, i3⟩ := recall_ok l (upS a.1 s, a.2) (up_right h (readS_right hs)) k
          exact ⟨i1, i2, by rw [List.length_cons]; have i3 : _ ≤ a.2.length + l.length := i3; show (recallL l (upS a.1 s, a.2)).2.length ≤ _; omega⟩
      · split at hx
        · cases hs : blockRd (r.extract 1 r.size) with
          | none => rw [hs] at hx; cases hx
          | some d =>
            rw [hs] at hx
            injection hx with hx
            subst hx
            obtain ⟨i1, i2, i3⟩ := recall_ok l (a.1, a.2 ++ [d]) h (fun b hb => (List.mem_append.1 hb).elim (k b) fun e => by rw [List.mem_singleton.1 e]; exact (blockRd_sound hs).2)
            exact ⟨i1, i2, by rw [List.length_cons]; have i3 : _ ≤ (a.2 ++ [d]).length + l.length := i3; rw [List.length_append] at i3; show (recallL l (a.1, a.2 ++ [d])).2.length ≤ _; have : [d].length = 1 := rfl; omega⟩
        · cases hx
/-- the memory, and its log, behind a call -/
def NextT (At : (Nat → Prop) → World → Nat → Nat → MemT → Prop) (O O1 : Nat → Prop) (w : World) (m g : Nat) (st : MemT) (s : Lg) (w' : World) : Prop :=
  ∃ O' O1', At9 O' w' g s ∧ At O1' w' m g st ∧ Keeps (fun b => ¬ O b ∧ ¬ O1 b) w w' ∧ (∀ b, O' b → O b ∨ w.heap.size ≤ b) ∧ ∀ b, O1' b → (O1 b ∨ w.heap.size ≤ b) ∧ ¬ O' b
/-- the log alone, behind a call that has lost -/
def LostT (O O1 : Nat → Prop) (w : World) (g : Nat) (s : Lg) (w' : World) : Prop :=
  ∃ O', At9 O' w' g s ∧ Keeps (fun b => ¬ O b ∧ ¬ O1 b) w w' ∧ ∀ b, O' b → O b ∨ w.heap.size ≤ b
/-- what Save answers -/
def SaveAns (At : (Nat → Prop) → World → Nat → Nat → MemT → Prop) (O O1 : Nat → Prop) (w : World) (m g : Nat) (st : MemT) (s : Lg) (x : StT) (L : List BlockD) (e : Ending) (w' : World) : Prop :=
  if rightS x ∧ ∀ b ∈ L, blockOk b then
    e = .returned (.int .i64 (putL s (recsOf st.1 x L)).2) ∧
    (if (putL s (recsOf st.1 x L)).2 = 0 then NextT At O O1 w m g (upS st.1 x, st.2 ++ L) (putL s (recsOf st.1 x L)).1 w' else LostT O O1 w g (putL s (recsOf st.1 x L)).1 w')
  else e = .returned (.int .i64 2) ∧ Below w.heap.size w w'
end TT
namespace Go.Proofs.YthajnkcipifhcaaGreatDoor
open TT SS RR FF WW BB
structure Code10 where
  At : (Nat → Prop) → World → Nat → Nat → MemT → Prop
  keep : ∀ {O w w' m g st}, At O w m g st → Keeps O w w' → At O w' m g st
  lt : ∀ {O w m g st}, At O w m g st → ∀ b, O b → b < w.heap.size
  record : ∀ v l w, Calls Tryz.prog 294 #[.agg #[.int .i64 v, .int .i64 l]] w fun e w' => e = .returned (.string (rcS (v, l))) ∧ Below w.heap.size w w'
  blockRecord : ∀ (x : Bv) w, InnB w x → SmallD x.1 → Calls Tryz.prog 127 #[bvV x] w fun e w' => e = .returned (.string (rcB x.1)) ∧ Below w.heap.size w w'
  recall : ∀ l v w, StrsAt w v l → (∀ r ∈ l, r.size ≤ 1000000) → l.length ≤ 1000 →
    Calls Tryz.prog 77 #[v] w fun e w' => ∃ u L, e = .returned (.tuple #[.agg #[.int .i64 (recallL l ((0, 0), [])).1.1, .int .i64 (recallL l ((0, 0), [])).1.2], u]) ∧ L.map Prod.fst = (recallL l ((0, 0), [])).2 ∧ BvAt w' u L ∧ Below w.heap.size w w'
  open_ : ∀ O w g s, At9 O w g s → OkL s → sizeL s ≤ 1000000 → (recsL s).length ≤ 1000 → s.gone = false →
    Calls Tryz.prog 33 #[.pointer (some ⟨g, 0, none⟩)] w fun e w' => ∃ m O' O1, e = .returned (.tuple #[.pointer (some ⟨m, 0, none⟩), .int .i64 0]) ∧ At9 O' w' g (cutL s) ∧ At O1 w' m g (recallL (recsL s) ((0, 0), [])) ∧
      Keeps (fun b => ¬ O b) w w' ∧ (∀ b, O' b → O b ∨ w.heap.size ≤ b) ∧ ∀ b, O1 b → w.heap.size ≤ b ∧ ¬ O' b
  state : ∀ O w m g st, At O w m g st → OkT st → Calls Tryz.prog 34 #[.pointer (some ⟨m, 0, none⟩)] w fun e w' => e = .returned (.agg #[.int .i64 st.1.1, .int .i64 st.1.2]) ∧ Below w.heap.size w w'
  blocks : ∀ O w m g st, At O w m g st → OkT st → Calls Tryz.prog 80 #[.pointer (some ⟨m, 0, none⟩)] w fun e w' => ∃ u L, e = .returned u ∧ L.map Prod.fst = st.2 ∧ Dep (fun b => w.heap.size ≤ b) w' (fun w'' => BvAt w'' u L) ∧ Below w.heap.size w w'
  save : ∀ (O O1 A : Nat → Prop) w m g st s (x : StT) v (L : List Bv), At9 O w g s → At O1 w m g st → (∀ b, O1 b → ¬ O b) → OkL s → s.gone = false → sizeL s ≤ 900000 → OkT st → Dep A w (fun w' => BvAt w' v L) → (∀ b, A b → ¬ O b ∧ ¬ O1 b) → (∀ y ∈ L, SmallT y.1 ∧ MemI y.1) → L.length ≤ 5 →
    Calls Tryz.prog 251 #[.pointer (some ⟨m, 0, none⟩), .agg #[.int .i64 x.1, .int .i64 x.2], v] w (SaveAns At O O1 w m g st s x (L.map Prod.fst))
section
variable {C : Code10} {O O1 : Nat → Prop} {w w1 : World} {m g : Nat} {st : MemT}
theorem Code10.low (h : C.At O w m g st) (hb : Below w.heap.size w w1) : C.At O w1 m g st := C.keep h (Keeps.of hb)
end
end Go.Proofs.YthajnkcipifhcaaGreatDoor
end
section
open Go Go.RowKit
namespace TT
open SS RR WW BB FF
end TT
namespace Go.Proofs.YthajnkcipifhcaaGreatDoor
open TT SS RR FF WW BB
set_option maxRecDepth 100000 in
set_option maxHeartbeats 2000000 in
theorem blockrec_any (x : Bv) (w : World) (hi : InnB w x) (hs : SmallD x.1) : Calls Tryz.prog 127 #[bvV x] w fun e w' => e = .returned (.string (rcB x.1)) ∧ Below w.heap.size w w' := by
  obtain ⟨⟨⟨⟨v, p⟩, ⟨⟨cv, k⟩, l⟩⟩, m⟩, sv, rv⟩ := x
  obtain ⟨h1, h2⟩ := hi
  obtain ⟨s1, s2, s3⟩ := hs
  replace h1 : SigsAt w sv l := h1
  replace h2 : ReqsAt w rv m := h2
  replace s1 : k.size ≤ 1000000 := s1
  replace s2 : SmallS l := s2
  replace s3 : SmallR m := s3
  have hno : ¬ 9223372036854775807 < (⟨#[66]⟩ : ByteArray).size + (blockB v p cv k l m).size := by
    unfold blockB
    simp only [ByteArray.size_append, num_size, certB_size, flat_size]
    have := s2.2.1; have := s3.2.1
    show ¬ 9223372036854775807 < 1 + _
    omega
  show Calls Tryz.prog 127 #[.agg #[.int .i64 v, .int .i64 p, .int .i64 cv, .string k, sv, rv]] w fun e w' => e = .returned (.string ((⟨#[66]⟩ : ByteArray) ++ blockB v p cv k l m)) ∧ Below w.heap.size w w'
  have HX := Lib.hid (fun wx (hb : Below w.heap.size w wx) => block_any v p cv k sv rv l m wx (h1.later hb) (h2.later hb) s1 s2 s3)
  obtain ⟨a0, cap, rfl, _⟩ := h1
  obtain ⟨a1, cap1, rfl, _⟩ := h2
  have X1 := Lib.hid ((Below.refl w.heap.size w).alloc (Nat.le_refl _) (.cells #[.int .i64 v, .int .i64 p, .int .i64 cv, .string k, .slice a0 l.length cap, .slice a1 m.length cap1] 36))
  clear s1 s2 s3
  go_enter Tryz.func127, Tryz.ntmps127
  go_wp2_with fail
  refine (HX.out _ X1.out).mono ?_
  rintro e w1 ⟨rfl, hb1⟩
  have X2 := Lib.hid (X1.out.trans (hb1.mono X1.out.size))
  clear hb1
  go_wp2_with fail
  go_ret
  exact ⟨rfl, X2.out⟩
set_option maxRecDepth 100000 in
set_option maxHeartbeats 2000000 in
/-- the state of the greater one of both views each -/
theorem greatest_any (s x : StT) (w : World) : Calls Tryz.prog 236 #[.agg #[.int .i64 s.1, .int .i64 s.2], .agg #[.int .i64 x.1, .int .i64 x.2]] w fun e w' => e = .returned (.agg #[.int .i64 (upS s x).1, .int .i64 (upS s x).2]) ∧ Below w.heap.size w w' := by
  obtain ⟨a, b⟩ := s
  obtain ⟨c, d⟩ := x
  have B3 := Lib.hid ((((Below.refl w.heap.size w).alloc (Nat.le_refl _) (.cells #[.int .i64 a, .int .i64 b] 49)).alloc (by simp) (.cells #[.int .i64 c, .int .i64 d] 49)).alloc (by simp; omega) (.cells #[.int .i64 0, .int .i64 0] 49))
  have C3 := Lib.hid (show Blk (((w.alloc (.cells #[.int .i64 a, .int .i64 b] 49)).alloc (.cells #[.int .i64 c, .int .i64 d] 49)).alloc (.cells #[.int .i64 0, .int .i64 0] 49)) (w.heap.size + 2) 2 (rowL [.int .i64 0, .int .i64 0]) from Blk.new' (by simp) (row2_ _ _))
  have D1 := Lib.hid (show Blk (((w.alloc (.cells #[.int .i64 a, .int .i64 b] 49)).alloc (.cells #[.int .i64 c, .int .i64 d] 49)).alloc (.cells #[.int .i64 0, .int .i64 0] 49)) w.heap.size 2 (rowL [.int .i64 a, .int .i64 b]) from ((Blk.new' rfl (row2_ _ _)).alloc _).alloc _)
  have D2 := Lib.hid (show Blk (((w.alloc (.cells #[.int .i64 a, .int .i64 b] 49)).alloc (.cells #[.int .i64 c, .int .i64 d] 49)).alloc (.cells #[.int .i64 0, .int .i64 0] 49)) (w.heap.size + 1) 2 (rowL [.int .i64 c, .int .i64 d]) from (Blk.new' (by simp) (row2_ _ _)).alloc _)
  obtain ⟨w3, hw3⟩ : ∃ w3, ((w.alloc (.cells #[.int .i64 a, .int .i64 b] 49)).alloc (.cells #[.int .i64 c, .int .i64 d] 49)).alloc (.cells #[.int .i64 0, .int .i64 0] 49) = w3 := ⟨_, rfl⟩
  have HW3 := Lib.hid hw3
  rw [hw3] at B3 C3 D1 D2
  clear hw3
  go_enter Tryz.func236, Tryz.ntmps236
  go_upto_region 1 with fail
  rw [HW3.out]
  obtain ⟨q0, q1⟩ := cells2 D1.out
  obtain ⟨r0, r1⟩ := cells2 D2.out
  obtain ⟨x0, x1⟩ := cells2 C3.out
  have f0 := C3.out.frz 0
  have f1 := C3.out.frz 1
  go_wp2_with fail
  obtain ⟨xi, ui⟩ := rset2 C3.out (.int .i64 (max a c)) (.int .i64 (max b d))
  obtain ⟨p0, p1⟩ := cells2 xi
  refine bodyPost_ret (v := .agg #[.int .i64 (max a c), .int .i64 (max b d)]) (by simp [results, Tryz.results236, go_sem, p0, p1]) rfl ⟨rfl, ?_⟩
  exact B3.out.trans (ui.below (by omega))
end Go.Proofs.YthajnkcipifhcaaGreatDoor
end
section
open Go Go.RowKit
namespace TT
open SS RR FF WW BB
/-- the memory in block g -/
structure Mm (tB : TypeId) (g : Nat) (s : StT) (L : List Bv) (x : Value) (w : World) : Prop where
  blk : Blk w g 3 (rowL [.int .i64 s.1, .int .i64 s.2, x])
  row : w.ownsRow (g + 1) tB 6 x L.length (cellsB L)
  inn : ∀ y ∈ L, Dep (fun b => g + 1 ≤ b ∧ x.ownBlock ≠ some b) w (fun w' => InnB w' y)
section
variable {tB : TypeId} {g : Nat} {s : StT} {L : List Bv} {x x' : Value} {w w' w1 : World}
theorem Mm.on (h : Mm tB g s L x w) (hb : Below w.heap.size w w') : Mm tB g s L x w' :=
  ⟨h.blk.below hb h.blk.lt, row_keep h.row fun c hc => hb.block c (h.row.lt c hc).2, fun y hy => (h.inn y hy).on (Keeps.of hb)⟩
theorem Mm.now (h : Mm tB g s L x w) : ∀ y ∈ L, InnB w y := fun y hy => (h.inn y hy).now
theorem Mm.sl (h : Mm tB g s L x w) : ∃ a c, x = .slice a L.length c := own_sl6 h.row
theorem Mm.ne (h : Mm tB g s L x w) : x.ownBlock ≠ some g := fun e => by have := (h.row.lt g e).1; omega
/-- another state -/
theorem Mm.set (h : Mm tB g s L x w) (s' : StT) : Mm tB g s' L x ((w.setCell ⟨g, 0, none⟩ (.int .i64 s'.1)).setCell ⟨g, 1, none⟩ (.int .i64 s'.2)) ∧ Below g w ((w.setCell ⟨g, 0, none⟩ (.int .i64 s'.1)).setCell ⟨g, 1, none⟩ (.int .i64 s'.2)) := by
  have hu : Upd g w ((w.setCell ⟨g, 0, none⟩ (.int .i64 s'.1)).setCell ⟨g, 1, none⟩ (.int .i64 s'.2)) := ((Upd.refl g w).trans (Upd.set _ _ _ _)).trans (Upd.set _ _ _ _)
  refine ⟨⟨((h.blk.set 0 (.int .i64 s'.1)).set 1 (.int .i64 s'.2)).congr _ fun i hi => ?_, row_keep h.row fun c hc => hu.block c (by have := (h.row.lt c hc).1; omega), fun y hy => (h.inn y hy).on (Keeps.upd hu fun b hb => by have := hb.1; omega)⟩, hu.below (Nat.le_refl _)⟩
  match i, hi with
  | 0, _ => rfl
  | 1, _ => rfl
  | 2, _ => rfl
/-- a block more -/
theorem Mm.push (h : Mm tB g s L x w) {y : Bv} (hy : Dep (fun b => g + 1 ≤ b ∧ x.ownBlock ≠ some b) w (fun w' => InnB w' y)) (hg : w.grownBy w1 x.ownBlock)
    (hr : w1.ownsRow (g + 1) tB 6 x' (L.length + 1) (cellsB L ++ encB y)) (hlo : ∀ c, x'.ownBlock = some c → x.ownBlock = some c ∨ w.heap.size ≤ c) :
    Mm tB g s (L ++ [y]) x' (w1.setCell ⟨g, 2, none⟩ x') ∧ Below g w (w1.setCell ⟨g, 2, none⟩ x') := by
  have hu : Upd g w1 (w1.setCell ⟨g, 2, none⟩ x') := (Upd.refl g w1).trans (Upd.set _ _ _ _)
  have hgl := h.blk.lt
  have hk : Keeps (fun b => g + 1 ≤ b ∧ x.ownBlock ≠ some b) w (w1.setCell ⟨g, 2, none⟩ x') := (Keeps.grown hg fun b e hb => hb.2 e).trans (Keeps.upd hu fun b hb => by have := hb.1; omega)
  have hb1 : Below g w w1 := (Below.refl g w).grown hg (by omega) (fun k hk => by have := (h.row.lt k hk).1; omega)
  refine ⟨⟨((h.blk.of_heap (hg.block g hgl (fun e => h.ne e.symm))).set 2 x').congr _ fun i hi => ?_, ?_, fun z hz => ?_⟩, hb1.trans (hu.below (Nat.le_refl _))⟩
  · match i, hi with
    | 0, _ => rfl
    | 1, _ => rfl
    | 2, _ => rfl
  · have hr2 := row_keep hr (w' := w1.setCell ⟨g, 2, none⟩ x') fun c hc => hu.block c (by have := (hr.lt c hc).1; omega)
    rw [List.length_append, cellsB_snoc]
    exact hr2
  · have hA : ∀ b, (g + 1 ≤ b ∧ x.ownBlock ≠ some b) → b < w.heap.size → (g + 1 ≤ b ∧ x'.ownBlock ≠ some b) := fun b hb hl => ⟨hb.1, fun e => (hlo b e).elim hb.2 fun h => by omega⟩
    rcases List.mem_append.1 hz with hz | hz
    · exact dep_step (h.inn z hz) hk hA
    · rw [List.mem_singleton.1 hz]
      exact dep_step hy hk hA
end
theorem mm_start (w : World) (g : Nat) (hg : w.heap.size = g) (t tB : TypeId) : Mm tB g (0, 0) [] (.slice none 0 0) (w.alloc (.cells #[.int .i64 0, .int .i64 0, .slice none 0 0] t)) := by
  subst hg
  exact ⟨Blk.new' rfl (row3_ _ _ _), World.ownsRow_nil _ _ _ _, fun y hy => by cases hy⟩
/-- what a record does to what is remembered -/
def TakeAns (tB : TypeId) (g : Nat) (s : StT) (L : List Bv) (x : Value) (w : World) (o : Option (StT ⊕ BlockD)) (e : Ending) (w' : World) : Prop :=
  Below g w w' ∧ match o with
  | none => e = .returned (.int .i64 2) ∧ Mm tB g s L x w'
  | some (.inl s') => e = .returned (.int .i64 0) ∧ Mm tB g (upS s s') L x w'
  | some (.inr d) => e = .returned (.int .i64 0) ∧ ∃ x' sv rv, Mm tB g s (L ++ [(d, sv, rv)]) x' w'
theorem blockrd_none : blockRd (⟨#[]⟩ : ByteArray) = none := by
  cases h : blockRd (⟨#[]⟩ : ByteArray) with
  | none => rfl
  | some d =>
    obtain ⟨h1, h2⟩ := blockRd_sound h
    have := (block_few h2).1
    rw [← h1] at this
    exact absurd this (by decide)
theorem one_83 {r : ByteArray} (_ : 0 < r.size) (h : r.data.toList.getD 0 0 = 83) : oneD r = (readS (r.extract 1 r.size)).map .inl := by
  unfold oneD
  by_cases h9 : r.size = 9
  · rw [if_pos ⟨h9, h⟩]
  · rw [if_neg (fun k => h9 k.1), if_neg (fun k => by rw [h] at k; exact absurd k.2 (by decide))]
    have : readS (r.extract 1 r.size) = none := by
      unfold readS
      rw [if_neg (by rw [ByteArray.size_extract]; omega)]
    rw [this]; rfl
theorem one_66 {r : ByteArray} (_ : 0 < r.size) (h : r.data.toList.getD 0 0 = 66) : oneD r = (blockRd (r.extract 1 r.size)).map .inr := by
  unfold oneD
  rw [if_neg (fun k => by rw [h] at k; exact absurd k.2 (by decide))]
  by_cases h1 : 1 < r.size
  · rw [if_pos ⟨h1, h⟩]
  · rw [if_neg (fun k => h1 k.1)]
    have : r.extract 1 r.size = ⟨#[]⟩ := by
      apply ba_ext
      rw [ByteArray.data_extract, Array.toList_extract, List.extract_eq_take_drop]
      apply List.eq_nil_of_length_eq_zero
      simp
      omega
    rw [this, blockrd_none]; rfl
theorem one_else {r : ByteArray} (h1 : r.data.toList.getD 0 0 ≠ 83) (h2 : r.data.toList.getD 0 0 ≠ 66) : oneD r = none := by
  unfold oneD
  rw [if_neg (fun k => h1 k.2), if_neg (fun k => h2 k.2)]
theorem one_empty : oneD (⟨#[]⟩ : ByteArray) = none := one_else (by decide) (by decide)
end TT
namespace Go.Proofs.YthajnkcipifhcaaGreatDoor
open TT SS RR FF JJ CC WW BB
section
variable {g : Nat} {s : StT} {L : List Bv} {x : Value} {w : World}
set_option maxRecDepth 100000 in
set_option maxHeartbeats 8000000 in
theorem takestate_any (b : ByteArray) (o : Option StT) (ho : readS b = o) (h : Mm 36 g s L x w) :
    Calls Tryz.prog 176 #[.pointer (some ⟨g, 0, none⟩), .string b] w (TakeAns 36 g s L x w (o.map .inl)) := by
  have H := Lib.hid h
  have HG := Lib.hid h.blk.lt
  clear h
  go_enter Tryz.func176, Tryz.ntmps176
  go_wp2_with fail
  cases o with
  | none =>
    refine (readst_none b w ho).mono ?_
    rintro e w1 ⟨rfl, hb1⟩
    have X1 := Lib.hid (hb1.alloc hb1.size (.cells #[.int .i64 0, .int .i64 0] 49))
    clear hb1 ho
    go_wp2_with fail
    go_ret
    exact ⟨X1.out.mono (Nat.le_of_lt HG.out), rfl, H.out.on X1.out⟩
  | some s' =>
    refine (readst_some b s' w ho).mono ?_
    rintro e w1 ⟨rfl, hb1⟩
    have X1 := Lib.hid (hb1.alloc hb1.size (.cells #[.int .i64 s'.1, .int .i64 s'.2] 49))
    have H1 := Lib.hid (H.out.on X1.out)
    have Q1 := Lib.hid (show Blk (w1.alloc (.cells #[.int .i64 s'.1, .int .i64 s'.2] 49)) w1.heap.size 2 (rowL [.int .i64 s'.1, .int .i64 s'.2]) from Blk.new' rfl (row2_ _ _))
    have HGQ := Lib.hid (show g < w1.heap.size from Nat.lt_of_lt_of_le HG.out hb1.size)
    obtain ⟨q, hq⟩ : ∃ q, w1.heap.size = q := ⟨_, rfl⟩
    obtain ⟨wy, hwy⟩ : ∃ wy, w1.alloc (.cells #[.int .i64 s'.1, .int .i64 s'.2] 49) = wy := ⟨_, rfl⟩
    have HWY := Lib.hid hwy
    have HQ := Lib.hid hq
    rw [hwy] at X1 H1 Q1
    rw [hq] at Q1 HGQ
    clear hb1 ho hwy hq
    go_upto_region 3 with fail
    rw [HWY.out, HQ.out]
    have HSC := Lib.hid (fun (wx : World) (hk : wx.heap[g]? = wy.heap[g]? ∧ wx.heap[q]? = wy.heap[q]?) => And.intro (cells3 (H1.out.blk.of_heap hk.1)) (cells2 (Q1.out.of_heap hk.2)))
    refine planE_abs (fun wx => wx.heap[g]? = wy.heap[g]? ∧ wx.heap[q]? = wy.heap[q]?) 9 [(true, 0), (true, 1), (true, 2), (true, 3), (true, 4), (true, 5), (false, 6), (false, 7), (false, 8), (false, 9)] (by kernel_rfl) (by kernel_rfl) (fun _ _ d _ _ h => by cases d <;> exact h) fun w5 hs5 => ⟨by rw [hs5.heap]; exact ⟨rfl, rfl⟩, ?_⟩
    have Y5 := Lib.hid (show Below wy.heap.size wy w5 from hs5.below _)
    clear hs5
    iterate 6 (refine pe_run _ ?_ rfl rfl ?_ ?_; rotate_left; (focus (intro w' hS; obtain ⟨⟨c0, c1, c2⟩, d0, d1⟩ := HSC.out w' hS; go_simp; exact rfl)); simp only [Act.put, List.setIfInBounds_toArray, List.set_cons_zero, List.set_cons_succ, List.getElem_toArray, List.getElem_cons_zero, List.getElem_cons_succ])
    refine pe_call (R := fun u w' => u = .agg #[.int .i64 (upS s s').1, .int .i64 (upS s s').2] ∧ Below w5.heap.size w5 w') _ rfl rfl (by go_simp) ((greatest_any s s' w5).mono fun e w' h => ⟨_, h.1, rfl, h.2⟩) (fun u w' h => by
      have hb := Y5.out.trans (h.2.mono Y5.out.size)
      exact ⟨hb.block g H1.out.blk.lt, hb.block q Q1.out.lt⟩) fun u w6 hr => ?_
    obtain ⟨rfl, hb6⟩ := hr
    have Y6 := Lib.hid (Y5.out.trans (hb6.mono Y5.out.size))
    have H6 := Lib.hid (H1.out.on Y6.out)
    have S6 := Lib.hid (show w6.heap[g]? = wy.heap[g]? ∧ w6.heap[q]? = wy.heap[q]? from ⟨Y6.out.block g H1.out.blk.lt, Y6.out.block q Q1.out.lt⟩)
    clear hb6
    simp only [Act.put, List.setIfInBounds_toArray, List.set_cons_zero, List.set_cons_succ, List.getElem_toArray, List.getElem_cons_zero, List.getElem_cons_succ]
    refine pe_value (w' := w6) _ (.pointer (some ⟨g, 0, none⟩)) rfl rfl (by go_simp) S6.out ?_
    simp only [Act.put, List.setIfInBounds_toArray, List.set_cons_zero, List.set_cons_succ, List.getElem_toArray, List.getElem_cons_zero, List.getElem_cons_succ]
    refine pe_value (w' := w6) _ (.pointer (some ⟨g, 0, none⟩)) rfl rfl (by go_simp) S6.out ?_
    simp only [Act.put, List.setIfInBounds_toArray, List.set_cons_zero, List.set_cons_succ, List.getElem_toArray, List.getElem_cons_zero, List.getElem_cons_succ]
    refine pe_last _ rfl ?_
    simp only [List.getElem_toArray, List.getElem_cons_zero, List.getElem_cons_succ]
    obtain ⟨e0, e1, e2⟩ := cells3 H6.out.blk
    have f0 := H6.out.blk.frz 0
    have f1 := H6.out.blk.frz 1
    obtain ⟨u0, u1⟩ : ∃ u : Int × Int, u = upS s s' := ⟨_, rfl⟩
    go_wp2_with fail
    go_ret
    obtain ⟨k1, k2⟩ := H6.out.set (upS s s')
    exact ⟨(X1.out.mono (Nat.le_of_lt HG.out)).trans ((Y6.out.mono (Nat.le_of_lt H1.out.blk.lt)).trans k2), rfl, k1⟩
set_option maxRecDepth 100000 in
set_option maxHeartbeats 8000000 in
theorem takeblock_any (b : ByteArray) (hb : b.size ≤ 1000000) (o : Option BlockD) (ho : blockRd b = o) (h : Mm 36 g s L x w) (hl : L.length ≤ 1000) :
    Calls Tryz.prog 177 #[.pointer (some ⟨g, 0, none⟩), .string b] w (TakeAns 36 g s L x w (o.map .inr)) := by
  have H := Lib.hid h
  have HG := Lib.hid h.blk.lt
  have HL := Lib.hid hl
  have HO := Lib.hid ho
  have HBZ := Lib.hid hb
  clear h hl ho hb
  go_enter Tryz.func177, Tryz.ntmps177
  go_wp2_with fail
  refine (read_block b HBZ.out w).mono ?_
  rintro e w1 ⟨hans, hb1⟩
  rw [HO.out] at hans
  cases o with
  | none =>
    have hans : e = .returned (.tuple #[.agg #[.int .i64 0, .int .i64 0, .int .i64 0, .string ⟨#[]⟩, .slice none 0 0, .slice none 0 0], .int .i64 2]) := hans
    subst hans
    have X1 := Lib.hid (hb1.alloc hb1.size (.cells #[.int .i64 0, .int .i64 0, .int .i64 0, .string ⟨#[]⟩, .slice none 0 0, .slice none 0 0] 36))
    clear hb1
    go_wp2_with fail
    go_ret
    exact ⟨X1.out.mono (Nat.le_of_lt HG.out), rfl, H.out.on X1.out⟩
  | some d =>
    obtain ⟨sv, rv, rfl, hin⟩ := blockans_dep hans
    have HIN := Lib.hid hin
    have HENC := Lib.hid (show encB (d, sv, rv) = [.int .i64 (viewI d), .int .i64 (propI d), .int .i64 (jvI d), .string (parI d), sv, rv] from rfl)
    have HXX := Lib.hid (fun c (hc : x.ownBlock = some c) => (H.out.row.lt c hc).2)
    obtain ⟨hsv, hrv⟩ := hin.now
    obtain ⟨sa, sc, hse, _⟩ := hsv
    obtain ⟨ra, rc, hre, _⟩ := hrv
    obtain ⟨sn, hsn⟩ : ∃ sn, (sigsI (d, sv, rv).1).length = sn := ⟨_, rfl⟩
    obtain ⟨rn, hrn⟩ : ∃ rn, ((d, sv, rv) : Bv).1.2.length = rn := ⟨_, rfl⟩
    rw [hsn] at hse
    rw [hrn] at hre
    replace hse : sv = .slice sa sn sc := hse
    replace hre : rv = .slice ra rn rc := hre
    subst hse hre
    clear hans hin hsn hrn
    unfold bvV
    simp only
    obtain ⟨pv, hpv⟩ : ∃ pv, viewI d = pv := ⟨_, rfl⟩
    obtain ⟨pp, hpp⟩ : ∃ pp, propI d = pp := ⟨_, rfl⟩
    obtain ⟨pj, hpj⟩ : ∃ pj, jvI d = pj := ⟨_, rfl⟩
    obtain ⟨pk, hpk⟩ : ∃ pk, parI d = pk := ⟨_, rfl⟩
    rw [hpv, hpp, hpj, hpk] at HENC
    simp only [hpv, hpp, hpj, hpk]
    clear hpv hpp hpj hpk
    have BY := Lib.hid ((Below.refl w1.heap.size w1).alloc (Nat.le_refl _) (.cells #[.int .i64 pv, .int .i64 pp, .int .i64 pj, .string pk, .slice sa sn sc, .slice ra rn rc] 36))
    have X1 := Lib.hid (hb1.alloc hb1.size (.cells #[.int .i64 pv, .int .i64 pp, .int .i64 pj, .string pk, .slice sa sn sc, .slice ra rn rc] 36))
    have H1 := Lib.hid (H.out.on X1.out)
    have Q1 := Lib.hid (show Blk (w1.alloc (.cells #[.int .i64 pv, .int .i64 pp, .int .i64 pj, .string pk, .slice sa sn sc, .slice ra rn rc] 36)) w1.heap.size 6 (rowL [.int .i64 pv, .int .i64 pp, .int .i64 pj, .string pk, .slice sa sn sc, .slice ra rn rc]) from Blk.new' rfl (row6_ _ _ _ _ _ _))
    have D1 := Lib.hid ((HIN.out.more (A' := fun b => g + 1 ≤ b ∧ x.ownBlock ≠ some b) fun b hb _ => ⟨by have := HG.out; omega, fun e => by have := HXX.out b e; omega⟩).on (Keeps.of BY.out))
    obtain ⟨q, hq⟩ : ∃ q, w1.heap.size = q := ⟨_, rfl⟩
    obtain ⟨wy, hwy⟩ : ∃ wy, w1.alloc (.cells #[.int .i64 pv, .int .i64 pp, .int .i64 pj, .string pk, .slice sa sn sc, .slice ra rn rc] 36) = wy := ⟨_, rfl⟩
    have HWY := Lib.hid hwy
    have HQ := Lib.hid hq
    have HWW := Lib.hid (show w.heap.size ≤ w1.heap.size from hb1.size)
    rw [hwy] at X1 H1 Q1 D1
    rw [hq] at Q1
    clear hb1 hwy hq BY
    obtain ⟨xa, xc, hxs⟩ := H.out.sl
    have HXS := Lib.hid hxs
    go_upto_region 3 with fail
    rw [HWY.out, HQ.out]
    have HSC := Lib.hid (fun (wx : World) (hk : Below wy.heap.size wy wx) => And.intro (cells3 (H1.out.blk.below hk H1.out.blk.lt)) (cells6 (Q1.out.below hk Q1.out.lt)))
    clear hxs
    refine planE_abs (fun wx => wx.heap[g]? = wy.heap[g]? ∧ wx.heap[q]? = wy.heap[q]?) 10 [(true, 0), (true, 1), (true, 2), (true, 3), (true, 4), (true, 5), (false, 6), (false, 7), (false, 8), (false, 9), (false, 10)] (by kernel_rfl) (by kernel_rfl) (fun _ _ d _ _ h => by cases d <;> exact h) fun w5 hs5 => ⟨by rw [hs5.heap]; exact ⟨rfl, rfl⟩, ?_⟩
    have Y5 := Lib.hid (show Below wy.heap.size wy w5 from hs5.below _)
    clear hs5
    have HSD := Lib.hid (fun (wx : World) (hk : wx.heap[g]? = wy.heap[g]? ∧ wx.heap[q]? = wy.heap[q]?) => And.intro (cells3 (H1.out.blk.of_heap hk.1)) (cells6 (Q1.out.of_heap hk.2)))
    have H5 := Lib.hid (H1.out.on Y5.out)
    have D5 := Lib.hid (D1.out.on (Keeps.of Y5.out))
    iterate 6 (refine pe_run _ ?_ rfl rfl ?_ ?_; rotate_left; (focus (intro w' hS; obtain ⟨⟨c0, c1, c2⟩, d0, d1, d2, d3, d4, d5⟩ := HSD.out w' hS; go_simp; exact rfl)); simp only [Act.put, List.setIfInBounds_toArray, List.set_cons_zero, List.set_cons_succ, List.getElem_toArray, List.getElem_cons_zero, List.getElem_cons_succ])
    have BA := Lib.hid ((Below.refl w5.heap.size w5).alloc (Nat.le_refl _) (.cells #[.int .i64 pv, .int .i64 pp, .int .i64 pj, .string pk, .slice sa sn sc, .slice ra rn rc] 36))
    obtain ⟨wa, hwa⟩ : ∃ wa, w5.alloc (.cells #[.int .i64 pv, .int .i64 pp, .int .i64 pj, .string pk, .slice sa sn sc, .slice ra rn rc] 36) = wa := ⟨_, rfl⟩
    have HNW := Lib.hid (show ∀ i u, (encB (d, .slice sa sn sc, .slice ra rn rc))[i]? = some u → wa.cell? ((⟨w5.heap.size, 0, none⟩ : Addr).add i) = some u from fun i u hu => by
      have e : (⟨w5.heap.size, 0, none⟩ : Addr).add i = ⟨w5.heap.size, i, none⟩ := by unfold Addr.add; split <;> simp [*]
      rw [e, ← hwa]
      refine cell_new w5 _ _ i u ?_
      rw [← hu, HENC.out]
      simp)
    have HK6 := Lib.hid (fun (wx : World) (hb : Below w5.heap.size w5 wx) => show wx.heap[g]? = wy.heap[g]? ∧ wx.heap[q]? = wy.heap[q]? from ⟨(Y5.out.trans (hb.mono Y5.out.size)).block g H1.out.blk.lt, (Y5.out.trans (hb.mono Y5.out.size)).block q Q1.out.lt⟩)
    refine pe_value (w' := wa) _ (.slice (some ⟨w5.heap.size, 0, none⟩) 1 1) rfl rfl (by rw [← hwa]; go_simp) (HK6.out wa (by rw [← hwa]; exact BA.out)) ?_
    simp only [Act.put, List.setIfInBounds_toArray, List.set_cons_zero, List.set_cons_succ, List.getElem_toArray, List.getElem_cons_zero, List.getElem_cons_succ]
    rw [hwa] at BA
    clear hwa
    have HA := Lib.hid (H5.out.on BA.out)
    have DA := Lib.hid (D5.out.on (Keeps.of BA.out))
    obtain ⟨ti, i1, i2, i3, i4⟩ := info_parts tinfo_blk
    obtain ⟨v', w10, hrun, hown, hgr, _, hloc⟩ := run_append_own_at (P := Tryz.prog) (w := wa) (g + 1) 62 62 36 ti _ 6 88 tund_blks i1 i2 i3 i4 rfl (by decide) x L.length (cellsB L) HA.out.row ⟨w5.heap.size, 0, none⟩ 1 1 (encB (d, .slice sa sn sc, .slice ra rn rc)) rfl HNW.out (encB_one DA.out.now) (by have := HL.out; unfold maxLen; omega) (by have := HL.out; omega) (by have := HA.out.blk.lt; omega)
    obtain ⟨va, vc, rfl⟩ := own_sl6 hown
    have HLO := Lib.hid (show ∀ c, (Value.slice va (L.length + 1) vc).ownBlock = some c → x.ownBlock = some c ∨ wa.heap.size ≤ c from fun c hc => by
      rcases hloc with h | h
      · exact Or.inl (h ▸ hc)
      · rw [h] at hc; injection hc with hc; exact Or.inr (by omega))
    have HGR := Lib.hid hgr
    have HOW := Lib.hid hown
    have hgb := hgr.block g HA.out.blk.lt (fun e => HA.out.ne e.symm)
    have HGB := Lib.hid hgb
    have hqx : q < wa.heap.size := Nat.lt_of_lt_of_le Q1.out.lt (Nat.le_trans Y5.out.size BA.out.size)
    have S10 := Lib.hid (show w10.heap[g]? = wy.heap[g]? ∧ w10.heap[q]? = wy.heap[q]? from ⟨HGB.out.trans (HK6.out wa BA.out).1, (hgr.block q hqx (fun e => by
      have h1 := HXX.out q e.symm
      have h2 := Q1.out
      have h3 := HQ.out
      have h4 := HWW.out
      omega)).trans (HK6.out wa BA.out).2⟩)
    clear hgr hown hloc i1 i2 i3 i4 hgb hqx
    refine pe_value (w' := w10) _ (.slice va (L.length + 1) vc) rfl rfl (by simp [execOp, resolve, invoke, builtin, Act.eval, hrun, Result.andThen]) S10.out ?_
    clear hrun
    simp only [Act.put, List.setIfInBounds_toArray, List.set_cons_zero, List.set_cons_succ, List.getElem_toArray, List.getElem_cons_zero, List.getElem_cons_succ]
    refine pe_value (w' := w10) _ (.pointer (some ⟨g, 0, none⟩)) rfl rfl (by go_simp) S10.out ?_
    simp only [Act.put, List.setIfInBounds_toArray, List.set_cons_zero, List.set_cons_succ, List.getElem_toArray, List.getElem_cons_zero, List.getElem_cons_succ]
    refine pe_value (w' := w10) _ (.pointer (some ⟨g, 2, none⟩)) rfl rfl (by go_simp) S10.out ?_
    simp only [Act.put, List.setIfInBounds_toArray, List.set_cons_zero, List.set_cons_succ, List.getElem_toArray, List.getElem_cons_zero, List.getElem_cons_succ]
    refine pe_last _ rfl ?_
    simp only [List.getElem_toArray, List.getElem_cons_zero, List.getElem_cons_succ]
    obtain ⟨⟨e0, e1, e2⟩, _⟩ := HSD.out w10 S10.out
    have f2 := (World.frozen?_of_block (w := wy) (a := ⟨g, 2, none⟩) S10.out.1).trans (H1.out.blk.frz 2)
    go_wp2_with fail
    go_ret
    obtain ⟨k1, k2⟩ := HA.out.push DA.out HGR.out HOW.out HLO.out
    exact ⟨(X1.out.mono (Nat.le_of_lt HG.out)).trans ((Y5.out.mono (Nat.le_of_lt H1.out.blk.lt)).trans ((BA.out.mono (by have := H5.out.blk.lt; omega)).trans k2)), rfl, _, _, _, k1⟩
set_option maxRecDepth 100000 in
set_option maxHeartbeats 8000000 in
/-- one record more -/
theorem take_any (r : ByteArray) (hr : r.size ≤ 1000000) (h : Mm 36 g s L x w) (hl : L.length ≤ 1000) :
    Calls Tryz.prog 126 #[.pointer (some ⟨g, 0, none⟩), .string r] w (TakeAns 36 g s L x w (oneD r)) := by
  have H := Lib.hid h
  have HL := Lib.hid hl
  have HR := Lib.hid hr
  clear h hl hr
  by_cases h0 : r.size = 0
  · obtain rfl : r = ⟨#[]⟩ := by apply ba_ext; rw [List.eq_nil_of_length_eq_zero ((ba_list r).trans h0)]
    rw [one_empty]
    go_enter Tryz.func126, Tryz.ntmps126
    go_wp2_with fail
    go_ret
    exact ⟨Below.refl _ _, rfl, H.out⟩
  · have g0' : 0 < r.size := by omega
    have g0 : (0 : Int) < (r.size : Int) := by omega
    have q3 : (1 : Int) ≤ (r.size : Int) := by omega
    have e0 := byte0 r g0'
    have te := ba_full g0'
    have HEX := Lib.hid (show (r.extract 1 r.size).size ≤ 1000000 by rw [ByteArray.size_extract]; have := HR.out; omega)
    by_cases h83 : r.data.toList.getD 0 0 = 83
    · have HO := Lib.hid (one_83 g0' h83)
      rw [h83] at e0
      replace e0 : (r[0].toNat : Int) = 83 := e0
      clear h83 h0
      go_enter Tryz.func126, Tryz.ntmps126
      go_wp2_with fail
      refine (takestate_any (r.extract 1 r.size) _ rfl H.out).mono ?_
      intro e w1 hans
      rw [← HO.out] at hans
      cases hx : oneD r with
      | none =>
        rw [hx] at hans
        obtain ⟨hb1, rfl, h1⟩ := hans
        go_wp2_with fail
        go_ret
        refine ⟨hb1, ?_⟩
        rw [hx]
        exact ⟨rfl, h1⟩
      | some z =>
        rcases z with s' | d
        · rw [hx] at hans
          obtain ⟨hb1, rfl, h1⟩ := hans
          go_wp2_with fail
          go_ret
          refine ⟨hb1, ?_⟩
          rw [hx]
          exact ⟨rfl, h1⟩
        · rw [hx] at hans
          obtain ⟨hb1, rfl, h1⟩ := hans
          go_wp2_with fail
          go_ret
          refine ⟨hb1, ?_⟩
          rw [hx]
          exact ⟨rfl, h1⟩
    · by_cases h66 : r.data.toList.getD 0 0 = 66
      · have HO := Lib.hid (one_66 g0' h66)
        rw [h66] at e0
        replace e0 : (r[0].toNat : Int) = 66 := e0
        clear h66 h83 h0
        go_enter Tryz.func126, Tryz.ntmps126
        go_wp2_with fail
        refine (takeblock_any (r.extract 1 r.size) HEX.out _ rfl H.out HL.out).mono ?_
        intro e w1 hans
        rw [← HO.out] at hans
        cases hx : oneD r with
        | none =>
          rw [hx] at hans
          obtain ⟨hb1, rfl, h1⟩ := hans
          go_wp2_with fail
          go_ret
          refine ⟨hb1, ?_⟩
          rw [hx]
          exact ⟨rfl, h1⟩
        | some z =>
          rcases z with s' | d
          · rw [hx] at hans
            obtain ⟨hb1, rfl, h1⟩ := hans
            go_wp2_with fail
            go_ret
            refine ⟨hb1, ?_⟩
            rw [hx]
            exact ⟨rfl, h1⟩
          · rw [hx] at hans
            obtain ⟨hb1, rfl, h1⟩ := hans
            go_wp2_with fail
            go_ret
            refine ⟨hb1, ?_⟩
            rw [hx]
            exact ⟨rfl, h1⟩
      · rw [one_else h83 h66]
        obtain ⟨c, hc⟩ : ∃ c : Nat, (r.data.toList.getD 0 0).toNat = c := ⟨_, rfl⟩
        have hn83 : c ≠ 83 := fun e => h83 (UInt8.toNat_inj.1 (hc.trans (e.trans rfl)))
        have hn66 : c ≠ 66 := fun e => h66 (UInt8.toNat_inj.1 (hc.trans (e.trans rfl)))
        rw [hc] at e0
        have t1 : ((c : Int) == 83) = false := by rw [beq_eq_false_iff_ne]; omega
        have t2 : ((c : Int) == 66) = false := by rw [beq_eq_false_iff_ne]; omega
        clear h66 h83 h0 hc hn83 hn66
        go_enter Tryz.func126, Tryz.ntmps126
        go_wp2_with fail
        go_ret
        exact ⟨Below.refl _ _, rfl, H.out⟩
end
end Go.Proofs.YthajnkcipifhcaaGreatDoor
end
section
open Go Go.RowKit
namespace TT
open SS RR FF WW BB
/-- what Recall has remembered so far: the result's box in block n, the memory behind it -/
structure RcU (tB : TypeId) (n : Nat) (w0 : World) (s : StT) (L : List Bv) (x : Value) (wr : World) : Prop where
  below : Below n w0 wr
  rb : Blk wr n 2 (rowL [.int .i64 0, .int .i64 0])
  mm : Mm tB (n + 1) s L x wr
section
variable {tB : TypeId} {n : Nat} {w0 wr w' : World} {s s' : StT} {L L' : List Bv} {x x' : Value}
theorem RcU.next (h : RcU tB n w0 s L x wr) (hb : Below (n + 1) wr w') (hm : Mm tB (n + 1) s' L' x' w') : RcU tB n w0 s' L' x' w' :=
  ⟨h.below.trans (hb.mono (Nat.le_succ n)), h.rb.of_heap (hb.block n (Nat.lt_succ_self n)), hm⟩
theorem RcU.fin (h : RcU tB n w0 s L x wr) (hu : Upd n wr w') : Dep (fun b => n ≤ b) w' (fun w'' => BvAt w'' x L) ∧ Below n w0 w' := by
  refine ⟨?_, h.below.trans (hu.below (Nat.le_refl _))⟩
  have hr := row_keep h.mm.row (w' := w') fun c hc => hu.block c (by have := (h.mm.row.lt c hc).1; omega)
  exact dep_bv hr (fun y hy => ((h.mm.inn y hy).on (Keeps.upd hu fun b hb => by have := hb.1; omega)).more fun b hb _ => by have := hb.1; omega) fun b hb => by have := (hr.lt b hb).1; omega
end
/-- the blocks' records, as strings -/
def recsV (L : List Bv) : List Value := L.map fun y => Value.string (rcB y.1)
theorem recsV_of (L : List Bv) : recsV L = ((L.map Prod.fst).map rcB).map Value.string := by unfold recsV; rw [List.map_map, List.map_map]; rfl
theorem recsV_step {L : List Bv} {i : Nat} (h : i < L.length) : recsV (L.take (i + 1)) = recsV (L.take i) ++ [.string (rcB (L.getD i vb0).1)] := by
  unfold recsV
  rw [List.take_add_one, List.getElem?_eq_getElem h, List.map_append, List.getD_eq_getElem?_getD, List.getElem?_eq_getElem h]; rfl
end TT
namespace Go.Proofs.YthajnkcipifhcaaGreatDoor
open TT SS RR FF JJ CC WW BB
set_option maxRecDepth 100000 in
set_option maxHeartbeats 8000000 in
theorem recall_any (l : List ByteArray) (v : Value) (w : World) (hv : StrsAt w v l) (hs : ∀ r ∈ l, r.size ≤ 1000000) (hl : l.length ≤ 1000) :
    Calls Tryz.prog 77 #[v] w fun e w' => ∃ u L, e = .returned (.tuple #[.agg #[.int .i64 (recallL l ((0, 0), [])).1.1, .int .i64 (recallL l ((0, 0), [])).1.2], u]) ∧ L.map Prod.fst = (recallL l ((0, 0), [])).2 ∧ Dep (fun b => w.heap.size ≤ b) w' (fun w'' => BvAt w'' u L) ∧ Below w.heap.size w w' := by
  obtain ⟨M, hM⟩ : ∃ M, recallL l ((0, 0), []) = M := ⟨_, rfl⟩
  rw [hM]
  have HM := Lib.hid hM
  have HV := Lib.hid hv
  have HSZ := Lib.hid hs
  have HL := Lib.hid hl
  obtain ⟨a0, cap, rfl, hx⟩ := hv
  have HX := Lib.hid hx
  clear hM hs hl hx
  obtain ⟨n, hn⟩ : ∃ n, w.heap.size = n := ⟨_, rfl⟩
  have K0 := Lib.hid (show RcU 36 n w (0, 0) [] (.slice none 0 0) ((w.alloc (.cells #[.int .i64 0, .int .i64 0] 49)).alloc (.cells #[.int .i64 0, .int .i64 0, .slice none 0 0] 162)) from
    ⟨((Below.refl _ _).alloc (by omega) _).alloc (by simp; omega) _, by rw [← hn]; exact (Blk.new' rfl (row2_ _ _)).alloc _, mm_start _ (n + 1) (by simp; omega) _ _⟩)
  obtain ⟨w0, hw0⟩ : ∃ w0, (w.alloc (.cells #[.int .i64 0, .int .i64 0] 49)).alloc (.cells #[.int .i64 0, .int .i64 0, .slice none 0 0] 162) = w0 := ⟨_, rfl⟩
  have HW0 := Lib.hid hw0
  have HN := Lib.hid hn
  have HB0 := Lib.hid (show Below w.heap.size w w0 by rw [← hw0]; exact ((Below.refl _ _).alloc (Nat.le_refl _) _).alloc (by simp) _)
  rw [hw0] at K0
  clear hw0 hn
  go_enter Tryz.func77, Tryz.ntmps77
  go_upto_region 2 with fail
  rw [HW0.out, HN.out]
  go_wp2_with fail
  go_loopw [9] (fun y wr => ∃ (i : Nat) (s : StT) (L : List Bv) (x : Value), i ≤ l.length ∧ y = .int .i64 (i : Int) ∧ GoodL (l.take i) ∧ recallL (l.take i) ((0, 0), []) = (s, L.map Prod.fst) ∧ L.length ≤ i ∧ RcU 36 n w s L x wr) (fun y _ => l.length - (intOf y).toNat)
  case atStart => exact ⟨0, (0, 0), [], _, Nat.zero_le _, rfl, fun r hr => by simp at hr, rfl, Nat.le_refl _, K0.out⟩
  case round =>
    obtain ⟨i, s, L, x, hi, rfl, hg, hrec, hLi, hst⟩ := hrel
    have HST := Lib.hid hst
    have HG := Lib.hid hg
    have HREC := Lib.hid hrec
    have HLI := Lib.hid hLi
    have i0' : (0 : Int) ≤ (i : Int) := by omega
    have ib : (i : Int) ≤ 1000 := by have := HL.out; omega
    clear hst hg hrec hLi
    by_cases h1 : i < l.length
    · have h1' : (i : Int) < (l.length : Int) := by omega
      have HLT := Lib.hid h1
      obtain ⟨tb, toff, rfl, hbw, hcell⟩ : ∃ b off, a0 = some ⟨b, off, none⟩ ∧ b < w.heap.size ∧ _ := by
        rcases HX.out with h | h
        · subst h; simp at h1
        · exact h
      have k1 := (HST.out.below.cell (p := ⟨tb, toff + i, none⟩) (HN.out ▸ hbw)).trans (hcell i h1)
      obtain ⟨r, hr⟩ : ∃ r, l.getD i ⟨#[]⟩ = r := ⟨_, rfl⟩
      have HR := Lib.hid hr
      rw [hr] at k1
      have HRS := Lib.hid (show r.size ≤ 1000000 from HSZ.out r (by rw [← hr, List.getD_eq_getElem?_getD, List.getElem?_eq_getElem h1]; exact List.getElem_mem h1))
      clear h1 hi hbw hcell hr
      go_wp2_with fail
      refine (take_any r HRS.out HST.out.mm (by have := HLI.out; have := HLT.out; have := HL.out; omega)).mono ?_
      intro e w2 hans
      cases hx : oneD r with
      | none =>
        rw [hx] at hans
        obtain ⟨hb2, rfl, hm2⟩ := hans
        have K2 := Lib.hid (HST.out.next hb2 hm2)
        have HH := Lib.hid (rec_halt HLT.out HG.out HREC.out (by rw [HR.out]; exact hx))
        clear hb2 hx k1 hm2
        have HMM := Lib.hid (show M = (s, L.map Prod.fst) from HM.out.symm.trans HH.out)
        go_wp2_with fail
        obtain ⟨xa, xc, hxs⟩ := K2.out.mm.sl
        subst hxs
        have HSC := Lib.hid (fun (wx : World) (hk : wx.heap[n + 1]? = w2.heap[n + 1]?) => cells3 (K2.out.mm.blk.of_heap hk))
        refine plan_abs (fun wx => wx.heap[n + 1]? = w2.heap[n + 1]?) [(true, 0), (true, 1), (true, 2), (true, 3), (false, 4), (false, 5)] (by kernel_rfl) (by kernel_rfl) (fun _ _ d _ _ h => by cases d <;> exact h) fun w5 hs5 => ⟨by rw [hs5.heap], ?_⟩
        have K5 := Lib.hid (show RcU 36 n w s L (.slice xa L.length xc) w5 from K2.out.next (hs5.below _) (K2.out.mm.on (hs5.below _)))
        have H5 := Lib.hid (show w5.heap[n + 1]? = w2.heap[n + 1]? by rw [hs5.heap])
        clear hs5
        iterate 4 (refine pl_run _ ?_ rfl rfl ?_ ?_; rotate_left; (focus (intro w' hS; obtain ⟨c0, c1, c2⟩ := HSC.out w' hS; go_simp; exact rfl)); simp only [Act.put, List.setIfInBounds_toArray, List.set_cons_zero, List.set_cons_succ, List.getElem_toArray, List.getElem_cons_zero, List.getElem_cons_succ])
        obtain ⟨xi, ui⟩ := rset2 K5.out.rb (.int .i64 s.1) (.int .i64 s.2)
        have XI := Lib.hid xi
        have UI := Lib.hid ui
        obtain ⟨p0, p1⟩ := cells2 xi
        obtain ⟨d0, d1⟩ := cells2 K5.out.rb
        have f0 := K5.out.rb.frz 0
        have f1 := K5.out.rb.frz 1
        have S6 := Lib.hid ((ui.block (n + 1) (by omega)).trans H5.out)
        clear xi ui
        refine pl_store _ rfl rfl (by go_simp) S6.out ?_
        simp only [Act.put, List.getElem_toArray, List.getElem_cons_zero, List.getElem_cons_succ]
        refine pl_value _ (.slice xa L.length xc) rfl rfl (by go_simp) S6.out ?_
        simp only [Act.put, List.setIfInBounds_toArray, List.set_cons_zero, List.set_cons_succ, List.getElem_toArray, List.getElem_cons_zero, List.getElem_cons_succ]
        refine pl_end ?_
        go_wp2_with fail
        obtain ⟨k1, k2⟩ := K5.out.fin UI.out
        refine bodyPost_ret (v := .tuple #[.agg #[.int .i64 s.1, .int .i64 s.2], .slice xa L.length xc]) (by simp [results, Tryz.results77, go_sem, p0, p1]) rfl ⟨.slice xa L.length xc, L, by rw [HMM.out], by rw [HMM.out], ?_, ?_⟩
        · rw [HN.out]; exact k1
        · rw [HN.out]; exact k2
      | some z =>
        rcases z with s' | d
        · rw [hx] at hans
          obtain ⟨hb2, rfl, hm2⟩ := hans
          have K2 := Lib.hid (HST.out.next hb2 hm2)
          have HH := Lib.hid (rec_step HLT.out HG.out HREC.out (by rw [HR.out]; exact hx))
          clear hb2 hx k1 hm2
          go_wp2_with fail
          go_roundw
          case rel => exact ⟨i + 1, upS s s', L, x, by have := HLT.out; omega, by go_num, HH.out.1, HH.out.2, by have := HLI.out; omega, K2.out⟩
          case measure => have := HLT.out; simp [intOf]; omega
        · rw [hx] at hans
          obtain ⟨hb2, rfl, x', sv, rv, hm2⟩ := hans
          have K2 := Lib.hid (HST.out.next hb2 hm2)
          have HH := Lib.hid (rec_step HLT.out HG.out HREC.out (by rw [HR.out]; exact hx))
          clear hb2 hx k1 hm2
          go_wp2_with fail
          go_roundw
          case rel => exact ⟨i + 1, s, L ++ [(d, sv, rv)], x', by have := HLT.out; omega, by go_num, HH.out.1, by rw [HH.out.2, List.map_append]; rfl, by rw [List.length_append]; have := HLI.out; show L.length + 1 ≤ i + 1; omega, K2.out⟩
          case measure => have := HLT.out; simp [intOf]; omega
    · obtain rfl : i = l.length := by omega
      have h1' : ¬ ((l.length : Nat) : Int) < ((l.length : Nat) : Int) := by omega
      have HMM := Lib.hid (show M = (s, L.map Prod.fst) by rw [← HM.out, ← HREC.out, List.take_length])
      clear h1 hi
      go_wp2_with fail
      obtain ⟨xa, xc, hxs⟩ := HST.out.mm.sl
      subst hxs
      have HSC := Lib.hid (fun (wx : World) (hk : wx.heap[n + 1]? = wr.heap[n + 1]?) => cells3 (HST.out.mm.blk.of_heap hk))
      refine plan_abs (fun wx => wx.heap[n + 1]? = wr.heap[n + 1]?) [(true, 0), (true, 1), (true, 2), (true, 3), (false, 4), (false, 5)] (by kernel_rfl) (by kernel_rfl) (fun _ _ d _ _ h => by cases d <;> exact h) fun w5 hs5 => ⟨by rw [hs5.heap], ?_⟩
      have K5 := Lib.hid (show RcU 36 n w s L (.slice xa L.length xc) w5 from HST.out.next (hs5.below _) (HST.out.mm.on (hs5.below _)))
      have H5 := Lib.hid (show w5.heap[n + 1]? = wr.heap[n + 1]? by rw [hs5.heap])
      clear hs5
      iterate 4 (refine pl_run _ ?_ rfl rfl ?_ ?_; rotate_left; (focus (intro w' hS; obtain ⟨c0, c1, c2⟩ := HSC.out w' hS; go_simp; exact rfl)); simp only [Act.put, List.setIfInBounds_toArray, List.set_cons_zero, List.set_cons_succ, List.getElem_toArray, List.getElem_cons_zero, List.getElem_cons_succ])
      obtain ⟨xi, ui⟩ := rset2 K5.out.rb (.int .i64 s.1) (.int .i64 s.2)
      have XI := Lib.hid xi
      have UI := Lib.hid ui
      obtain ⟨p0, p1⟩ := cells2 xi
      obtain ⟨d0, d1⟩ := cells2 K5.out.rb
      have f0 := K5.out.rb.frz 0
      have f1 := K5.out.rb.frz 1
      have S6 := Lib.hid ((ui.block (n + 1) (by omega)).trans H5.out)
      clear xi ui
      refine pl_store _ rfl rfl (by go_simp) S6.out ?_
      simp only [Act.put, List.getElem_toArray, List.getElem_cons_zero, List.getElem_cons_succ]
      refine pl_value _ (.slice xa L.length xc) rfl rfl (by go_simp) S6.out ?_
      simp only [Act.put, List.setIfInBounds_toArray, List.set_cons_zero, List.set_cons_succ, List.getElem_toArray, List.getElem_cons_zero, List.getElem_cons_succ]
      refine pl_end ?_
      go_wp2_with fail
      obtain ⟨k1, k2⟩ := K5.out.fin UI.out
      refine bodyPost_ret (v := .tuple #[.agg #[.int .i64 s.1, .int .i64 s.2], .slice xa L.length xc]) (by simp [results, Tryz.results77, go_sem, p0, p1]) rfl ⟨.slice xa L.length xc, L, by rw [HMM.out], by rw [HMM.out], ?_, ?_⟩
      · rw [HN.out]; exact k1
      · rw [HN.out]; exact k2
theorem info_str10 : (Tryz.prog.info? 9).map (fun i => (i.zero, i.size, i.bytes)) = some (some (.string ⟨#[]⟩), 1, 16) := by kernel_rfl
set_option maxRecDepth 100000 in
set_option maxHeartbeats 8000000 in
/-- the blocks' records, in a new row -/
theorem blockrecs_any (L : List Bv) (v : Value) (w : World) (hv : BvAt w v L) (hs : ∀ y ∈ L, SmallD y.1) (hl : L.length ≤ 1000) :
    Calls Tryz.prog 78 #[v] w fun e w' => ∃ u, e = .returned u ∧ w'.ownsRow w.heap.size 9 1 u L.length (recsV L) ∧ Below w.heap.size w w' := by
  have HV := Lib.hid hv
  have HS := Lib.hid hs
  have HL := Lib.hid hl
  obtain ⟨a0, cap, rfl⟩ := bv_shape hv
  obtain ⟨i0, hi0, hz0, hz1, hz2⟩ := info_parts info_str10
  have HI := Lib.hid hi0
  have HZ := Lib.hid (And.intro hz0 (And.intro hz1 hz2))
  clear hv hs hl hi0 hz0 hz1 hz2
  go_enter Tryz.func78, Tryz.ntmps78
  go_wp2_with fail
  go_loopw [3, 8] (fun x y wr => ∃ i : Nat, i ≤ L.length ∧ y = .int .i64 (i : Int) ∧ wr.ownsRow w.heap.size 9 1 x i (recsV (L.take i)) ∧ Below w.heap.size w wr) (fun _ y _ => L.length - (intOf y).toNat)
  case atStart => exact ⟨0, Nat.zero_le _, rfl, World.ownsRow_nil _ _ _ _, Below.refl _ _⟩
  case round =>
    obtain ⟨i, hi, rfl, hrow, hbr⟩ := hrel
    have HROW := Lib.hid hrow
    have HBR := Lib.hid hbr
    have i0' : (0 : Int) ≤ (i : Int) := by omega
    have ib : (i : Int) ≤ 1000 := by have := HL.out; omega
    obtain ⟨xa, xc, rfl⟩ := own_sl6 hrow
    clear hrow
    by_cases hlt : i < L.length
    · have hlt' : (i : Int) < (L.length : Int) := by omega
      have HLT := Lib.hid hlt
      obtain ⟨qb, qoff, rfl, _, _, hq⟩ := bv_at HV.out i hlt
      obtain ⟨c0, c1, c2, c3, c4, c5, hin⟩ := hq wr hbr i hlt
      obtain ⟨y, hy⟩ : ∃ y, L.getD i vb0 = y := ⟨_, rfl⟩
      have HY := Lib.hid hy
      have HSM := Lib.hid (show SmallD y.1 by rw [← hy, getD_at hlt]; exact HS.out _ (List.getElem_mem hlt))
      rw [hy] at c0 c1 c2 c3 c4 c5 hin
      have HIN := Lib.hid hin
      obtain ⟨bd, s5, s6⟩ := y
      obtain ⟨e5, n5, h5⟩ := sl_of_sigs hin.1
      obtain ⟨e6, n6, h6⟩ := sl_of_reqs hin.2
      replace h5 : s5 = .slice e5 (sigsI bd).length n5 := h5
      replace h6 : s6 = .slice e6 bd.2.length n6 := h6
      subst h5 h6
      have B1 := Lib.hid ((Below.refl wr.heap.size wr).alloc (Nat.le_refl _) (.cells #[.int .i64 (viewI bd), .int .i64 (propI bd), .int .i64 (jvI bd), .string (parI bd), .slice e5 (sigsI bd).length n5, .slice e6 bd.2.length n6] 36))
      have HC := Lib.hid (fun wx (hb : Below wr.heap.size wr wx) => blockrec_any (bd, .slice e5 (sigsI bd).length n5, .slice e6 bd.2.length n6) wx (HIN.out.later hb) HSM.out)
      unfold bvV at HC
      simp only at c0 c1 c2 c3 c4 c5 HC
      clear hi hlt hy hbr hq hin
      go_wp2_with fail
      refine (HC.out _ B1.out).mono ?_
      rintro e w2 ⟨rfl, hb2⟩
      have B2 := Lib.hid (B1.out.trans (hb2.mono B1.out.size))
      have BW2 := Lib.hid (HBR.out.trans (B2.out.mono HBR.out.size))
      obtain ⟨r, hr⟩ : ∃ r, rcB bd = r := ⟨_, rfl⟩
      rw [hr]
      have HR := Lib.hid hr
      have R2 := Lib.hid (row_keep HROW.out fun c hc => B2.out.block c (HROW.out.lt c hc).2)
      clear hb2 HC c0 c1 c2 c3 c4 c5 hr
      go_wp2_with (at_builtin; refine wpList_append_own _ rfl _ _ 37 rfl w.heap.size 9 i0 (.string ⟨#[]⟩) 1 16 (by kernel_rfl) HI.out HZ.out.1 HZ.out.2.1 HZ.out.2.2 rfl (by decide) _ _ _ rfl (R2.out.alloc _) ⟨w2.heap.size, 0, none⟩ 1 1 [.string r] rfl ?qc1 ?qc2 ?qc3 ?qc4 ?qc5 ?qc6 ?_)
      case qc1 => rfl
      case qc2 => exact cell_one_new _ _ _
      case qc3 => simp [Value.oneCell']
      case qc4 => have := HLT.out; have := HL.out; unfold maxLen; omega
      case qc5 => have := HLT.out; have := HL.out; omega
      case qc6 => have := BW2.out.size; simp; omega
      intro v' w3 hown hgrow hnil
      obtain ⟨va, vc, rfl⟩ := own_sl6 hown
      have HOW := Lib.hid hown
      have BW3 := Lib.hid ((BW2.out.alloc BW2.out.size _).grown hgrow (by have := BW2.out.size; simp; omega) (fun k hk => (R2.out.lt k hk).1))
      clear hown hgrow hnil
      go_wp2_with fail
      go_roundw
      case rel => exact ⟨i + 1, by have := HLT.out; omega, by go_num, by rw [recsV_step HLT.out, HY.out]; show World.ownsRow _ _ _ _ _ _ (_ ++ [.string (rcB bd)]); rw [HR.out]; exact HOW.out, BW3.out⟩
      case measure => have := HLT.out; simp [intOf]; omega
    · obtain rfl : i = L.length := by omega
      have hlt' : ¬ (L.length : Int) < (L.length : Int) := by omega
      have HRW := Lib.hid (show wr.ownsRow w.heap.size 9 1 (.slice xa L.length xc) L.length (recsV L) by have := HROW.out; rwa [List.take_length] at this)
      clear hi hlt
      go_wp2_with fail
      go_ret
      exact ⟨_, rfl, HRW.out, HBR.out⟩
end Go.Proofs.YthajnkcipifhcaaGreatDoor
end
section
open Go Go.RowKit
namespace TT
open SS RR FF WW BB
/-- what is known of a memory's cells -/
structure MemIs (tS : TypeId) (O : Nat → Prop) (w : World) (m g : Nat) (st : MemT) (v : Value) : Prop where
  blk : Blk w m 4 (rowL [.pointer (some ⟨g, 0, none⟩), .int .i64 st.1.1, .int .i64 st.1.2, v])
  row : w.ownsRow 0 tS 1 v st.2.length ((st.2.map rcB).map Value.string)
  own : ∀ b, O b ↔ b = m ∨ v.ownBlock = some b
  ne : v.ownBlock ≠ some m
section
variable {tS : TypeId} {O : Nat → Prop} {w w' : World} {m g : Nat} {st : MemT} {v : Value}
theorem MemIs.keep (h : MemIs tS O w m g st v) (hk : Keeps O w w') : MemIs tS O w' m g st v :=
  ⟨h.blk.of_heap (hk.block m ((h.own m).2 (.inl rfl)) h.blk.lt), row_keep h.row fun c hc => hk.block c ((h.own c).2 (.inr hc)) (h.row.lt c hc).2, h.own, h.ne⟩
theorem MemIs.on (h : MemIs tS O w m g st v) (hb : Below w.heap.size w w') : MemIs tS O w' m g st v := h.keep (Keeps.of hb)
theorem MemIs.cells (h : MemIs tS O w m g st v) : w.cell? ⟨m, 0, none⟩ = some (.pointer (some ⟨g, 0, none⟩)) ∧ w.cell? ⟨m, 1, none⟩ = some (.int .i64 st.1.1) ∧ w.cell? ⟨m, 2, none⟩ = some (.int .i64 st.1.2) ∧ w.cell? ⟨m, 3, none⟩ = some v :=
  cells4 h.blk
theorem MemIs.lt (h : MemIs tS O w m g st v) : ∀ b, O b → b < w.heap.size := by
  intro b hb
  rcases (h.own b).1 hb with rfl | e
  · exact h.blk.lt
  · exact (h.row.lt b e).2
theorem MemIs.sl (h : MemIs tS O w m g st v) : ∃ a c, v = .slice a st.2.length c := own_sl6 h.row
theorem strs_row {e : TypeId} {w : World} {base n : Nat} {v : Value} {l : List ByteArray} (h : w.ownsRow base e 1 v n (l.map Value.string)) : StrsAt w v l := by
  have hn : n = l.length := by have := h.1; rw [List.length_map] at this; omega
  subst hn
  exact (strsin_own h).at_
end
def At10 (tS : TypeId) (O : Nat → Prop) (w : World) (m g : Nat) (st : MemT) : Prop := ∃ v, MemIs tS O w m g st v
theorem right_smallD {b : BlockD} (h : blockOk b) : SmallD b := by
  have h := right_smallB (v := b.1.1.1) (p := b.1.1.2) (cv := b.1.2.1.1) (k := b.1.2.1.2) (l := b.1.2.2) (m := b.2) h
  exact ⟨by have := h.2.2.1; show b.1.2.1.2.size ≤ 1000000; omega, h.1, h.2.1⟩
theorem recs_small {st : MemT} (h : OkT st) : (∀ r ∈ st.2.map rcB, r.size ≤ 1000000) ∧ (st.2.map rcB).length ≤ 1000 := by
  refine ⟨fun r hr => ?_, by rw [List.length_map]; exact h.2.2⟩
  obtain ⟨b, hb, rfl⟩ := List.mem_map.1 hr
  have := recs_fit (st := (0, 0)) (x := (0, 0)) (l := st.2) h.2.1 (rcB b) (by unfold recsOf; exact List.mem_append_left _ (List.mem_map.2 ⟨b, hb, rfl⟩))
  unfold fitR at this; omega
theorem ext_join (a : ByteArray) (i j : Nat) (h : i ≤ j) : a.extract 0 i ++ a.extract i j = a.extract 0 j := by
  apply ba_ext
  rw [ByteArray.data_append, Array.toList_append]
  simp only [ByteArray.data_extract, Array.toList_extract, List.extract_eq_take_drop, List.drop_zero, Nat.sub_zero]
  rw [← List.take_add]
  congr 1; omega
theorem cut_all (s : Lg) : (cutL s).safe ++ (cutL s).wait = encL (splitS (s.safe ++ s.wait)).1 := by
  rw [← (split_bytes _ (s.safe ++ s.wait) (Nat.lt_succ_self _)).1]
  exact ext_join _ _ _ (Nat.min_le_left _ _)
theorem cut_size10 (s : Lg) : sizeL (cutL s) ≤ sizeL s := by
  have h1 := congrArg ByteArray.size (cut_all s)
  have h2 := congrArg ByteArray.size (split_bytes _ (s.safe ++ s.wait) (Nat.lt_succ_self _)).1
  rw [ByteArray.size_append] at h1
  rw [ByteArray.size_extract, ByteArray.size_append] at h2
  show (cutL s).safe.size + (cutL s).wait.size ≤ s.safe.size + s.wait.size
  omega
theorem cut_recs10 {s : Lg} (h : s.gone = false) : recsL (cutL s) = recsL s := by
  have h' : (cutL s).gone = false := h
  unfold recsL
  rw [if_neg (by rw [h']; decide), if_neg (by rw [h]; decide), cut_all, split_encL _ (split_bytes _ (s.safe ++ s.wait) (Nat.lt_succ_self _)).2]
theorem recs_few {s : Lg} : ∀ r ∈ recsL s, r.size ≤ 1000000 := by
  intro r hr
  unfold recsL at hr
  split at hr
  · cases hr
  · have := (split_bytes _ (s.safe ++ s.wait) (Nat.lt_succ_self _)).2 r hr
    unfold fitR at this; omega
theorem recs_back {st : MemT} (h : OkT st) : recallL (st.2.map rcB) ((0, 0), []) = ((0, 0), st.2) := by
  rw [recall_blocks st.2 _ h.2.1]; rfl
end TT
namespace Go.Proofs.YthajnkcipifhcaaGreatDoor
open TT SS RR FF JJ CC WW BB
section
variable (O : Nat → Prop) (w : World) (m g : Nat) (st : MemT)
set_option maxRecDepth 100000 in
set_option maxHeartbeats 4000000 in
theorem state10 (h : At10 9 O w m g st) : Calls Tryz.prog 34 #[.pointer (some ⟨m, 0, none⟩)] w fun e w' => e = .returned (.agg #[.int .i64 st.1.1, .int .i64 st.1.2]) ∧ Below w.heap.size w w' := by
  obtain ⟨v, h⟩ := h
  have X1 := Lib.hid ((Below.refl w.heap.size w).alloc (Nat.le_refl _) (.cells #[.int .i64 0, .int .i64 0] 49))
  have Q1 := Lib.hid (show Blk (w.alloc (.cells #[.int .i64 0, .int .i64 0] 49)) w.heap.size 2 (rowL [.int .i64 0, .int .i64 0]) from Blk.new' rfl (row2_ _ _))
  have H1 := Lib.hid (h.on X1.out)
  obtain ⟨w1, hw1⟩ : ∃ w1, w.alloc (.cells #[.int .i64 0, .int .i64 0] 49) = w1 := ⟨_, rfl⟩
  have HW1 := Lib.hid hw1
  rw [hw1] at X1 Q1 H1
  clear hw1 h
  go_enter Tryz.func34, Tryz.ntmps34
  go_upto_region 1 with fail
  rw [HW1.out]
  obtain ⟨c0, c1, c2, c3⟩ := H1.out.cells
  have f0 := Q1.out.frz 0
  have f1 := Q1.out.frz 1
  obtain ⟨d0, d1⟩ := cells2 Q1.out
  go_wp2_with fail
  obtain ⟨xi, ui⟩ := rset2 Q1.out (.int .i64 st.1.1) (.int .i64 st.1.2)
  obtain ⟨p0, p1⟩ := cells2 xi
  refine bodyPost_ret (v := .agg #[.int .i64 st.1.1, .int .i64 st.1.2]) (by simp [results, Tryz.results34, go_sem, p0, p1]) rfl ⟨rfl, ?_⟩
  exact X1.out.trans (ui.below (Nat.le_refl _))
set_option maxRecDepth 100000 in
set_option maxHeartbeats 8000000 in
theorem open10 (s : Lg) (h : At9 O w g s) (hs : sizeL s ≤ 1000000) (hn : (recsL s).length ≤ 1000) (hg : s.gone = false) :
    Calls Tryz.prog 33 #[.pointer (some ⟨g, 0, none⟩)] w fun e w' => ∃ m O' O1, e = .returned (.tuple #[.pointer (some ⟨m, 0, none⟩), .int .i64 0]) ∧ At9 O' w' g (cutL s) ∧ At10 9 O1 w' m g (recallL (recsL s) ((0, 0), [])) ∧
      Keeps (fun b => ¬ O b) w w' ∧ (∀ b, O' b → O b ∨ w.heap.size ≤ b) ∧ ∀ b, O1 b → w.heap.size ≤ b ∧ ¬ O' b := by
  have HCA := Lib.hid (show cutA s = (cutL s, 0) by unfold cutA; rw [if_neg (by rw [hg]; decide)])
  have HRE := Lib.hid (cut_recs10 hg)
  have HCG := Lib.hid (show (if (cutL s).gone = true then (8 : Int) else 0) = 0 from if_neg (by show ¬ s.gone = true; rw [hg]; decide))
  have HN := Lib.hid hn
  have HSZ := Lib.hid (Nat.le_trans (cut_size10 s) hs)
  have HCUT := Lib.hid (cut9 O w g s h hs)
  obtain ⟨M, hM⟩ : ∃ M, recallL (recsL s) ((0, 0), []) = M := ⟨_, rfl⟩
  rw [hM]
  have HM := Lib.hid hM
  have HMS := Lib.hid (show ∀ b ∈ M.2, blockOk b by rw [← hM]; exact (recall_ok (recsL s) ((0, 0), []) ok_none.1 (fun _ h => by cases h)).2.1)
  have HML := Lib.hid (show M.2.length ≤ 1000 by
    have := (recall_ok (recsL s) ((0, 0), []) ok_none.1 (fun _ h => by cases h)).2.2
    rw [← hM]
    have e : ([] : List BlockD).length = 0 := rfl
    have this : _ ≤ ([] : List BlockD).length + _ := this
    omega)
  clear h hs hn hg hM
  go_enter Tryz.func33, Tryz.ntmps33
  go_wp2_with fail
  refine HCUT.out.mono ?_
  rintro e w1 ⟨rfl, O', h1, hk1, ho1⟩
  rw [HCA.out] at h1 ⊢
  have H1 := Lib.hid (show At9 O' w1 g (cutL s) from h1)
  have HK1 := Lib.hid hk1
  have HO1 := Lib.hid ho1
  clear h1 hk1 ho1 HCUT
  go_wp2_with fail
  refine (records9 O' w1 g (cutL s) H1.out HSZ.out).mono ?_
  rintro e w2 ⟨v, rfl, hv, hb2⟩
  rw [HCG.out]
  rw [HRE.out] at hv
  have HV := Lib.hid hv.at_
  have B2 := Lib.hid hb2
  obtain ⟨va, vc, rfl, _⟩ := hv
  clear hb2
  go_wp2_with fail
  refine (recall_any (recsL s) _ w2 HV.out recs_few HN.out).mono ?_
  rintro e w3 ⟨u, L, rfl, hL, hD, hb3⟩
  rw [HM.out] at hL ⊢
  have HL := Lib.hid hL
  have HLL := Lib.hid (show L.length = M.2.length by rw [← hL, List.length_map])
  have HLS := Lib.hid (show ∀ y ∈ L, SmallD y.1 from fun y hy => right_smallD (HMS.out y.1 (by rw [← hL]; exact List.mem_map.2 ⟨y, hy, rfl⟩)))
  have X3 := Lib.hid (show Below w1.heap.size w1 (w3.alloc (.cells #[.int .i64 M.1.1, .int .i64 M.1.2] 49)) from (B2.out.trans (hb3.mono B2.out.size)).alloc (Nat.le_trans B2.out.size hb3.size) _)
  have Q3 := Lib.hid (show Blk (w3.alloc (.cells #[.int .i64 M.1.1, .int .i64 M.1.2] 49)) w3.heap.size 2 (rowL [.int .i64 M.1.1, .int .i64 M.1.2]) from Blk.new' rfl (row2_ _ _))
  have D3 := Lib.hid (show BvAt (w3.alloc (.cells #[.int .i64 M.1.1, .int .i64 M.1.2] 49)) u L from (hD.on (Keeps.of ((Below.refl _ _).alloc (Nat.le_refl _) _))).now)
  obtain ⟨ua, uc, hu⟩ := bv_shape hD.now
  subst hu
  clear hL hD hb3
  go_upto_region 8 with fail
  obtain ⟨q, hq⟩ : ∃ q, w3.heap.size = q := ⟨_, rfl⟩
  obtain ⟨w4, hw4⟩ : ∃ w4, w3.alloc (.cells #[.int .i64 M.1.1, .int .i64 M.1.2] 49) = w4 := ⟨_, rfl⟩
  rw [hw4] at X3 Q3 D3
  rw [hq] at Q3
  rw [hw4, hq]
  clear hw4 hq
  have HSC := Lib.hid (fun (wx : World) (hb : Below w4.heap.size w4 wx) => cells2 (Q3.out.below hb Q3.out.lt))
  refine plan_abs (fun wx => Below w4.heap.size w4 wx) [(true, 0), (true, 1), (true, 2), (false, 3), (true, 4), (false, 5), (false, 6), (false, 7)] (by kernel_rfl) (by kernel_rfl) (fun _ _ d _ _ h => by cases d <;> exact h) fun w5 hs5 => ⟨hs5.below _, ?_⟩
  have Y5 := Lib.hid (show Below w4.heap.size w4 w5 from hs5.below _)
  clear hs5
  iterate 3 (refine pl_run _ ?_ rfl rfl ?_ ?_; rotate_left; (focus (intro w' hS; obtain ⟨d0, d1⟩ := HSC.out w' hS; go_simp; exact rfl)); simp only [Act.put, List.setIfInBounds_toArray, List.set_cons_zero, List.set_cons_succ, List.getElem_toArray, List.getElem_cons_zero, List.getElem_cons_succ])
  refine pl_call (R := fun u w' => w'.ownsRow w5.heap.size 9 1 u L.length (recsV L) ∧ Below w5.heap.size w5 w') _ rfl rfl (by go_simp) ((blockrecs_any L _ w5 (D3.out.later Y5.out) HLS.out (by rw [HLL.out]; exact HML.out)).mono fun e w' ⟨u, h1, h2, h3⟩ => ⟨u, h1, h2, h3⟩) (fun u w' h => Y5.out.trans (h.2.mono Y5.out.size)) fun u w6 hr => ?_
  obtain ⟨hrow, hb6⟩ := hr
  have HROW := Lib.hid hrow
  have Y6 := Lib.hid (Y5.out.trans (hb6.mono Y5.out.size))
  have Z6 := Lib.hid hb6
  obtain ⟨ra, rc, hre⟩ := own_sl6 hrow
  subst hre
  clear hrow hb6
  simp only [Act.put, List.setIfInBounds_toArray, List.set_cons_zero, List.set_cons_succ, List.getElem_toArray, List.getElem_cons_zero, List.getElem_cons_succ]
  iterate 1 (refine pl_run _ ?_ rfl rfl ?_ ?_; rotate_left; (focus (intro w' hS; go_simp; exact rfl)); simp only [Act.put, List.setIfInBounds_toArray, List.set_cons_zero, List.set_cons_succ, List.getElem_toArray, List.getElem_cons_zero, List.getElem_cons_succ])
  have BX := Lib.hid ((Below.refl w6.heap.size w6).alloc (Nat.le_refl _) (.cells #[.pointer (some ⟨g, 0, none⟩), .int .i64 M.1.1, .int .i64 M.1.2, .slice ra L.length rc] 72))
  have QX := Lib.hid (show Blk (w6.alloc (.cells #[.pointer (some ⟨g, 0, none⟩), .int .i64 M.1.1, .int .i64 M.1.2, .slice ra L.length rc] 72)) w6.heap.size 4 (rowL [.pointer (some ⟨g, 0, none⟩), .int .i64 M.1.1, .int .i64 M.1.2, .slice ra L.length rc]) from Blk.new' rfl (row4_ _ _ _ _))
  obtain ⟨w7, hw7⟩ : ∃ w7, w6.alloc (.cells #[.pointer (some ⟨g, 0, none⟩), .int .i64 M.1.1, .int .i64 M.1.2, .slice ra L.length rc] 72) = w7 := ⟨_, rfl⟩
  refine pl_value (w' := w7) _ (.pointer (some ⟨w6.heap.size, 0, none⟩)) rfl rfl (by rw [← hw7]; go_simp) (by rw [← hw7]; exact Y6.out.trans (BX.out.mono Y6.out.size)) ?_
  rw [hw7] at BX QX
  clear hw7
  simp only [Act.put, List.setIfInBounds_toArray, List.set_cons_zero, List.set_cons_succ, List.getElem_toArray, List.getElem_cons_zero, List.getElem_cons_succ]
  have S7 := Lib.hid (Y6.out.trans (BX.out.mono Y6.out.size))
  refine pl_value (w' := w7) _ (.pointer (some ⟨w6.heap.size, 0, none⟩)) rfl rfl (by go_simp) S7.out ?_
  simp only [Act.put, List.setIfInBounds_toArray, List.set_cons_zero, List.set_cons_succ, List.getElem_toArray, List.getElem_cons_zero, List.getElem_cons_succ]
  refine pl_value (w' := w7) _ (.int .i64 0) rfl rfl (by go_simp) S7.out ?_
  simp only [Act.put, List.setIfInBounds_toArray, List.set_cons_zero, List.set_cons_succ, List.getElem_toArray, List.getElem_cons_zero, List.getElem_cons_succ]
  refine pl_end ?_
  go_wp2_with fail
  have hX7 : Below w1.heap.size w1 w7 := X3.out.trans (S7.out.mono X3.out.size)
  have hz1 : w.heap.size ≤ w1.heap.size := HK1.out.b0.size
  have hz5 : w1.heap.size ≤ w5.heap.size := Nat.le_trans X3.out.size Y5.out.size
  have hz6 := Z6.out.size
  have hrow7 := row_keep HROW.out fun c hc => BX.out.block c (HROW.out.lt c hc).2
  refine bodyPost_ret (v := .tuple #[.pointer (some ⟨w6.heap.size, 0, none⟩), .int .i64 0]) (by simp [results, Tryz.results33, go_sem]) rfl ?_
  refine ⟨w6.heap.size, O', fun b => b = w6.heap.size ∨ (Value.slice ra L.length rc).ownBlock = some b, rfl, at9_keep H1.out (Keeps.of hX7), ⟨_, QX.out, ?_, fun _ => Iff.rfl, fun e => by have := (HROW.out.lt _ e).2; omega⟩, HK1.out.trans (Keeps.of hX7), HO1.out, fun b hb => ?_⟩
  · rw [← HL.out, List.length_map, ← recsV_of]
    exact CC.own_base hrow7 (Nat.zero_le _)
  · have hb1 : w1.heap.size ≤ b := by
      rcases hb with rfl | e
      · omega
      · have := (HROW.out.lt b e).1; omega
    exact ⟨by omega, fun h => by have := at9_lt H1.out b h; omega⟩
end
end Go.Proofs.YthajnkcipifhcaaGreatDoor
end
section
open Go Go.RowKit
namespace TT
open IN SS RR FF WW BB
/-- what is known of a memory's cells -/
structure MemIsI (tS : TypeId) (O : Nat → Prop) (w : World) (m : Sp) (g : Nat) (st : MemT) (v : Value) : Prop where
  blk : SBlk w m 3 4 (rowL [.pointer (some ⟨g, 0, none⟩), .int .i64 st.1.1, .int .i64 st.1.2, v])
  row : w.ownsRow 0 tS 1 v st.2.length ((st.2.map rcB).map Value.string)
  own : ∀ b, O b ↔ b = m.b ∨ v.ownBlock = some b
  ne : v.ownBlock ≠ some m.b
section
variable {tS : TypeId} {O : Nat → Prop} {w w' : World} {m : Sp} {g : Nat} {st : MemT} {v : Value}
theorem MemIsI.keep (h : MemIsI tS O w m g st v) (hk : Keeps O w w') : MemIsI tS O w' m g st v :=
  ⟨h.blk.of_heap (hk.block m.b ((h.own m).2 (.inl rfl)) h.blk.lt), row_keep h.row fun c hc => hk.block c ((h.own c).2 (.inr hc)) (h.row.lt c hc).2, h.own, h.ne⟩
theorem MemIsI.on (h : MemIsI tS O w m g st v) (hb : Below w.heap.size w w') : MemIsI tS O w' m g st v := h.keep (Keeps.of hb)
theorem MemIsI.cells (h : MemIsI tS O w m g st v) : w.cell? ⟨m.b, 3, none⟩ = some (.pointer (some ⟨g, 0, none⟩)) ∧ w.cell? ⟨m.b, 4, none⟩ = some (.int .i64 st.1.1) ∧ w.cell? ⟨m.b, 5, none⟩ = some (.int .i64 st.1.2) ∧ w.cell? ⟨m.b, 6, none⟩ = some v :=
  scells4 (h.blk) 4 5 6 rfl rfl rfl
theorem MemIsI.lt (h : MemIsI tS O w m g st v) : ∀ b, O b → b < w.heap.size := by
  intro b hb
  rcases (h.own b).1 hb with rfl | e
  · exact h.blk.lt
  · exact (h.row.lt b e).2
theorem MemIsI.sl (h : MemIsI tS O w m g st v) : ∃ a c, v = .slice a st.2.length c := own_sl6 h.row
end
def At10I (tS : TypeId) (O : Nat → Prop) (w : World) (m : Sp) (g : Nat) (st : MemT) : Prop := ∃ v, MemIsI tS O w m g st v
end TT
namespace Go.Proofs.YthajnkcipifhcaaGreatDoor
open IN TT SS RR FF JJ CC WW BB
section
variable (O : Nat → Prop) (w : World) (m : Sp) (g : Nat) (st : MemT)
set_option maxRecDepth 100000 in
set_option maxHeartbeats 4000000 in
theorem blocks10I (h : At10I 9 O w m g st) (hok : OkT st) : Calls Tryz.prog 80 #[.pointer (some ⟨m.b, 3, none⟩)] w fun e w' => ∃ u L, e = .returned u ∧ L.map Prod.fst = st.2 ∧ Dep (fun b => w.heap.size ≤ b) w' (fun w'' => BvAt w'' u L) ∧ Below w.heap.size w w' := by
  obtain ⟨v, h⟩ := h
  have HS := Lib.hid (strs_row h.row)
  have HR := Lib.hid (recs_small hok)
  have HB := Lib.hid (recs_back hok)
  obtain ⟨c0, c1, c2, c3⟩ := h.cells
  obtain ⟨va, vc, hv⟩ := h.sl
  have HVV := Lib.hid hv
  subst hv
  clear h hok
  go_enter Tryz.func80, Tryz.ntmps80
  go_wp2_with fail
  refine (recall_any _ _ w HS.out HR.out.1 HR.out.2).mono ?_
  rintro e w1 ⟨u, L, rfl, hL, hD, hb1⟩
  rw [HB.out]
  rw [HB.out] at hL
  have HL := Lib.hid hL
  have HD := Lib.hid hD
  have HB1 := Lib.hid hb1
  obtain ⟨ua, uc, rfl⟩ := bv_shape hD.now
  clear hL hD hb1
  go_wp2_with fail
  go_ret
  exact ⟨_, L, rfl, HL.out, HD.out.on (Keeps.of ((Below.refl _ _).alloc (Nat.le_refl _) _)), HB1.out.alloc HB1.out.size _⟩
end
end Go.Proofs.YthajnkcipifhcaaGreatDoor
end
section
open Go Go.RowKit
namespace IN
open FF BB
theorem row_inj {n : Nat} {f g : Nat → Value} (h : row n f = row n g) (i : Nat) (hi : i < n) : f i = g i := by
  have h1 := congrArg (fun a => a.toList[i]?) h
  simpa [row, hi] using h1
/-- what is known of the block whole is known of the cells of a part -/
theorem SBlk.inv {w : World} {x : Nat} {F : Nat → Value} {o k : Nat} {f : Nat → Value} (h : SBlk w ⟨x, F⟩ o k f) (hb : TBlk 98 w x 39 F) (i : Nat) (hi : i < k) : F (o + i) = f i := by
  have h1 := h.typ
  have h2 : w.heap[x]? = some (.cells (row 39 F) 98 (0, 0)) := hb
  have h3 : w.heap[x]? = some (.cells (row 39 (sub o k F f)) 98 (0, 0)) := h1
  rw [h2] at h3
  injection h3 with h3
  injection h3 with h3 _ _
  have h4 := row_inj h3 (o + i) (by have := h.le; omega)
  rw [h4]
  unfold sub
  rw [if_pos ⟨by omega, by omega⟩]
  congr 1; omega
/-- a part of a struct, in the world w, that lies in a block of its own or in another one -/
def Moves (o k : Nat) (O : Nat → Prop) (w : World) (p : Sp) (P : World → Sp → Prop) : Prop :=
  ∃ f, SBlk w p o k f ∧ ∀ w' (p' : Sp), p'.b = p.b → SBlk w' p' o k f → Keeps (fun b => O b ∧ b ≠ p.b) w w' → P w' p'
end IN
namespace ND
open IN NO QU GA TI TA LE ZZ YY TT SS RR FF JJ CC MM WW BB
/-- a certificate's cells, with blocks of its own -/
def AtC (o : Nat) (O : Nat → Prop) (w : World) (p : Sp) (c : CertD) : Prop :=
  ∃ sv C, SBlk w p o 3 (rowL [.int .i64 c.1.1, .string c.1.2, sv]) ∧ Dep C w (fun w' => SigsAt w' sv c.2) ∧ ¬ C p.b ∧ (∀ b, C b → b < w.heap.size) ∧ ∀ b, O b ↔ b = p.b ∨ C b
theorem atC_moves {o : Nat} {O : Nat → Prop} {w : World} {p : Sp} {c : CertD} (h : AtC o O w p c) : Moves o 3 O w p (fun w' p' => AtC o O w' p' c) := by
  obtain ⟨sv, C, h1, h2, h3, h4, h5⟩ := h
  refine ⟨_, h1, fun w' p' hp hb hk => ⟨sv, C, hb, h2.on (hk.sub fun b hb _ => ⟨(h5 b).2 (.inr hb), fun e => h3 (e ▸ hb)⟩), hp ▸ h3, fun b hb => Nat.lt_of_lt_of_le (h4 b hb) hk.b0.size, fun b => by rw [hp]; exact h5 b⟩⟩
theorem atC_lt {o : Nat} {O : Nat → Prop} {w : World} {p : Sp} {c : CertD} (h : AtC o O w p c) : ∀ b, O b → b < w.heap.size := by
  obtain ⟨sv, C, h1, h2, h3, h4, h5⟩ := h
  exact fun b hb => ((h5 b).1 hb).elim (fun e => e ▸ h1.lt) (h4 b)
end ND
namespace Go.Proofs.YthajnkcipifhcaaGreatDoor
open ND IN NO QU GA TI TA LE ZZ YY TT SS RR FF JJ CC MM WW BB
/-- the messages to send -/
def AtS (O : Nat → Prop) (w : World) (p : Sp) (out : List Ms) : Prop :=
  ∃ v L C, SBlk w p 37 1 (rowL [v]) ∧ w.ownsRow 0 43 21 v L.length (cellsG encMo L) ∧ Dep C w (fun w' => ∀ o ∈ L, MgAt w' o.f o.m) ∧ L.map (fun o => msOf o.m) = out ∧
    ¬ C p.b ∧ (∀ b, v.ownBlock = some b → ¬ C b) ∧ (∀ b, C b → b < w.heap.size) ∧ ∀ b, O b ↔ b = p.b ∨ v.ownBlock = some b ∨ C b
theorem atS_ne {w : World} {p : Sp} {f : Nat → Value} {v : Value} {n : Nat} {xs : List Value} (h : SBlk w p 37 1 f) (hr : w.ownsRow 0 43 21 v n xs) : ∀ b, v.ownBlock = some b → b ≠ p.b := fun b hb e => by
  obtain ⟨cur, hh⟩ := row_heapL hr hb
  have h1 := h.typ
  rw [e] at hh
  rw [hh] at h1
  injection h1 with h1
  injection h1 with _ h2 _
  exact absurd h2 (by decide)
theorem atS_moves {O : Nat → Prop} {w : World} {p : Sp} {out : List Ms} (h : AtS O w p out) : Moves 37 1 O w p (fun w' p' => AtS O w' p' out) := by
  obtain ⟨v, L, C, h1, h2, h3, h4, h5, h6, h7, h8⟩ := h
  have hne := atS_ne h1 h2
  refine ⟨_, h1, fun w' p' hp hb hk => ⟨v, L, C, hb, row_keep h2 fun c hc => hk.block c ⟨(h8 c).2 (.inr (.inl hc)), hne c hc⟩ (h2.lt c hc).2, h3.on (hk.sub fun b hb _ => ⟨(h8 b).2 (.inr (.inr hb)), fun e => h5 (e ▸ hb)⟩), h4, hp ▸ h5, h6, fun b hb => Nat.lt_of_lt_of_le (h7 b hb) hk.b0.size, fun b => by rw [hp]; exact h8 b⟩⟩
theorem atS_lt {O : Nat → Prop} {w : World} {p : Sp} {out : List Ms} (h : AtS O w p out) : ∀ b, O b → b < w.heap.size := by
  obtain ⟨v, L, C, h1, h2, h3, h4, h5, h6, h7, h8⟩ := h
  exact fun b hb => ((h8 b).1 hb).elim (fun e => e ▸ h1.lt) fun hb => hb.elim (fun hb => (h2.lt b hb).2) (h7 b)
/-- the forest -/
def At7I (O : Nat → Prop) (w : World) (p : Sp) (F : Fo) : Prop := ∃ B rt mv ov N Or C, CFsI B w p F rt mv ov N Or C ∧ (∀ b, B ≤ b → NoTab b) ∧ ∀ b, O b ↔ MineB p.b mv ov C b
theorem at7_moves {O : Nat → Prop} {w : World} {p : Sp} {F : Fo} (h : At7I O w p F) : Moves 9 4 O w p (fun w' p' => At7I O w' p' F) := by
  obtain ⟨B, rt, mv, ov, N, Or, C, h1, h2, h3⟩ := h
  refine ⟨_, h1.blk, fun w' p' hp hb hk => ⟨B, rt, mv, ov, N, Or, C, ?_, h2, fun b => by rw [hp]; exact h3 b⟩⟩
  have hmn : ∀ b, mapBlk mv = some b → b ≠ p.b := fun b hb e => h1.gm (e ▸ hb)
  have hon : ∀ b, ov.ownBlock = some b → b ≠ p.b := fun b hb e => h1.go (e ▸ hb)
  exact ⟨h1.wf, hb, h1.root, h1.nodes, h1.orph, h1.map.keep fun b hb => hk.block b ⟨(h3 b).2 (.inr (.inl hb)), hmn b hb⟩ (h1.map.lt b hb), h1.mB,
   row_keep h1.row fun c hc => hk.block c ⟨(h3 c).2 (.inr (.inr (.inl hc))), hon c hc⟩ (h1.row.lt c hc).2, h1.inn.on (hk.sub fun b hb _ => ⟨(h3 b).2 (.inr (.inr (.inr hb))), fun e => h1.cg (e ▸ hb)⟩), hp ▸ h1.gB, h1.cB, hp ▸ h1.cg, h1.cm, h1.co, fun b hb => Nat.lt_of_lt_of_le (h1.cl b hb) hk.b0.size, h1.small⟩
theorem at7_lt {O : Nat → Prop} {w : World} {p : Sp} {F : Fo} (h : At7I O w p F) : ∀ b, O b → b < w.heap.size := by
  obtain ⟨B, rt, mv, ov, N, Or, C, h1, h2, h3⟩ := h
  exact fun b hb => h1.ownL b ((h3 b).1 hb)
/-- the memory -/
theorem at10_moves {O : Nat → Prop} {w : World} {p : Sp} {l : Nat} {st : MemT} (h : At10I 9 O w p l st) : Moves 3 4 O w p (fun w' p' => At10I 9 O w' p' l st) := by
  obtain ⟨v, h1⟩ := h
  refine ⟨_, h1.blk, fun w' p' hp hb hk => ⟨v, hb, row_keep h1.row fun c hc => hk.block c ⟨(h1.own c).2 (.inr hc), fun e => h1.ne (e ▸ hc)⟩ (h1.row.lt c hc).2, fun b => by rw [hp]; exact h1.own b, hp ▸ h1.ne⟩⟩
/-- the chain -/
theorem at11_moves {O : Nat → Prop} {w : World} {p : Sp} {L : List BlockD} (h : At11I O w p L) : Moves 13 3 O w p (fun w' p' => At11I O w' p' L) := by
  obtain ⟨N, bv, dv, mv, C, h1, h2, h3⟩ := h
  refine ⟨_, h1.blk, fun w' p' hp hb hk => ⟨N, bv, dv, mv, C, ?_, h2, fun b => by rw [hp]; exact h3 b⟩⟩
  exact ⟨hb, row_keep h1.rowB fun c hc => hk.block c ⟨(h3 c).2 (.inr (.inl hc)), fun e => h1.gb (e ▸ hc)⟩ (h1.rowB.lt c hc).2,
    row_keep h1.rowD fun c hc => hk.block c ⟨(h3 c).2 (.inr (.inr (.inl hc))), fun e => h1.gd (e ▸ hc)⟩ (h1.rowD.lt c hc).2,
    h1.map.keep fun b hb => hk.block b ⟨(h3 b).2 (.inr (.inr (.inr (.inl hb)))), fun e => h1.gm (e ▸ hb)⟩ (h1.map.lt b hb),
    h1.inn.on (hk.sub fun b hb _ => ⟨(h3 b).2 (.inr (.inr (.inr (.inr hb)))), fun e => h1.cg (e ▸ hb)⟩), hp ▸ h1.cg, h1.cb, h1.cd, h1.cm, fun b hb => Nat.lt_of_lt_of_le (h1.cl b hb) hk.b0.size⟩
/-- the pool -/
theorem at12_moves {O : Nat → Prop} {w : World} {p : Sp} {q : Po} (h : At12I O w p q) : Moves 19 2 O w p (fun w' p' => At12I O w' p' q) := by
  obtain ⟨ks, wv, mv, h1, h2, h3⟩ := h
  have hw : ∀ b, wv.ownBlock = some b → b ≠ p.b := fun b hb e => h1.gw (e ▸ hb)
  refine ⟨_, h1.blk, fun w' p' hp hb hk => ⟨ks, wv, mv, ⟨hb, row_keep h1.row fun c hc => hk.block c ⟨(h3 c).2 (.inr (.inl hc)), hw c hc⟩ (h1.row.lt c hc).2, h1.map.keep fun b hb => hk.block b ⟨(h3 b).2 (.inr (.inr hb)), fun e => h1.gm (e ▸ hb)⟩ (h1.map.lt b hb)⟩, h2, fun b => by rw [hp]; exact h3 b⟩⟩
/-- the ledger -/
theorem at13_moves {O : Nat → Prop} {w : World} {p : Sp} {E : List Rq} (h : At13N O w p E) : Moves 16 3 O w p (fun w' p' => At13N O w' p' E) := by
  rcases h with ⟨ev, mv, dv, h1, h2⟩ | ⟨h1, h2, h3⟩
  · refine ⟨_, h1.blk, fun w' p' hp hb hk => .inl ⟨ev, mv, dv, ⟨hb, row_keep h1.rowE fun c hc => hk.block c ⟨(h2 c).2 (.inr (.inl hc)), fun e => h1.ge (e ▸ hc)⟩ (h1.rowE.lt c hc).2,
      h1.map.keep fun b hb => hk.block b ⟨(h2 b).2 (.inr (.inr (.inl hb))), fun e => h1.gm (e ▸ hb)⟩ (h1.map.lt b hb), row_keep h1.rowD fun c hc => hk.block c ⟨(h2 c).2 (.inr (.inr (.inr hc))), fun e => h1.gd (e ▸ hc)⟩ (h1.rowD.lt c hc).2⟩, fun b => by rw [hp]; exact h2 b⟩⟩
  · exact ⟨_, h2, fun w' p' hp hb hk => .inr ⟨h1, hb, fun b => by rw [hp]; exact h3 b⟩⟩
/-- the tally -/
theorem at14_moves {O : Nat → Prop} {w : World} {p : Sp} {T : Ta} (h : At14I O w p T) : Moves 21 5 O w p (fun w' p' => At14I O w' p' T) := by
  obtain ⟨L, wv, K, h1, h2⟩ := h
  refine ⟨_, h1.blk, fun w' p' hp hb hk => ⟨L, wv, K, ⟨hb, row_keep h1.row fun c hc => hk.block c ⟨(h2 c).2 (.inr (.inl hc)), fun e => h1.gr (e ▸ hc)⟩ (h1.row.lt c hc).2, fun x hx => (h1.tags x hx).keep (hk.sub fun b hb _ => ⟨(h2 b).2 (.inr (.inr hb)), fun e => h1.kg (e ▸ hb)⟩),
    fun b hb => Nat.lt_of_lt_of_le (h1.lt b hb) hk.b0.size, hp ▸ h1.kg, h1.kr, hp ▸ h1.gr, h1.is⟩, fun b => by rw [hp]; exact h2 b⟩⟩
/-- the timer -/
theorem at15_moves {O : Nat → Prop} {w : World} {p : Sp} {t : Tim} (h : At15I O w p t) : Moves 26 3 O w p (fun w' p' => At15I O w' p' t) :=
  ⟨_, h.1, fun _ p' hp hb _ => ⟨hb, fun b => by rw [hp]; exact h.2 b⟩⟩
/-- the gathering -/
theorem at16_moves {O : Nat → Prop} {w : World} {p : Sp} {t : List Int} (h : At16I O w p t) : Moves 29 1 O w p (fun w' p' => At16I O w' p' t) := by
  obtain ⟨v, h1, h2, h3, h4⟩ := h
  exact ⟨_, h1, fun w' p' hp hb hk => ⟨v, hb, h2.of_heap (hk.block v ⟨(h4 v).2 (.inr rfl), h3⟩ h2.lt), hp ▸ h3, fun b => by rw [hp]; exact h4 b⟩⟩
/-- where a part lies -/
def loP (i : Nat) : Nat := match i with | 0 => 3 | 1 => 9 | 2 => 13 | 3 => 16 | 4 => 19 | 5 => 21 | 6 => 26 | 7 => 29 | 8 => 37 | 9 => 30 | _ => 33
def lnP (i : Nat) : Nat := match i with | 0 => 4 | 1 => 4 | 2 => 3 | 3 => 3 | 4 => 2 | 5 => 5 | 6 => 3 | 7 => 1 | 8 => 1 | 9 => 3 | _ => 3
/-- a part of the node x, of the log l -/
def Part (i : Nat) (l : Nat) (x : Nd) (O : Nat → Prop) (w : World) (p : Sp) : Prop :=
  match i with
  | 0 => At10I 9 O w p l x.me
  | 1 => At7I O w p x.fo
  | 2 => At11I O w p x.ch
  | 3 => At13N O w p x.lg
  | 4 => At12I O w p x.po
  | 5 => At14I O w p x.ta
  | 6 => At15I O w p x.ti
  | 7 => At16I O w p x.ga
  | 8 => AtS O w p x.out
  | 9 => AtC 30 O w p x.hi
  | _ => AtC 33 O w p x.wa
theorem part_moves (i : Nat) {l : Nat} {x : Nd} {O : Nat → Prop} {w : World} {p : Sp} (h : Part i l x O w p) : Moves (loP i) (lnP i) O w p (fun w' p' => Part i l x O w' p') := by
  match i, h with
  | 0, h => exact at10_moves h
  | 1, h => exact at7_moves h
  | 2, h => exact at11_moves h
  | 3, h => exact at13_moves h
  | 4, h => exact at12_moves h
  | 5, h => exact at14_moves h
  | 6, h => exact at15_moves h
  | 7, h => exact at16_moves h
  | 8, h => exact atS_moves h
  | 9, h => exact atC_moves h
  | _ + 10, h => exact atC_moves h
theorem part_lt (i : Nat) {l : Nat} {x : Nd} {O : Nat → Prop} {w : World} {p : Sp} (h : Part i l x O w p) : ∀ b, O b → b < w.heap.size := by
  match i, h with
  | 0, h => obtain ⟨v, h⟩ := h; exact h.lt
  | 1, h => exact at7_lt h
  | 2, h => exact at11_ltI h
  | 3, h => exact at13N_lt h
  | 4, h => exact at12_ltI h
  | 5, h => exact at14_ltI h
  | 6, h => exact at15_ltI h
  | 7, h => exact at16_ltI h
  | 8, h => exact atS_lt h
  | 9, h => exact atC_lt h
  | _ + 10, h => exact atC_lt h
end Go.Proofs.YthajnkcipifhcaaGreatDoor
end
section
open Go Go.RowKit
namespace Go.Proofs.YthajnkcipifhcaaGreatDoor
open ND IN NO QU GA TI TA LE ZZ YY TT SS RR FF JJ CC MM WW BB
/-- the cells that are no part's -/
structure Plain18 (x : Nd) (R : Nat → Value) : Prop where
  f0 : R 0 = .string x.sd
  f1 : R 1 = .int .i64 x.id
  f2 : R 2 = .int .i64 x.n
  f7 : R 7 = .int .i64 x.st.1
  f8 : R 8 = .int .i64 x.st.2
  f36 : R 36 = .int .i64 x.pr
  f38 : R 38 = .bool x.dead
structure NdM (l : Nat) (x : Nd) (K : Nat → Nat → Prop) (w : World) (p : Sp) : Prop where
  blk : TBlk 98 w p.b 39 p.R
  plain : Plain18 x p.R
  part : ∀ i, i < 11 → Part i l x (K i) w p
  apart : ∀ i j b, i < 11 → j < 11 → i ≠ j → K i b → K j b → b = p.b
/-- the node x in the box b, its log in the box l, by the blocks O -/
def NdAt (O : Nat → Prop) (w : World) (b l : Nat) (x : Nd) : Prop :=
  ∃ R K Ol, NdM l x K w ⟨b, R⟩ ∧ At9 Ol w l x.lo ∧ (∀ i c, i < 11 → K i c → ¬ Ol c) ∧ ∀ c, O c ↔ (∃ i, i < 11 ∧ K i c) ∨ Ol c
def NxtAt (O : Nat → Prop) (w : World) (b l : Nat) (x : Nd) (w' : World) : Prop :=
  ∃ O', NdAt O' w' b l x ∧ Keeps (fun c => ¬ O c) w w' ∧ ∀ c, O' c → O c ∨ w.heap.size ≤ c
theorem part_box {i : Nat} {l : Nat} {x : Nd} {O : Nat → Prop} {w : World} {p : Sp} (h : Part i l x O w p) : O p.b := by
  match i, h with
  | 0, h => obtain ⟨v, h⟩ := h; exact (h.own _).2 (.inl rfl)
  | 1, h => obtain ⟨_, _, _, _, _, _, _, _, _, h⟩ := h; exact (h _).2 (.inl rfl)
  | 2, h => obtain ⟨_, _, _, _, _, _, _, h⟩ := h; exact (h _).2 (.inl rfl)
  | 3, h => rcases h with ⟨_, _, _, _, h⟩ | ⟨_, _, h⟩
            · exact (h _).2 (.inl rfl)
            · exact (h _).2 rfl
  | 4, h => obtain ⟨_, _, _, _, _, h⟩ := h; exact (h _).2 (.inl rfl)
  | 5, h => obtain ⟨_, _, _, _, h⟩ := h; exact (h _).2 (.inl rfl)
  | 6, h => exact (h.2 _).2 rfl
  | 7, h => obtain ⟨_, _, _, _, h⟩ := h; exact (h _).2 (.inl rfl)
  | 8, h => obtain ⟨_, _, _, _, _, _, _, _, _, _, h⟩ := h; exact (h _).2 (.inl rfl)
  | 9, h => obtain ⟨_, _, _, _, _, _, h⟩ := h; exact (h _).2 (.inl rfl)
  | _ + 10, h => obtain ⟨_, _, _, _, _, _, h⟩ := h; exact (h _).2 (.inl rfl)
section
variable {O : Nat → Prop} {w w' : World} {b l : Nat} {x x' : Nd} {K : Nat → Nat → Prop} {p : Sp} {R : Nat → Value}
theorem lo_le (i : Nat) (hi : i < 11) : loP i + lnP i ≤ 39 := by
  match i, hi with
  | 0, _ => decide
  | 1, _ => decide
  | 2, _ => decide
  | 3, _ => decide
  | 4, _ => decide
  | 5, _ => decide
  | 6, _ => decide
  | 7, _ => decide
  | 8, _ => decide
  | 9, _ => decide
  | 10, _ => decide
theorem lo_apart (i j : Nat) (hi : i < 11) (hj : j < 11) (h : i ≠ j) : loP i + lnP i ≤ loP j ∨ loP j + lnP j ≤ loP i := by
  have : ∀ i, i < 11 → ∀ j, j < 11 → i ≠ j → loP i + lnP i ≤ loP j ∨ loP j + lnP j ≤ loP i := by decide
  exact this i hi j hj h
/-- the parts but those of I are as they were; those of I are told anew -/
theorem NdM.turn (h : NdM l x K w p) {R' : Nat → Value} {K' : Nat → Nat → Prop} (I : Nat → Prop) (hb : TBlk 98 w' p.b 39 R') (hp : Plain18 x' R')
    (hin : ∀ i, i < 11 → I i → Part i l x' (K' i) w' ⟨p.b, R'⟩)
    (hout : ∀ i, i < 11 → ¬ I i → K' i = K i ∧ (∀ j, j < lnP i → R' (loP i + j) = p.R (loP i + j)) ∧ ∀ O w p, Part i l x O w p → Part i l x' O w p)
    (hk : ∀ i, i < 11 → ¬ I i → Keeps (fun c => K i c ∧ c ≠ p.b) w w')
    (hap : ∀ i j c, i < 11 → j < 11 → i ≠ j → K' i c → K' j c → c = p.b) : NdM l x' K' w' ⟨p.b, R'⟩ := by
  refine ⟨hb, hp, fun i hi => ?_, hap⟩
  by_cases hI : I i
  · exact hin i hi hI
  · obtain ⟨e1, e2, e3⟩ := hout i hi hI
    refine e3 _ _ _ ?_
    rw [e1]
    obtain ⟨f, hf, hm⟩ := part_moves i (h.part i hi)
    refine hm w' ⟨p.b, R'⟩ rfl (SBlk.of hb _ _ f hf.le fun j hj => ?_) (hk i hi hI)
    rw [e2 j hj]
    exact SBlk.inv (x := p.b) (F := p.R) hf h.blk j hj
theorem NdAt.keep (h : NdAt O w b l x) (hk : Keeps O w w') : NdAt O w' b l x := by
  obtain ⟨R, K, Ol, h1, h2, h3, h4⟩ := h
  have hbx : O b := (h4 b).2 (.inl ⟨0, by omega, part_box (h1.part 0 (by omega))⟩)
  refine ⟨R, K, Ol, h1.turn (fun _ => False) ((hk.block b hbx h1.blk.lt).trans h1.blk) h1.plain (fun _ _ h => h.elim) (fun i hi _ => ⟨rfl, fun _ _ => rfl, fun _ _ _ h => h⟩) (fun i hi _ => hk.sub fun c hc _ => (h4 c).2 (.inl ⟨i, hi, hc.1⟩)) h1.apart, at9_keep h2 (hk.sub fun c hc _ => (h4 c).2 (.inr hc)), h3, h4⟩
theorem NdAt.lt (h : NdAt O w b l x) : ∀ c, O c → c < w.heap.size := by
  obtain ⟨R, K, Ol, h1, h2, h3, h4⟩ := h
  intro c hc
  rcases (h4 c).1 hc with ⟨i, hi, hc⟩ | hc
  · exact part_lt i (h1.part i hi) c hc
  · exact at9_lt h2 c hc
theorem NdAt.on (h : NdAt O w b l x) (hb : Below w.heap.size w w') : NdAt O w' b l x := h.keep (Keeps.of hb)
theorem NxtAt.same (h : NdAt O w b l x) (hb : Below w.heap.size w w') : NxtAt O w b l x w' := ⟨O, h.on hb, Keeps.of hb, fun _ => .inl⟩
theorem NxtAt.refl (h : NdAt O w b l x) : NxtAt O w b l x w := NxtAt.same h (Below.refl _ _)
/-- a call behind another one -/
theorem NxtAt.trans {w1 w2 : World} (h : NxtAt O w b l x w1) (hk : ∀ O1, NdAt O1 w1 b l x → (∀ c, O1 c → O c ∨ w.heap.size ≤ c) → NxtAt O1 w1 b l x' w2) : NxtAt O w b l x' w2 := by
  obtain ⟨O1, h1, h2, h3⟩ := h
  obtain ⟨O2, k1, k2, k3⟩ := hk O1 h1 h3
  refine ⟨O2, k1, ⟨h2.b0.trans k2.b0, fun c hc hl => (k2.block c (fun ho => (h3 c ho).elim hc (by omega)) (Nat.lt_of_lt_of_le hl h2.b0.size)).trans (h2.block c hc hl)⟩, fun c hc => (k3 c hc).elim (h3 c) fun hs => .inr (Nat.le_trans h2.b0.size hs)⟩
/-- behind a world that only grew -/
theorem NxtAt.after {w1 : World} (hb : Below w.heap.size w w1) (h : NxtAt O w1 b l x w') : NxtAt O w b l x w' := by
  obtain ⟨O1, h1, h2, h3⟩ := h
  exact ⟨O1, h1, (Keeps.of hb).trans h2, fun c hc => (h3 c hc).imp_right (Nat.le_trans hb.size)⟩
theorem NxtAt.more {w1 : World} (h : NxtAt O w b l x w1) (hb : Below w1.heap.size w1 w') : NxtAt O w b l x w' := by
  obtain ⟨O1, h1, h2, h3⟩ := h
  exact ⟨O1, h1.on hb, h2.trans (Keeps.of hb), h3⟩
/-- a node of which is told where each part lies -/
structure NdW (l : Nat) (x : Nd) (K : Nat → Nat → Prop) (Ol : Nat → Prop) (w : World) (b : Nat) (R : Nat → Value) : Prop where
  m : NdM l x K w ⟨b, R⟩
  log : At9 Ol w l x.lo
  off : ∀ i c, i < 11 → K i c → ¬ Ol c
def setK (K : Nat → Nat → Prop) (i : Nat) (Z : Nat → Prop) : Nat → Nat → Prop := fun j => if j = i then Z else K j
/-- behind a call that turns the part i alone -/
def NxtW (i l : Nat) (x' : Nd) (K : Nat → Nat → Prop) (Ol : Nat → Prop) (w : World) (b : Nat) (w' : World) : Prop :=
  ∃ Z R', NdW l x' (setK K i Z) Ol w' b R' ∧ Keeps (fun c => ¬ K i c) w w' ∧ ∀ c, Z c → K i c ∨ w.heap.size ≤ c
theorem NdW.next (i : Nat) (hi : i < 11) {Ol : Nat → Prop} (h : NdW l x K Ol w b R)
    (hc : ∃ O', Part i l x' O' w' ⟨b, R⟩ ∧ Keeps (fun c => ¬ K i c) w w' ∧ ∀ c, O' c → K i c ∨ w.heap.size ≤ c) (hlo : x'.lo = x.lo) (hpl : Plain18 x R → Plain18 x' R) (hs : ∀ j, j < 11 → j ≠ i → ∀ O w p, Part j l x O w p → Part j l x' O w p) :
    NxtW i l x' K Ol w b w' := by
  obtain ⟨h1, h2, h3⟩ := h
  obtain ⟨O', k1, k2, k3⟩ := hc
  have hlt : ∀ j c, j < 11 → K j c → c < w.heap.size := fun j c hj => part_lt j (h1.part j hj) c
  have hnew : ∀ j c, j < 11 → j ≠ i → K j c → O' c → c = b := fun j c hj hne hKc hO => (k3 c hO).elim (fun hi' => h1.apart j i c hj hi hne hKc hi') fun hs => absurd (hlt j c hj hKc) (by omega)
  obtain ⟨f, hf, hm⟩ := part_moves i k1
  have hR : ∀ j, j < 39 → ¬ (loP i ≤ j ∧ j < loP i + lnP i) → sub (loP i) (lnP i) R f j = R j := fun j _ hn => if_neg hn
  refine ⟨O', sub (loP i) (lnP i) R f, ⟨?_, ?_, ?_⟩, k2, k3⟩
  · refine NdM.turn (p := ⟨b, R⟩) h1 (fun j => j = i) hf.tb ?_ (fun j hj e => ?_) (fun j hj hn => ⟨if_neg hn, fun k hk => ?_, hs j hj hn⟩) (fun j hj hn => ?_) (fun a c d ha hc' hne => ?_)
    · have P := hpl h1.plain
      have hz : ∀ j, j = 0 ∨ j = 1 ∨ j = 2 ∨ j = 7 ∨ j = 8 ∨ j = 36 ∨ j = 38 → sub (loP i) (lnP i) R f j = R j := by
        intro j hj
        refine hR j (by omega) ?_
        have : ∀ i, i < 11 → ∀ j, (j = 0 ∨ j = 1 ∨ j = 2 ∨ j = 7 ∨ j = 8 ∨ j = 36 ∨ j = 38) → ¬ (loP i ≤ j ∧ j < loP i + lnP i) := by
          intro i hi j hj
          match i, hi with
          | 0, _ | 1, _ | 2, _ | 3, _ | 4, _ | 5, _ | 6, _ | 7, _ | 8, _ | 9, _ | 10, _ => simp only [loP, lnP]; omega
        exact this i hi j hj
      exact ⟨(hz 0 (by omega)).trans P.f0, (hz 1 (by omega)).trans P.f1, (hz 2 (by omega)).trans P.f2, (hz 7 (by omega)).trans P.f7, (hz 8 (by omega)).trans P.f8, (hz 36 (by omega)).trans P.f36, (hz 38 (by omega)).trans P.f38⟩
    · subst e
      show Part j l x' (if j = j then O' else K j) w' _
      rw [if_pos rfl]
      refine hm w' ⟨b, sub (loP j) (lnP j) R f⟩ rfl (SBlk.of hf.tb _ _ f hf.le fun k hk => ?_) (Keeps.refl _ _)
      show (if loP j ≤ loP j + k ∧ loP j + k < loP j + lnP j then f (loP j + k - loP j) else R (loP j + k)) = f k
      rw [if_pos ⟨by omega, by omega⟩]; congr 1; omega
    · refine hR _ (by have := lo_le j hj; omega) ?_
      have := lo_apart i j hi hj (Ne.symm hn)
      omega
    · exact k2.sub fun c hc hl hi' => hc.2 (h1.apart j i c hj hi hn hc.1 hi')
    · show (if a = i then O' else K a) d → (if c = i then O' else K c) d → d = b
      by_cases ea : a = i
      · rw [if_pos ea]
        by_cases ec : c = i
        · exact absurd (ea.trans ec.symm) hne
        · rw [if_neg ec]; exact fun h k => hnew c d hc' ec k h
      · rw [if_neg ea]
        by_cases ec : c = i
        · rw [if_pos ec]; exact fun h k => hnew a d ha ea h k
        · rw [if_neg ec]; exact h1.apart a c d ha hc' hne
  · rw [hlo]
    exact at9_keep h2 (k2.sub fun c hc _ hi' => h3 i c hi hi' hc)
  · intro j c hj hK
    have hK : (if j = i then O' else K j) c := hK
    by_cases e : j = i
    · rw [if_pos e] at hK
      rcases k3 c hK with h | h
      · exact h3 i c hi h
      · exact fun ho => absurd (at9_lt h2 c ho) (by omega)
    · rw [if_neg e] at hK; exact h3 j c hj hK
/-- one part has been turned by a call of its own -/
theorem NdAt.next (i : Nat) (hi : i < 11) {Ol : Nat → Prop} (h1 : NdM l x K w ⟨b, R⟩) (h2 : At9 Ol w l x.lo) (h3 : ∀ i c, i < 11 → K i c → ¬ Ol c) (h4 : ∀ c, O c ↔ (∃ i, i < 11 ∧ K i c) ∨ Ol c)
    (hc : ∃ O', Part i l x' O' w' ⟨b, R⟩ ∧ Keeps (fun c => ¬ K i c) w w' ∧ ∀ c, O' c → K i c ∨ w.heap.size ≤ c) (hlo : x'.lo = x.lo) (hpl : Plain18 x R → Plain18 x' R) (hs : ∀ j, j < 11 → j ≠ i → ∀ O w p, Part j l x O w p → Part j l x' O w p) :
    NxtAt O w b l x' w' := by
  obtain ⟨O', k1, k2, k3⟩ := hc
  have hlt : ∀ j c, j < 11 → K j c → c < w.heap.size := fun j c hj => part_lt j (h1.part j hj) c
  have hnew : ∀ j c, j < 11 → j ≠ i → K j c → O' c → c = b := fun j c hj hne hKc hO => (k3 c hO).elim (fun hi' => h1.apart j i c hj hi hne hKc hi') fun hs => absurd (hlt j c hj hKc) (by omega)
  obtain ⟨f, hf, hm⟩ := part_moves i k1
  have hR : ∀ j, j < 39 → ¬ (loP i ≤ j ∧ j < loP i + lnP i) → sub (loP i) (lnP i) R f j = R j := fun j _ hn => if_neg hn
  refine ⟨fun c => (∃ j, j < 11 ∧ (if j = i then O' c else K j c)) ∨ Ol c, ⟨sub (loP i) (lnP i) R f, fun j => if j = i then O' else K j, Ol, ?_, ?_, ?_, fun c => ?_⟩, ?_, ?_⟩
  · refine NdM.turn (p := ⟨b, R⟩) h1 (fun j => j = i) hf.tb ?_ (fun j hj e => ?_) (fun j hj hn => ⟨if_neg hn, fun k hk => ?_, hs j hj hn⟩) (fun j hj hn => ?_) (fun a c d ha hc' hne => ?_)
    · have P := hpl h1.plain
      have hz : ∀ j, j = 0 ∨ j = 1 ∨ j = 2 ∨ j = 7 ∨ j = 8 ∨ j = 36 ∨ j = 38 → sub (loP i) (lnP i) R f j = R j := by
        intro j hj
        refine hR j (by omega) ?_
        have : ∀ i, i < 11 → ∀ j, (j = 0 ∨ j = 1 ∨ j = 2 ∨ j = 7 ∨ j = 8 ∨ j = 36 ∨ j = 38) → ¬ (loP i ≤ j ∧ j < loP i + lnP i) := by
          intro i hi j hj
          match i, hi with
          | 0, _ | 1, _ | 2, _ | 3, _ | 4, _ | 5, _ | 6, _ | 7, _ | 8, _ | 9, _ | 10, _ => simp only [loP, lnP]; omega
        exact this i hi j hj
      exact ⟨(hz 0 (by omega)).trans P.f0, (hz 1 (by omega)).trans P.f1, (hz 2 (by omega)).trans P.f2, (hz 7 (by omega)).trans P.f7, (hz 8 (by omega)).trans P.f8, (hz 36 (by omega)).trans P.f36, (hz 38 (by omega)).trans P.f38⟩
    · subst e
      show Part j l x' (if j = j then O' else K j) w' _
      rw [if_pos rfl]
      refine hm w' ⟨b, sub (loP j) (lnP j) R f⟩ rfl (SBlk.of hf.tb _ _ f hf.le fun k hk => ?_) (Keeps.refl _ _)
      show (if loP j ≤ loP j + k ∧ loP j + k < loP j + lnP j then f (loP j + k - loP j) else R (loP j + k)) = f k
      rw [if_pos ⟨by omega, by omega⟩]; congr 1; omega
    · refine hR _ (by have := lo_le j hj; omega) ?_
      have := lo_apart i j hi hj (Ne.symm hn)
      omega
    · exact k2.sub fun c hc hl hi' => hc.2 (h1.apart j i c hj hi hn hc.1 hi')
    · show (if a = i then O' else K a) d → (if c = i then O' else K c) d → d = b
      by_cases ea : a = i
      · rw [if_pos ea]
        by_cases ec : c = i
        · exact absurd (ea.trans ec.symm) hne
        · rw [if_neg ec]; exact fun h k => hnew c d hc' ec k h
      · rw [if_neg ea]
        by_cases ec : c = i
        · rw [if_pos ec]; exact fun h k => hnew a d ha ea h k
        · rw [if_neg ec]; exact h1.apart a c d ha hc' hne
  · rw [hlo]
    exact at9_keep h2 (k2.sub fun c hc _ hi' => h3 i c hi hi' hc)
  · intro j c hj hK
    have hK : (if j = i then O' else K j) c := hK
    by_cases e : j = i
    · rw [if_pos e] at hK
      rcases k3 c hK with h | h
      · exact h3 i c hi h
      · exact fun ho => absurd (at9_lt h2 c ho) (by omega)
    · rw [if_neg e] at hK; exact h3 j c hj hK
  · refine or_congr ⟨?_, ?_⟩ Iff.rfl
    · rintro ⟨j, hj, h⟩; exact ⟨j, hj, by by_cases e : j = i <;> simpa [e] using h⟩
    · rintro ⟨j, hj, h⟩; exact ⟨j, hj, by by_cases e : j = i <;> simpa [e] using h⟩
  · exact k2.sub fun c hc _ hi' => hc ((h4 c).2 (.inl ⟨i, hi, hi'⟩))
  · rintro c (⟨j, hj, h⟩ | h)
    · by_cases e : j = i
      · rw [if_pos e] at h
        exact (k3 c h).imp_left fun h => (h4 c).2 (.inl ⟨i, hi, h⟩)
      · rw [if_neg e] at h; exact .inl ((h4 c).2 (.inl ⟨j, hj, h⟩))
    · exact .inl ((h4 c).2 (.inr h))
/-- and the node as one thing -/
theorem NdW.at_ {Ol : Nat → Prop} (h : NdW l x K Ol w b R) : NdAt (fun c => (∃ i, i < 11 ∧ K i c) ∨ Ol c) w b l x := ⟨R, K, Ol, h.m, h.log, h.off, fun _ => Iff.rfl⟩
theorem NxtW.nxt {Ol : Nat → Prop} {i : Nat} (hi : i < 11) (ho : ∀ c, O c ↔ (∃ i, i < 11 ∧ K i c) ∨ Ol c) (h : NxtW i l x' K Ol w b w') : NxtAt O w b l x' w' := by
  obtain ⟨Z, R', h1, h2, h3⟩ := h
  refine ⟨_, h1.at_, h2.sub fun c hc _ hk => hc ((ho c).2 (.inl ⟨i, hi, hk⟩)), ?_⟩
  rintro c (⟨j, hj, hc⟩ | hc)
  · unfold setK at hc
    by_cases e : j = i
    · rw [if_pos e] at hc
      exact (h3 c hc).imp_left fun h => (ho c).2 (.inl ⟨i, hi, h⟩)
    · rw [if_neg e] at hc; exact .inl ((ho c).2 (.inl ⟨j, hj, hc⟩))
  · exact .inl ((ho c).2 (.inr hc))
end
end Go.Proofs.YthajnkcipifhcaaGreatDoor
end
section
open Go Go.RowKit
namespace ND
open IN NO QU GA TI TA LE ZZ YY TT SS RR FF JJ CC MM WW BB
theorem strs_depA {A : Nat → Prop} {w : World} {v : Value} {l : List ByteArray} (h : StrsAt w v l) (ho : ∀ c, v.ownBlock = some c → A c) : Dep A w (fun w' => StrsAt w' v l) := fun w' hk => by
  obtain ⟨a0, cap, rfl, h | ⟨b, off, rfl, hl, hc⟩⟩ := h
  · exact ⟨a0, cap, rfl, Or.inl h⟩
  · exact ⟨_, cap, rfl, Or.inr ⟨b, off, rfl, Nat.lt_of_lt_of_le hl hk.b0.size, fun i hi => (World.cell?_of_block (w := w) (a := ⟨b, off + i, none⟩) (hk.block b (ho b rfl) hl)).trans (hc i hi)⟩⟩
theorem reqs_depA {A : Nat → Prop} {w : World} {v : Value} {l : List Rq} (h : ReqsAt w v l) (ho : ∀ c, v.ownBlock = some c → A c) : Dep A w (fun w' => ReqsAt w' v l) := fun _ hk => reqs_keep h hk.b0.size fun c h1 h2 => hk.block c (ho c h1) h2
theorem sigs_depA {B : Nat} {w : World} {v : Value} {l : List (Int × List ByteArray)} (h : SigsNew B w v l) : Dep (fun b => B ≤ b ∧ b < w.heap.size) w (fun w' => SigsAt w' v l) := fun _ hk => (h.keep hk.b0.size fun c h1 h2 => hk.block c ⟨h1, h2⟩ h2).sigs
end ND
namespace Go.Proofs.YthajnkcipifhcaaGreatDoor
open ND IN NO QU GA TI TA LE ZZ YY TT SS RR FF JJ CC MM WW BB
section
variable {O : Nat → Prop} {w w' : World} {b l : Nat} {x : Nd} {K : Nat → Nat → Prop} {R : Nat → Value}
/-- a plain cell -/
theorem NdM.cell (h : NdM l x K w ⟨b, R⟩) (i : Nat) (hi : i < 39) : w.cell? ⟨b, i, none⟩ = some (R i) := h.blk.blk.get i hi
theorem NdM.pl (h : NdM l x K w ⟨b, R⟩) : Plain18 x R := h.plain
theorem NdM.bk (h : NdM l x K w ⟨b, R⟩) : TBlk 98 w b 39 R := h.blk
theorem NdM.frz (h : NdM l x K w ⟨b, R⟩) (i : Nat) : w.frozen? ⟨b, i, none⟩ = false := h.blk.blk.frz i
end
set_option maxRecDepth 100000 in
set_option maxHeartbeats 1000000 in
theorem view18 {O : Nat → Prop} {w : World} {b l : Nat} {x : Nd} (h : NdAt O w b l x) (hi : InvT x.ti) : Calls Tryz.prog 14 #[.pointer (some ⟨b, 0, none⟩)] w fun e w' => e = .returned (.int .i64 x.ti.1) ∧ Below w.heap.size w w' := by
  obtain ⟨R, K, Ol, hM, _⟩ := h
  have H := Lib.hid (show At15I (K 6) w ⟨b, R⟩ x.ti from hM.part 6 (by omega))
  have HI := Lib.hid hi
  clear hM hi
  go_enter Tryz.func14, Tryz.ntmps14
  go_wp2_with fail
  refine (view15I _ w ⟨b, R⟩ x.ti H.out ⟨HI.out.1, HI.out.2.1⟩).mono ?_
  rintro e w1 ⟨rfl, hb⟩
  have HB := Lib.hid hb
  clear hb
  go_wp2_with fail
  go_ret
  exact ⟨rfl, HB.out⟩
set_option maxRecDepth 100000 in
set_option maxHeartbeats 2000000 in
theorem state18 {O : Nat → Prop} {w : World} {b l : Nat} {x : Nd} (h : NdAt O w b l x) : Calls Tryz.prog 17 #[.pointer (some ⟨b, 0, none⟩)] w fun e w' => e = .returned (.agg #[.int .i64 x.st.1, .int .i64 x.st.2]) ∧ Below w.heap.size w w' := by
  obtain ⟨R, K, Ol, hM, _⟩ := h
  have X1 := Lib.hid ((Below.refl w.heap.size w).alloc (Nat.le_refl _) (.cells #[.int .i64 0, .int .i64 0] 49))
  have Q1 := Lib.hid (show Blk (w.alloc (.cells #[.int .i64 0, .int .i64 0] 49)) w.heap.size 2 (rowL [.int .i64 0, .int .i64 0]) from Blk.new' rfl (row2_ _ _))
  have HB := Lib.hid (hM.bk.below X1.out hM.bk.lt)
  have HP := Lib.hid hM.pl
  obtain ⟨y, hy⟩ : ∃ y, w.heap.size = y := ⟨_, rfl⟩
  have HY := Lib.hid hy
  obtain ⟨w1, hw1⟩ : ∃ w1, w.alloc (.cells #[.int .i64 0, .int .i64 0] 49) = w1 := ⟨_, rfl⟩
  clear hM
  go_enter Tryz.func17, Tryz.ntmps17
  go_upto_region 1 with fail
  rw [hw1] at X1 Q1 HB
  rw [hy] at Q1 X1
  clear hw1
  have f0 := Q1.out.frz 0
  have f1 := Q1.out.frz 1
  obtain ⟨d0, d1⟩ := cells2 Q1.out
  have c7 := HB.out.blk.get 7 (by omega)
  have c8 := HB.out.blk.get 8 (by omega)
  rw [HP.out.f7] at c7
  rw [HP.out.f8] at c8
  clear hy
  go_wp2_with fail
  obtain ⟨xi, ui⟩ := rset2 Q1.out (.int .i64 x.st.1) (.int .i64 x.st.2)
  obtain ⟨p0, p1⟩ := cells2 xi
  refine bodyPost_ret (v := .agg #[.int .i64 x.st.1, .int .i64 x.st.2]) (by simp [results, Tryz.results17, go_sem, p0, p1]) rfl ⟨rfl, ?_⟩
  rw [HY.out]
  exact X1.out.trans (ui.below (Nat.le_refl _))
/-- a call of a node that another call has left -/
theorem NxtAt.step {O O1 : Nat → Prop} {w w1 w2 : World} {b l : Nat} {x' : Nd} (k2 : Keeps (fun c => ¬ O c) w w1) (k3 : ∀ c, O1 c → O c ∨ w.heap.size ≤ c) (h : NxtAt O1 w1 b l x' w2) : NxtAt O w b l x' w2 := by
  obtain ⟨O2, j1, j2, j3⟩ := h
  exact ⟨O2, j1, ⟨k2.b0.trans j2.b0, fun c hc hl => (j2.block c (fun ho => (k3 c ho).elim hc (by omega)) (Nat.lt_of_lt_of_le hl k2.b0.size)).trans (k2.block c hc hl)⟩, fun c hc => (j3 c hc).elim (k3 c) fun hs => .inr (Nat.le_trans k2.b0.size hs)⟩
/-- the parts, and the log -/
theorem NdAt.open_ {O : Nat → Prop} {w : World} {b l : Nat} {x : Nd} (h : NdAt O w b l x) : ∃ R K Ol, NdM l x K w ⟨b, R⟩ ∧ At9 Ol w l x.lo ∧ (∀ i c, i < 11 → K i c → ¬ Ol c) ∧ ∀ c, O c ↔ (∃ i, i < 11 ∧ K i c) ∨ Ol c := h
set_option maxRecDepth 100000 in
set_option maxHeartbeats 4000000 in
theorem rose18 {O : Nat → Prop} {w : World} {b l : Nat} {x : Nd} (ok : Bool) (h : NdAt O w b l x) (hi : InvT x.ti) (ht : InvTa x.ta) :
    Calls Tryz.prog 46 #[.pointer (some ⟨b, 0, none⟩), .bool ok] w fun e w' => e = .returned (.bool ok) ∧ NxtAt O w b l (roseX x ok) w' := by
  have H0 := Lib.hid h
  obtain ⟨R, K, Ol, hM, hL, hd, hO⟩ := h
  have H6 := Lib.hid (show At15I (K 6) w ⟨b, R⟩ x.ti from hM.part 6 (by omega))
  have H5 := Lib.hid (show At14I (K 5) w ⟨b, R⟩ x.ta from hM.part 5 (by omega))
  have HM := Lib.hid hM
  have HL := Lib.hid (And.intro hL (And.intro hd hO))
  have HI := Lib.hid hi
  have HT := Lib.hid ht
  clear hM hL hd hO hi ht
  go_enter Tryz.func46, Tryz.ntmps46
  cases ok with
  | false =>
    go_wp2_with fail
    go_ret
    exact ⟨rfl, NxtAt.refl H0.out⟩
  | true =>
    go_upto_region 2 with fail
    have hw : IntKind.i64.wrap (x.ti.1 - 2) = x.ti.1 - 2 := by have := HI.out.1; have := HI.out.2.1; rw [IntKind.wrap_i64]; omega
    refine plan_abs (fun _ => True) [(true, 0), (true, 1), (true, 2), (true, 3), (true, 4), (true, 5), (false, 6), (true, 7), (false, 8)] (by kernel_rfl) (by kernel_rfl) (fun _ _ d _ _ h => by cases d <;> exact h) fun w1 hs1 => ⟨trivial, ?_⟩
    have B1 := Lib.hid (hs1.below w.heap.size)
    clear hs1
    iterate 6 (refine pl_run _ ?_ rfl rfl ?_ ?_; rotate_left; (focus (intro w' hS; go_simp; exact rfl)); simp only [Act.put, List.setIfInBounds_toArray, List.set_cons_zero, List.set_cons_succ, List.getElem_toArray, List.getElem_cons_zero, List.getElem_cons_succ])
    refine pl_call1 (v := .int .i64 x.ti.1) (R := fun w' => Below w1.heap.size w1 w') _ rfl rfl (by go_simp) (view15I _ w1 ⟨b, R⟩ x.ti (at15_keepI H6.out (Keeps.of B1.out)) ⟨HI.out.1, HI.out.2.1⟩) (fun _ _ => trivial) fun w2 hb2 => ?_
    have B2 := Lib.hid (B1.out.trans (hb2.mono B1.out.size))
    clear hb2
    simp only [Act.put, List.setIfInBounds_toArray, List.set_cons_zero, List.set_cons_succ, List.getElem_toArray, List.getElem_cons_zero, List.getElem_cons_succ]
    iterate 1 (refine pl_run _ ?_ rfl rfl ?_ ?_; rotate_left; (focus (intro w' hS; go_simp; exact rfl)); simp only [Act.put, List.setIfInBounds_toArray, List.set_cons_zero, List.set_cons_succ, List.getElem_toArray, List.getElem_cons_zero, List.getElem_cons_succ])
    refine pl_call1 (v := .tuple #[]) (R := fun w' => ∃ O', At14I O' w' ⟨b, R⟩ (belowT x.ta (x.ti.1 - 2)) ∧ Keeps (fun b => ¬ K 5 b) w2 w' ∧ ∀ b, O' b → K 5 b ∨ w2.heap.size ≤ b) _ rfl rfl (by go_simp) (below14I _ w2 ⟨b, R⟩ x.ta (x.ti.1 - 2) (at14_keepI H5.out (Keeps.of B2.out)) HT.out) (fun _ _ => trivial) fun w3 hr => ?_
    have HR := Lib.hid hr
    clear hr hw
    refine pl_end ?_
    go_wp2_with fail
    go_ret
    refine ⟨rfl, ?_⟩
    obtain ⟨O', k1, k2, k3⟩ := HR.out
    exact NdAt.next 5 (by omega) HM.out HL.out.1 HL.out.2.1 HL.out.2.2 ⟨O', k1, (Keeps.of B2.out).trans k2, fun c hc => (k3 c hc).imp_right (Nat.le_trans B2.out.size)⟩ rfl (fun h => ⟨h.f0, h.f1, h.f2, h.f7, h.f8, h.f36, h.f38⟩) (fun j hj hne O w p h => by
      match j, hj, h with
      | 0, _, h | 1, _, h | 2, _, h | 3, _, h | 4, _, h | 6, _, h | 7, _, h | 8, _, h | 9, _, h | 10, _, h => exact h
      | 5, _, _ => exact absurd rfl hne)
end Go.Proofs.YthajnkcipifhcaaGreatDoor
end
section
open Go Go.RowKit
namespace BB
/-- the store that turns what is read ahead of it -/
theorem ps_store {P : Program} {ops : Array Oper} {S S' : World → Prop} {Q : Exit → Act → World → Prop} {t : Nat} {rest : List (Bool × Nat)} {a : Act} {w w' : World} (o : Oper) (ho : ops[t]? = some o) (hg : o.guard = none) (h : (execOp a.eval o).run P w = .ok .skip w') (hS : S' w') (hK : wpPlan P ops Q S' rest (a.put o.dst undef) w') : wpPlanS P ops Q S S' t rest [] a w := by
  show wpOp P ops Q t _ a w
  unfold wpOp; simp only [ho, Region.wanted, hg, if_true]
  left; unfold Oper.wp; rw [h]; exact ⟨hS, hK⟩
/-- a struct of m cells is stored -/
theorem ps_store_row {P : Program} {ops : Array Oper} {S S' : World → Prop} {Q : Exit → Act → World → Prop} {t : Nat} {rest : List (Bool × Nat)} {a : Act} {w : World} {T b off N m : Nat} {f : Nat → Value} (g : Nat → Value) (o : Oper) (ad x : Operand) (ho : ops[t]? = some o) (hg : o.guard = none) (hop : o.op = .store T ad x)
    (ha : a.eval ad = .pointer (some ⟨b, off, none⟩)) (hx : a.eval x = .agg (row m g)) (hs : (Go.sizeOf T).run P w = .ok m w) (hb : Blk w b N f) (hN : off + m ≤ N) (h1 : ∀ i, i < m → (g i).oneCell' = true) (hS : ∀ w', MS w b N (fun j => if off ≤ j ∧ j < off + m then g (j - off) else f j) w' → S' w')
    (hK : ∀ w', MS w b N (fun j => if off ≤ j ∧ j < off + m then g (j - off) else f j) w' → wpPlan P ops Q S' rest (a.put o.dst undef) w') : wpPlanS P ops Q S S' t rest [] a w := by
  obtain ⟨w', h, hm⟩ := run_op_store hop ha hx hs hb hN h1
  exact ps_store o ho hg h (hS w' hm) (hK w' hm)
theorem pl_store_row {P : Program} {ops : Array Oper} {S : World → Prop} {Q : Exit → Act → World → Prop} {i : Nat} {r : List (Bool × Nat)} {a : Act} {w : World} {T b off N m : Nat} {f : Nat → Value} (g : Nat → Value) (o : Oper) (ad x : Operand) (ho : ops[i]? = some o) (hg : o.guard = none) (hop : o.op = .store T ad x)
    (ha : a.eval ad = .pointer (some ⟨b, off, none⟩)) (hx : a.eval x = .agg (row m g)) (hs : (Go.sizeOf T).run P w = .ok m w) (hb : Blk w b N f) (hN : off + m ≤ N) (h1 : ∀ i, i < m → (g i).oneCell' = true) (hS : ∀ w', MS w b N (fun j => if off ≤ j ∧ j < off + m then g (j - off) else f j) w' → S w')
    (hK : ∀ w', MS w b N (fun j => if off ≤ j ∧ j < off + m then g (j - off) else f j) w' → wpPlan P ops Q S r (a.put o.dst undef) w') : wpPlan P ops Q S ((false, i) :: r) a w := by
  obtain ⟨w', h, hm⟩ := run_op_store hop ha hx hs hb hN h1
  exact pl_store o ho hg h (hS w' hm) (hK w' hm)
end BB
namespace ND
open IN NO QU GA TI TA LE ZZ YY TT SS RR FF JJ CC MM WW BB
/-- a message's cells -/
def mcells (m : Mg) : Nat → Value := rowL [.int .i64 m.k, .int .i64 m.fr, .int .i64 m.node, .int .i64 m.v, .string m.h, .int .i64 m.x.1.1.1, .int .i64 m.x.1.1.2, .int .i64 m.x.1.2.1.1, .string m.x.1.2.1.2, m.s9, m.r10,
  .int .i64 m.c.1.1, .string m.c.1.2, m.s13, .int .i64 m.s.1, m.t15, .int .i64 m.r.1, .int .i64 m.r.2.1, .string m.r.2.2, .int .i64 m.ix, .string m.tg]
/-- what its slices hold -/
structure MgIn (w : World) (m : Mg) : Prop where
  h9 : SigsAt w m.s9 m.x.1.2.2
  h10 : ReqsAt w m.r10 m.x.2
  h13 : SigsAt w m.s13 m.c.2
  h15 : StrsAt w m.t15 m.s.2
theorem MgIn.later {w w' : World} {m : Mg} (h : MgIn w m) (hb : Below w.heap.size w w') : MgIn w' m := ⟨h.h9.later hb, h.h10.later hb, h.h13.later hb, h.h15.later hb⟩
/-- a message of sizes that are looked at -/
structure SendOk (x : Nd) (m : Mg) : Prop where
  text : TextOk m.x m.c m.h m.r
  seed : x.sd.size ≤ 1000
  sigs : m.x.1.2.2.length ≤ 1000
  tags : ∀ p ∈ m.x.1.2.2, p.2.length ≤ 1000
  reqs : m.x.2.length ≤ 100000
  csigs : m.c.2.length ≤ 1000
  ctags : ∀ p ∈ m.c.2, p.2.length ≤ 1000
  stags : m.s.2.length ≤ 1000
  body : m.r.2.2.size ≤ 60000
  out : x.out.length ≤ 1000000
end ND
namespace Go.Proofs.YthajnkcipifhcaaGreatDoor
open ND IN NO QU GA TI TA LE ZZ YY TT SS RR FF JJ CC MM WW BB
theorem mgIn_at {w : World} {m : Mg} (h : MgIn w m) : MgAt w (mcells m) m := ⟨rfl, rfl, rfl, rfl, rfl, rfl, rfl, rfl, rfl, rfl, rfl, rfl, rfl, rfl, rfl, rfl, rfl, rfl, rfl, rfl, rfl, h.h9, h.h10, h.h13, h.h15⟩
theorem textM_size (x : Nd) (m : Mg) (h : SendOk x m) : (textM (msOf m)).size ≤ 100000 := by
  have h1 := h.text.2.1
  have h2 := h.text.2.2.1
  have h3 := h.body
  show (textF m.k m.v m.h m.x m.c m.r m.ix).size ≤ 100000
  unfold textF
  have e1 : (⟨#[80]⟩ : ByteArray).size = 1 := rfl
  have e2 : (⟨#[78]⟩ : ByteArray).size = 1 := rfl
  have e3 : (⟨#[65]⟩ : ByteArray).size = 1 := rfl
  have e4 : (⟨#[]⟩ : ByteArray).size = 0 := rfl
  split
  · rw [ByteArray.size_append, show (digI m.x).size = 32 from digD_size _ _ _ _ _, e1]; omega
  · split
    · rw [ByteArray.size_append, ByteArray.size_append, ByteArray.size_append, num_size, num_size, e2]; omega
    · split
      · rw [ByteArray.size_append, ByteArray.size_append, ByteArray.size_append, reqB_size, num_size, e3]; omega
      · rw [e4]; omega
theorem und_msgsN : Tryz.prog.underlying 22 = some (.slice 43) := by kernel_rfl
theorem info_msgN : (Tryz.prog.info? 43).map (fun i => (i.zero, i.size, i.bytes)) = some (some (.agg #[.int .i64 0, .int .i64 0, .int .i64 0, .int .i64 0, .string ⟨#[]⟩, .int .i64 0, .int .i64 0, .int .i64 0, .string ⟨#[]⟩, .slice none 0 0, .slice none 0 0, .int .i64 0, .string ⟨#[]⟩, .slice none 0 0, .int .i64 0, .slice none 0 0, .int .i64 0, .int .i64 0, .string ⟨#[]⟩, .int .i64 0, .string ⟨#[]⟩]), 21, 272) := by kernel_rfl
theorem NdM.on {w w' : World} {b l : Nat} {x : Nd} {K : Nat → Nat → Prop} {R : Nat → Value} (h : NdM l x K w ⟨b, R⟩) (hb : Below w.heap.size w w') : NdM l x K w' ⟨b, R⟩ :=
  h.turn (p := ⟨b, R⟩) (fun _ => False) (h.bk.below hb h.bk.lt) h.pl (fun _ _ h => h.elim) (fun _ _ _ => ⟨rfl, fun _ _ => rfl, fun _ _ _ h => h⟩) (fun _ _ _ => Keeps.of hb) h.apart
set_option maxRecDepth 100000 in
set_option maxHeartbeats 32000000 in
theorem push18w {w : World} {b l : Nat} {x : Nd} {m : Mg} {K : Nat → Nat → Prop} {Ol : Nat → Prop} {R : Nat → Value} (h : NdW l x K Ol w b R) (hm : MgIn w m) (hok : SendOk x m) (hT : Tabs w) :
    Calls Tryz.prog 121 #[.pointer (some ⟨b, 0, none⟩), .agg (row 21 (mcells m))] w fun e w' => e = .returned (.tuple #[]) ∧ NxtW 8 l (sendX x (msOf m)) K Ol w b w' := by
  have HOK := Lib.hid hok
  have HT := Lib.hid hT
  obtain ⟨hN, hL, hd⟩ := h
  have HN := Lib.hid hN
  have HL := Lib.hid (And.intro hL hd)
  have X0 := Lib.hid (show Blk (w.alloc (.cells (row 21 (mcells m)) 43)) w.heap.size 21 (mcells m) from Blk.new' rfl rfl)
  have B0 := Lib.hid ((Below.refl w.heap.size w).alloc (Nat.le_refl _) (.cells (row 21 (mcells m)) 43))
  have HB := Lib.hid (hN.bk.below B0.out hN.bk.lt)
  have HM0 := Lib.hid hm
  have HP := Lib.hid hN.pl
  obtain ⟨y, hy⟩ : ∃ y, w.heap.size = y := ⟨_, rfl⟩
  have HY := Lib.hid hy
  have HBY := Lib.hid (show b < y by rw [← hy]; exact hN.bk.lt)
  clear hN hL hd hm hok hT
  go_enter Tryz.func121, Tryz.ntmps121
  go_upto_region 1 with fail
  rw [hy] at X0
  obtain ⟨w1, hw1⟩ : ∃ w1, w.alloc (.cells (row 21 (mcells m)) 43) = w1 := ⟨_, rfl⟩
  rw [hw1] at X0 B0 HB ⊢
  have HZ1 := Lib.hid (show w1.heap.size = y + 1 by rw [← hw1, ← hy]; simp)
  clear hw1 hy
  have c1 := HB.out.blk.get 1 (by omega)
  rw [HP.out.f1] at c1
  have d1 := X0.out.get 1 (by omega)
  have f1 := X0.out.frz 1
  go_upto_region 2 with fail
  clear c1 d1 f1
  obtain ⟨m1, hm1⟩ : ∃ m1 : Mg, { m with fr := x.id } = m1 := ⟨_, rfl⟩
  have U2 := Lib.hid (Upd.set w1 y 1 (.int .i64 x.id))
  have X2 := Lib.hid (show Blk (w1.setCell ⟨y, 1, none⟩ (.int .i64 x.id)) y 21 (mcells m1) from (X0.out.set 1 _).congr _ fun i hi => by
    subst hm1
    match i, hi with
    | 0, _ | 1, _ | 2, _ | 3, _ | 4, _ | 5, _ | 6, _ | 7, _ | 8, _ | 9, _ | 10, _ | 11, _ | 12, _ | 13, _ | 14, _ | 15, _ | 16, _ | 17, _ | 18, _ | 19, _ | 20, _ => rfl
    | _ + 21, h2 => exact absurd h2 (by omega))
  obtain ⟨w2, hw2⟩ : ∃ w2, w1.setCell ⟨y, 1, none⟩ (.int .i64 x.id) = w2 := ⟨_, rfl⟩
  rw [hw2] at U2 X2 ⊢
  clear hw2
  have B2 := Lib.hid (show Below w.heap.size w w2 from B0.out.trans (U2.out.below (by rw [HY.out]; exact Nat.le_refl _)))
  have HB2 := Lib.hid (show TBlk 98 w2 b 39 R from (U2.out.block b (by have := HBY.out; omega)).trans HB.out)
  have HMI2 := Lib.hid (show MgIn w2 m1 from by subst hm1; have h := HM0.out.later B2.out; exact ⟨h.h9, h.h10, h.h13, h.h15⟩)
  have HE1 := Lib.hid (show m1.fr = x.id ∧ m1.node = m.node ∧ textF m1.k m1.v m1.h m1.x m1.c m1.r m1.ix = textM (msOf m) ∧ TextOk m1.x m1.c m1.h m1.r from by subst hm1; exact ⟨rfl, rfl, rfl, HOK.out.text⟩)
  obtain ⟨tx, htx⟩ : ∃ tx, textM (msOf m) = tx := ⟨_, rfl⟩
  have HTX := Lib.hid (And.intro htx (show tx.size ≤ 100000 by rw [← htx]; exact textM_size x m HOK.out))
  obtain ⟨nd, hnd⟩ : ∃ nd, m.node = nd := ⟨_, rfl⟩
  have HND := Lib.hid hnd
  have HSC := Lib.hid (fun (wx : World) (hx : Below w2.heap.size w2 wx) => show wx.cell? ⟨b, 0, none⟩ = some (.string x.sd) ∧ wx.cell? ⟨y, 1, none⟩ = some (.int .i64 x.id) ∧ wx.cell? ⟨y, 2, none⟩ = some (.int .i64 nd) ∧ Blk wx y 21 (mcells m1) by
    have h1 := (HB2.out.below hx HB2.out.lt).blk.get 0 (by omega)
    have h2 := X2.out.below hx X2.out.lt
    have e1 := h2.get 1 (by omega)
    have e2 := h2.get 2 (by omega)
    rw [HP.out.f0] at h1
    rw [show mcells m1 1 = .int .i64 m1.fr from rfl, HE1.out.1] at e1
    rw [show mcells m1 2 = .int .i64 m1.node from rfl, HE1.out.2.1, HND.out] at e2
    exact ⟨h1, e1, e2, h2⟩)
  clear hnd htx
  refine planE_abs (fun wx => Below w2.heap.size w2 wx) 12 [(true, 0), (true, 1), (true, 2), (true, 3), (true, 4), (true, 5), (true, 6), (true, 7), (true, 8), (false, 9), (false, 10), (false, 11), (false, 12)] (by kernel_rfl) (by kernel_rfl) (fun _ _ d _ _ h => by cases d <;> exact h) fun w3 hs3 => ⟨hs3.below _, ?_⟩
  have B3 := Lib.hid (hs3.below w2.heap.size)
  clear hs3
  iterate 8 (refine pe_run _ ?_ rfl rfl ?_ ?_; rotate_left; (focus (intro w' hS; obtain ⟨c0, d1, d2, _⟩ := HSC.out w' hS; go_simp; exact rfl)); simp only [Act.put, List.setIfInBounds_toArray, List.set_cons_zero, List.set_cons_succ, List.getElem_toArray, List.getElem_cons_zero, List.getElem_cons_succ])
  refine pe_run _ (.agg (row 21 (mcells m1))) rfl rfl (fun w' hS => run_op_load_at rfl rfl (Tryz.isAgg43 w') (Tryz.sizeOf43 w') fun j hj => by rw [Nat.zero_add]; exact (HSC.out w' hS).2.2.2.get j hj) ?_
  simp only [Act.put, List.setIfInBounds_toArray, List.set_cons_zero, List.set_cons_succ, List.getElem_toArray, List.getElem_cons_zero, List.getElem_cons_succ]
  have HT2 := Lib.hid (tabs_on HT.out (B2.out.mono (Nat.le_refl _)))
  refine pe_call (R := fun v w' => v = .string tx ∧ Below w3.heap.size w3 w') _ rfl rfl (by go_simp) ((text18_any w3 (mcells m1) _ _ _ _ _ _ _ _ _ _ _ _ _ _ _ (mgIn_at (HMI2.out.later B3.out)) HE1.out.2.2.2 (tabs_on HT2.out B3.out)).mono fun e w' h => ⟨_, h.1, by rw [HE1.out.2.2.1, HTX.out.1], h.2⟩) (fun v w' h => B3.out.trans (h.2.mono B3.out.size)) fun v w4 hr => ?_
  obtain ⟨rfl, hb4⟩ := hr
  have B4 := Lib.hid (B3.out.trans (hb4.mono B3.out.size))
  clear hb4
  simp only [Act.put, List.setIfInBounds_toArray, List.set_cons_zero, List.set_cons_succ, List.getElem_toArray, List.getElem_cons_zero, List.getElem_cons_succ]
  obtain ⟨tg, htg⟩ : ∃ tg, tagB x.sd (endn x.id) (endn nd) tx = tg := ⟨_, rfl⟩
  have HTG := Lib.hid htg
  clear htg
  refine pe_call (R := fun v w' => v = .string tg ∧ Below w4.heap.size w4 w') _ rfl rfl (by go_simp) ((mtag_any x.sd x.id nd tx HOK.out.seed HTX.out.2 w4 (tabs_on HT2.out B4.out)).mono fun e w' h => ⟨_, h.1, by rw [HTG.out], h.2⟩) (fun v w' h => B4.out.trans (h.2.mono B4.out.size)) fun v w5 hr => ?_
  obtain ⟨rfl, hb5⟩ := hr
  have B5 := Lib.hid (B4.out.trans (hb5.mono B4.out.size))
  clear hb5
  simp only [Act.put, List.setIfInBounds_toArray, List.set_cons_zero, List.set_cons_succ, List.getElem_toArray, List.getElem_cons_zero, List.getElem_cons_succ]
  refine pe_value (w' := w5) _ (.pointer (some ⟨y, 20, none⟩)) rfl rfl (by go_simp) B5.out ?_
  simp only [Act.put, List.setIfInBounds_toArray, List.set_cons_zero, List.set_cons_succ, List.getElem_toArray, List.getElem_cons_zero, List.getElem_cons_succ]
  refine pe_last _ rfl ?_
  simp only [List.getElem_toArray, List.getElem_cons_zero, List.getElem_cons_succ]
  have X5 := Lib.hid (X2.out.below B5.out X2.out.lt)
  have d20 := X5.out.get 20 (by omega)
  have f20 := X5.out.frz 20
  go_upto_region 3 with fail
  clear d20 f20
  obtain ⟨m2, hm2⟩ : ∃ m2 : Mg, { m with fr := x.id, tg := tg } = m2 := ⟨_, rfl⟩
  have HM2 := Lib.hid hm2
  have U6 := Lib.hid (Upd.set w5 y 20 (.string tg))
  have X6 := Lib.hid (show Blk (w5.setCell ⟨y, 20, none⟩ (.string tg)) y 21 (mcells m2) from (X5.out.set 20 _).congr _ fun i hi => by
    subst hm1; subst hm2
    match i, hi with
    | 0, _ | 1, _ | 2, _ | 3, _ | 4, _ | 5, _ | 6, _ | 7, _ | 8, _ | 9, _ | 10, _ | 11, _ | 12, _ | 13, _ | 14, _ | 15, _ | 16, _ | 17, _ | 18, _ | 19, _ | 20, _ => rfl
    | _ + 21, h2 => exact absurd h2 (by omega))
  obtain ⟨w6, hw6⟩ : ∃ w6, w5.setCell ⟨y, 20, none⟩ (.string tg) = w6 := ⟨_, rfl⟩
  rw [hw6] at U6 X6 ⊢
  clear hw6 hm1 hm2
  have B6 := Lib.hid (show Below w.heap.size w w6 from (B2.out.trans (B5.out.mono B2.out.size)).trans (U6.out.below (by rw [HY.out]; exact Nat.le_refl _)))
  have HM6 := Lib.hid (HM0.out.later B6.out)
  have HS6 := Lib.hid (fun (wx : World) (hx : Below w6.heap.size w6 wx) => show (wx.cell? ⟨y, 5, none⟩ = some (.int .i64 m.x.1.1.1) ∧ wx.cell? ⟨y, 6, none⟩ = some (.int .i64 m.x.1.1.2) ∧ wx.cell? ⟨y, 7, none⟩ = some (.int .i64 m.x.1.2.1.1) ∧ wx.cell? ⟨y, 8, none⟩ = some (.string m.x.1.2.1.2) ∧ wx.cell? ⟨y, 9, none⟩ = some m.s9 ∧ wx.cell? ⟨y, 10, none⟩ = some m.r10) ∧
      (wx.cell? ⟨y, 11, none⟩ = some (.int .i64 m.c.1.1) ∧ wx.cell? ⟨y, 12, none⟩ = some (.string m.c.1.2) ∧ wx.cell? ⟨y, 13, none⟩ = some m.s13) ∧ wx.cell? ⟨y, 14, none⟩ = some (.int .i64 m.s.1) ∧ wx.cell? ⟨y, 15, none⟩ = some m.t15 by
    have h2 := X6.out.below hx X6.out.lt
    have e := HM2.out
    subst e
    exact ⟨⟨h2.get 5 (by omega), h2.get 6 (by omega), h2.get 7 (by omega), h2.get 8 (by omega), h2.get 9 (by omega), h2.get 10 (by omega)⟩, ⟨h2.get 11 (by omega), h2.get 12 (by omega), h2.get 13 (by omega)⟩, h2.get 14 (by omega), h2.get 15 (by omega)⟩)
  refine planS_abs (fun wx => Below w6.heap.size w6 wx) (fun _ => True) 10 2 [(true, 0), (true, 1), (true, 3), (true, 4), (true, 6), (true, 7), (false, 2), (true, 9), (false, 5), (false, 8)] [(true, 11), (false, 12), (true, 13), (false, 14)] (by kernel_rfl) (by kernel_rfl) (fun _ _ d _ _ h => by cases d <;> exact h) fun w7 hs7 => ⟨hs7.below _, ?_⟩
  have B7 := Lib.hid (hs7.below w6.heap.size)
  clear hs7
  iterate 6 (refine ps_run _ ?_ rfl rfl ?_ ?_; rotate_left; (focus (intro w' hS; obtain ⟨⟨d5, d6, d7, d8, d9, d10⟩, ⟨d11, d12, d13⟩, d14, d15⟩ := HS6.out w' hS; go_simp; exact rfl)); simp only [Act.put, List.setIfInBounds_toArray, List.set_cons_zero, List.set_cons_succ, List.getElem_toArray, List.getElem_cons_zero, List.getElem_cons_succ])
  refine ps_call (R := fun v w' => ∃ e, CopyB w7 m.x.1.1.1 m.x.1.1.2 m.x.1.2.1.1 m.x.1.2.1.2 m.x.1.2.2 m.x.2 e w' ∧ e = .returned v) _ rfl rfl (by go_simp) ((gcopied_any m.x.1.1.1 m.x.1.1.2 m.x.1.2.1.1 m.x.1.2.1.2 m.s9 m.r10 m.x.1.2.2 m.x.2 w7 (HM6.out.later B7.out).h9 (HM6.out.later B7.out).h10 HOK.out.sigs HOK.out.tags HOK.out.reqs).mono fun e w' h => by
    obtain ⟨a0, p0, a1, p1, he, _⟩ := id h
    exact ⟨_, he, e, h, he⟩) (fun v w' h => by obtain ⟨e, ⟨a0, p0, a1, p1, he, _, _, _, hb⟩, _⟩ := h; exact B7.out.trans (hb.mono B7.out.size)) fun v w8 hr => ?_
  obtain ⟨e8, ⟨a0, p0, a1, p1, he, hs8, hr8, ho8, hb8⟩, hv8⟩ := hr
  rw [he] at hv8
  injection hv8 with hv8
  subst hv8
  have B8 := Lib.hid (B7.out.trans (hb8.mono B7.out.size))
  have S8 := Lib.hid (And.intro hs8 (And.intro hr8 (And.intro ho8 B7.out.size)))
  clear he hs8 hr8 ho8 hb8
  simp only [Act.put, List.setIfInBounds_toArray, List.set_cons_zero, List.set_cons_succ, List.getElem_toArray, List.getElem_cons_zero, List.getElem_cons_succ]
  iterate 1 (refine ps_run _ ?_ rfl rfl ?_ ?_; rotate_left; (focus (intro w' hS; go_simp; exact rfl)); simp only [Act.put, List.setIfInBounds_toArray, List.set_cons_zero, List.set_cons_succ, List.getElem_toArray, List.getElem_cons_zero, List.getElem_cons_succ])
  refine ps_call (R := fun v w' => ∃ a c, v = .agg #[.int .i64 m.c.1.1, .string m.c.1.2, .slice a m.c.2.length c] ∧ SigsNew w8.heap.size w' (.slice a m.c.2.length c) m.c.2 ∧ Below w8.heap.size w8 w') _ rfl rfl (by go_simp) ((copied_any m.c.1.1 m.c.1.2 m.s13 m.c.2 w8 (HM6.out.later B8.out).h13 HOK.out.csigs HOK.out.ctags).mono fun e w' ⟨a, c, he, h⟩ => ⟨_, he, a, c, rfl, h⟩) (fun v w' ⟨a, c, _, _, hb⟩ => B8.out.trans (hb.mono B8.out.size)) fun v w9 hr => ?_
  obtain ⟨a2, p2, rfl, hs9, hb9⟩ := hr
  have B9 := Lib.hid (B8.out.trans (hb9.mono B8.out.size))
  have S9 := Lib.hid (And.intro hs9 hb9)
  clear hs9 hb9
  simp only [Act.put, List.setIfInBounds_toArray, List.set_cons_zero, List.set_cons_succ, List.getElem_toArray, List.getElem_cons_zero, List.getElem_cons_succ]
  refine ps_call (R := fun v w' => ∃ a c, v = .agg #[.int .i64 m.s.1, .slice a m.s.2.length c] ∧ StrsAt w' (.slice a m.s.2.length c) m.s.2 ∧ (∀ d, (Value.slice a m.s.2.length c).ownBlock = some d → w9.heap.size ≤ d) ∧ Below w9.heap.size w9 w') _ rfl rfl (by go_simp) ((ownsig_any m.s.1 m.t15 m.s.2 w9 (HM6.out.later B9.out).h15 HOK.out.stags).mono fun e w' ⟨a, c, he, h⟩ => ⟨_, he, a, c, rfl, h⟩) (fun v w' ⟨a, c, _, _, _, hb⟩ => B9.out.trans (hb.mono B9.out.size)) fun v w10 hr => ?_
  obtain ⟨a3, p3, rfl, hs10, ho10, hb10⟩ := hr
  have B10 := Lib.hid (B9.out.trans (hb10.mono B9.out.size))
  have S10 := Lib.hid (And.intro hs10 (And.intro ho10 hb10))
  clear hs10 ho10 hb10
  simp only [Act.put, List.setIfInBounds_toArray, List.set_cons_zero, List.set_cons_succ, List.getElem_toArray, List.getElem_cons_zero, List.getElem_cons_succ]
  have X10 := Lib.hid (X6.out.below B10.out X6.out.lt)
  refine ps_store_row (rowL [.int .i64 m.x.1.1.1, .int .i64 m.x.1.1.2, .int .i64 m.x.1.2.1.1, .string m.x.1.2.1.2, .slice a0 m.x.1.2.2.length p0, .slice a1 m.x.2.length p1]) _ (.tmp 30) (.tmp 23) rfl rfl rfl rfl rfl (Tryz.sizeOf36 w10) X10.out (by decide) (fun i hi => by
    match i, hi with
    | 0, _ | 1, _ | 2, _ | 3, _ | 4, _ | 5, _ => rfl
    | _ + 6, h2 => exact absurd h2 (by omega)) (fun _ _ => trivial) fun w11 hm11 => ?_
  have X11 := Lib.hid hm11
  clear hm11
  simp only [Act.put, List.getElem_toArray, List.getElem_cons_zero, List.getElem_cons_succ]
  iterate 1 (refine pl_run _ ?_ rfl rfl ?_ ?_; rotate_left; (focus (intro w' hS; go_simp; exact rfl)); simp only [Act.put, List.setIfInBounds_toArray, List.set_cons_zero, List.set_cons_succ, List.getElem_toArray, List.getElem_cons_zero, List.getElem_cons_succ])
  refine pl_store_row (rowL [.int .i64 m.c.1.1, .string m.c.1.2, .slice a2 m.c.2.length p2]) _ (.tmp 31) (.tmp 26) rfl rfl rfl rfl rfl (Tryz.sizeOf33 w11) X11.out.1 (by decide) (fun i hi => by
    match i, hi with
    | 0, _ | 1, _ | 2, _ => rfl
    | _ + 3, h2 => exact absurd h2 (by omega)) (fun _ _ => trivial) fun w12 hm12 => ?_
  have X12 := Lib.hid hm12
  clear hm12
  simp only [Act.put, List.getElem_toArray, List.getElem_cons_zero, List.getElem_cons_succ]
  iterate 1 (refine pl_run _ ?_ rfl rfl ?_ ?_; rotate_left; (focus (intro w' hS; go_simp; exact rfl)); simp only [Act.put, List.setIfInBounds_toArray, List.set_cons_zero, List.set_cons_succ, List.getElem_toArray, List.getElem_cons_zero, List.getElem_cons_succ])
  refine pl_store_row (rowL [.int .i64 m.s.1, .slice a3 m.s.2.length p3]) _ (.tmp 32) (.tmp 29) rfl rfl rfl rfl rfl (Tryz.sizeOf39 w12) X12.out.1 (by decide) (fun i hi => by
    match i, hi with
    | 0, _ | 1, _ => rfl
    | _ + 2, h2 => exact absurd h2 (by omega)) (fun _ _ => trivial) fun w13 hm13 => ?_
  obtain ⟨m3, hm3⟩ : ∃ m3 : Mg, { m with fr := x.id, tg := tg, s9 := .slice a0 m.x.1.2.2.length p0, r10 := .slice a1 m.x.2.length p1, s13 := .slice a2 m.c.2.length p2, t15 := .slice a3 m.s.2.length p3 } = m3 := ⟨_, rfl⟩
  have HM3 := Lib.hid hm3
  have X13 := Lib.hid (show Blk w13 y 21 (mcells m3) from hm13.1.congr _ fun i hi => by
    have e := HM2.out
    subst e; subst hm3
    match i, hi with
    | 0, _ | 1, _ | 2, _ | 3, _ | 4, _ | 5, _ | 6, _ | 7, _ | 8, _ | 9, _ | 10, _ | 11, _ | 12, _ | 13, _ | 14, _ | 15, _ | 16, _ | 17, _ | 18, _ | 19, _ | 20, _ => rfl
    | _ + 21, h2 => exact absurd h2 (by omega))
  have U13 := Lib.hid (show Upd y w10 w13 from (X11.out.2.trans X12.out.2).trans hm13.2)
  clear hm13 hm3
  simp only [Act.put, List.getElem_toArray, List.getElem_cons_zero, List.getElem_cons_succ]
  refine pl_end ?_
  go_upto_region 4 with fail
  have B13 := Lib.hid (show Below w.heap.size w w13 from (B6.out.trans (B10.out.mono B6.out.size)).trans (U13.out.below (by rw [HY.out]; exact Nat.le_refl _)))
  have HY7 := Lib.hid (show y < w6.heap.size from X6.out.lt)
  have KN := Lib.hid (fun (wa : World) (hb : Below wa.heap.size wa w10) (lo : Nat) (hlo : y < lo) => show Keeps (fun c => lo ≤ c ∧ c < wa.heap.size) wa w13 from (Keeps.of hb).trans (Keeps.upd U13.out fun c hc e => by have := hc.1; omega))
  have DM := Lib.hid (show Dep (fun c => w6.heap.size ≤ c ∧ c < w13.heap.size) w13 (fun w' => MgIn w' m3) from by
    have e := HM3.out
    subst e
    have s1 := B7.out.size
    have s2 := B8.out.size
    have s3 := B9.out.size
    have s4 := B10.out.size
    have s5 : w13.heap.size = w10.heap.size := U13.out.size
    have b8 : Below w8.heap.size w8 w10 := S9.out.2.trans (S10.out.2.2.mono S9.out.2.size)
    have z8 := b8.size
    have z9 := S10.out.2.2.size
    have hz := S8.out.2.2.2
    have k8 := KN.out w8 b8 w7.heap.size (by have := HY7.out; omega)
    have k9 := KN.out w9 S10.out.2.2 w8.heap.size (by have := HY7.out; omega)
    have k10 := KN.out w10 (Below.refl _ _) w9.heap.size (by have := HY7.out; omega)
    have d9 := ((sigs_depA S8.out.1).on k8).more (A' := fun c => w6.heap.size ≤ c ∧ c < w13.heap.size) fun c hc _ => ⟨by omega, by omega⟩
    have d10 := ((reqs_depA (A := fun c => w7.heap.size ≤ c) S8.out.2.1 S8.out.2.2.1).on (k8.sub fun c hc hl => ⟨hc, hl⟩)).more (A' := fun c => w6.heap.size ≤ c ∧ c < w13.heap.size) fun c hc hl => ⟨by omega, hl⟩
    have d13 := ((sigs_depA S9.out.1).on k9).more (A' := fun c => w6.heap.size ≤ c ∧ c < w13.heap.size) fun c hc _ => ⟨by omega, by omega⟩
    have d15 := ((strs_depA (A := fun c => w9.heap.size ≤ c) S10.out.1 S10.out.2.1).on (k10.sub fun c hc hl => ⟨hc, hl⟩)).more (A' := fun c => w6.heap.size ≤ c ∧ c < w13.heap.size) fun c hc hl => ⟨by omega, hl⟩
    exact fun w' hk => ⟨d9 w' hk, d10 w' hk, d13 w' hk, d15 w' hk⟩)
  have N13 := Lib.hid (HN.out.on B13.out)
  obtain ⟨v, L, C, q1, q2, q3, q4, q5, q6, q7, q8⟩ := (show AtS (K 8) w13 ⟨b, R⟩ x.out from N13.out.part 8 (by omega))
  obtain ⟨va, vc, rfl⟩ := row_shapeL q2
  have HQ := Lib.hid (And.intro q1 (And.intro q2 (And.intro q3 (And.intro q4 (And.intro q5 (And.intro q6 (And.intro q7 q8)))))))
  have HLN := Lib.hid (show L.length ≤ 1000000 by have := HOK.out.out; rw [← q4, List.length_map] at this; exact this)
  have hne := atS_ne q1 q2
  have HNE := Lib.hid (And.intro hne (fun c (hc : (Value.slice va L.length vc).ownBlock = some c) => show c ≠ y from fun e => by
    have h1 := part_lt 8 (HN.out.part 8 (by omega)) y ((q8 y).2 (.inr (.inl (e ▸ hc))))
    rw [HY.out] at h1; omega))
  clear q1 q2 q3 q4 q5 q6 q7 q8 hne
  have HA3 := Lib.hid (show row 21 (mcells m3) = #[.int .i64 m.k, .int .i64 x.id, .int .i64 m.node, .int .i64 m.v, .string m.h, .int .i64 m.x.1.1.1, .int .i64 m.x.1.1.2, .int .i64 m.x.1.2.1.1, .string m.x.1.2.1.2, .slice a0 m.x.1.2.2.length p0, .slice a1 m.x.2.length p1, .int .i64 m.c.1.1, .string m.c.1.2, .slice a2 m.c.2.length p2, .int .i64 m.s.1, .slice a3 m.s.2.length p3, .int .i64 m.r.1, .int .i64 m.r.2.1, .string m.r.2.2, .int .i64 m.ix, .string tg] by have e := HM3.out; subst e; rfl)
  have HS13 := Lib.hid (fun (wx : World) (hk : wx.heap[b]? = w13.heap[b]? ∧ wx.heap[y]? = w13.heap[y]?) => And.intro ((HQ.out.1.of_heap hk.1).get 0 (by omega)) (X13.out.of_heap hk.2))
  refine planE_abs (fun wx => wx.heap[b]? = w13.heap[b]? ∧ wx.heap[y]? = w13.heap[y]?) 10 [(true, 0), (true, 1), (true, 2), (true, 3), (true, 4), (true, 5), (false, 6), (false, 7), (false, 8), (false, 9), (false, 10)] (by kernel_rfl) (by kernel_rfl) (fun _ _ d _ _ h => by cases d <;> exact h) fun w14 hs14 => ⟨by rw [hs14.heap]; exact ⟨rfl, rfl⟩, ?_⟩
  have B14 := Lib.hid (show Below w13.heap.size w13 w14 from hs14.below _)
  have HH14 := Lib.hid (show w14.heap = w13.heap from hs14.heap)
  clear hs14
  iterate 5 (refine pe_run _ ?_ rfl rfl ?_ ?_; rotate_left; (focus (intro w' hS; have c37 := (HS13.out w' hS).1; go_simp; exact rfl)); simp only [Act.put, List.setIfInBounds_toArray, List.set_cons_zero, List.set_cons_succ, List.getElem_toArray, List.getElem_cons_zero, List.getElem_cons_succ])
  refine pe_run _ (.agg #[.int .i64 m.k, .int .i64 x.id, .int .i64 m.node, .int .i64 m.v, .string m.h, .int .i64 m.x.1.1.1, .int .i64 m.x.1.1.2, .int .i64 m.x.1.2.1.1, .string m.x.1.2.1.2, .slice a0 m.x.1.2.2.length p0, .slice a1 m.x.2.length p1, .int .i64 m.c.1.1, .string m.c.1.2, .slice a2 m.c.2.length p2, .int .i64 m.s.1, .slice a3 m.s.2.length p3, .int .i64 m.r.1, .int .i64 m.r.2.1, .string m.r.2.2, .int .i64 m.ix, .string tg]) rfl rfl (fun w' hS => by rw [← HA3.out]; exact run_op_load_at rfl rfl (Tryz.isAgg43 w') (Tryz.sizeOf43 w') fun j hj => by rw [Nat.zero_add]; exact (HS13.out w' hS).2.get j hj) ?_
  simp only [Act.put, List.setIfInBounds_toArray, List.set_cons_zero, List.set_cons_succ, List.getElem_toArray, List.getElem_cons_zero, List.getElem_cons_succ]
  obtain ⟨wa, hwa⟩ : ∃ wa, w14.alloc (.cells #[.int .i64 m.k, .int .i64 x.id, .int .i64 m.node, .int .i64 m.v, .string m.h, .int .i64 m.x.1.1.1, .int .i64 m.x.1.1.2, .int .i64 m.x.1.2.1.1, .string m.x.1.2.1.2, .slice a0 m.x.1.2.2.length p0, .slice a1 m.x.2.length p1, .int .i64 m.c.1.1, .string m.c.1.2, .slice a2 m.c.2.length p2, .int .i64 m.s.1, .slice a3 m.s.2.length p3, .int .i64 m.r.1, .int .i64 m.r.2.1, .string m.r.2.2, .int .i64 m.ix, .string tg] 43) = wa := ⟨_, rfl⟩
  have BA := Lib.hid (show Below w14.heap.size w14 wa by rw [← hwa]; exact (Below.refl _ _).alloc (Nat.le_refl _) _)
  have HNW := Lib.hid (show ∀ j u, [.int .i64 m.k, .int .i64 x.id, .int .i64 m.node, .int .i64 m.v, .string m.h, .int .i64 m.x.1.1.1, .int .i64 m.x.1.1.2, .int .i64 m.x.1.2.1.1, .string m.x.1.2.1.2, .slice a0 m.x.1.2.2.length p0, .slice a1 m.x.2.length p1, .int .i64 m.c.1.1, .string m.c.1.2, .slice a2 m.c.2.length p2, .int .i64 m.s.1, .slice a3 m.s.2.length p3, .int .i64 m.r.1, .int .i64 m.r.2.1, .string m.r.2.2, .int .i64 m.ix, .string tg][j]? = some u → wa.cell? ((⟨w14.heap.size, 0, none⟩ : Addr).add j) = some u by rw [← hwa]; exact new_at w14 43 [.int .i64 m.k, .int .i64 x.id, .int .i64 m.node, .int .i64 m.v, .string m.h, .int .i64 m.x.1.1.1, .int .i64 m.x.1.1.2, .int .i64 m.x.1.2.1.1, .string m.x.1.2.1.2, .slice a0 m.x.1.2.2.length p0, .slice a1 m.x.2.length p1, .int .i64 m.c.1.1, .string m.c.1.2, .slice a2 m.c.2.length p2, .int .i64 m.s.1, .slice a3 m.s.2.length p3, .int .i64 m.r.1, .int .i64 m.r.2.1, .string m.r.2.2, .int .i64 m.ix, .string tg])
  have SA := Lib.hid (show wa.heap[b]? = w13.heap[b]? ∧ wa.heap[y]? = w13.heap[y]? from ⟨(BA.out.block b (by rw [HH14.out]; exact HQ.out.1.lt)).trans (by rw [HH14.out]), (BA.out.block y (by rw [HH14.out]; exact X13.out.lt)).trans (by rw [HH14.out])⟩)
  refine pe_value (w' := wa) _ (.slice (some ⟨w14.heap.size, 0, none⟩) 1 1) rfl rfl (by rw [← hwa]; go_simp) SA.out ?_
  simp only [Act.put, List.setIfInBounds_toArray, List.set_cons_zero, List.set_cons_succ, List.getElem_toArray, List.getElem_cons_zero, List.getElem_cons_succ]
  clear hwa
  have B3a := Lib.hid (show Below w13.heap.size w13 wa from B14.out.trans (BA.out.mono B14.out.size))
  have RA := Lib.hid (row_keep HQ.out.2.1 fun c hc => B3a.out.block c (HQ.out.2.1.lt c hc).2)
  obtain ⟨ti, i1, i2, i3, i4⟩ := info_parts info_msgN
  obtain ⟨v', w15, hrun, hown, hgr, _, hloc⟩ := run_append_own_at (P := Tryz.prog) (w := wa) 0 22 22 43 ti _ 21 272 und_msgsN i1 i2 i3 i4 rfl (by decide) _ L.length (cellsG encMo L) RA.out ⟨w14.heap.size, 0, none⟩ 1 1 [.int .i64 m.k, .int .i64 x.id, .int .i64 m.node, .int .i64 m.v, .string m.h, .int .i64 m.x.1.1.1, .int .i64 m.x.1.1.2, .int .i64 m.x.1.2.1.1, .string m.x.1.2.1.2, .slice a0 m.x.1.2.2.length p0, .slice a1 m.x.2.length p1, .int .i64 m.c.1.1, .string m.c.1.2, .slice a2 m.c.2.length p2, .int .i64 m.s.1, .slice a3 m.s.2.length p3, .int .i64 m.r.1, .int .i64 m.r.2.1, .string m.r.2.2, .int .i64 m.ix, .string tg] rfl HNW.out (fun u hu => by
    simp only [List.mem_cons, List.not_mem_nil, or_false] at hu
    rcases hu with h | h | h | h | h | h | h | h | h | h | h | h | h | h | h | h | h | h | h | h | h <;> (rw [h]; rfl)) (by have := HLN.out; unfold maxLen; omega) (by have := HLN.out; omega) (Nat.zero_le _)
  obtain ⟨ua, uc, rfl⟩ := row_shapeL hown
  have HOW := Lib.hid (show w15.ownsRow 0 43 21 (.slice ua (L.length + 1) uc) (L ++ [(⟨mcells m3, m3⟩ : Mo)]).length (cellsG encMo (L ++ [(⟨mcells m3, m3⟩ : Mo)])) by
    rw [cellsG_snoc, List.length_append, show encMo (⟨mcells m3, m3⟩ : Mo) = [.int .i64 m.k, .int .i64 x.id, .int .i64 m.node, .int .i64 m.v, .string m.h, .int .i64 m.x.1.1.1, .int .i64 m.x.1.1.2, .int .i64 m.x.1.2.1.1, .string m.x.1.2.1.2, .slice a0 m.x.1.2.2.length p0, .slice a1 m.x.2.length p1, .int .i64 m.c.1.1, .string m.c.1.2, .slice a2 m.c.2.length p2, .int .i64 m.s.1, .slice a3 m.s.2.length p3, .int .i64 m.r.1, .int .i64 m.r.2.1, .string m.r.2.2, .int .i64 m.ix, .string tg] from by unfold encMo; rw [HA3.out]]; exact hown)
  have HLC := Lib.hid (show ∀ c, (Value.slice ua (L.length + 1) uc).ownBlock = some c → (Value.slice va L.length vc).ownBlock = some c ∨ wa.heap.size ≤ c from fun c hc => by
    rcases hloc with h | h
    · exact .inl (h ▸ hc)
    · rw [h] at hc; injection hc with hc; exact .inr (by omega))
  have HGR := Lib.hid hgr
  have S15 := Lib.hid (show w15.heap[b]? = w13.heap[b]? ∧ w15.heap[y]? = w13.heap[y]? from
    ⟨(hgr.block b (Nat.lt_of_lt_of_le HQ.out.1.lt B3a.out.size) (fun e => HNE.out.1 b e.symm rfl)).trans SA.out.1, (hgr.block y (Nat.lt_of_lt_of_le X13.out.lt B3a.out.size) (fun e => HNE.out.2 y e.symm rfl)).trans SA.out.2⟩)
  refine pe_value (w' := w15) _ (.slice ua (L.length + 1) uc) rfl rfl (JJ.run_op_append _ _ _ rfl _ _ rfl rfl hrun) S15.out ?_
  clear hrun hown hgr hloc i1 i2 i3 i4
  simp only [Act.put, List.setIfInBounds_toArray, List.set_cons_zero, List.set_cons_succ, List.getElem_toArray, List.getElem_cons_zero, List.getElem_cons_succ]
  refine pe_value (w' := w15) _ (.pointer (some ⟨b, 0, none⟩)) rfl rfl (by go_simp) S15.out ?_
  simp only [Act.put, List.setIfInBounds_toArray, List.set_cons_zero, List.set_cons_succ, List.getElem_toArray, List.getElem_cons_zero, List.getElem_cons_succ]
  refine pe_value (w' := w15) _ (.pointer (some ⟨b, 37, none⟩)) rfl rfl (by go_simp) S15.out ?_
  simp only [Act.put, List.setIfInBounds_toArray, List.set_cons_zero, List.set_cons_succ, List.getElem_toArray, List.getElem_cons_zero, List.getElem_cons_succ]
  refine pe_last _ rfl ?_
  simp only [List.getElem_toArray, List.getElem_cons_zero, List.getElem_cons_succ]
  have c37 := (HS13.out w15 S15.out).1
  have f37 := (HQ.out.1.of_heap S15.out.1).frz 37
  go_wp2_with fail
  go_end0
  refine ⟨rfl, ?_⟩
  obtain ⟨q1, q2, q3, q4, q5, q6, q7, q8⟩ := HQ.out
  have hu := Upd.set w15 b 37 (.slice ua (L.length + 1) uc)
  have zy := HY.out
  have z6 := HY7.out
  have zb := HBY.out
  have z13 : w.heap.size ≤ w13.heap.size := B13.out.size
  have z6' : w6.heap.size ≤ w13.heap.size := by rw [U13.out.size]; exact B10.out.size
  have za := B3a.out.size
  have z15 := HGR.out.size
  have hvold : ∀ c, (Value.slice va L.length vc).ownBlock = some c → c < y := fun c hc => by
    have h1 := part_lt 8 (HN.out.part 8 (by omega)) c ((q8 c).2 (.inr (.inl hc)))
    omega
  have hownb : ∀ c, (Value.slice ua (L.length + 1) uc).ownBlock = some c → c ≠ b := fun c hc e => by
    rcases HLC.out c hc with h | h
    · exact HNE.out.1 c h e
    · have := HQ.out.1.lt; omega
  have hkeep : ∀ A : Nat → Prop, (∀ c, A c → (Value.slice va L.length vc).ownBlock ≠ some c) → ¬ A b → Keeps A w13 (w15.setCell ⟨b, 37, none⟩ (.slice ua (L.length + 1) uc)) := fun A h1 h2 =>
    ((Keeps.of B3a.out).trans (Keeps.grown HGR.out fun c hc hA => h1 c hA hc)).trans (Keeps.upd' hu h2)
  refine NdW.next 8 (by omega) ⟨HN.out, HL.out.1, HL.out.2⟩ (x' := sendX x (msOf m)) ⟨fun c => c = b ∨ (Value.slice ua (L.length + 1) uc).ownBlock = some c ∨ (C c ∨ w6.heap.size ≤ c ∧ c < w13.heap.size), ?_, ?_, ?_⟩ rfl (fun h => ⟨h.f0, h.f1, h.f2, h.f7, h.f8, h.f36, h.f38⟩) (fun j hj hne O w p h => by
      match j, hj, h with
      | 0, _, h | 1, _, h | 2, _, h | 3, _, h | 4, _, h | 5, _, h | 6, _, h | 7, _, h | 9, _, h | 10, _, h => exact h
      | 8, _, _ => exact absurd rfl hne)
  · refine ⟨.slice ua (L.length + 1) uc, L ++ [(⟨mcells m3, m3⟩ : Mo)], fun c => C c ∨ w6.heap.size ≤ c ∧ c < w13.heap.size, ((q1.of_heap S15.out.1).set 0 (.slice ua (L.length + 1) uc)).congr _ fun i hi => ?_, row_keep HOW.out fun c hc => hu.block c (hownb c hc), ?_, ?_, ?_, fun c hc hC => ?_, fun c hc => ?_, fun c => Iff.rfl⟩
    · match i, hi with
      | 0, _ => rfl
    · have k1 := q3.on (hkeep C (fun c hc e => q6 c e hc) q5)
      have k2 := DM.out.on (hkeep (fun c => w6.heap.size ≤ c ∧ c < w13.heap.size) (fun c hc e => by have := hvold c e; have := hc.1; omega) (fun h => by have := h.1; omega))
      intro w' hk o ho
      rcases List.mem_append.1 ho with ho | ho
      · exact k1 w' (hk.sub fun c hc _ => .inl hc) o ho
      · obtain rfl := List.mem_singleton.1 ho
        exact mgIn_at (k2 w' (hk.sub fun c hc _ => .inr hc))
    · rw [List.map_append, q4]
      show x.out ++ [msOf m3] = x.out ++ [{ msOf m with fr := x.id, tg := tagB x.sd (endn x.id) (endn m.node) (textM (msOf m)) }]
      rw [HTX.out.1, HND.out, HTG.out]
      have e := HM3.out
      subst e
      rfl
    · rintro (h | h)
      · exact q5 h
      · have h1 : w6.heap.size ≤ b := h.1
        omega
    · rcases HLC.out c hc with h | h
      · rcases hC with hC | hC
        · exact q6 c h hC
        · have := hvold c h; have := hC.1; omega
      · rcases hC with hC | hC
        · have := q7 c hC; omega
        · have := hC.2; omega
    · have hz : (w15.setCell ⟨b, 37, none⟩ (.slice ua (L.length + 1) uc)).heap.size = w15.heap.size := hu.size
      rw [hz]
      rcases hc with hc | hc
      · have := q7 c hc; omega
      · have := hc.2; omega
  · refine (Keeps.of B13.out).trans (hkeep _ (fun c hc e => hc ((q8 c).2 (.inr (.inl e)))) fun h => h ((q8 b).2 (.inl rfl)))
  · rintro c (h | h | h | h)
    · exact .inl ((q8 c).2 (.inl h))
    · rcases HLC.out c h with h | h
      · exact .inl ((q8 c).2 (.inr (.inl h)))
      · exact .inr (by omega)
    · exact .inl ((q8 c).2 (.inr (.inr h)))
    · exact .inr (by have := h.1; have := B6.out.size; omega)
/-- sent to the first i nodes -/
def toAllN (x : Nd) (m : Ms) (i : Nat) : Nd := (List.range i).foldl (fun y (k : Nat) => sendX y { m with node := (k : Int) }) x
theorem toAllN_succ (x : Nd) (m : Ms) (i : Nat) : toAllN x m (i + 1) = sendX (toAllN x m i) { m with node := (i : Int) } := by
  unfold toAllN
  rw [List.range_succ, List.foldl_append]; rfl
theorem toAllN_same (x : Nd) (m : Ms) : ∀ i, (toAllN x m i).sd = x.sd ∧ (toAllN x m i).n = x.n ∧ (toAllN x m i).out.length = x.out.length + i
  | 0 => ⟨rfl, rfl, rfl⟩
  | i + 1 => by
    obtain ⟨h1, h2, h3⟩ := toAllN_same x m i
    rw [toAllN_succ]
    refine ⟨h1, h2, ?_⟩
    show ((toAllN x m i).out ++ [_]).length = _
    rw [List.length_append, h3, List.length_singleton]; omega
/-- a call behind another one, of one part -/
theorem NxtW.comp {i l : Nat} {x' : Nd} {K : Nat → Nat → Prop} {Ol Z : Nat → Prop} {w w1 w2 : World} {b : Nat} (k1 : Keeps (fun c => ¬ K i c) w w1) (k2 : ∀ c, Z c → K i c ∨ w.heap.size ≤ c) (h : NxtW i l x' (setK K i Z) Ol w1 b w2) : NxtW i l x' K Ol w b w2 := by
  obtain ⟨Z', R', h1, h2, h3⟩ := h
  have e : setK (setK K i Z) i Z' = setK K i Z' := by
    funext j; unfold setK; by_cases h : j = i
    · rw [if_pos h, if_pos h]
    · rw [if_neg h, if_neg h, if_neg h]
  have e2 : setK K i Z i = Z := if_pos rfl
  rw [e] at h1
  rw [e2] at h2 h3
  exact ⟨Z', R', h1, ⟨k1.b0.trans h2.b0, fun c hc hl => (h2.block c (fun hz => (k2 c hz).elim hc (by omega)) (Nat.lt_of_lt_of_le hl k1.b0.size)).trans (k1.block c hc hl)⟩, fun c hc => (h3 c hc).elim (k2 c) fun h => .inr (Nat.le_trans k1.b0.size h)⟩
theorem NdW.keep {w w' : World} {b l : Nat} {x : Nd} {K : Nat → Nat → Prop} {Ol : Nat → Prop} {R : Nat → Value} (h : NdW l x K Ol w b R) (hk : Keeps (fun c => (∃ i, i < 11 ∧ K i c) ∨ Ol c) w w') : NdW l x K Ol w' b R :=
  ⟨h.m.turn (p := ⟨b, R⟩) (fun _ => False) ((hk.block b (.inl ⟨0, by omega, part_box (h.m.part 0 (by omega))⟩) h.m.blk.lt).trans h.m.blk) h.m.plain (fun _ _ h => h.elim) (fun i hi _ => ⟨rfl, fun _ _ => rfl, fun _ _ _ h => h⟩) (fun i hi _ => hk.sub fun c hc _ => .inl ⟨i, hi, hc.1⟩) h.m.apart, at9_keep h.log (hk.sub fun c hc _ => .inr hc), h.off⟩
theorem NdW.lt {w : World} {b l : Nat} {x : Nd} {K : Nat → Nat → Prop} {Ol : Nat → Prop} {R : Nat → Value} (h : NdW l x K Ol w b R) : ∀ c, (∃ i, i < 11 ∧ K i c) ∨ Ol c → c < w.heap.size := by
  rintro c (⟨i, hi, hc⟩ | hc)
  · exact part_lt i (h.m.part i hi) c hc
  · exact at9_lt h.log c hc
theorem setK_twice (K : Nat → Nat → Prop) (i : Nat) (Z Z' : Nat → Prop) : setK (setK K i Z) i Z' = setK K i Z' := by
  funext j; unfold setK; by_cases h : j = i
  · rw [if_pos h, if_pos h]
  · rw [if_neg h, if_neg h, if_neg h]
theorem toAllN_ok {x : Nd} {m : Mg} (h : SendOk x m) (i : Nat) (v : Int) (ho : x.out.length + i ≤ 1000000) : SendOk (toAllN x (msOf m) i) { m with node := v } := by
  obtain ⟨h1, h2, h3⟩ := toAllN_same x (msOf m) i
  exact ⟨h.text, by rw [h1]; exact h.seed, h.sigs, h.tags, h.reqs, h.csigs, h.ctags, h.stags, h.body, by rw [h3]; exact ho⟩
set_option maxRecDepth 100000 in
set_option maxHeartbeats 16000000 in
theorem toAll18w {w : World} {b l : Nat} {x : Nd} {m : Mg} {K : Nat → Nat → Prop} {Ol : Nat → Prop} {R : Nat → Value} (A : Nat → Prop) (h : NdW l x K Ol w b R) (hm : Dep A w (fun w' => MgIn w' m)) (hA : ∀ c, A c → ¬ K 8 c) (hok : SendOk x m) (hout : x.out.length ≤ 999000) (hn : 1 ≤ x.n ∧ x.n ≤ 7) (hT : Tabs w) (hN : ∀ c, K 8 c → NoTab c) :
    Calls Tryz.prog 94 #[.pointer (some ⟨b, 0, none⟩), .agg (row 21 (mcells m))] w fun e w' => e = .returned (.tuple #[]) ∧ NxtW 8 l (toAllX x (msOf m)) K Ol w b w' := by
  have H0 := Lib.hid h
  have HM := Lib.hid hm
  have HA := Lib.hid hA
  have HOK := Lib.hid hok
  have HX := Lib.hid (And.intro hout hn)
  have HT := Lib.hid (And.intro hT hN)
  obtain ⟨nn, hnn⟩ : ∃ nn : Nat, x.n.toNat = nn := ⟨_, rfl⟩
  have HNN := Lib.hid (show x.n = (nn : Int) ∧ 1 ≤ nn ∧ nn ≤ 7 by omega)
  have HXA := Lib.hid (show toAllX x (msOf m) = toAllN x (msOf m) nn by unfold toAllX toAllN; rw [hnn])
  have X0 := Lib.hid (show Blk (w.alloc (.cells (row 21 (mcells m)) 43)) w.heap.size 21 (mcells m) from Blk.new' rfl rfl)
  have B0 := Lib.hid ((Below.refl w.heap.size w).alloc (Nat.le_refl _) (.cells (row 21 (mcells m)) 43))
  have HW1 := Lib.hid (show NdW l x K Ol (w.alloc (.cells (row 21 (mcells m)) 43)) b R from ⟨h.m.on B0.out, at9_keep h.log (Keeps.of B0.out), h.off⟩)
  have HBL := Lib.hid (show b < w.heap.size from h.m.bk.lt)
  obtain ⟨y, hy⟩ : ∃ y, w.heap.size = y := ⟨_, rfl⟩
  have HY := Lib.hid hy
  have n0 : (0 : Int) ≤ (nn : Int) := by omega
  have n7 : (nn : Int) ≤ 7 := by have := HNN.out; omega
  clear h hm hA hok hout hn hT hN hnn
  go_enter Tryz.func94, Tryz.ntmps94
  go_upto_region 1 with fail
  rw [hy] at X0
  obtain ⟨w1, hw1⟩ : ∃ w1, w.alloc (.cells (row 21 (mcells m)) 43) = w1 := ⟨_, rfl⟩
  rw [hw1] at X0 B0 HW1 ⊢
  have HZ1 := Lib.hid (show w1.heap.size = y + 1 by rw [← hw1, ← hy]; simp)
  clear hw1 hy
  have c2 := HW1.out.m.cell 2 (by omega)
  rw [HW1.out.m.pl.f2, HNN.out.1] at c2
  go_wp2_with fail
  go_loopw [9] (fun u wr => ∃ (i : Nat) (Z : Nat → Prop) (R' : Nat → Value) (to_ : Int), i ≤ nn ∧ u = .int .i64 (i : Int) ∧ NdW l (toAllN x (msOf m) i) (setK K 8 Z) Ol wr b R' ∧ Keeps (fun c => ¬ K 8 c) w wr ∧ (∀ c, Z c → K 8 c ∨ w.heap.size ≤ c) ∧ ¬ Z y ∧ Blk wr y 21 (mcells { m with node := to_ })) (fun u _ => nn - (intOf u).toNat)
  case atStart =>
    refine ⟨0, K 8, R, m.node, Nat.zero_le _, rfl, ?_, (Keeps.of B0.out), fun c hc => .inl hc, fun hc => ?_, X0.out⟩
    · have e : setK K 8 (K 8) = K := by funext j; unfold setK; by_cases h : j = 8
                                        · rw [if_pos h, h]
                                        · rw [if_neg h]
      rw [e]; exact HW1.out
    · have := part_lt 8 (H0.out.m.part 8 (by omega)) y hc
      have := HY.out; omega
  case round =>
    obtain ⟨i, Z, R', to_, hi, rfl, hw, hk, hz, hzy, hb⟩ := hrel
    have HR := Lib.hid (And.intro hw (And.intro hk (And.intro hz (And.intro hzy hb))))
    clear hw hk hz hzy hb
    by_cases hlt : i < nn
    case neg =>
      have e : i = nn := by omega
      subst e
      clear hlt
      go_wp2_with fail
      go_end0
      rw [HXA.out]
      exact ⟨rfl, Z, R', HR.out.1, HR.out.2.1, HR.out.2.2.1⟩
    case pos =>
      have hlt' : (i : Int) < (nn : Int) := by omega
      have HI := Lib.hid hlt
      clear hlt
      have d2 := HR.out.2.2.2.2.get 2 (by omega)
      have f2 := HR.out.2.2.2.2.frz 2
      go_upto_region 5 with fail
      clear d2 f2
      have HU := Lib.hid (Upd.set wr y 2 (.int .i64 (i : Int)))
      have X5 := Lib.hid (show Blk (wr.setCell ⟨y, 2, none⟩ (.int .i64 (i : Int))) y 21 (mcells { m with node := (i : Int) }) from (HR.out.2.2.2.2.set 2 _).congr _ fun j hj => by
        match j, hj with
        | 0, _ | 1, _ | 2, _ | 3, _ | 4, _ | 5, _ | 6, _ | 7, _ | 8, _ | 9, _ | 10, _ | 11, _ | 12, _ | 13, _ | 14, _ | 15, _ | 16, _ | 17, _ | 18, _ | 19, _ | 20, _ => rfl
        | _ + 21, h2 => exact absurd h2 (by omega))
      obtain ⟨w5, hw5⟩ : ∃ w5, wr.setCell ⟨y, 2, none⟩ (.int .i64 (i : Int)) = w5 := ⟨_, rfl⟩
      rw [hw5] at HU X5 ⊢
      clear hw5
      have K5 := Lib.hid (show Keeps (fun c => ¬ K 8 c) w w5 from ⟨HR.out.2.1.b0.trans (HU.out.below (Nat.zero_le _)), fun c hc hl => (HU.out.block c (by have := HY.out; omega)).trans (HR.out.2.1.block c hc hl)⟩)
      have HYO := Lib.hid (show ∀ c, (∃ j, j < 11 ∧ setK K 8 Z j c) ∨ Ol c → c ≠ y from by
        rintro c (⟨j, hj, hc⟩ | hc) e
        · by_cases h8 : j = 8
          · have hc' : Z c := by have := hc; unfold setK at this; rw [if_pos h8] at this; exact this
            exact HR.out.2.2.2.1 (e ▸ hc')
          · have hc' : K j c := by have := hc; unfold setK at this; rw [if_neg h8] at this; exact this
            have := H0.out.lt c (.inl ⟨j, hj, hc'⟩)
            have := HY.out; omega
        · have := H0.out.lt c (.inr hc)
          have := HY.out; omega)
      have W5 := Lib.hid (HR.out.1.keep (Keeps.upd HU.out HYO.out))
      have M5 := Lib.hid (show MgIn w5 { m with node := (i : Int) } from by
        have h := HM.out w5 (K5.out.sub fun c hc _ => HA.out c hc)
        exact ⟨h.h9, h.h10, h.h13, h.h15⟩)
      have T5 := Lib.hid (tabs_keeps HT.out.1 K5.out fun c => by
        by_cases hc : K 8 c
        · exact .inl (HT.out.2 c hc)
        · exact .inr hc)
      have OK5 := Lib.hid (toAllN_ok HOK.out i (i : Int) (by have := HX.out.1; have := HI.out; have := HNN.out; omega))
      have HS5 := Lib.hid (toAllN_succ x (msOf m) i)
      go_wp2_with (with_reducible refine hold_load (.tmp 3) rfl ?_)
      refine wpl_load_at (.tmp 3) y 0 21 (mcells { m with node := (i : Int) }) (by rfl) rfl (by rfl) (Tryz.isAgg43 _) (Tryz.sizeOf43 _) (fun j hj => by rw [Nat.zero_add]; exact X5.out.get j hj) ?_
      go_wp2_with fail
      refine (push18w W5.out M5.out OK5.out T5.out).mono ?_
      rintro e w6 ⟨rfl, Z6, R6, h1, h2, h3⟩
      rw [setK_twice] at h1
      have e8 : setK K 8 Z 8 = Z := if_pos rfl
      rw [e8] at h2 h3
      have z5 : w.heap.size ≤ w5.heap.size := K5.out.b0.size
      have hy5 : y < w5.heap.size := X5.out.lt
      have H6 := Lib.hid h1
      have K6 := Lib.hid (show Keeps (fun c => ¬ K 8 c) w w6 from ⟨K5.out.b0.trans h2.b0, fun c hc hl => (h2.block c (fun hz => (HR.out.2.2.1 c hz).elim hc (by omega)) (by omega)).trans (K5.out.block c hc hl)⟩)
      have Z6' := Lib.hid (show (∀ c, Z6 c → K 8 c ∨ w.heap.size ≤ c) ∧ ¬ Z6 y from ⟨fun c hc => (h3 c hc).elim (HR.out.2.2.1 c) fun h => .inr (by omega), fun hc => (h3 y hc).elim HR.out.2.2.2.1 fun h => by omega⟩)
      have X6 := Lib.hid (X5.out.of_heap (h2.block y HR.out.2.2.2.1 hy5))
      clear h1 h2 h3 z5 hy5 e8
      go_wp2_with fail
      go_roundw
      case rel =>
        refine ⟨i + 1, Z6, R6, (i : Int), by have := HI.out; omega, by go_num, ?_, K6.out, Z6'.out.1, Z6'.out.2, X6.out⟩
        rw [HS5.out]
        exact H6.out
      case measure => have := HI.out; simp [intOf]; omega
end Go.Proofs.YthajnkcipifhcaaGreatDoor
end
section
open Go Go.RowKit
namespace ND
open IN NO QU GA TI TA LE ZZ YY TT SS RR FF JJ CC MM WW BB
/-- the message of a view -/
def mView (v : Int) (c : CertD) (sv : Value) : Mg := { mg0 with k := 3, v := v, c := c, s13 := sv }
theorem msOf_mView (v : Int) (c : CertD) (sv : Value) : msOf (mView v c sv) = { ms0 with k := 3, v := v, c := c } := rfl
end ND
namespace Go.Proofs.YthajnkcipifhcaaGreatDoor
open ND IN NO QU GA TI TA LE ZZ YY TT SS RR FF JJ CC MM WW BB
theorem mView_ok {x : Nd} {v : Int} {sv : Value} (hs : x.sd.size ≤ 1000) (hh : x.hi.1.2.size ≤ 1000) (hl : x.hi.2.length ≤ 1000) (ht : ∀ p ∈ x.hi.2, p.2.length ≤ 1000) (ho : x.out.length ≤ 1000000) : SendOk x (mView v x.hi sv) := by
  refine ⟨⟨⟨Nat.zero_le _, ?_, ?_⟩, hh, Nat.zero_le _, Nat.zero_le _⟩, hs, Nat.zero_le _, ?_, Nat.zero_le _, hl, ht, Nat.zero_le _, Nat.zero_le _, ho⟩
  · exact ⟨Nat.zero_le _, Nat.zero_le _, fun i hi => absurd hi (Nat.not_lt_zero i)⟩
  · exact ⟨Nat.zero_le _, Nat.zero_le _, fun i hi => absurd hi (Nat.not_lt_zero i)⟩
  · exact fun p hp => nomatch hp
set_option maxRecDepth 100000 in
set_option maxHeartbeats 16000000 in
theorem tell18m {O : Nat → Prop} {w : World} {b l : Nat} {x : Nd} (h : NdAt O w b l x) (hi : InvT x.ti) (hs : x.sd.size ≤ 1000) (hh : x.hi.1.2.size ≤ 1000) (hl : x.hi.2.length ≤ 1000) (ht : ∀ p ∈ x.hi.2, p.2.length ≤ 1000) (hout : x.out.length ≤ 999000) (hn : 1 ≤ x.n ∧ x.n ≤ 7) (hT : Tabs w) (hN : ∀ c, O c → NoTab c) :
    Calls Tryz.prog 48 #[.pointer (some ⟨b, 0, none⟩)] w fun e w' => e = .returned (.tuple #[]) ∧ NxtAt O w b l (tellX x) w' := by
  have H0 := Lib.hid h
  obtain ⟨R, K, Ol, hM, hL, hd, hO⟩ := h
  have HT15 := Lib.hid (show At15I (K 6) w ⟨b, R⟩ x.ti from hM.part 6 (by omega))
  have HI := Lib.hid hi
  have HX := Lib.hid (And.intro hs (And.intro hh (And.intro hl (And.intro ht (And.intro hout hn)))))
  have HTN := Lib.hid (And.intro hT hN)
  have HW := Lib.hid (show NdW l x K Ol w b R from ⟨hM, hL, hd⟩)
  have HO := Lib.hid hO
  clear hM hL hd hO hi hs hh hl ht hout hn hT hN
  go_enter Tryz.func48, Tryz.ntmps48
  go_wp2_with fail
  refine (halted15I _ w ⟨b, R⟩ x.ti HT15.out ⟨HI.out.1, HI.out.2.1⟩).mono ?_
  rintro e w1 ⟨rfl, hb1⟩
  have B1 := Lib.hid hb1
  clear hb1
  by_cases hv : 1000000 < x.ti.1
  · have dh : decide (1000000 < x.ti.1) = true := decide_eq_true hv
    have HE := Lib.hid (show tellX x = x by unfold tellX haltX; rw [dh, if_pos rfl])
    go_wp2_with fail
    go_end0
    rw [HE.out]
    exact ⟨rfl, NxtAt.same H0.out B1.out⟩
  have dh : decide (1000000 < x.ti.1) = false := decide_eq_false hv
  have HE := Lib.hid (show tellX x = toAllX x { ms0 with k := 3, v := x.ti.1, c := x.hi } by unfold tellX haltX; rw [dh, if_neg (by decide)])
  clear hv
  go_upto_region 1 with fail
  have HW1 := Lib.hid (show NdW l x K Ol w1 b R from HW.out.keep (Keeps.of B1.out))
  obtain ⟨sv, C, h1, h2, h3, h4, h5⟩ := (show AtC 30 (K 9) w1 ⟨b, R⟩ x.hi from HW1.out.m.part 9 (by omega))
  have HB := Lib.hid h1
  have HC := Lib.hid (And.intro h2 (And.intro h3 (And.intro h4 h5)))
  clear h1 h2 h3 h4 h5
  have HC1 := Lib.hid (fun (wx : World) (hx : Below w1.heap.size w1 wx) => scells3 (HB.out.below hx HB.out.lt) 31 32 rfl rfl)
  have HN1 := Lib.hid (HW1.out.at_)
  obtain ⟨v, hv⟩ : ∃ v, x.ti.1 = v := ⟨_, rfl⟩
  have HV := Lib.hid hv
  clear hv
  have HRW := Lib.hid (show (#[.int .i64 3, .int .i64 0, .int .i64 0, .int .i64 v, .string ⟨#[]⟩, .int .i64 0, .int .i64 0, .int .i64 0, .string ⟨#[]⟩, .slice none 0 0, .slice none 0 0, .int .i64 x.hi.1.1, .string x.hi.1.2, sv, .int .i64 0, .slice none 0 0, .int .i64 0, .int .i64 0, .string ⟨#[]⟩, .int .i64 0, .string ⟨#[]⟩] : Array Value) = row 21 (mcells (mView v x.hi sv)) from rfl)
  refine planS_abs (fun wx => Below w1.heap.size w1 wx) (fun _ => True) 10 8 [(true, 0), (true, 1), (true, 2), (true, 3), (true, 5), (true, 6), (true, 7), (true, 8), (false, 4), (true, 9)] [] (by kernel_rfl) (by kernel_rfl) (fun _ _ d _ _ h => by cases d <;> exact h) fun w2 hs2 => ⟨hs2.below _, ?_⟩
  have B2 := Lib.hid (hs2.below w1.heap.size)
  clear hs2
  iterate 8 (refine ps_run _ ?_ rfl rfl ?_ ?_; rotate_left; (focus (intro w' hS; obtain ⟨c30, c31, c32⟩ := HC1.out w' hS; go_simp; exact rfl)); simp only [Act.put, List.setIfInBounds_toArray, List.set_cons_zero, List.set_cons_succ, List.getElem_toArray, List.getElem_cons_zero, List.getElem_cons_succ])
  refine ps_call (R := fun u w' => u = .int .i64 v ∧ Below w2.heap.size w2 w') _ rfl rfl (by go_simp) ((view15I _ w2 ⟨b, R⟩ x.ti (at15_keepI (at15_keepI HT15.out (Keeps.of B1.out)) (Keeps.of B2.out)) ⟨HI.out.1, HI.out.2.1⟩).mono fun _ _ ⟨he, hr⟩ => ⟨_, he, by rw [HV.out], hr⟩) (fun _ _ hR => B2.out.trans (hR.2.mono B2.out.size)) ?_
  rintro _ w3 ⟨rfl, hb3⟩
  have B3 := Lib.hid (B2.out.trans (hb3.mono B2.out.size))
  clear hb3
  simp only [Act.put, List.setIfInBounds_toArray, List.set_cons_zero, List.set_cons_succ, List.getElem_toArray, List.getElem_cons_zero, List.getElem_cons_succ]
  refine ps_run _ (.agg (row 21 (mcells (mView v x.hi sv)))) rfl rfl (fun w' hS => by rw [← HRW.out]; go_simp) ?_
  simp only [Act.put, List.setIfInBounds_toArray, List.set_cons_zero, List.set_cons_succ, List.getElem_toArray, List.getElem_cons_zero, List.getElem_cons_succ]
  have HW3 := Lib.hid (HW1.out.keep (Keeps.of B3.out))
  have B13 := Lib.hid (B1.out.trans (B3.out.mono B1.out.size))
  have HC3 := Lib.hid (show Dep C w3 (fun w' => MgIn w' (mView v x.hi sv)) from fun w' hk => ⟨sigs_nil w', reqs_nil w', (HC.out.1.on (Keeps.of B3.out)) w' hk, strs_nil w'⟩)
  refine ps_turn (R := fun u w' => u = .tuple #[] ∧ NxtW 8 l (toAllX x (msOf (mView v x.hi sv))) K Ol w3 b w') _ rfl rfl (by go_simp) ((toAll18w C HW3.out HC3.out (fun c hc h8 => ?_) (mView_ok HX.out.1 HX.out.2.1 HX.out.2.2.1 HX.out.2.2.2.1 (by have := HX.out.2.2.2.2.1; omega)) HX.out.2.2.2.2.1 HX.out.2.2.2.2.2 (tabs_on HTN.out.1 B13.out) (fun c hc => HTN.out.2 c ((HO.out c).2 (.inl ⟨8, by omega, hc⟩)))).mono fun _ _ ⟨he, hr⟩ => ⟨_, he, rfl, hr⟩) (fun _ _ hR => trivial) ?_
  · have h9 : K 9 c := (HC.out.2.2.2 c).2 (.inr hc)
    have e := HW1.out.m.apart 9 8 c (by omega) (by omega) (by omega) h9 h8
    exact HC.out.2.1 (e ▸ hc)
  rintro _ w4 ⟨rfl, hn4⟩
  have N4 := Lib.hid hn4
  clear hn4
  refine pl_end ?_
  go_wp2_with fail
  go_end0
  refine ⟨rfl, ?_⟩
  rw [HE.out]
  have h := N4.out
  rw [msOf_mView, ← HV.out] at h
  exact NxtAt.after B13.out (h.nxt (by omega) HO.out)
end Go.Proofs.YthajnkcipifhcaaGreatDoor
end
section
open Go Go.RowKit
namespace Go.Proofs.YthajnkcipifhcaaGreatDoor
open ND IN NO QU GA TI TA LE ZZ YY TT SS RR FF JJ CC MM WW BB
/-- the timer alone has been turned -/
theorem NdAt.timer {O : Nat → Prop} {w w' : World} {b l : Nat} {x : Nd} {K : Nat → Nat → Prop} {R : Nat → Value} {Ol : Nat → Prop} {t : Tim} (h1 : NdM l x K w ⟨b, R⟩) (h2 : At9 Ol w l x.lo) (h3 : ∀ i c, i < 11 → K i c → ¬ Ol c) (h4 : ∀ c, O c ↔ (∃ i, i < 11 ∧ K i c) ∨ Ol c)
    (hc : Next15I At15I (K 6) w ⟨b, R⟩ t w') : NxtAt O w b l { x with ti := t } w' :=
  NdAt.next 6 (by omega) h1 h2 h3 h4 hc rfl (fun h => ⟨h.f0, h.f1, h.f2, h.f7, h.f8, h.f36, h.f38⟩) fun j hj hne O w p h => by
    match j, hj, h with
    | 0, _, h | 1, _, h | 2, _, h | 3, _, h | 4, _, h | 5, _, h | 7, _, h | 8, _, h | 9, _, h | 10, _, h => exact h
    | 6, _, _ => exact absurd rfl hne
set_option maxRecDepth 100000 in
set_option maxHeartbeats 4000000 in
theorem enter18 {O : Nat → Prop} {w : World} {b l : Nat} {x : Nd} (v : Int) (h : NdAt O w b l x) (hi : InvT x.ti) (ht : InvTa x.ta) (hv : -9223372036854775808 ≤ v ∧ v ≤ 9223372036854775807) :
    Calls Tryz.prog 84 #[.pointer (some ⟨b, 0, none⟩), .int .i64 v] w fun e w' => e = .returned (.tuple #[]) ∧ NxtAt O w b l (enterX x v) w' := by
  have HI := Lib.hid hi
  have HT := Lib.hid ht
  have HV := Lib.hid hv
  obtain ⟨R, K, Ol, hM, hL, hd, hO⟩ := h
  have H6 := Lib.hid (show At15I (K 6) w ⟨b, R⟩ x.ti from hM.part 6 (by omega))
  have HN := Lib.hid (fun w' (hc : Next15I At15I (K 6) w ⟨b, R⟩ (enterT x.ti v).1 w') => NdAt.timer hM hL hd hO hc)
  obtain ⟨X, hX⟩ : ∃ X, (enterT x.ti v).2 = X := ⟨_, rfl⟩
  have HX := Lib.hid hX
  clear hM hL hd hO hi ht hv hX
  go_enter Tryz.func84, Tryz.ntmps84
  go_wp2_with fail
  refine (enter15I _ w ⟨b, R⟩ x.ti v H6.out ⟨HI.out.1, HI.out.2.1⟩).mono ?_
  rintro e w1 ⟨rfl, hn⟩
  have HN1 := Lib.hid (HN.out w1 hn)
  rw [HX.out]
  clear hn
  go_wp2_with fail
  obtain ⟨O1, k1, k2, k3⟩ := HN1.out
  refine (rose18 X k1 (inv_enter HI.out v) HT.out).mono ?_
  rintro e w2 ⟨rfl, hn⟩
  have H2 := Lib.hid hn
  have H1 := Lib.hid (And.intro k2 k3)
  clear hn k1 k2 k3
  go_wp2_with fail
  go_end0
  refine ⟨rfl, ?_⟩
  have e : enterX x v = roseX { x with ti := (enterT x.ti v).1 } X := by unfold enterX; rw [HX.out]
  rw [e]
  exact NxtAt.step H1.out.1 H1.out.2 H2.out
theorem at_box {O : Nat → Prop} {w : World} {b l : Nat} {x : Nd} (h : NdAt O w b l x) : O b := by
  obtain ⟨R, K, Ol, h1, h2, h3, h4⟩ := h
  exact (h4 b).2 (.inl ⟨0, by omega, part_box (h1.part 0 (by omega))⟩)
/-- the messages are handed out: what they rest upon is the node's no longer -/
theorem NdAt.sent {O : Nat → Prop} {w : World} {b l : Nat} {x : Nd} (h : NdAt O w b l x) : ∃ (a : Option Addr) (n : Nat) (L : List Mo) (C : Nat → Prop), w.cell? ⟨b, 37, none⟩ = some (.slice a L.length n) ∧ w.frozen? ⟨b, 37, none⟩ = false ∧ L.map (fun o => msOf o.m) = x.out ∧
    L.length ≤ n ∧ Dep C w (fun w' => MsM w' (.slice a L.length n) L) ∧ (∀ c, C c → O c) ∧ (∃ O', NdAt O' (w.setCell ⟨b, 37, none⟩ (.slice none 0 0)) b l { x with out := [] } ∧ (∀ c, O' c → O c) ∧ ∀ c, C c → ¬ O' c) := by
  obtain ⟨R, K, Ol, hM, hL, hd, hO⟩ := h
  obtain ⟨v, L, C, h1, h2, h3, h4, h5, h6, h7, h8⟩ := (show AtS (K 8) w ⟨b, R⟩ x.out from hM.part 8 (by omega))
  have hcell := h1.get 0 (by omega)
  have hne := atS_ne h1 h2
  obtain ⟨a, n, rfl⟩ := row_shapeL h2
  refine ⟨a, n, L, fun c => (Value.slice a L.length n).ownBlock = some c ∨ C c, hcell, hM.bk.blk.frz 37, h4, own_capM h2, fun w' hk => ⟨(grow_of_own encMo_len mo0 (row_keep h2 fun c hc => hk.block c (.inl hc) (h2.lt c hc).2)).more fun _ _ => trivial, h3 w' (hk.sub fun c hc _ => .inr hc)⟩, fun c hc => (hO c).2 (.inl ⟨8, by omega, (h8 c).2 (.inr hc)⟩), fun c => (∃ i, i < 11 ∧ (if i = 8 then c = b else K i c)) ∨ Ol c, ⟨put R 37 (.slice none 0 0), fun i c => if i = 8 then c = b else K i c, Ol, ?_, ?_, ?_, fun c => Iff.rfl⟩, ?_, ?_⟩
  · have hu := Upd.set w b 37 (.slice none 0 0)
    have hP := hM.pl
    refine NdM.turn (p := ⟨b, R⟩) hM (fun i => i = 8) (hM.bk.set 37 _) ⟨hP.f0, hP.f1, hP.f2, hP.f7, hP.f8, hP.f36, hP.f38⟩ (fun i hi e => ?_) (fun i hi e => ⟨by funext c; simp only [if_neg e], fun j hj => ?_, fun O w p h => ?_⟩) (fun i hi e => Keeps.upd hu fun c hc => hc.2) (fun i j c hi hj hij h k => ?_)
    · subst e
      refine ⟨.slice none 0 0, [], fun _ => False, SBlk.of (hM.bk.set 37 _) 37 1 _ (by decide) fun i hi => ?_, World.ownsRow_nil _ _ _ _, fun _ _ y hy => absurd hy List.not_mem_nil, rfl, id, fun _ _ h => h, fun _ h => h.elim, fun c => ⟨fun h => .inl h, ?_⟩⟩
      · match i, hi with
        | 0, _ => rfl
      · rintro (h | h | h)
        · exact h
        · cases h
        · exact h.elim
    · show (if loP i + j = 37 then _ else R (loP i + j)) = R (loP i + j)
      refine if_neg ?_
      have := lo_apart i 8 hi (by omega) e
      simp only [loP, lnP] at this hj ⊢
      omega
    · match i, hi, h with
      | 0, _, h | 1, _, h | 2, _, h | 3, _, h | 4, _, h | 5, _, h | 6, _, h | 7, _, h | 9, _, h | 10, _, h => exact h
      | 8, _, _ => exact absurd rfl e
    · have h : (if i = 8 then c = b else K i c) := h
      have k : (if j = 8 then c = b else K j c) := k
      by_cases ei : i = 8
      · rw [if_pos ei] at h; exact h
      · rw [if_neg ei] at h
        by_cases ej : j = 8
        · rw [if_pos ej] at k; exact k
        · rw [if_neg ej] at k; exact hM.apart i j c hi hj hij h k
  · refine at9_keep hL (Keeps.upd (Upd.set w b 37 _) fun c hc e => hd 8 b (by omega) ((h8 b).2 (.inl rfl)) (e ▸ hc))
  · intro i c hi h
    have h : (if i = 8 then c = b else K i c) := h
    by_cases ei : i = 8
    · rw [if_pos ei] at h; exact h ▸ hd 8 b (by omega) ((h8 b).2 (.inl rfl))
    · rw [if_neg ei] at h; exact hd i c hi h
  · rintro c (⟨i, hi, h⟩ | h)
    · by_cases ei : i = 8
      · rw [if_pos ei] at h; exact (hO c).2 (.inl ⟨8, by omega, (h8 c).2 (.inl h)⟩)
      · rw [if_neg ei] at h; exact (hO c).2 (.inl ⟨i, hi, h⟩)
    · exact (hO c).2 (.inr h)
  · intro c hc hc'
    have hcb : c ≠ b := hc.elim (hne c) fun h e => h5 (e ▸ h)
    have h8c := (h8 c).2 (.inr hc)
    rcases hc' with ⟨i, hi, h⟩ | h
    · by_cases ei : i = 8
      · rw [if_pos ei] at h; exact hcb h
      · rw [if_neg ei] at h; exact hcb (hM.apart i 8 c hi (by omega) ei h h8c)
    · exact hd 8 c (by omega) h8c h
set_option maxRecDepth 100000 in
set_option maxHeartbeats 4000000 in
theorem send18 {O : Nat → Prop} {w : World} {b l : Nat} {x : Nd} (h : NdAt O w b l x) :
    Calls Tryz.prog 13 #[.pointer (some ⟨b, 0, none⟩)] w fun e w' => ∃ (a : Option Addr) (n : Nat) (L : List Mo) (C : Nat → Prop), e = .returned (.slice a L.length n) ∧ L.map (fun o => msOf o.m) = x.out ∧ L.length ≤ n ∧ Dep C w' (fun w'' => MsM w'' (.slice a L.length n) L) ∧ (∀ c, C c → O c) ∧
      ∃ O', NdAt O' w' b l { x with out := [] } ∧ Keeps (fun c => ¬ O c) w w' ∧ (∀ c, O' c → O c) ∧ ∀ c, C c → ¬ O' c := by
  have HB := Lib.hid (at_box h)
  obtain ⟨a, n, L, C, c37, f37, h1, h2, h3, h4, h5⟩ := h.sent
  have H := Lib.hid (And.intro h1 (And.intro h2 (And.intro h3 (And.intro h4 h5))))
  clear h1 h2 h3 h4 h5 h
  go_enter Tryz.func13, Tryz.ntmps13
  go_wp2_with fail
  go_ret
  obtain ⟨h1, h2, h3, h4, O', k1, k2, k3⟩ := H.out
  have hu := Upd.set w b 37 (.slice none 0 0)
  exact ⟨a, n, L, C, rfl, h1, h2, h3.on (Keeps.upd hu fun d hd e => k3 d hd (e ▸ at_box k1)), h4, O', k1, Keeps.upd hu fun d hd e => hd (e ▸ HB.out), k2, k3⟩
end Go.Proofs.YthajnkcipifhcaaGreatDoor
end
section
open Go Go.RowKit
namespace Go.Proofs.YthajnkcipifhcaaGreatDoor
open ND IN NO QU GA TI TA LE ZZ YY TT SS RR FF JJ CC MM WW BB
/-- tables are kept where a node turned alone -/
theorem tabs_nxt {O : Nat → Prop} {w w' : World} (hT : Tabs w) (hN : ∀ c, O c → NoTab c) (hk : Keeps (fun c => ¬ O c) w w') : Tabs w' := tabs_keeps hT hk fun c => by
  by_cases hc : O c
  · exact .inl (hN c hc)
  · exact .inr hc
theorem notab_nxt {O O' : Nat → Prop} {w : World} (hT : Tabs w) (hN : ∀ c, O c → NoTab c) (h : ∀ c, O' c → O c ∨ w.heap.size ≤ c) : ∀ c, O' c → NoTab c := fun c hc => (h c hc).elim (hN c) (notab_of hT c)
theorem roseX_same (x : Nd) (ok : Bool) : (roseX x ok).ti = x.ti ∧ (roseX x ok).sd = x.sd ∧ (roseX x ok).hi = x.hi ∧ (roseX x ok).out = x.out ∧ (roseX x ok).n = x.n := by
  cases ok <;> exact ⟨rfl, rfl, rfl, rfl, rfl⟩
set_option maxRecDepth 100000 in
set_option maxHeartbeats 16000000 in
theorem tick18m {O : Nat → Prop} {w : World} {b l : Nat} {x : Nd} (h : NdAt O w b l x) (hi : InvT x.ti) (ht : InvTa x.ta) (hs : x.sd.size ≤ 1000) (hh : x.hi.1.2.size ≤ 1000) (hl : x.hi.2.length ≤ 1000) (hl2 : ∀ p ∈ x.hi.2, p.2.length ≤ 1000) (hout : x.out.length ≤ 999000) (hn : 1 ≤ x.n ∧ x.n ≤ 7) (hT : Tabs w) (hN : ∀ c, O c → NoTab c) :
    Calls Tryz.prog 19 #[.pointer (some ⟨b, 0, none⟩)] w fun e w' => e = .returned (.tuple #[]) ∧ NxtAt O w b l (tickX x) w' := by
  have H0 := Lib.hid h
  have HI := Lib.hid hi
  have HT := Lib.hid ht
  have HX := Lib.hid (And.intro hs (And.intro hh (And.intro hl (And.intro hl2 (And.intro hout hn)))))
  have HTN := Lib.hid (And.intro hT hN)
  obtain ⟨R, K, Ol, hM, hL, hd, hO⟩ := h
  have H6 := Lib.hid (show At15I (K 6) w ⟨b, R⟩ x.ti from hM.part 6 (by omega))
  have HN := Lib.hid (fun w' (hc : Next15I At15I (K 6) w ⟨b, R⟩ (tickT x.ti).1 w') => NdAt.timer hM hL hd hO hc)
  have c38 := hM.cell 38 (by omega)
  rw [hM.pl.f38] at c38
  obtain ⟨X, hX⟩ : ∃ X, (tickT x.ti).2 = X := ⟨_, rfl⟩
  obtain ⟨D, hD⟩ : ∃ D, x.dead = D := ⟨_, rfl⟩
  rw [hD] at c38
  have HE := Lib.hid (show tickX x = if D = true then x else if X = true then tellX (roseX { x with ti := (tickT x.ti).1 } X) else roseX { x with ti := (tickT x.ti).1 } X by unfold tickX; rw [hX, hD])
  have HXX := Lib.hid hX
  clear hM hL hd hO hi ht hs hh hl hl2 hout hn hT hN hX hD
  go_enter Tryz.func19, Tryz.ntmps19
  cases D with
  | true =>
    go_wp2_with fail
    go_end0
    refine ⟨rfl, ?_⟩
    rw [HE.out.trans (show _ = x from rfl)]
    exact NxtAt.refl H0.out
  | false =>
    go_wp2_with fail
    refine (tick15I _ w ⟨b, R⟩ x.ti H6.out HI.out).mono ?_
    rintro e w1 ⟨rfl, hn⟩
    have HN1 := Lib.hid (HN.out w1 hn)
    rw [HXX.out]
    clear hn c38
    go_wp2_with fail
    obtain ⟨O1, k1, k2, k3⟩ := HN1.out
    refine (rose18 X k1 (inv_tick HI.out) HT.out).mono ?_
    rintro e w2 ⟨rfl, hn⟩
    obtain ⟨O2, j1, j2, j3⟩ := NxtAt.step k2 k3 hn
    have H2 := Lib.hid (And.intro j1 (And.intro j2 j3))
    clear hn k1 k2 k3 j1 j2 j3
    obtain ⟨e1, e2, e3, e4, e5⟩ := roseX_same { x with ti := (tickT x.ti).1 } X
    obtain ⟨z, hz⟩ : ∃ z, roseX { x with ti := (tickT x.ti).1 } X = z := ⟨_, rfl⟩
    rw [hz] at e1 e2 e3 e4 e5 H2
    have HZ := Lib.hid (And.intro hz (And.intro e1 (And.intro e2 (And.intro e3 (And.intro e4 e5)))))
    clear hz e1 e2 e3 e4 e5
    cases X with
    | false =>
      go_wp2_with fail
      go_end0
      refine ⟨rfl, ?_⟩
      rw [HE.out.trans (show _ = z from HZ.out.1)]
      exact ⟨O2, H2.out⟩
    | true =>
      go_wp2_with fail
      obtain ⟨_, e1, e2, e3, e4, e5⟩ := HZ.out
      refine (tell18m H2.out.1 (by rw [e1]; exact inv_tick HI.out) (by rw [e2]; exact HX.out.1) (by rw [e3]; exact HX.out.2.1) (by rw [e3]; exact HX.out.2.2.1) (by rw [e3]; exact HX.out.2.2.2.1) (by rw [e4]; exact HX.out.2.2.2.2.1) (by rw [e5]; exact HX.out.2.2.2.2.2) (tabs_nxt HTN.out.1 HTN.out.2 H2.out.2.1) (notab_nxt HTN.out.1 HTN.out.2 H2.out.2.2)).mono ?_
      rintro e w3 ⟨rfl, hn⟩
      have H3 := Lib.hid hn
      clear hn e1 e2 e3 e4 e5
      go_wp2_with fail
      go_end0
      refine ⟨rfl, ?_⟩
      rw [HE.out.trans (show _ = tellX z from congrArg tellX HZ.out.1)]
      exact NxtAt.step H2.out.2.1 H2.out.2.2 H3.out
end Go.Proofs.YthajnkcipifhcaaGreatDoor
end
section
open Go Go.RowKit
namespace ND
open IN NO QU GA TI TA LE ZZ YY TT SS RR FF JJ CC MM WW BB
open Go.Proofs.YthajnkcipifhcaaGreatDoor
structure Tk (n : Nat) (v c : Int) (x : Nd) : Prop where
  sd : x.sd = ⟨#[115]⟩
  id : x.id = 0
  n : x.n = (n : Int)
  ti : x.ti = (v, v - 1, c)
  hi : x.hi = firstC
  dead : x.dead = false
  st : x.st = (0, 0)
  ta : InvTa x.ta
/-- a message that tells the view v to the node i -/
structure TellsV (v : Int) (i : Nat) (m : Ms) : Prop where
  k : m.k = 3
  fr : m.fr = 0
  node : m.node = (i : Int)
  v : m.v = v
  h : m.h = ⟨#[]⟩
  x : m.x = bdNo
  c : m.c = firstC
  s : m.s = (0, [])
  r : m.r = (0, 0, ⟨#[]⟩)
  ix : m.ix = 0
  tg : m.tg.size = 16
theorem first_ok : certOk firstC := by
  show rightCert 0 firstD [] = true
  unfold rightCert
  rw [CC.firstD_size]; rfl
theorem TellsV.right {v : Int} {i : Nat} {m : Ms} (h : TellsV v i m) (hv : 0 ≤ v ∧ v ≤ 1000000) (hi : i ≤ 20) : rightMsg m.k m.fr m.node m.v m.h m.x m.c m.s m.r m.ix m.tg = true := by
  rw [h.k, h.fr, h.node, h.v, h.h, h.x, h.c, h.s, h.r, h.ix]
  refine rightMsg_iff.2 ⟨by unfold headOk; omega, ⟨by decide, by decide, .inl rfl, .inr h.tg⟩, .inl rfl, .inr first_ok, .inl rfl, .inl rfl⟩
/-- what toAll adds -/
def addsN (x : Nd) (m : Ms) (i : Nat) : List Ms := (List.range i).map fun (k : Nat) => { m with node := (k : Int), fr := x.id, tg := tagB x.sd (endn x.id) (endn (k : Int)) (textM { m with node := (k : Int) }) }
theorem toAllN_is (x : Nd) (m : Ms) : ∀ i, toAllN x m i = { x with out := x.out ++ addsN x m i }
  | 0 => by
    show x = { x with out := x.out ++ [] }
    rw [List.append_nil]
  | i + 1 => by
    rw [toAllN_succ, toAllN_is x m i]
    unfold addsN
    rw [List.range_succ, List.map_append, ← List.append_assoc]
    rfl
theorem addsN_tells (x : Nd) (v : Int) (n : Nat) (hd : x.id = 0) : ∀ i, i < n → TellsV v i ((addsN x { ms0 with k := 3, v := v, c := firstC } n).getD i ms0) := by
  intro i hi
  unfold addsN
  rw [List.getD_eq_getElem?_getD, List.getElem?_map, List.getElem?_range hi]
  exact ⟨rfl, hd, rfl, rfl, rfl, rfl, rfl, rfl, rfl, rfl, tagB_size _ _ _ _⟩
theorem addsN_len (x : Nd) (m : Ms) (n : Nat) : (addsN x m n).length = n := by unfold addsN; rw [List.length_map, List.length_range]
theorem tk_stay {n : Nat} {v c : Int} {x : Nd} (h : Tk n v c x) (hv : 1 ≤ v ∧ v ≤ 1000) (hc : 1 < c) : Tk n v (c - 1) (tickX x) ∧ (tickX x).out = x.out := by
  have e1 : tickT x.ti = ((v, v - 1, c - 1), false) := by
    rw [h.ti]; unfold tickT; rw [if_neg (by show ¬ v = 1000001; omega), if_pos (show 1 < c from hc)]
  have e : tickX x = { x with ti := (v, v - 1, c - 1) } := by
    unfold tickX
    rw [e1, h.dead]; rfl
  rw [e]
  exact ⟨⟨h.sd, h.id, h.n, rfl, h.hi, h.dead, h.st, h.ta⟩, rfl⟩
theorem tk_rise {n : Nat} {v c : Int} {x : Nd} (h : Tk n v c x) (hv : 1 ≤ v ∧ v ≤ 1000) (hc : ¬ 1 < c) : Tk n (v + 1) (spanF v) (tickX x) ∧ ∃ L, (tickX x).out = x.out ++ L ∧ L.length = n ∧ ∀ i, i < n → TellsV (v + 1) i (L.getD i ms0) := by
  have e1 : tickT x.ti = ((v + 1, v, spanF v), true) := by
    rw [h.ti]; unfold tickT; rw [if_neg (by show ¬ v = 1000001; omega), if_neg (show ¬ 1 < c from hc)]
    show ((v + 1, v - 1 + 1, spanF (v - 1 + 1)), true) = _
    rw [show v - 1 + 1 = v by omega]
  obtain ⟨y, hy⟩ : ∃ y, roseX { x with ti := (v + 1, v, spanF v) } true = y := ⟨_, rfl⟩
  have hyi : y = { x with ti := (v + 1, v, spanF v), ta := belowT x.ta (v + 1 - 2) } := hy.symm
  have e : tickX x = toAllN y { ms0 with k := 3, v := v + 1, c := firstC } n := by
    unfold tickX
    rw [if_neg (by rw [h.dead]; decide), e1]
    show tellX (roseX { x with ti := (v + 1, v, spanF v) } true) = _
    rw [hy]
    unfold tellX haltX
    rw [show y.ti = (v + 1, v, spanF v) by rw [hyi], show y.hi = firstC by rw [hyi]; exact h.hi, if_neg (by rw [decide_eq_true_eq]; show ¬ 1000000 < v + 1; omega)]
    unfold toAllX toAllN
    rw [show y.n = (n : Int) by rw [hyi]; exact h.n]
    rfl
  rw [e, toAllN_is]
  refine ⟨⟨by rw [hyi]; exact h.sd, by rw [hyi]; exact h.id, by rw [hyi]; exact h.n, ?_, by rw [hyi]; exact h.hi, by rw [hyi]; exact h.dead, by rw [hyi]; exact h.st, by rw [hyi]; exact h.ta.below _⟩, addsN y { ms0 with k := 3, v := v + 1, c := firstC } n, ?_, addsN_len _ _ _, addsN_tells y _ _ (by rw [hyi]; exact h.id)⟩
  · rw [hyi]
    show (v + 1, v, spanF v) = (v + 1, v + 1 - 1, spanF v)
    rw [show v + 1 - 1 = v by omega]
  · show y.out ++ _ = x.out ++ _
    rw [show y.out = x.out by rw [hyi]]
theorem tk_sent {n : Nat} {v c : Int} {x : Nd} (h : Tk n v c x) : Tk n v c { x with out := [] } := ⟨h.sd, h.id, h.n, h.ti, h.hi, h.dead, h.st, h.ta⟩
theorem tk_new (n : Nat) (lo : Lg) : Tk n 1 4 (newX ⟨#[115]⟩ 0 (n : Int) lo) := ⟨rfl, rfl, rfl, rfl, rfl, rfl, rfl, inv_newT _ _ _⟩
/-- the law's own span -/
theorem span_two (v : Int) (hv : 1 ≤ v) : min (2 * spanF (v - 1)) 16 = spanF v := by
  unfold spanF
  by_cases h1 : v ≤ 1
  · have : v = 1 := by omega
    subst this; decide
  · by_cases h2 : v = 2
    · subst h2; decide
    · rw [if_neg (by omega), if_neg (by omega), if_neg (by omega), if_neg (by omega)]; decide
end ND
end
section
open Go Go.RowKit
namespace TT
open SS RR FF WW BB
/-- some records are appended: s is the log, rs are left -/
structure WrSt (w : World) (O : Nat → Prop) (g : Nat) (s0 : Lg) (rs : List ByteArray) (i : Nat) (s : Lg) (wr : World) : Prop where
  at_ : ∃ O', At9 O' wr g s ∧ ∀ b, O' b → O b ∨ w.heap.size ≤ b
  keeps : Keeps (fun b => ¬ O b) w wr
  app : appL s0 rs = appL s (rs.drop i)
  size : sizeL s ≤ sizeL s0 + i * 4004
theorem size_append {s : Lg} {r : ByteArray} (h : r.size ≤ 4000) : sizeL (appendL s r).1 ≤ sizeL s + 4004 := by
  unfold appendL
  split
  · show sizeL s ≤ _; omega
  · split
    · show sizeL s ≤ _; omega
    · split
      · show s.safe.size + s.wait.size ≤ sizeL s + 4004; unfold sizeL; omega
      · obtain ⟨e1, e2, e3⟩ := burn_same s
        show (burnL s).safe.size + (s.wait ++ txt r).size ≤ sizeL s + 4004
        rw [e1, ByteArray.size_append, txt_size]
        unfold sizeL; omega
section
variable {w wr w' : World} {O : Nat → Prop} {g : Nat} {s0 s s' : Lg} {rs : List ByteArray} {i : Nat}
theorem WrSt.next (h : WrSt w O g s0 rs i s wr) (hn : ∃ O', Next9 At9 O' wr g s' w' ∧ (∀ b, O' b → O b ∨ w.heap.size ≤ b)) : (∃ O', At9 O' w' g s' ∧ ∀ b, O' b → O b ∨ w.heap.size ≤ b) ∧ Keeps (fun b => ¬ O b) w w' := by
  obtain ⟨O', ⟨O2, h1, h2, h3⟩, h4⟩ := hn
  refine ⟨⟨O2, h1, fun b hb => (h3 b hb).elim (h4 b) fun h5 => .inr (Nat.le_trans h.keeps.b0.size h5)⟩, ⟨h.keeps.b0.trans h2.b0, fun b hb hl => (h2.block b (fun ho => (h4 b ho).elim hb fun h5 => by omega) (Nat.lt_of_lt_of_le hl h.keeps.b0.size)).trans (h.keeps.block b hb hl)⟩⟩
end
end TT
namespace Go.Proofs.YthajnkcipifhcaaGreatDoor
open TT SS RR FF JJ CC WW BB
section
variable (O O1 : Nat → Prop) (w : World) (m g : Nat) (st : MemT) (s : Lg)
end
end Go.Proofs.YthajnkcipifhcaaGreatDoor
end
section
open Go Go.RowKit
namespace TT
open SS RR FF WW BB
/-- a memory with other cells -/
theorem MemIs.put {tS : TypeId} {O : Nat → Prop} {w w1 : World} {m g : Nat} {st st' : MemT} {v v' : Value} (h : MemIs tS O w m g st v) (hB : Blk w1 m 4 (rowL [.pointer (some ⟨g, 0, none⟩), .int .i64 st'.1.1, .int .i64 st'.1.2, v'])) (hr : w1.ownsRow 0 tS 1 v' st'.2.length ((st'.2.map rcB).map Value.string))
    (hlo : ∀ c, v'.ownBlock = some c → v.ownBlock = some c ∨ w.heap.size ≤ c) : MemIs tS (fun b => b = m ∨ v'.ownBlock = some b) w1 m g st' v' :=
  ⟨hB, hr, fun _ => Iff.rfl, fun e => (hlo m e).elim h.ne fun h2 => by have := h.blk.lt; omega⟩
end TT
namespace Go.Proofs.YthajnkcipifhcaaGreatDoor
open TT SS RR FF JJ CC WW BB
section
variable (O O1 A : Nat → Prop) (w : World) (m g : Nat) (st : MemT) (s : Lg) (x : StT) (v : Value) (L : List Bv)
end
end Go.Proofs.YthajnkcipifhcaaGreatDoor
end
section
open Go Go.RowKit
namespace IN
open FF BB
/-- the cells of a new node -/
def newR (s : ByteArray) (d n : Int) (lg bv tv gv : Value) (v0 v1 : Int) : Nat → Value := fun i =>
  rowL [.string s, .int .i64 d, .int .i64 n, lg, .int .i64 v0, .int .i64 v1, bv, .int .i64 v0, .int .i64 v1, .string ⟨#[]⟩, .int .i64 0, .map none, .slice none 0 0, .slice none 0 0, .slice none 0 0, .map none,
    .slice none 0 0, .map none, .slice none 0 0, .slice none 0 0, .map none, .string s, .int .i64 d, .int .i64 n, .int .i64 0, tv, .int .i64 0, .int .i64 0, .int .i64 0, gv,
    .int .i64 0, .string CC.firstD, .slice none 0 0, .int .i64 0, .string ⟨#[]⟩, .slice none 0 0, .int .i64 0, .slice none 0 0, .bool false] i
end IN
namespace Go.Proofs.YthajnkcipifhcaaGreatDoor
open ND IN NO QU GA TI TA LE ZZ YY TT SS RR FF JJ CC MM WW BB
/-- what a new node's cells are, as a node -/
theorem new18_at (s : ByteArray) (d n : Int) (w : World) (x l : Nat) (Om Og Ol tK : Nat → Prop) (lo : Lg) (st : MemT) (m g tg : Nat) (bv tv gv : Value) (hx : TBlk 98 w x 39 (newR s d n (.pointer (some ⟨l, 0, none⟩)) bv tv gv st.1.1 st.1.2))
    (hm : MemIs 9 Om w m l st bv) (ht : TqM 75 191 w tg (TA.newT s d n) [] tv tK) (hg : ∃ v, gv = .slice (some ⟨v, 0, none⟩) (newG n).length (newG n).length ∧ Blk w v (newG n).length (vwG (newG n)) ∧ ∀ b, Og b ↔ b = g ∨ b = v)
    (hl : At9 Ol w l lo) (n1 n2 : Nat) (h1 : ∀ b, Om b → b < n1) (h2 : ∀ b, tv.ownBlock = some b ∨ tK b → n1 ≤ b ∧ b < n2) (h3 : ∀ b, Og b → n2 ≤ b ∧ b < x) (h4 : ∀ b, Ol b → b < n1 ∧ ¬ Om b) (h12 : n1 ≤ n2) (h2x : n2 ≤ x) (B : Nat) (hB : B ≤ x) (hN : ∀ b, B ≤ b → NoTab b) :
    ∃ O, NdAt O w x l { newX s d n lo with me := st, st := st.1 } ∧ ∀ c, O c → c = x ∨ Om c ∨ (tv.ownBlock = some c ∨ tK c) ∨ Og c ∨ Ol c := by
  obtain ⟨v, rfl, hv, hgv⟩ := hg
  have hR : ∀ o k f, o + k ≤ 39 → (∀ i, i < k → newR s d n (.pointer (some ⟨l, 0, none⟩)) bv tv (.slice (some ⟨v, 0, none⟩) (newG n).length (newG n).length) st.1.1 st.1.2 (o + i) = f i) → SBlk w ⟨x, newR s d n (.pointer (some ⟨l, 0, none⟩)) bv tv (.slice (some ⟨v, 0, none⟩) (newG n).length (newG n).length) st.1.1 st.1.2⟩ o k f :=
    fun o k f hk e => SBlk.of hx o k f hk e
  have hvx : v ≠ x := fun e => by have := h3 v ((hgv v).2 (.inr rfl)); omega
  let K : Nat → Nat → Prop := fun i c => match i with | 0 => c = x ∨ bv.ownBlock = some c | 5 => c = x ∨ tv.ownBlock = some c ∨ tK c | 7 => c = x ∨ c = v | _ => c = x
  have hbm : ∀ c, bv.ownBlock = some c → Om c := fun c hc => (hm.own c).2 (.inr hc)
  refine ⟨fun c => (∃ i, i < 11 ∧ K i c) ∨ Ol c, ⟨_, K, Ol, ⟨hx, ⟨rfl, rfl, rfl, rfl, rfl, rfl, rfl⟩, fun i hi => ?_, fun i j c hi hj hne hi' hj' => ?_⟩, hl, fun i c hi hK => ?_, fun c => Iff.rfl⟩, fun c hc => ?_⟩
  · match i, hi with
    | 0, _ =>
      refine ⟨bv, hR 3 4 _ (by decide) fun i hi => ?_, hm.row, fun b => Iff.rfl, fun e => by have := h1 x (hbm x e); omega⟩
      match i, hi with
      | 0, _ | 1, _ | 2, _ | 3, _ => rfl
    | 1, _ =>
      refine ⟨B, ⟨#[]⟩, .map none, .slice none 0 0, [], [], fun _ => False, ⟨?_, hR 9 4 _ (by decide) fun i hi => ?_, .inl ⟨rfl, rfl⟩, rfl, rfl, .inl ⟨rfl, fun _ => rfl, rfl⟩, (fun _ h => by cases h), World.ownsRow_nil _ _ _ _, fun _ _ y hy => absurd hy List.not_mem_nil, hB, fun _ h => h.elim, id, fun _ _ h => h, fun _ _ h => h, fun _ h => h.elim, fun y hy => absurd hy List.not_mem_nil⟩, hN, fun b => ⟨fun h => .inl h, ?_⟩⟩
      · exact new_wf _ firstD_size
      · match i, hi with
        | 0, _ | 1, _ | 2, _ | 3, _ => rfl
      · rintro (h | h | h | h)
        · exact h
        · cases h
        · cases h
        · exact h.elim
    | 2, _ =>
      refine ⟨[], .slice none 0 0, .slice none 0 0, .map none, fun _ => False, ⟨hR 13 3 _ (by decide) fun i hi => ?_, World.ownsRow_nil _ _ _ _, World.ownsRow_nil _ _ _ _, .inl rfl, fun _ _ y hy => absurd hy List.not_mem_nil, id, fun _ _ h => h, fun _ _ h => h, fun _ _ h => h, fun _ h => h.elim⟩, rfl, fun b => ⟨fun h => .inl h, ?_⟩⟩
      · match i, hi with
        | 0, _ | 1, _ | 2, _ => rfl
      · rintro (h | h | h | h | h)
        · exact h
        · cases h
        · cases h
        · cases h
        · exact h.elim
    | 3, _ =>
      refine .inr ⟨rfl, hR 16 3 _ (by decide) fun i hi => ?_, fun _ => Iff.rfl⟩
      match i, hi with
      | 0, _ | 1, _ | 2, _ => rfl
    | 4, _ =>
      refine ⟨[], .slice none 0 0, .map none, ⟨hR 19 2 _ (by decide) fun i hi => ?_, World.ownsRow_nil _ _ _ _, .inl ⟨rfl, rfl⟩⟩, fun k _ => by show decide (k ∈ []) = hasR [] k; rw [has_nil]; simp, fun b => ⟨fun h => .inl h, ?_⟩⟩
      · match i, hi with
        | 0, _ | 1, _ => rfl
      · rintro (h | h | h)
        · exact h
        · cases h
        · cases h
    | 5, _ =>
      refine ⟨[], tv, tK, ⟨hR 21 5 _ (by decide) fun i hi => ?_, ht.row, fun y hy => absurd hy List.not_mem_nil, ht.lt, fun h => by have := h2 x (.inr h); omega, ht.kr, fun h => by have := h2 x (.inl h); omega, rfl⟩, fun b => Iff.rfl⟩
      match i, hi with
      | 0, _ | 1, _ | 2, _ | 3, _ | 4, _ => rfl
    | 6, _ =>
      refine ⟨hR 26 3 _ (by decide) fun i hi => ?_, fun _ => Iff.rfl⟩
      match i, hi with
      | 0, _ | 1, _ | 2, _ => rfl
    | 7, _ =>
      refine ⟨v, hR 29 1 _ (by decide) fun i hi => ?_, hv, hvx, fun _ => Iff.rfl⟩
      match i, hi with
      | 0, _ => rfl
    | 8, _ =>
      refine ⟨.slice none 0 0, [], fun _ => False, hR 37 1 _ (by decide) fun i hi => ?_, World.ownsRow_nil _ _ _ _, fun _ _ y hy => absurd hy List.not_mem_nil, rfl, id, fun _ _ h => h, fun _ h => h.elim, fun b => ⟨fun h => .inl h, ?_⟩⟩
      · match i, hi with
        | 0, _ => rfl
      · rintro (h | h | h)
        · exact h
        · cases h
        · exact h.elim
    | 9, _ =>
      refine ⟨.slice none 0 0, fun _ => False, hR 30 3 _ (by decide) fun i hi => ?_, fun _ _ => sigs_nil _, id, fun _ h => h.elim, fun b => ⟨fun h => .inl h, ?_⟩⟩
      · match i, hi with
        | 0, _ | 1, _ | 2, _ => rfl
      · rintro (h | h)
        · exact h
        · exact h.elim
    | 10, _ =>
      refine ⟨.slice none 0 0, fun _ => False, hR 33 3 _ (by decide) fun i hi => ?_, fun _ _ => sigs_nil _, id, fun _ h => h.elim, fun b => ⟨fun h => .inl h, ?_⟩⟩
      · match i, hi with
        | 0, _ | 1, _ | 2, _ => rfl
      · rintro (h | h)
        · exact h
        · exact h.elim
  · have key : ∀ i, i < 11 → K i c → c = x ∨ (i = 0 ∧ c < n1) ∨ (i = 5 ∧ n1 ≤ c ∧ c < n2) ∨ (i = 7 ∧ n2 ≤ c) := by
      intro i hi h
      match i, hi, h with
      | 0, _, h => exact h.imp_right fun h => .inl ⟨rfl, h1 c (hbm c h)⟩
      | 5, _, h => exact h.imp_right fun h => .inr (.inl ⟨rfl, h2 c h⟩)
      | 7, _, h => exact h.imp_right fun h => .inr (.inr ⟨rfl, (h3 c ((hgv c).2 (.inr h))).1⟩)
      | 1, _, h | 2, _, h | 3, _, h | 4, _, h | 6, _, h | 8, _, h | 9, _, h | 10, _, h => exact .inl h
    rcases key i hi hi' with k1 | k1 | k1 | k1
    · exact k1
    all_goals
      rcases key j hj hj' with k2 | k2 | k2 | k2
      · exact k2
      all_goals exact absurd trivial (fun _ => by omega)
  · match i, hi, hK with
    | 0, _, h => exact fun ho => h.elim (fun e => by have := h4 c ho; omega) fun h => (h4 c ho).2 (hbm c h)
    | 5, _, h => exact fun ho => h.elim (fun e => by have := h4 c ho; omega) fun h => by have := h4 c ho; have := h2 c h; omega
    | 7, _, h => exact fun ho => h.elim (fun e => by have := h4 c ho; omega) fun h => by have := h4 c ho; have := h3 c ((hgv c).2 (.inr h)); omega
    | 1, _, h | 2, _, h | 3, _, h | 4, _, h | 6, _, h | 8, _, h | 9, _, h | 10, _, h => exact fun ho => by have := h4 c ho; have : c = x := h; omega
  · rcases hc with ⟨i, hi, h⟩ | h
    · match i, hi, h with
      | 0, _, h => exact h.imp_right fun h => .inl (hbm c h)
      | 5, _, h => exact h.imp_right fun h => .inr (.inl h)
      | 7, _, h => exact h.imp_right fun h => .inr (.inr (.inl ((hgv c).2 (.inr h))))
      | 1, _, h | 2, _, h | 3, _, h | 4, _, h | 6, _, h | 8, _, h | 9, _, h | 10, _, h => exact .inl h
    · exact .inr (.inr (.inr (.inr h)))
end Go.Proofs.YthajnkcipifhcaaGreatDoor
end
section
open Go Go.RowKit
namespace Go.Proofs.YthajnkcipifhcaaGreatDoor
open ND IN NO QU GA TI TA LE ZZ YY TT SS RR FF JJ CC MM WW BB
theorem split_nil : splitS ⟨#[]⟩ = ([], 0) := by
  rw [splitS.eq_def]
  first | rfl | (simp [okR]; done) | kernel_rfl
def lo0 : Lg := ⟨⟨#[]⟩, ⟨#[]⟩, -1, false⟩
/-- the messages to send are let go -/
theorem NdAt.hush {O : Nat → Prop} {w : World} {b l : Nat} {x : Nd} (h : NdAt O w b l x) : NxtAt O w b l { x with out := [] } (w.setCell ⟨b, 37, none⟩ (.slice none 0 0)) := by
  have hb := at_box h
  obtain ⟨a, n, L, C, c37, f37, h1, h2, h3, h4, O', k1, k2, k3⟩ := h.sent
  exact ⟨O', k1, Keeps.upd (Upd.set w b 37 _) fun d hd e => hd (e ▸ hb), fun c hc => .inl (k2 c hc)⟩
set_option maxRecDepth 100000 in
set_option maxHeartbeats 8000000 in
/-- of a node that remembers no block: the views are entered -/
theorem recall18_0 {O : Nat → Prop} {w : World} {b l : Nat} {x : Nd} (h : NdAt O w b l x) (hi : InvT x.ti) (ht : InvTa x.ta) (hm : x.me.2 = []) (hok : OkT x.me) (hs : rightS x.st) :
    Calls Tryz.prog 38 #[.pointer (some ⟨b, 0, none⟩)] w fun e w' => e = .returned (.tuple #[]) ∧ NxtAt O w b l { enterX x x.st.1 with out := [] } w' := by
  have H0 := Lib.hid h
  have HI := Lib.hid (And.intro hi (And.intro ht hs))
  obtain ⟨R, K, Ol, hM, hL, hd, hO⟩ := h
  have HM0 := Lib.hid (show At10I 9 (K 0) w ⟨b, R⟩ l x.me from hM.part 0 (by omega))
  have HK := Lib.hid hok
  have HE := Lib.hid hm
  clear hM hL hd hO hi ht hm hok hs
  go_enter Tryz.func38, Tryz.ntmps38
  go_wp2_with fail
  refine (blocks10I (K 0) w ⟨b, R⟩ l x.me HM0.out HK.out).mono ?_
  rintro e w1 ⟨u, L, rfl, hL, hdp, hb⟩
  have hL0 : L = [] := by
    have : L.map Prod.fst = [] := by rw [hL, HE.out]
    simpa using this
  subst hL0
  obtain ⟨a, c, rfl, _⟩ := hdp.now
  have B1 := Lib.hid hb
  clear hL hdp hb
  go_upto_region 0 with fail
  go_loopw [11] (fun y wr => y = .int .i64 0 ∧ wr = w1) (fun _ _ => 0)
  case atStart => exact ⟨rfl, rfl⟩
  case round =>
    obtain ⟨rfl, rfl⟩ := hrel
    have H1 := Lib.hid (H0.out.on B1.out)
    obtain ⟨R1, K1, Ol1, hM1, _⟩ := H1.out
    have c7 := hM1.cell 7 (by omega)
    rw [hM1.pl.f7] at c7
    clear hM1
    go_wp2_with fail
    refine (enter18 x.st.1 H1.out HI.out.1 HI.out.2.1 (by have := HI.out.2.2; unfold rightS at this; omega)).mono ?_
    rintro e w2 ⟨rfl, hn⟩
    have HN := Lib.hid (NxtAt.after B1.out hn)
    obtain ⟨O2, k1, _⟩ := hn
    obtain ⟨R2, K2, Ol2, hM2, _⟩ := id k1
    have f37 := hM2.frz 37
    have c37 := hM2.cell 37 (by omega)
    clear hM2 k1
    go_wp2_with fail
    go_end0
    refine ⟨rfl, ?_⟩
    obtain ⟨O3, j1, j2, j3⟩ := HN.out
    exact NxtAt.step j2 j3 j1.hush
theorem recs_lo0 : recsL lo0 = [] := by
  unfold recsL lo0
  rw [if_neg (by decide), show ((⟨#[]⟩ : ByteArray) ++ ⟨#[]⟩) = ⟨#[]⟩ from rfl, split_nil]
theorem cut_lo0 : cutL lo0 = lo0 := by
  unfold lo0
  rw [cut_is, split_nil]; rfl
set_option maxRecDepth 100000 in
set_option maxHeartbeats 16000000 in
theorem open18_0 (s : ByteArray) (id n : Int) (l : Nat) (Ol : Nat → Prop) (w : World) (h9 : At9 Ol w l lo0) (hn : 1 ≤ n ∧ n ≤ 7) (hd : 0 ≤ id ∧ id < n) (hT : Tabs w) (B : Nat) (hB : B ≤ w.heap.size) (hN : ∀ b, B ≤ b → NoTab b) (hOl : ∀ b, Ol b → NoTab b) :
    Calls Tryz.prog 10 #[.string s, .int .i64 id, .int .i64 n, .pointer (some ⟨l, 0, none⟩)] w fun e w' => ∃ b, e = .returned (.tuple #[.pointer (some ⟨b, 0, none⟩), .int .i64 0]) ∧
      ∃ O', NdAt O' w' b l (newX s id n lo0) ∧ Keeps (fun c => ¬ Ol c) w w' ∧ ∀ c, O' c → Ol c ∨ w.heap.size ≤ c := by
  have H9 := Lib.hid h9
  have HT := Lib.hid hT
  have HB := Lib.hid (And.intro hB (And.intro hN hOl))
  have HND := Lib.hid (And.intro hn hd)
  have hnb : nodesB n = true := by unfold nodesB; simp; omega
  have i0 : ¬ id < 0 := by omega
  have i1 : ¬ n ≤ id := by omega
  clear h9 hT hB hN hOl hn hd
  go_enter Tryz.func10, Tryz.ntmps10
  go_wp2_with fail
  refine (nodes_any n w).mono ?_
  rintro e w1 ⟨rfl, rfl⟩
  rw [hnb]
  go_wp2_with fail
  refine (open10 Ol w l lo0 H9.out (by decide) (by rw [recs_lo0]; decide) rfl).mono ?_
  rintro e w2 ⟨m, O2, Om, rfl, h2, hm, hk, ho, hom⟩
  rw [recs_lo0] at hm
  rw [cut_lo0] at h2
  have H2 := Lib.hid (And.intro h2 (And.intro (show At10 9 Om w2 m l ((0, 0), []) from hm) (And.intro hk (And.intro ho hom))))
  obtain ⟨bv, hmi⟩ := hm
  have HMI := Lib.hid (show MemIs 9 Om w2 m l ((0, 0), []) bv from hmi)
  obtain ⟨ba, bc, rfl⟩ := row_shapeL hmi.row
  clear h2 hmi hk ho hom
  go_upto_region 6 with fail
  have HSM := Lib.hid (fun (wx : World) (hx : Below w2.heap.size w2 wx) => (HMI.out.on hx).cells)
  refine planN_abs (fun wx => Below w2.heap.size w2 wx) [(true, 0), (true, 1), (true, 2), (true, 3), (true, 4), (true, 5), (true, 6), (true, 8), (true, 9), (true, 10), (true, 14), (false, 7), (false, 11), (true, 12), (true, 13), (false, 15), (true, 16), (true, 17), (false, 18), (false, 19), (false, 20), (false, 21)] (by kernel_rfl) (by kernel_rfl) (fun _ _ d _ _ h => by cases d <;> exact h) fun w3 hs3 => ⟨hs3.below _, ?_⟩
  have B3 := Lib.hid (hs3.below w2.heap.size)
  clear hs3
  iterate 11 (refine pn_run _ ?_ rfl rfl ?_ ?_; rotate_left; (focus (intro w' hS; obtain ⟨c0, c1, c2, c3⟩ := HSM.out w' hS; go_simp; exact rfl)); simp only [Act.put, List.setIfInBounds_toArray, List.set_cons_zero, List.set_cons_succ, List.getElem_toArray, List.getElem_cons_zero, List.getElem_cons_succ])
  refine pn_call (R := fun v w' => v = .agg #[.int .i64 0, .int .i64 0] ∧ Below w3.heap.size w3 w') _ rfl rfl (by go_simp) ((state10 Om w3 m l ((0, 0), []) ⟨_, HMI.out.on B3.out⟩).mono fun e w' h => ⟨_, h.1, rfl, h.2⟩) fun v w4 hr => ⟨fun wx => Below w2.heap.size w2 wx, fun _ h => h, B3.out.trans (hr.2.mono B3.out.size), ?_⟩
  obtain ⟨rfl, hb4⟩ := hr
  have B4 := Lib.hid (B3.out.trans (hb4.mono B3.out.size))
  clear hb4
  simp only [Act.put, List.setIfInBounds_toArray, List.set_cons_zero, List.set_cons_succ, List.getElem_toArray, List.getElem_cons_zero, List.getElem_cons_succ]
  refine pn_call (R := fun v w' => ∃ g Ot, v = .pointer (some ⟨g, 0, none⟩) ∧ At14 Ot w' g (TA.newT s id n) ∧ (∀ b, Ot b → w4.heap.size ≤ b) ∧ Below w4.heap.size w4 w') _ rfl rfl (by go_simp) ((new14 w4 s id n).mono fun e w' ⟨g, Ot, he, h⟩ => ⟨_, he, g, Ot, rfl, h⟩) fun v w5 hr => ⟨fun wx => Below w5.heap.size w5 wx ∧ Below w2.heap.size w2 wx, fun _ h => h.2, ?_, ?_⟩
  · obtain ⟨g, Ot, _, _, _, h⟩ := hr; exact ⟨Below.refl _ _, B4.out.trans (h.mono B4.out.size)⟩
  obtain ⟨tg, Ot, rfl, ht, hot, hb5⟩ := hr
  have B5 := Lib.hid (B4.out.trans (hb5.mono B4.out.size))
  have H5 := Lib.hid (And.intro ht (And.intro hot (And.intro B4.out.size hb5.size)))
  obtain ⟨tL, tv, tK, htm, htk⟩ := ht
  have HTM := Lib.hid htm
  have hL0 : tL = [] := by have := htm.is; simpa [TA.newT] using this
  subst hL0
  obtain ⟨ta, tc, rfl⟩ := row_shapeL htm.row
  have HST := Lib.hid (fun (wx : World) (hx : Below w5.heap.size w5 wx) => (HTM.out.on hx).cells)
  have HTK := Lib.hid (And.intro htk htm.ownL)
  clear htm htk hot hb5
  simp only [Act.put, List.setIfInBounds_toArray, List.set_cons_zero, List.set_cons_succ, List.getElem_toArray, List.getElem_cons_zero, List.getElem_cons_succ]
  iterate 2 (refine pn_run _ ?_ rfl rfl ?_ ?_; rotate_left; (focus (intro w' hS; obtain ⟨c0, c1, c2, c3, c4⟩ := HST.out w' hS.1; go_simp; exact rfl)); simp only [Act.put, List.setIfInBounds_toArray, List.set_cons_zero, List.set_cons_succ, List.getElem_toArray, List.getElem_cons_zero, List.getElem_cons_succ])
  refine pn_call (R := fun v w' => ∃ g Og, v = .pointer (some ⟨g, 0, none⟩) ∧ At16 Og w' g (newG n) ∧ (∀ b, Og b → w5.heap.size ≤ b) ∧ Below w5.heap.size w5 w') _ rfl rfl (by go_simp) ((new16 w5 n).mono fun e w' ⟨g, Og, he, h⟩ => ⟨_, he, g, Og, rfl, h⟩) fun v w6 hr => ⟨fun wx => Below w6.heap.size w6 wx ∧ Below w2.heap.size w2 wx, fun _ h => ?_, ?_, ?_⟩
  · obtain ⟨g, Og, _, _, _, hb⟩ := hr; exact ⟨hb.trans (h.1.mono hb.size), h.2⟩
  · obtain ⟨g, Og, _, _, _, hb⟩ := hr; exact ⟨Below.refl _ _, B5.out.trans (hb.mono B5.out.size)⟩
  obtain ⟨gg, Og, rfl, hg, hog, hb6⟩ := hr
  obtain ⟨gv, hg1, hg2, hg3, hg4⟩ := hg
  have B6 := Lib.hid (B5.out.trans (hb6.mono B5.out.size))
  have H6 := Lib.hid (And.intro hg1 (And.intro hg2 (And.intro hg3 (And.intro hg4 (And.intro hog hb6.size)))))
  have G6 := Lib.hid hb6
  clear hg1 hg2 hg3 hg4 hog hb6
  simp only [Act.put, List.setIfInBounds_toArray, List.set_cons_zero, List.set_cons_succ, List.getElem_toArray, List.getElem_cons_zero, List.getElem_cons_succ]
  iterate 2 (refine pn_run _ ?_ rfl rfl ?_ ?_; rotate_left; (focus (intro w' hS; have c0 := (H6.out.1.below hS.1 H6.out.1.lt).get 0 (by omega); go_simp; exact rfl)); simp only [Act.put, List.setIfInBounds_toArray, List.set_cons_zero, List.set_cons_succ, List.getElem_toArray, List.getElem_cons_zero, List.getElem_cons_succ])
  have HT2 := Lib.hid (show Tabs w2 from tabs_keeps HT.out H2.out.2.2.1 fun b => Classical.byCases (fun h : Ol b => .inl (HB.out.2.2 b h)) .inr)
  refine pn_call (R := fun v w' => v = .agg #[.int .i64 0, .string firstD, .slice none 0 0] ∧ Below w6.heap.size w6 w') _ rfl rfl (by go_simp) ((first_any w6 (tabs_on HT2.out B6.out)).mono fun e w' h => ⟨_, h.1, rfl, h.2⟩) fun v w7 hr => ⟨fun wx => Below w6.heap.size w6 wx ∧ Below w2.heap.size w2 wx, fun _ h => h, ⟨hr.2, B6.out.trans (hr.2.mono B6.out.size)⟩, ?_⟩
  obtain ⟨rfl, hb7⟩ := hr
  have B7 := Lib.hid (And.intro hb7 (B6.out.trans (hb7.mono B6.out.size)))
  clear hb7
  simp only [Act.put, List.setIfInBounds_toArray, List.set_cons_zero, List.set_cons_succ, List.getElem_toArray, List.getElem_cons_zero, List.getElem_cons_succ]
  refine pn_value (w' := w7) _ ?_ rfl rfl ?_ (fun wx => Below w6.heap.size w6 wx ∧ Below w2.heap.size w2 wx) (fun _ h => h) B7.out ?_
  rotate_left
  · go_simp
    exact rfl
  simp only [Act.put, List.setIfInBounds_toArray, List.set_cons_zero, List.set_cons_succ, List.getElem_toArray, List.getElem_cons_zero, List.getElem_cons_succ]
  obtain ⟨w8, hw8⟩ : ∃ w8, w7.alloc (.cells (row 39 (newR s id n (.pointer (some ⟨l, 0, none⟩)) (.slice ba 0 bc) (.slice ta 0 tc) (.slice (some ⟨gv, 0, none⟩) (newG n).length (newG n).length) 0 0)) 98) = w8 := ⟨_, rfl⟩
  have B8 := Lib.hid (show Below w7.heap.size w7 w8 by rw [← hw8]; exact (Below.refl _ _).alloc (Nat.le_refl _) _)
  refine pn_value (w' := w8) _ (.pointer (some ⟨w7.heap.size, 0, none⟩)) rfl rfl ?_ (fun wx => Below w6.heap.size w6 wx ∧ Below w2.heap.size w2 wx) (fun _ h => h) ⟨B7.out.1.trans (B8.out.mono B7.out.1.size), B7.out.2.trans (B8.out.mono B7.out.2.size)⟩ ?_
  · go_simp
    exact hw8
  simp only [Act.put, List.setIfInBounds_toArray, List.set_cons_zero, List.set_cons_succ, List.getElem_toArray, List.getElem_cons_zero, List.getElem_cons_succ]
  have HX := Lib.hid (show TBlk 98 w8 w7.heap.size 39 (newR s id n (.pointer (some ⟨l, 0, none⟩)) (.slice ba 0 bc) (.slice ta 0 tc) (.slice (some ⟨gv, 0, none⟩) (newG n).length (newG n).length) 0 0) by rw [← hw8]; exact TBlk.new' w7 39 _ _ _ _ rfl rfl)
  clear hw8
  refine pn_value (w' := w8) _ (.pointer (some ⟨w7.heap.size, 0, none⟩)) rfl rfl (by go_simp) (fun wx => Below w6.heap.size w6 wx ∧ Below w2.heap.size w2 wx) (fun _ h => h) ⟨B7.out.1.trans (B8.out.mono B7.out.1.size), B7.out.2.trans (B8.out.mono B7.out.2.size)⟩ ?_
  simp only [Act.put, List.setIfInBounds_toArray, List.set_cons_zero, List.set_cons_succ, List.getElem_toArray, List.getElem_cons_zero, List.getElem_cons_succ]
  refine pn_end ?_
  have B28 := Lib.hid (show Below w2.heap.size w2 w8 from B7.out.2.trans (B8.out.mono B7.out.2.size))
  have B68 := Lib.hid (show Below w6.heap.size w6 w8 from B7.out.1.trans (B8.out.mono B7.out.1.size))
  have B58 := Lib.hid (show Below w5.heap.size w5 w8 from G6.out.trans (B68.out.mono G6.out.size))
  have HSZ := Lib.hid (show w2.heap.size ≤ w4.heap.size ∧ w4.heap.size ≤ w5.heap.size ∧ w5.heap.size ≤ w6.heap.size ∧ w6.heap.size ≤ w7.heap.size ∧ w.heap.size ≤ w2.heap.size from ⟨H5.out.2.2.1, H5.out.2.2.2, G6.out.size, B7.out.1.size, H2.out.2.2.1.b0.size⟩)
  obtain ⟨O8, h8, ho8⟩ := new18_at s id n w8 w7.heap.size l Om Og O2 tK lo0 ((0, 0), []) m gg tg (.slice ba 0 bc) (.slice ta 0 tc) _ HX.out (HMI.out.on B28.out) (HTM.out.on B58.out) ⟨gv, rfl, H6.out.2.1.below B68.out H6.out.2.1.lt, H6.out.2.2.2.1⟩ (at9_keep H2.out.1 (Keeps.of B28.out)) w2.heap.size w5.heap.size
    (fun b h => HMI.out.lt b h) (fun b h => ⟨by have := H5.out.2.1 b ((HTK.out.1 b).2 (.inr h)); have := HSZ.out; omega, HTK.out.2 b (.inr h)⟩)
    (fun b h => ⟨H6.out.2.2.2.2.1 b h, by
      have := HSZ.out
      rcases (H6.out.2.2.2.1 b).1 h with e | e
      · have := H6.out.1.lt; omega
      · have := H6.out.2.1.lt; omega⟩)
    (fun b h => ⟨at9_lt H2.out.1 b h, fun hm => (H2.out.2.2.2.2 b hm).2 h⟩) (by have := HSZ.out; omega) (by have := HSZ.out; omega) B (by have := HSZ.out; have := HB.out.1; omega) HB.out.2.1
  have H8 := Lib.hid (show NdAt O8 w8 w7.heap.size l (newX s id n lo0) from h8)
  have HO8 := Lib.hid ho8
  obtain ⟨xb, hxb⟩ : ∃ xb, w7.heap.size = xb := ⟨_, rfl⟩
  rw [hxb] at H8 HO8 ⊢
  have HXB := Lib.hid hxb
  clear h8 ho8 hxb
  go_wp2_with fail
  refine (recall18_0 H8.out (show InvT ((1, 0, 4) : Tim) from by unfold InvT; decide) (inv_newT _ _ _) rfl ok_none ok_none.1).mono ?_
  rintro e w9 ⟨rfl, hn⟩
  have H9' := Lib.hid (show NxtAt O8 w8 xb l (newX s id n lo0) w9 from hn)
  clear hn
  go_wp2_with fail
  go_ret2
  obtain ⟨O', k1, k2, k3⟩ := H9'.out
  have hsz := HSZ.out
  have hold : ∀ c, O8 c → Ol c ∨ w.heap.size ≤ c := fun c hc => by
    rcases HO8.out c hc with h | h | h | h | h
    · exact .inr (by have := HXB.out; omega)
    · exact .inr (H2.out.2.2.2.2 c h).1
    · exact .inr (by have := H5.out.2.1 c ((HTK.out.1 c).2 (.inr h)); omega)
    · exact .inr (by have := H6.out.2.2.2.2.1 c h; omega)
    · exact H2.out.2.2.2.1 c h
  have k0 : Keeps (fun c => ¬ Ol c) w w8 := H2.out.2.2.1.trans (Keeps.of B28.out)
  refine ⟨xb, rfl, O', k1, ⟨k0.b0.trans k2.b0, fun c hc hl => (k2.block c (fun ho => (hold c ho).elim hc (by omega)) (Nat.lt_of_lt_of_le hl k0.b0.size)).trans (k0.block c hc hl)⟩, fun c hc => (k3 c hc).elim (hold c) fun h => .inr (by have := k0.b0.size; omega)⟩
end Go.Proofs.YthajnkcipifhcaaGreatDoor
end
section
open Go Go.RowKit
namespace Go.Proofs.YthajnkcipifhcaaGreatDoor
open ND IN NO QU GA TI TA LE ZZ YY TT SS RR FF JJ CC MM WW BB
set_option maxRecDepth 100000 in
set_option maxHeartbeats 4000000 in
theorem open18_arg (s : ByteArray) (id n : Int) (l : Nat) (w : World) (hn : 1 ≤ n ∧ n ≤ 7) (hd : n ≤ id) :
    Calls Tryz.prog 10 #[.string s, .int .i64 id, .int .i64 n, .pointer (some ⟨l, 0, none⟩)] w fun e w' => e = .returned (.tuple #[.pointer none, .int .i64 1]) ∧ Below w.heap.size w w' := by
  have hnb : nodesB n = true := by unfold nodesB; simp; omega
  have i0 : ¬ id < 0 := by omega
  clear hn
  go_enter Tryz.func10, Tryz.ntmps10
  go_wp2_with fail
  refine (nodes_any n w).mono ?_
  rintro e w1 ⟨rfl, rfl⟩
  rw [hnb]
  go_wp2_with fail
  go_ret2
  exact ⟨rfl, Below.refl _ _⟩
theorem low_open {w0 w w' : World} {Ol : Nat → Prop} (hb : Below w0.heap.size w0 w) (hk : Keeps (fun c => ¬ Ol c) w w') (ho : ∀ c, Ol c → w0.heap.size ≤ c) : Below w0.heap.size w0 w' :=
  hb.trans (low18 hk (fun b hb hO => by have := ho b hO; omega) hb.size)
set_option maxRecDepth 100000 in
set_option maxHeartbeats 8000000 in
theorem awake18_any (w : World) (hT : Tabs w) : Calls Tryz.prog 8 #[] w fun e w' => e = .returned (.bool true) ∧ Below w.heap.size w w' := by
  have HT := Lib.hid hT
  clear hT
  go_enter Tryz.func8, Tryz.ntmps8
  go_wp2_with fail
  refine (new9 (w := w)).mono ?_
  rintro e w1 ⟨g1, O1, rfl, _, _, hb1⟩
  have B1 := Lib.hid hb1
  clear hb1
  go_wp2_with fail
  refine (open18_arg _ 1 1 g1 w1 (by decide) (by decide)).mono ?_
  rintro e w2 ⟨rfl, hb2⟩
  have B2 := Lib.hid (B1.out.trans (hb2.mono B1.out.size))
  clear hb2
  go_wp2_with fail
  refine (new9 (w := w2)).mono ?_
  rintro e w3 ⟨g3, O3, rfl, h3, ho3, hb3⟩
  have B3 := Lib.hid (B2.out.trans (hb3.mono B2.out.size))
  have H3 := Lib.hid (And.intro (show At9 O3 w3 g3 lo0 from h3) fun b hb => Nat.le_trans B2.out.size (ho3 b hb))
  clear h3 ho3 hb3
  go_wp2_with fail
  refine (open18_0 _ 0 1 g3 O3 w3 H3.out.1 (by decide) (by decide) (HT.out.below B3.out (Nat.le_refl _)) w.heap.size B3.out.size (notab18 HT.out) (fun b hb => notab18 HT.out b (H3.out.2 b hb))).mono ?_
  rintro e w4 ⟨x, rfl, O4, h4, hk4, ho4⟩
  have B4 := Lib.hid (low_open B3.out hk4 H3.out.2)
  have H4 := Lib.hid h4
  clear h4 hk4 ho4
  go_wp2_with fail
  refine (view18 H4.out (show InvT ((1, 0, 4) : Tim) from by unfold InvT; decide)).mono ?_
  rintro e w5 ⟨rfl, hb5⟩
  have B5 := Lib.hid (B4.out.trans (hb5.mono B4.out.size))
  clear hb5
  go_wp2_with fail
  go_ret
  exact ⟨rfl, B5.out⟩
end Go.Proofs.YthajnkcipifhcaaGreatDoor
end
