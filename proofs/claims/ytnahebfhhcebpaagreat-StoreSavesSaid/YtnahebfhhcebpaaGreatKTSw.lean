/-
  A log, its memory where it is not lost, two boxes with what must and what may be remembered, and a slice with the blocks that may be: behind each step of the law StoreCrashes.
-/
import Derived.Test.YtnahebfhhcebpaaGreatKTSame
import Derived.Test.YtnahebfhhcebpaaGreatKSWalkC
import Derived.Test.YtnahebfhhcebpaaGreatKSWalkR
import Derived.Test.YtnahebfhhcebpaaGreatKTApp
section
open Go Go.RowKit
namespace TT
open SS RR WW BB FF JJ
/-- what is remembered is right -/
def OkT (st : MemT) : Prop := rightS st.1 ∧ (∀ b ∈ st.2, blockOk b) ∧ st.2.length ≤ 1000
/-- a block whose bytes are not too many -/
def SmallT (b : BlockD) : Prop := SmallB (parI b) (sigsI b) b.2
theorem few_smallT {b : BlockD} (h : fewI b = true) : SmallT b := few_smallB h
theorem SmallT.d {b : BlockD} (h : SmallT b) : SmallD b := ⟨by have := h.1; omega, h.2.1, h.2.2.1⟩
theorem ok_none : OkT ((0, 0), []) := ⟨⟨by show (0 : Int) ≤ 0; omega, by show (0 : Int) ≤ 1000000; omega, by show (0 : Int) ≤ 0; omega, by show (0 : Int) ≤ 1000000; omega⟩, fun _ h => (by cases h), Nat.zero_le _⟩
theorem readS_right {b : ByteArray} {s : StT} (h : readS b = some s) : rightS s := by
  unfold readS at h
  split at h
  · split at h
    · rename_i h2
      injection h with h
      subst h
      exact ⟨by show (0 : Int) ≤ ((_ : Nat) : Int); omega, by show ((_ : Nat) : Int) ≤ 1000000; omega, by show (0 : Int) ≤ ((_ : Nat) : Int); omega, by show ((_ : Nat) : Int) ≤ 1000000; omega⟩
    · cases h
  · cases h
theorem up_right {a b : StT} (h : rightS a) (k : rightS b) : rightS (upS a b) := by
  obtain ⟨a1, a2, a3, a4⟩ := h
  obtain ⟨b1, b2, b3, b4⟩ := k
  exact ⟨by show 0 ≤ max a.1 b.1; omega, by show max a.1 b.1 ≤ 1000000; omega, by show 0 ≤ max a.2 b.2; omega, by show max a.2 b.2 ≤ 1000000; omega⟩
theorem recall_ok : ∀ (l : List ByteArray) (a : MemT), rightS a.1 → (∀ b ∈ a.2, blockOk b) → rightS (recallL l a).1 ∧ (∀ b ∈ (recallL l a).2, blockOk b) ∧ (recallL l a).2.length ≤ a.2.length + l.length
  | [], a, h, k => ⟨h, k, by show a.2.length ≤ a.2.length + 0; omega⟩
  | r :: l, a, h, k => by
    cases hx : oneD r with
    | none => rw [recall_stop hx]; exact ⟨h, k, by omega⟩
    | some x =>
      rw [recall_cons hx]
      unfold oneD at hx
      split at hx
      · cases hs : readS (r.extract 1 r.size) with
        | none => rw [hs] at hx; cases hx
        | some s =>
          rw [hs] at hx
          injection hx with hx
          subst hx
          obtain ⟨i1, i2, i3⟩ := recall_ok l (upS a.1 s, a.2) (up_right h (readS_right hs)) k
          exact ⟨i1, i2, by rw [List.length_cons]; have i3 : _ ≤ a.2.length + l.length := i3; show (recallL l (upS a.1 s, a.2)).2.length ≤ _; omega⟩
      · split at hx
        · cases hs : blockRd (r.extract 1 r.size) with
          | none => rw [hs] at hx; cases hx
          | some d =>
            rw [hs] at hx
            injection hx with hx
            subst hx
            obtain ⟨i1, i2, i3⟩ := recall_ok l (a.1, a.2 ++ [d]) h (fun b hb => (List.mem_append.1 hb).elim (k b) fun e => by rw [List.mem_singleton.1 e]; exact (blockRd_sound hs).2)
            exact ⟨i1, i2, by rw [List.length_cons]; have i3 : _ ≤ (a.2 ++ [d]).length + l.length := i3; rw [List.length_append] at i3; show (recallL l (a.1, a.2 ++ [d])).2.length ≤ _; have : [d].length = 1 := rfl; omega⟩
        · cases hx
/-- the memory, and its log, behind a call -/
def NextT (At : (Nat → Prop) → World → Nat → Nat → MemT → Prop) (O O1 : Nat → Prop) (w : World) (m g : Nat) (st : MemT) (s : Lg) (w' : World) : Prop :=
  ∃ O' O1', At9 O' w' g s ∧ At O1' w' m g st ∧ Keeps (fun b => ¬ O b ∧ ¬ O1 b) w w' ∧ (∀ b, O' b → O b ∨ w.heap.size ≤ b) ∧ ∀ b, O1' b → (O1 b ∨ w.heap.size ≤ b) ∧ ¬ O' b
/-- the log alone, behind a call that has lost -/
def LostT (O O1 : Nat → Prop) (w : World) (g : Nat) (s : Lg) (w' : World) : Prop :=
  ∃ O', At9 O' w' g s ∧ Keeps (fun b => ¬ O b ∧ ¬ O1 b) w w' ∧ ∀ b, O' b → O b ∨ w.heap.size ≤ b
/-- what Save answers -/
def SaveAns (At : (Nat → Prop) → World → Nat → Nat → MemT → Prop) (O O1 : Nat → Prop) (w : World) (m g : Nat) (st : MemT) (s : Lg) (x : StT) (L : List BlockD) (e : Ending) (w' : World) : Prop :=
  if rightS x ∧ ∀ b ∈ L, blockOk b then
    e = .returned (.int .i64 (putL s (recsOf st.1 x L)).2) ∧
    (if (putL s (recsOf st.1 x L)).2 = 0 then NextT At O O1 w m g (upS st.1 x, st.2 ++ L) (putL s (recsOf st.1 x L)).1 w' else LostT O O1 w g (putL s (recsOf st.1 x L)).1 w')
  else e = .returned (.int .i64 2) ∧ Below w.heap.size w w'
end TT
namespace Go.Proofs.YtnahebfhhcebpaaGreat
open TT SS RR FF WW BB
structure Code10 where
  At : (Nat → Prop) → World → Nat → Nat → MemT → Prop
  keep : ∀ {O w w' m g st}, At O w m g st → Keeps O w w' → At O w' m g st
  lt : ∀ {O w m g st}, At O w m g st → ∀ b, O b → b < w.heap.size
  record : ∀ v l w, Calls Tryz.prog 17 #[.agg #[.int .i64 v, .int .i64 l]] w fun e w' => e = .returned (.string (rcS (v, l))) ∧ Below w.heap.size w w'
  blockRecord : ∀ (x : Bv) w, InnB w x → SmallD x.1 → Calls Tryz.prog 19 #[bvV x] w fun e w' => e = .returned (.string (rcB x.1)) ∧ Below w.heap.size w w'
  recall : ∀ l v w, StrsAt w v l → (∀ r ∈ l, r.size ≤ 1000000) → l.length ≤ 1000 →
    Calls Tryz.prog 26 #[v] w fun e w' => ∃ u L, e = .returned (.tuple #[.agg #[.int .i64 (recallL l ((0, 0), [])).1.1, .int .i64 (recallL l ((0, 0), [])).1.2], u]) ∧ L.map Prod.fst = (recallL l ((0, 0), [])).2 ∧ BvAt w' u L ∧ Below w.heap.size w w'
  open_ : ∀ O w g s, At9 O w g s → OkL s → sizeL s ≤ 1000000 → (recsL s).length ≤ 1000 → s.gone = false →
    Calls Tryz.prog 10 #[.pointer (some ⟨g, 0, none⟩)] w fun e w' => ∃ m O' O1, e = .returned (.tuple #[.pointer (some ⟨m, 0, none⟩), .int .i64 0]) ∧ At9 O' w' g (cutL s) ∧ At O1 w' m g (recallL (recsL s) ((0, 0), [])) ∧
      Keeps (fun b => ¬ O b) w w' ∧ (∀ b, O' b → O b ∨ w.heap.size ≤ b) ∧ ∀ b, O1 b → w.heap.size ≤ b ∧ ¬ O' b
  state : ∀ O w m g st, At O w m g st → OkT st → Calls Tryz.prog 13 #[.pointer (some ⟨m, 0, none⟩)] w fun e w' => e = .returned (.agg #[.int .i64 st.1.1, .int .i64 st.1.2]) ∧ Below w.heap.size w w'
  blocks : ∀ O w m g st, At O w m g st → OkT st → Calls Tryz.prog 15 #[.pointer (some ⟨m, 0, none⟩)] w fun e w' => ∃ u L, e = .returned u ∧ L.map Prod.fst = st.2 ∧ Dep (fun b => w.heap.size ≤ b) w' (fun w'' => BvAt w'' u L) ∧ Below w.heap.size w w'
  save : ∀ (O O1 A : Nat → Prop) w m g st s (x : StT) v (L : List Bv), At9 O w g s → At O1 w m g st → (∀ b, O1 b → ¬ O b) → OkL s → s.gone = false → sizeL s ≤ 900000 → OkT st → Dep A w (fun w' => BvAt w' v L) → (∀ b, A b → ¬ O b ∧ ¬ O1 b) → (∀ y ∈ L, SmallT y.1 ∧ MemI y.1) → L.length ≤ 5 →
    Calls Tryz.prog 11 #[.pointer (some ⟨m, 0, none⟩), .agg #[.int .i64 x.1, .int .i64 x.2], v] w (SaveAns At O O1 w m g st s x (L.map Prod.fst))
section
variable {C : Code10} {O O1 : Nat → Prop} {w w1 : World} {m g : Nat} {st : MemT}
theorem Code10.low (h : C.At O w m g st) (hb : Below w.heap.size w w1) : C.At O w1 m g st := C.keep h (Keeps.of hb)
end
end Go.Proofs.YtnahebfhhcebpaaGreat
end
section
open Go Go.RowKit
namespace TT
open SS RR WW BB FF
def lgE : Lg := ⟨⟨#[]⟩, ⟨#[]⟩, -1, false⟩
theorem inv_lgE : InvS lgE [] ([] : List ByteArray).length := ⟨by show (⟨#[]⟩ : ByteArray) ++ (⟨#[]⟩ : ByteArray) = encL []; rw [SS.app_nil]; rfl, rfl, Nat.le_refl _, fun _ h => (by cases h)⟩
/-- a log of which all is synced -/
theorem inv_whole {s : Lg} {all : List ByteArray} (h : InvS s all all.length) : s.safe = encL all ∧ s.wait = ⟨#[]⟩ := by
  obtain ⟨h1, h2, _, _⟩ := h
  rw [List.take_length] at h2
  refine ⟨h2, ba_nil ?_⟩
  have := congrArg ByteArray.size h1
  rw [ByteArray.size_append, h2] at this
  omega
theorem split_encL : ∀ (l : List ByteArray), (∀ r ∈ l, fitR r) → splitS (encL l) = (l, (encL l).size)
  | [], _ => by
    have : okR (encL []) = false := by rfl
    rw [split_no this]; rfl
  | r :: l, h => by
    have ih := split_encL l fun x hx => h x (by simp [hx])
    have hr := h r (by simp)
    show splitS (encR r ++ encL l) = _
    rw [split_enc hr, ih]
    have : (encL (r :: l)).size = 4 + r.size + (encL l).size := by show (encR r ++ encL l).size = _; rw [ByteArray.size_append, encR_size]
    rw [this]
theorem recs_whole {s : Lg} {all : List ByteArray} (h : InvS s all all.length) (hg : s.gone = false) : recsL s = all := by
  unfold recsL
  rw [if_neg (by rw [hg]; decide), h.1, split_encL all h.2.2.2]
theorem cut_whole {s : Lg} {all : List ByteArray} (h : InvS s all all.length) : cutL s = s := by
  obtain ⟨h1, h2⟩ := inv_whole h
  have h3 := split_encL all h.2.2.2
  unfold cutL
  simp only
  rw [h.1, h3]
  simp only
  rw [h1, Nat.min_self]
  obtain ⟨sa, wa, f, g⟩ := s
  replace h1 : sa = encL all := h1
  replace h2 : wa = ⟨#[]⟩ := h2
  subst h1 h2
  have e1 : (encL all).extract 0 (encL all).size = encL all := by apply ba_ext; rw [ext_list, List.drop_zero, Nat.sub_zero]; exact List.take_of_length_le (by rw [ba_list]; exact Nat.le_refl _)
  have e2 : (encL all).extract (encL all).size (encL all).size = ⟨#[]⟩ := ba_nil (by rw [ByteArray.size_extract]; omega)
  simp only [e1, e2]
theorem recs_len {s : Lg} : (recsL s).length * 5 ≤ sizeL s := by
  unfold recsL sizeL
  split
  · show 0 * 5 ≤ _; omega
  · have h := split_end _ (s.safe ++ s.wait) (Nat.lt_succ_self _)
    rw [ByteArray.size_append] at h
    exact Nat.le_trans h.2 h.1
theorem ok_lgE : OkL lgE := ⟨by show (-1 : Int) ≤ -1; omega, by show (-1 : Int) ≤ 9223372036854775807; omega⟩
end TT
namespace Go.Proofs.YtnahebfhhcebpaaGreat
open TT SS RR FF JJ CC MM WW BB
/-- a save that the log bears -/
theorem save_fit {C : Code10} {O O1 : Nat → Prop} {w w' : World} {m g : Nat} {st : MemT} {s : Lg} {x : StT} {L : List BlockD} {e : Ending} (h : SaveAns C.At O O1 w m g st s x L e w') (hx : rightS x) (hL : ∀ b ∈ L, blockOk b) (h0 : (putL s (recsOf st.1 x L)).2 = 0) :
    e = .returned (.int .i64 0) ∧ NextT C.At O O1 w m g (upS st.1 x, st.2 ++ L) (putL s (recsOf st.1 x L)).1 w' := by
  unfold SaveAns at h
  rw [if_pos ⟨hx, hL⟩, if_pos h0] at h
  exact ⟨by rw [h.1, h0], h.2⟩
theorem save_lost {C : Code10} {O O1 : Nat → Prop} {w w' : World} {m g : Nat} {st : MemT} {s : Lg} {x : StT} {L : List BlockD} {e : Ending} (h : SaveAns C.At O O1 w m g st s x L e w') (hx : rightS x) (hL : ∀ b ∈ L, blockOk b) (h0 : (putL s (recsOf st.1 x L)).2 = 8) :
    e = .returned (.int .i64 8) ∧ LostT O O1 w g (putL s (recsOf st.1 x L)).1 w' := by
  unfold SaveAns at h
  rw [if_pos ⟨hx, hL⟩, if_neg (by rw [h0]; decide)] at h
  exact ⟨by rw [h.1, h0], h.2⟩
theorem save_form {C : Code10} {O O1 : Nat → Prop} {w w' : World} {m g : Nat} {st : MemT} {s : Lg} {x : StT} {L : List BlockD} {e : Ending} (h : SaveAns C.At O O1 w m g st s x L e w') (hn : ¬ (rightS x ∧ ∀ b ∈ L, blockOk b)) : e = .returned (.int .i64 2) ∧ Below w.heap.size w w' := by
  unfold SaveAns at h
  rw [if_neg hn] at h
  exact h
set_option maxRecDepth 100000 in
set_option maxHeartbeats 4000000 in
theorem awake10_any (C : Code10) (w : World) : Calls Tryz.prog 7 #[] w fun e w' => e = .returned (.bool true) ∧ Below w.heap.size w w' := by
  have HP := Lib.hid (put_inv inv_lgE (rs := recsOf (0, 0) (1, 0) []) (recs_fit fun _ h => (by cases h)) rfl)
  have HR := Lib.hid (recs_whole inv_lgE rfl)
  have HC := Lib.hid (cut_whole inv_lgE)
  go_enter Tryz.func7, Tryz.ntmps7
  go_wp2_with fail
  refine (new9 w).mono ?_
  rintro e w1 ⟨g, O, rfl, hA, hO, hb⟩
  have HA := Lib.hid (show At9 O w1 g lgE from hA)
  have HO := Lib.hid hO
  have HB := Lib.hid hb
  clear hA hO hb
  go_wp2_with fail
  refine (C.open_ O w1 g lgE HA.out ok_lgE (by show 0 + 0 ≤ 1000000; omega) (by rw [HR.out]; exact Nat.zero_le _) rfl).mono ?_
  rintro e w2 ⟨m, O', O1, rfl, hA, hM, hk, hO', hO1⟩
  rw [HC.out] at hA
  rw [HR.out] at hM
  have HA2 := Lib.hid hA
  have HM2 := Lib.hid (show C.At O1 w2 m g ((0, 0), []) from hM)
  have HO2 := Lib.hid (show ∀ b, O' b → w.heap.size ≤ b from fun b h => (hO' b h).elim (HO.out b) fun h => Nat.le_trans HB.out.size h)
  have HO3 := Lib.hid (show ∀ b, O1 b → w.heap.size ≤ b ∧ ¬ O' b from fun b h => ⟨Nat.le_trans HB.out.size (hO1 b h).1, (hO1 b h).2⟩)
  have HB2 := Lib.hid (show Below w.heap.size w w2 from HB.out.trans (SS.Keeps.low9 hk (fun b hl ho => absurd (HO.out b ho) (by omega)) HB.out.size))
  clear hA hM hk hO' hO1
  go_wp2_with fail
  refine (C.save O' O1 (fun _ => False) w2 m g ((0, 0), []) lgE (1, 0) (.slice none 0 0) [] HA2.out HM2.out (fun b h => (HO3.out b h).2) ok_lgE rfl (by show 0 + 0 ≤ 900000; omega) ok_none (fun _ _ => ⟨none, 0, rfl, Or.inl rfl⟩) (fun _ h => h.elim) (fun _ h => (by cases h)) (Nat.zero_le _)).mono ?_
  intro e w3 hs
  have hput : (putL lgE (recsOf (0, 0) (1, 0) [])).2 = 0 := by
    rcases HP.out with h | h
    · exact h.1
    · exact absurd rfl h.2.1
  obtain ⟨rfl, O4, O5, hA, hM, hk, h4, h5⟩ := save_fit hs ⟨by show (0 : Int) ≤ 1; omega, by show (1 : Int) ≤ 1000000; omega, by show (0 : Int) ≤ 0; omega, by show (0 : Int) ≤ 1000000; omega⟩ (fun _ h => (by cases h)) hput
  have HM3 := Lib.hid (show C.At O5 w3 m g ((1, 0), []) from hM)
  have HB3 := Lib.hid (show Below w.heap.size w w3 from HB2.out.trans (SS.Keeps.low9 hk (fun b hl => ⟨fun h => absurd (HO2.out b h) (by omega), fun h => absurd (HO3.out b h).1 (by omega)⟩) HB2.out.size))
  clear hs hput hA hM hk h4 h5
  go_wp2_with fail
  refine (C.state O5 w3 m g ((1, 0), []) HM3.out ⟨⟨by show (0 : Int) ≤ 1; omega, by show (1 : Int) ≤ 1000000; omega, by show (0 : Int) ≤ 0; omega, by show (0 : Int) ≤ 1000000; omega⟩, fun _ h => (by cases h), Nat.zero_le _⟩).mono ?_
  rintro e w4 ⟨rfl, hb4⟩
  have HB4 := Lib.hid (HB3.out.trans (hb4.mono HB3.out.size))
  have hfd : ∀ w, (Instr.field 33 (.agg #[.int .i64 1, .int .i64 0]) 0).run Tryz.prog w = .ok (.int .i64 1) w := fun w => by kernel_rfl
  clear hb4
  go_wp2_with fail
  go_ret
  exact ⟨rfl, HB4.out⟩
set_option maxRecDepth 100000 in
set_option maxHeartbeats 8000000 in
theorem lawD10 (C : Code10) (a b v p cv : Int) (k : ByteArray) (sv rv : Value) (l : List (Int × List ByteArray)) (m : List (Int × Int × ByteArray)) (w : World) (hv : SigsAt w sv l) (hr : ReqsAt w rv m) (hn : MemS l) (hk : k.size ≤ 9223372036854775807) (hm : m.length ≤ 9223372036854775807) :
    Calls Tryz.prog 4 #[.agg #[.int .i64 a, .int .i64 b], .agg #[.int .i64 v, .int .i64 p, .int .i64 cv, .string k, sv, rv]] w fun e w' => e = .returned (.bool true) ∧ Below w.heap.size w w' := by
  have HF := Lib.hid (fun wx (hb : Below w.heap.size w wx) => fewblock_any v p cv k sv rv l m wx (hv.later hb) (hr.later hb) hn hk hm)
  have HV := Lib.hid hv
  have HRR := Lib.hid hr
  obtain ⟨ff, hff⟩ : ∃ ff, fewBlock k l m = ff := ⟨_, rfl⟩
  have HFF := Lib.hid hff
  have HF := HF.out
  simp only [hff] at HF
  have HF := Lib.hid HF
  obtain ⟨a0, cap, rfl, _⟩ := hv
  obtain ⟨a1, cap1, rfl, _⟩ := hr
  clear hn hk hm hff
  have X0 := Lib.hid (((Below.refl w.heap.size w).alloc (Nat.le_refl _) (.cells #[.int .i64 a, .int .i64 b] 33)).alloc (by simp) (.cells #[.int .i64 v, .int .i64 p, .int .i64 cv, .string k, .slice a0 l.length cap, .slice a1 m.length cap1] 47))
  have Q0 := Lib.hid (show Blk ((w.alloc (.cells #[.int .i64 a, .int .i64 b] 33)).alloc (.cells #[.int .i64 v, .int .i64 p, .int .i64 cv, .string k, .slice a0 l.length cap, .slice a1 m.length cap1] 47)) w.heap.size 2 (rowL [.int .i64 a, .int .i64 b]) from (Blk.new' rfl (row2_ _ _)).alloc _)
  have R0 := Lib.hid (show Blk ((w.alloc (.cells #[.int .i64 a, .int .i64 b] 33)).alloc (.cells #[.int .i64 v, .int .i64 p, .int .i64 cv, .string k, .slice a0 l.length cap, .slice a1 m.length cap1] 47)) (w.heap.size + 1) 6 (rowL [.int .i64 v, .int .i64 p, .int .i64 cv, .string k, .slice a0 l.length cap, .slice a1 m.length cap1]) from Blk.new' (by simp) (row6_ _ _ _ _ _ _))
  obtain ⟨w0, hw0⟩ : ∃ w0, (w.alloc (.cells #[.int .i64 a, .int .i64 b] 33)).alloc (.cells #[.int .i64 v, .int .i64 p, .int .i64 cv, .string k, .slice a0 l.length cap, .slice a1 m.length cap1] 47) = w0 := ⟨_, rfl⟩
  have HW0 := Lib.hid hw0
  rw [hw0] at X0 Q0 R0
  clear hw0
  go_enter Tryz.func4, Tryz.ntmps4
  go_upto_region 1 with fail
  rw [HW0.out]
  go_wp2_with fail
  refine (awake10_any C w0).mono ?_
  rintro e w1 ⟨rfl, hb1⟩
  have X1 := Lib.hid (X0.out.trans (hb1.mono X0.out.size))
  have Q1 := Lib.hid (Q0.out.below hb1 Q0.out.lt)
  have R1 := Lib.hid (R0.out.below hb1 R0.out.lt)
  obtain ⟨d0, d1, d2, d3, d4, d5⟩ := cells6 R1.out
  clear hb1
  go_wp2_with fail
  refine (HF.out w1 X1.out).mono ?_
  rintro e w2 ⟨rfl, hb2⟩
  have X2 := Lib.hid (X1.out.trans (hb2.mono X1.out.size))
  have Q2 := Lib.hid (Q1.out.below hb2 Q1.out.lt)
  have R2 := Lib.hid (R1.out.below hb2 R1.out.lt)
  clear hb2 d0 d1 d2 d3 d4 d5
  cases ff
  · go_wp2_with fail
    refine (awake10_any C w2).mono ?_
    rintro e w3 ⟨rfl, hb3⟩
    have X3 := Lib.hid (X2.out.trans (hb3.mono X2.out.size))
    clear hb3
    go_wp2_with fail
    go_ret
    exact ⟨rfl, X3.out⟩
  · have HSM := Lib.hid (few_smallB HFF.out)
    have HSD := Lib.hid (show SmallD (((v, p), ((cv, k), l)), m) from ⟨by have := HSM.out.1; show k.size ≤ 1000000; omega, HSM.out.2.1, HSM.out.2.2.1⟩)
    have HCB := Lib.hid (fun wx (hb : Below w.heap.size w wx) => show Calls Tryz.prog 19 #[.agg #[.int .i64 v, .int .i64 p, .int .i64 cv, .string k, .slice a0 l.length cap, .slice a1 m.length cap1]] wx (fun e w' => e = .returned (.string (rcB (((v, p), ((cv, k), l)), m))) ∧ Below wx.heap.size wx w') from C.blockRecord ((((v, p), ((cv, k), l)), m), .slice a0 l.length cap, .slice a1 m.length cap1) wx ⟨HV.out.later hb, HRR.out.later hb⟩ HSD.out)
    have HRB := Lib.hid (fun wx (hb : Below w.heap.size w wx) => show Calls Tryz.prog 20 #[.agg #[.int .i64 v, .int .i64 p, .int .i64 cv, .string k, .slice a0 l.length cap, .slice a1 m.length cap1]] wx (fun e w' => e = .returned (.string (rcB (((v, p), ((cv, k), l)), m))) ∧ Below wx.heap.size wx w') from rblockrec_any ((((v, p), ((cv, k), l)), m), .slice a0 l.length cap, .slice a1 m.length cap1) wx ⟨HV.out.later hb, HRR.out.later hb⟩ HSD.out)
    obtain ⟨T1, hT1⟩ : ∃ T1, rcS (a, b) = T1 := ⟨_, rfl⟩
    obtain ⟨T2, hT2⟩ : ∃ T2, rcB (((v, p), ((cv, k), l)), m) = T2 := ⟨_, rfl⟩
    have HCS := Lib.hid (C.record a b)
    have HRS := Lib.hid (rrec_any a b)
    rw [hT1] at HCS HRS
    simp only [hT2] at HCB HRB
    have t1 : (T1.toList == T1.toList) = true := by simp
    have t2 : (T2.toList == T2.toList) = true := by simp
    clear hT1 hT2
    go_upto_region 3 with fail
    refine plan_abs (fun wx => Below w2.heap.size w2 wx) [(true, 0), (true, 2), (false, 1), (false, 3), (true, 4), (true, 5), (true, 6), (true, 8), (false, 7), (false, 9), (true, 10), (true, 11), (true, 12)] (by kernel_rfl) (by kernel_rfl) (fun _ _ d _ _ h => by cases d <;> exact h) fun w5 hs5 => ⟨hs5.below _, ?_⟩
    have B5 := Lib.hid (show Below w2.heap.size w2 w5 from hs5.below _)
    have HCE := Lib.hid (fun wx (hb : Below w2.heap.size w2 wx) => And.intro (cells2 (Q2.out.below hb Q2.out.lt)) (cells6 (R2.out.below hb R2.out.lt)))
    clear hs5
    iterate 2 (refine pl_run _ ?_ rfl rfl ?_ ?_; rotate_left; (focus (intro w' hS; obtain ⟨⟨c0, c1⟩, d0, d1, d2, d3, d4, d5⟩ := HCE.out w' hS; go_simp; exact rfl)); simp only [Act.put, List.setIfInBounds_toArray, List.set_cons_zero, List.set_cons_succ, List.getElem_toArray, List.getElem_cons_zero, List.getElem_cons_succ])
    refine pl_call1 (v := .string T1) (R := fun w' => Below w5.heap.size w5 w') _ rfl rfl (by go_simp) (HCS.out w5) (fun w' h => B5.out.trans (h.mono B5.out.size)) fun w6 h6 => ?_
    have B6 := Lib.hid (B5.out.trans (h6.mono B5.out.size))
    clear h6
    simp only [Act.put, List.setIfInBounds_toArray, List.set_cons_zero, List.set_cons_succ, List.getElem_toArray, List.getElem_cons_zero, List.getElem_cons_succ]
    refine pl_call1 (v := .string T1) (R := fun w' => Below w6.heap.size w6 w') _ rfl rfl (by go_simp) (HRS.out w6) (fun w' h => B6.out.trans (h.mono B6.out.size)) fun w7 h7 => ?_
    have B7 := Lib.hid (B6.out.trans (h7.mono B6.out.size))
    clear h7
    simp only [Act.put, List.setIfInBounds_toArray, List.set_cons_zero, List.set_cons_succ, List.getElem_toArray, List.getElem_cons_zero, List.getElem_cons_succ]
    iterate 4 (refine pl_run _ ?_ rfl rfl ?_ ?_; rotate_left; (focus (intro w' hS; obtain ⟨⟨c0, c1⟩, d0, d1, d2, d3, d4, d5⟩ := HCE.out w' hS; go_simp; exact rfl)); simp only [Act.put, List.setIfInBounds_toArray, List.set_cons_zero, List.set_cons_succ, List.getElem_toArray, List.getElem_cons_zero, List.getElem_cons_succ])
    refine pl_call1 (v := .string T2) (R := fun w' => Below w7.heap.size w7 w') _ rfl rfl (by go_simp) (HCB.out w7 (X2.out.trans (B7.out.mono X2.out.size))) (fun w' h => B7.out.trans (h.mono B7.out.size)) fun w8 h8 => ?_
    have B8 := Lib.hid (B7.out.trans (h8.mono B7.out.size))
    clear h8
    simp only [Act.put, List.setIfInBounds_toArray, List.set_cons_zero, List.set_cons_succ, List.getElem_toArray, List.getElem_cons_zero, List.getElem_cons_succ]
    refine pl_call1 (v := .string T2) (R := fun w' => Below w8.heap.size w8 w') _ rfl rfl (by go_simp) (HRB.out w8 (X2.out.trans (B8.out.mono X2.out.size))) (fun w' h => B8.out.trans (h.mono B8.out.size)) fun w9 h9 => ?_
    have B9 := Lib.hid (B8.out.trans (h9.mono B8.out.size))
    clear h9
    simp only [Act.put, List.setIfInBounds_toArray, List.set_cons_zero, List.set_cons_succ, List.getElem_toArray, List.getElem_cons_zero, List.getElem_cons_succ]
    iterate 3 (refine pl_run _ ?_ rfl rfl ?_ ?_; rotate_left; (focus (intro w' hS; go_simp; exact rfl)); simp only [Act.put, List.setIfInBounds_toArray, List.set_cons_zero, List.set_cons_succ, List.getElem_toArray, List.getElem_cons_zero, List.getElem_cons_succ])
    refine pl_end ?_
    go_wp2_with fail
    go_ret
    exact ⟨rfl, X2.out.trans (B9.out.mono X2.out.size)⟩
end Go.Proofs.YtnahebfhhcebpaaGreat
end
section
open Go Go.RowKit
namespace TT
open SS RR WW BB FF
theorem ok_small {b : BlockD} (h : blockOk b) : SmallD b := by
  obtain ⟨h1, h2, h3, _⟩ := right_smallB h
  exact ⟨by have h3 : (parI b).size = 32 := h3; omega, h1, h2⟩
theorem small_all {L : List Bv} {bl : List BlockD} (h : L.map Prod.fst = bl) (k : ∀ b ∈ bl, blockOk b) : ∀ x ∈ L, SmallD x.1 := fun x hx => ok_small (k x.1 (by rw [← h]; exact List.mem_map.2 ⟨x, hx, rfl⟩))
theorem texts_same {L M : List Bv} (h : L.map Prod.fst = M.map Prod.fst) : textsB L = textsB M := by
  have e : ∀ X : List Bv, textsB X = (X.map Prod.fst).map blockD := fun X => by unfold textsB; rw [List.map_map]; rfl
  rw [e, e, h]
theorem enc_len {l : List ByteArray} (h : ∀ r ∈ l, r.size ≤ 300) : (encL l).size ≤ 304 * l.length := by
  induction l with
  | nil => show 0 ≤ _; omega
  | cons r l ih =>
    have h1 := ih fun x hx => h x (by simp [hx])
    have h2 := h r (by simp)
    show (encR r ++ encL l).size ≤ 304 * (l.length + 1)
    rw [ByteArray.size_append, encR_size]; omega
end TT
namespace Go.Proofs.YtnahebfhhcebpaaGreat
open TT SS RR FF JJ CC MM WW BB
end Go.Proofs.YtnahebfhhcebpaaGreat
end
section
open Go Go.RowKit
namespace TT
open SS RR WW BB FF
/-- what is known of a log behind i saves: all is synced, and is remembered -/
structure LogI (s : Lg) (all : List ByteArray) (st : MemT) (i : Nat) : Prop where
  inv : InvS s all all.length
  gone : s.gone = false
  ok : OkL s
  size : sizeL s ≤ 28028 * i
  rec_ : recallL all ((0, 0), []) = st
  good : GoodL all
  right : rightS st.1
  blocks : ∀ b ∈ st.2, blockOk b
  len : st.2.length ≤ 5 * i
  alen : all.length ≤ 6 * i
theorem logI_start : LogI lgE [] ((0, 0), []) 0 := ⟨inv_lgE, rfl, ok_lgE, Nat.le_refl _, rfl, fun _ h => (by cases h), ok_none.1, fun _ h => (by cases h), Nat.le_refl _, Nat.le_refl _⟩
section
variable {s : Lg} {all : List ByteArray} {st x : StT × List BlockD} {i : Nat}
theorem LogI.okT (h : LogI s all st i) (hi : i ≤ 40) : OkT st := ⟨h.right, h.blocks, by have := h.len; omega⟩
theorem LogI.sz (h : LogI s all st i) (hi : i ≤ 30) : sizeL s ≤ 900000 := Nat.le_trans h.size (by have : 28028 * i ≤ 28028 * 30 := Nat.mul_le_mul_left _ hi; omega)
theorem LogI.recs (h : LogI s all st i) : recsL s = all := recs_whole h.inv h.gone
theorem LogI.cut (h : LogI s all st i) : cutL s = s := cut_whole h.inv
theorem LogI.more (h : LogI s all st i) : LogI s all st (i + 1) :=
  ⟨h.inv, h.gone, h.ok, Nat.le_trans h.size (Nat.mul_le_mul_left _ (Nat.le_succ _)), h.rec_, h.good, h.right, h.blocks, by have := h.len; omega, by have := h.alen; omega⟩
end
theorem recs_length {st x : StT} {L : List BlockD} (h : L.length ≤ 5) : (recsOf st x L).length ≤ 6 := by
  unfold recsOf
  rw [List.length_append, List.length_map]
  split
  · show L.length + 0 ≤ 6; omega
  · show L.length + 1 ≤ 6; omega
theorem sz28 {A B n i : Nat} (h : B ≤ A + 4004 * (n + 1)) (hn : n ≤ 6) (hA : A ≤ 28028 * i) : B ≤ 28028 * (i + 1) := by
  have h1 : 4004 * (n + 1) ≤ 4004 * 7 := Nat.mul_le_mul_left _ (by omega)
  have h2 : 28028 * (i + 1) = 28028 * i + 28028 := Nat.mul_succ _ _
  have h3 : B ≤ A + 28028 := Nat.le_trans h (Nat.add_le_add_left h1 _)
  rw [h2]
  exact Nat.le_trans h3 (Nat.add_le_add_right hA _)
/-- behind a save that is done, or one at which the power goes -/
theorem logI_save {s : Lg} {all : List ByteArray} {st : MemT} {i : Nat} (h : LogI s all st i) {x : StT} {L : List BlockD} (hx : rightS x) (hL : ∀ b ∈ L, blockOk b) (hl : L.length ≤ 5) :
    ((putL s (recsOf st.1 x L)).2 = 0 ∧ LogI (putL s (recsOf st.1 x L)).1 (all ++ recsOf st.1 x L) (upS st.1 x, st.2 ++ L) (i + 1) ∧ (s.fuse = -1 → (putL s (recsOf st.1 x L)).1.fuse = -1)) ∨
    ((putL s (recsOf st.1 x L)).2 = 8 ∧ s.fuse ≠ -1 ∧ OkL (putL s (recsOf st.1 x L)).1 ∧ sizeL (putL s (recsOf st.1 x L)).1 ≤ 28028 * (i + 1) ∧ ∃ k, k ≤ (recsOf st.1 x L).length ∧ InvS (putL s (recsOf st.1 x L)).1 (all ++ (recsOf st.1 x L).take k) all.length) := by
  have hsz := sz28 (putL_size s (recsOf st.1 x L)) (recs_length hl) h.size
  have hok := putL_ok h.ok (recsOf st.1 x L)
  rcases put_inv h.inv (recs_fit (st := st.1) (x := x) hL) h.gone with ⟨e, h1, h2, h3⟩ | ⟨e, h1, h2⟩
  · refine .inl ⟨e, ⟨h1, h2, hok, hsz, ?_, h.good.append (recs_good hx hL), up_right h.right hx, fun b hb => (List.mem_append.1 hb).elim (h.blocks b) (hL b), ?_, ?_⟩, h3⟩
    · rw [recall_append _ _ _ h.good, h.rec_]
      exact recall_recs st.2 hx hL
    · show (st.2 ++ L).length ≤ _
      rw [List.length_append]; have := h.len; omega
    · rw [List.length_append]; have := h.alen; have := recs_length (st := st.1) (x := x) hl; omega
  · exact .inr ⟨e, h1, hok, hsz, h2⟩
/-- what Few says of a save -/
theorem few_op {l : List Op10} {n : Int} (h : (l.length : Int) ≤ n ∧ ∀ i, i < l.length → i < 100 → FewO (l.getD i op10)) (hn : n ≤ 30) (hm : MemsT l) {i : Nat} (hi : i < l.length) : (l.getD i op10).L.length ≤ 5 ∧ (∀ y ∈ (l.getD i op10).L, SmallT y.1 ∧ MemI y.1) ∧ MemT10 (l.getD i op10) := by
  have h1 := h.2 i hi (by omega)
  have h2 := hm.2 (l.getD i op10) (by rw [getD_at hi]; exact List.getElem_mem hi)
  exact ⟨h1.1, fun y hy => ⟨few_smallT (h1.2 y hy), h2.1 y hy⟩, h2⟩
end TT
namespace Go.Proofs.YtnahebfhhcebpaaGreat
open TT SS RR FF JJ CC MM WW BB
/-- a memory and its log, in blocks that lay not in W -/
def Play (C : Code10) (W w : World) (m g : Nat) (st : MemT) (s : Lg) : Prop :=
  ∃ O O1, At9 O w g s ∧ C.At O1 w m g st ∧ (∀ b, O b → W.heap.size ≤ b) ∧ (∀ b, O1 b → W.heap.size ≤ b ∧ ¬ O b) ∧ Below W.heap.size W w
theorem Play.low {C : Code10} {W w w' : World} {m g : Nat} {st : MemT} {s : Lg} (h : Play C W w m g st s) (hb : Below w.heap.size w w') : Play C W w' m g st s := by
  obtain ⟨O, O1, h1, h2, h3, h4, h5⟩ := h
  exact ⟨O, O1, at9_keep h1 (Keeps.of hb), C.keep h2 (Keeps.of hb), h3, h4, h5.trans (hb.mono h5.size)⟩
theorem NextT.play {C : Code10} {O O1 : Nat → Prop} {W w w' : World} {m g : Nat} {st : MemT} {s : Lg} (h : NextT C.At O O1 w m g st s w') (hO : ∀ b, O b → W.heap.size ≤ b) (hO1 : ∀ b, O1 b → W.heap.size ≤ b ∧ ¬ O b) (hb : Below W.heap.size W w) : Play C W w' m g st s := by
  obtain ⟨O', O1', h1, h2, h3, h4, h5⟩ := h
  exact ⟨O', O1', h1, h2, fun b h => (h4 b h).elim (hO b) fun h => Nat.le_trans hb.size h, fun b h => ⟨(h5 b h).1.elim (fun h => (hO1 b h).1) fun h => Nat.le_trans hb.size h, (h5 b h).2⟩,
    hb.trans (SS.Keeps.low9 h3 (fun b hl => ⟨fun h => absurd (hO b h) (by omega), fun h => absurd (hO1 b h).1 (by omega)⟩) hb.size)⟩
/-- one save, of a log without a fuse -/
theorem play_save {C : Code10} {W w : World} {m g : Nat} {st : MemT} {s : Lg} {all : List ByteArray} {i : Nat} (h : Play C W w m g st s) (hl : LogI s all st i) (hf : s.fuse = -1) (hi : i ≤ 30) (x : StT) (v : Value) (L : List Bv) (hv : ∀ w', Below W.heap.size W w' → BvAt w' v L) (hs : ∀ y ∈ L, SmallT y.1 ∧ MemI y.1) (h5 : L.length ≤ 5) :
    Calls Tryz.prog 11 #[.pointer (some ⟨m, 0, none⟩), .agg #[.int .i64 x.1, .int .i64 x.2], v] w fun e w' => Below W.heap.size W w' ∧
      ((e = .returned (.int .i64 0) ∧ rightS x ∧ (∀ y ∈ L, blockOk y.1) ∧ ∃ s' all', Play C W w' m g (upS st.1 x, st.2 ++ L.map Prod.fst) s' ∧ LogI s' all' (upS st.1 x, st.2 ++ L.map Prod.fst) (i + 1) ∧ s'.fuse = -1) ∨
       (e = .returned (.int .i64 2) ∧ ¬ (rightS x ∧ ∀ y ∈ L, blockOk y.1) ∧ Play C W w' m g st s)) := by
  obtain ⟨O, O1, h1, h2, h3, h4, hb⟩ := h
  refine (C.save O O1 (fun b => b < W.heap.size) w m g st s x v L h1 h2 (fun b h => (h4 b h).2) hl.ok hl.gone (hl.sz hi) (hl.okT (by omega)) (fun w' hk => hv w' (hb.trans (SS.Keeps.low9 hk (fun b h => h) hb.size))) (fun b h => ⟨fun k => absurd (h3 b k) (by omega), fun k => absurd (h4 b k).1 (by omega)⟩) hs h5).mono ?_
  intro e w' ha
  by_cases hr : rightS x ∧ ∀ y ∈ L, blockOk y.1
  · obtain ⟨hx, hL⟩ := hr
    have hL' : ∀ b ∈ L.map Prod.fst, blockOk b := fun b hb => by obtain ⟨y, hy, rfl⟩ := List.mem_map.1 hb; exact hL y hy
    rcases logI_save hl (x := x) (L := L.map Prod.fst) hx hL' (by rw [List.length_map]; exact h5) with ⟨e0, k1, k2⟩ | ⟨_, k1, _⟩
    · obtain ⟨rfl, hn⟩ := save_fit ha hx hL' e0
      have hp := NextT.play hn h3 h4 hb
      refine ⟨?_, .inl ⟨rfl, hx, hL, _, _, hp, k1, k2 hf⟩⟩
      obtain ⟨_, _, _, _, _, _, h⟩ := hp
      exact h
    · exact absurd hf k1
  · have hn : ¬ (rightS x ∧ ∀ b ∈ L.map Prod.fst, blockOk b) := fun k => hr ⟨k.1, fun y hy => k.2 y.1 (List.mem_map.2 ⟨y, hy, rfl⟩)⟩
    obtain ⟨rfl, hw⟩ := save_form ha hn
    exact ⟨hb.trans (hw.mono hb.size), .inr ⟨rfl, hr, Play.low ⟨O, O1, h1, h2, h3, h4, hb⟩ hw⟩⟩
end Go.Proofs.YtnahebfhhcebpaaGreat
end
section
open Go Go.RowKit
namespace Go.Proofs.YtnahebfhhcebpaaGreat
open TT SS RR FF JJ CC MM WW BB
set_option maxRecDepth 100000 in
set_option maxHeartbeats 16000000 in
theorem lawT10 (C : Code10) (l : List Op10) (v : Value) (w : World) (hv : OpsT w v l) (hm : MemsT l) :
    Calls Tryz.prog 3 #[v] w fun e w' => e = .returned (.bool true) ∧ Below w.heap.size w w' := by
  have HV := Lib.hid hv
  have HM := Lib.hid hm
  obtain ⟨a0, cap, rfl, _⟩ := hv
  clear hm
  go_enter Tryz.func3, Tryz.ntmps3
  go_wp2_with fail
  refine (awake10_any C w).mono ?_
  rintro e w1 ⟨rfl, hb1⟩
  have X1 := Lib.hid hb1
  clear hb1
  go_wp2_with fail
  refine (few10_any l _ 20 w1 (by obtain ⟨a, c, e, h⟩ := HV.out; exact ⟨a, c, e, h.imp id fun ⟨b, off, h1, h2, h3⟩ => ⟨b, off, h1, Nat.lt_of_lt_of_le h2 X1.out.size, fun i hi => (h3 i hi).later X1.out h2⟩⟩) HM.out).mono ?_
  rintro e w2 ⟨X, rfl, hX, hb2⟩
  have X2 := Lib.hid (X1.out.trans (hb2.mono X1.out.size))
  have HX := Lib.hid hX
  clear hb2 hX
  cases X
  · go_wp2_with fail
    refine (awake10_any C w2).mono ?_
    rintro e w3 ⟨rfl, hb3⟩
    have X3 := Lib.hid (X2.out.trans (hb3.mono X2.out.size))
    clear hb3
    go_wp2_with fail
    go_ret
    exact ⟨rfl, X3.out⟩
  · have HF := Lib.hid (HX.out rfl)
    have HL20 := Lib.hid (show l.length ≤ 20 by have := HF.out.1; omega)
    go_wp2_with fail
    refine (new9 w2).mono ?_
    rintro e w3 ⟨g, O, rfl, hA, hO, hb3⟩
    have HA := Lib.hid (show At9 O w3 g lgE from hA)
    have HO := Lib.hid hO
    have W3 := Lib.hid (show Below w2.heap.size w2 w3 from hb3)
    clear hA hO hb3
    go_wp2_with fail
    refine (C.open_ O w3 g lgE HA.out ok_lgE (by show 0 + 0 ≤ 1000000; omega) (by rw [recs_whole inv_lgE rfl]; exact Nat.zero_le _) rfl).mono ?_
    rintro e w4 ⟨m, O', O1, rfl, hA, hM, hk, hO', hO1⟩
    rw [cut_whole inv_lgE] at hA
    rw [recs_whole inv_lgE rfl] at hM
    have HP := Lib.hid (show Play C w w4 m g ((0, 0), []) lgE from ⟨O', O1, hA, hM, fun b h => Nat.le_trans X2.out.size ((hO' b h).elim (HO.out b) fun h => Nat.le_trans W3.out.size h), fun b h => ⟨Nat.le_trans X2.out.size (Nat.le_trans W3.out.size (hO1 b h).1), (hO1 b h).2⟩,
      X2.out.trans ((W3.out.trans (SS.Keeps.low9 hk (fun b hl ho => absurd (HO.out b ho) (by omega)) W3.out.size)).mono X2.out.size)⟩)
    clear hA hM hk hO' hO1
    go_wp2_with fail
    go_loopw [6] (fun y wr => ∃ (i : Nat) (s : Lg) (all : List ByteArray) (st : MemT), i ≤ l.length ∧ y = .int .i64 (i : Int) ∧ Play C w wr m g st s ∧ LogI s all st i ∧ s.fuse = -1) (fun y _ => l.length - (intOf y).toNat)
    case atStart => exact ⟨0, lgE, [], ((0, 0), []), Nat.zero_le _, rfl, HP.out, logI_start, rfl⟩
    case round =>
      obtain ⟨i, s, all, st, hi, rfl, hp, hlog, hf⟩ := hrel
      have HPL := Lib.hid hp
      have HLG := Lib.hid hlog
      have HFU := Lib.hid hf
      have HBL := Lib.hid (show Below w.heap.size w wr from by obtain ⟨_, _, _, _, _, _, h⟩ := hp; exact h)
      have i0 : (0 : Int) ≤ (i : Int) := by omega
      have ib : (i : Int) ≤ 20 := by have := HL20.out; omega
      clear hp hlog hf
      by_cases hlt : i < l.length
      · have hlt' : (i : Int) < (l.length : Int) := by omega
        have HLT := Lib.hid hlt
        obtain ⟨tb, toff, rfl, _, _, hat⟩ := opsT_at HV.out i hlt
        obtain ⟨f5, fs, fm⟩ := few_op HF.out (by omega) HM.out hlt
        obtain ⟨P, hP⟩ : ∃ P, l.getD i op10 = P := ⟨_, rfl⟩
        rw [hP] at f5 fs fm
        have HAT := Lib.hid (show ∀ wx, Below w.heap.size w wx → OpT wx tb (toff + i * 7) P from fun wx hb => hP ▸ hat wx hb i hlt)
        have F5 := Lib.hid f5
        have FS := Lib.hid fs
        obtain ⟨pa, pc, hps⟩ := bv_shape (HAT.out w (Below.refl _ _)).2.2.2.2.2.2.2
        have HPS := Lib.hid hps
        have HBV := Lib.hid (show ∀ wx, Below w.heap.size w wx → BvAt wx (.slice pa P.L.length pc) P.L from fun wx hb => hps ▸ (HAT.out wx hb).2.2.2.2.2.2.2)
        have HCE := Lib.hid (show ∀ wx, Below w.heap.size w wx → wx.cell? ⟨tb, toff + i * 7, none⟩ = some (.int .i64 P.s.1) ∧ wx.cell? ⟨tb, toff + i * 7 + 1, none⟩ = some (.int .i64 P.s.2) ∧ wx.cell? ⟨tb, toff + i * 7 + 2, none⟩ = some (.slice pa P.L.length pc) from fun wx hb => by
          obtain ⟨h0, h1, h2, _⟩ := HAT.out wx hb
          exact ⟨h0, h1, by rw [← hps]; exact h2⟩)
        clear hi hlt hat hP hps f5 fs fm
        go_upto_region 8 with fail
        refine plan_abs (fun wx => Below w.heap.size w wx) [(true, 0), (true, 1), (true, 2), (true, 3), (true, 4), (true, 5), (true, 6), (true, 7), (true, 8), (true, 9), (true, 10), (false, 11)] (by kernel_rfl) (by kernel_rfl) (fun _ _ d _ _ h => by cases d <;> exact h) fun w5 hs5 => ⟨HBL.out.trans ((hs5.below _).mono HBL.out.size), ?_⟩
        have P5 := Lib.hid (HPL.out.low (hs5.below _))
        clear hs5
        iterate 11 (refine pl_run _ ?_ rfl rfl ?_ ?_; rotate_left; (focus (intro w' hS; obtain ⟨c0, c1, c2⟩ := HCE.out w' hS; go_simp; exact rfl)); simp only [Act.put, List.setIfInBounds_toArray, List.set_cons_zero, List.set_cons_succ, List.getElem_toArray, List.getElem_cons_zero, List.getElem_cons_succ])
        refine pl_call (R := fun u w' => Below w.heap.size w w' ∧ ∃ (s' : Lg) (all' : List ByteArray) (st' : MemT) (z : Int), u = .int .i64 z ∧ Play C w w' m g st' s' ∧ LogI s' all' st' (i + 1) ∧ s'.fuse = -1) _ rfl rfl (by go_simp) ((play_save P5.out HLG.out HFU.out (by omega) P.s _ P.L HBV.out FS.out F5.out).mono fun e w' h => ?_) (fun u w' h => h.1) fun u w6 h6 => ?_
        · obtain ⟨hw, ⟨rfl, _, _, s', all', h1, h2, h3⟩ | ⟨rfl, _, h1⟩⟩ := h
          · exact ⟨_, rfl, hw, s', all', _, 0, rfl, h1, h2, h3⟩
          · exact ⟨_, rfl, hw, s, all, st, 2, rfl, h1, HLG.out.more, HFU.out⟩
        obtain ⟨_, s', all', st', z, rfl, h1, h2, h3⟩ := h6
        have H6 := Lib.hid (And.intro h1 (And.intro h2 h3))
        clear h1 h2 h3
        simp only [Act.put, List.setIfInBounds_toArray, List.set_cons_zero, List.set_cons_succ, List.getElem_toArray, List.getElem_cons_zero, List.getElem_cons_succ]
        refine pl_end ?_
        go_wp2_with fail
        go_roundw
        case rel => exact ⟨i + 1, s', all', st', by have := HLT.out; omega, by go_num, H6.out.1, H6.out.2.1, H6.out.2.2⟩
        case measure => have := HLT.out; simp [intOf]; omega
      · obtain rfl : i = l.length := by omega
        have hlt' : ¬ ((l.length : Nat) : Int) < ((l.length : Nat) : Int) := by omega
        obtain ⟨O2, O3, h1, h2, h3, h4, _⟩ := HPL.out
        have HA2 := Lib.hid h1
        have HM2 := Lib.hid h2
        have HO2 := Lib.hid h3
        have HO3 := Lib.hid h4
        have HOK := Lib.hid (HLG.out.okT (by have := HL20.out; omega))
        have HRC := Lib.hid HLG.out.recs
        have HCT := Lib.hid HLG.out.cut
        have HSZ := Lib.hid (HLG.out.sz (by have := HL20.out; omega))
        have HAL := Lib.hid (show all.length ≤ 1000 by have := HLG.out.alen; have := HL20.out; omega)
        clear hi hlt h1 h2 h3 h4
        go_wp2_with fail
        refine (C.open_ O2 wr g s HA2.out HLG.out.ok (by have := HSZ.out; omega) (by rw [HRC.out]; exact HAL.out) HLG.out.gone).mono ?_
        rintro e w5 ⟨ma, Oa, Oa1, rfl, hA, hM, hk, hO', hO1⟩
        rw [HCT.out] at hA
        rw [HRC.out, HLG.out.rec_] at hM
        have HA5 := Lib.hid hA
        have HMA5 := Lib.hid hM
        have HM5 := Lib.hid (C.keep HM2.out (hk.sub fun b h _ => (HO3.out b h).2))
        have HOa := Lib.hid (show ∀ b, Oa b → w.heap.size ≤ b from fun b h => (hO' b h).elim (HO2.out b) fun h => Nat.le_trans HBL.out.size h)
        have HOa1 := Lib.hid (show ∀ b, Oa1 b → ¬ Oa b from fun b h => (hO1 b h).2)
        have HO3a := Lib.hid (show ∀ b, O3 b → ¬ Oa b from fun b h k => (hO' b k).elim (HO3.out b h).2 fun k => by have := C.lt HM2.out b h; omega)
        have HB5 := Lib.hid (show Below w.heap.size w w5 from HBL.out.trans (SS.Keeps.low9 hk (fun b hl ho => absurd (HO2.out b ho) (by omega)) HBL.out.size))
        clear hA hM hk hO' hO1
        go_wp2_with fail
        refine (len9 Oa w5 g s HA5.out).mono ?_
        rintro e w6 ⟨rfl, hb6⟩
        have HA6 := Lib.hid (at9_keep HA5.out (Keeps.of hb6))
        have HMA6 := Lib.hid (C.low HMA5.out hb6)
        have HM6 := Lib.hid (C.low HM5.out hb6)
        have HB6 := Lib.hid (HB5.out.trans (hb6.mono HB5.out.size))
        obtain ⟨Z, hZ⟩ : ∃ Z, sizeL s = Z := ⟨_, rfl⟩
        have HZ := Lib.hid hZ
        rw [hZ]
        clear hb6 hZ
        go_wp2_with fail
        refine (C.open_ Oa w6 g s HA6.out HLG.out.ok (by have := HSZ.out; omega) (by rw [HRC.out]; exact HAL.out) HLG.out.gone).mono ?_
        rintro e w7 ⟨mb, Ob, Ob1, rfl, hA, hM, hk, hO', hO1⟩
        rw [HCT.out] at hA
        rw [HRC.out, HLG.out.rec_] at hM
        have HA7 := Lib.hid hA
        have HMB7 := Lib.hid hM
        have HMA7 := Lib.hid (C.keep HMA6.out (hk.sub fun b h _ => HOa1.out b h))
        have HM7 := Lib.hid (C.keep HM6.out (hk.sub fun b h _ => HO3a.out b h))
        have HB7 := Lib.hid (show Below w.heap.size w w7 from HB6.out.trans (SS.Keeps.low9 hk (fun b hl ho => absurd (HOa.out b ho) (by omega)) HB6.out.size))
        clear hA hM hk hO' hO1
        obtain ⟨⟨s1, s2⟩, bl⟩ := st
        go_wp2_with fail
        refine (C.state Oa1 w7 ma g _ HMA7.out HOK.out).mono ?_
        rintro e w8 ⟨rfl, hb8⟩
        have X8 := Lib.hid hb8
        clear hb8
        simp only
        go_wp2_with fail
        refine (C.state Ob1 w8 mb g _ (C.low HMB7.out X8.out) HOK.out).mono ?_
        rintro e w9 ⟨rfl, hb9⟩
        have X9 := Lib.hid (X8.out.trans (hb9.mono X8.out.size))
        clear hb9
        simp only
        go_wp2_with fail
        refine (C.blocks Oa1 w9 ma g _ (C.low HMA7.out X9.out) HOK.out).mono ?_
        rintro e w10 ⟨u1, L1, rfl, hm1, hd1, hb10⟩
        have X10 := Lib.hid (X9.out.trans (hb10.mono X9.out.size))
        have HM1 := Lib.hid (show L1.map Prod.fst = bl from hm1)
        have HD1 := Lib.hid hd1.now
        clear hm1 hd1 hb10
        go_wp2_with fail
        refine (C.blocks Ob1 w10 mb g _ (C.low HMB7.out X10.out) HOK.out).mono ?_
        rintro e w11 ⟨u2, L2, rfl, hm2, hd2, hb11⟩
        have X11 := Lib.hid (X10.out.trans (hb11.mono X10.out.size))
        have HM2' := Lib.hid (show L2.map Prod.fst = bl from hm2)
        have HD2 := Lib.hid hd2.now
        have HD1' := Lib.hid (HD1.out.later hb11)
        clear hm2 hd2 hb11
        go_wp2_with fail
        refine (rsame10_any L1 L2 u1 u2 w11 HD1'.out HD2.out (small_all HM1.out HOK.out.2.1) (small_all HM2'.out HOK.out.2.1) (by have h := congrArg List.length HM1.out; rw [List.length_map] at h; have := HOK.out.2.2; simp only at this; omega)).mono ?_
        rintro e w12 ⟨rfl, hb12⟩
        have X12 := Lib.hid (X11.out.trans (hb12.mono X11.out.size))
        have HS12 := Lib.hid (show decide (textsB L1 = textsB L2) = true from decide_eq_true (texts_same (HM1.out.trans HM2'.out.symm)))
        rw [HS12.out]
        clear hb12
        go_wp2_with fail
        refine (len9 Ob w12 g s (at9_keep HA7.out (Keeps.of X12.out))).mono ?_
        rintro e w13 ⟨rfl, hb13⟩
        have X13 := Lib.hid (X12.out.trans (hb13.mono X12.out.size))
        rw [HZ.out]
        clear hb13
        go_wp2_with fail
        refine (C.state Oa1 w13 ma g _ (C.low HMA7.out X13.out) HOK.out).mono ?_
        rintro e w14 ⟨rfl, hb14⟩
        have X14 := Lib.hid (X13.out.trans (hb14.mono X13.out.size))
        clear hb14
        simp only
        go_wp2_with fail
        refine (C.state O3 w14 m g _ (C.low HM7.out X14.out) HOK.out).mono ?_
        rintro e w15 ⟨rfl, hb15⟩
        have X15 := Lib.hid (X14.out.trans (hb15.mono X14.out.size))
        clear hb15
        simp only
        go_wp2_with fail
        go_ret
        exact ⟨rfl, HB7.out.trans (X15.out.mono HB7.out.size)⟩
end Go.Proofs.YtnahebfhhcebpaaGreat
end
section
open Go Go.RowKit
namespace TT
open SS RR WW BB FF
theorem blk_keeps {A : Nat → Prop} {w w' : World} {y n : Nat} {f : Nat → Value} (h : Blk w y n f) (hk : Keeps A w w') (hA : A y) : Blk w' y n f := h.of_heap (hk.block y hA h.lt)
end TT
namespace Go.Proofs.YtnahebfhhcebpaaGreat
open TT SS RR FF JJ CC MM WW BB
def Sv (C : Code10) (W w : World) (m g y : Nat) (st : MemT) (s : Lg) (q : StT) (u : Value) (B : List Bv) : Prop :=
  ∃ O O1, At9 O w g s ∧ C.At O1 w m g st ∧ (∀ b, O b → W.heap.size ≤ b ∧ b ≠ y) ∧ (∀ b, O1 b → W.heap.size ≤ b ∧ ¬ O b ∧ b ≠ y) ∧ Below W.heap.size W w ∧ W.heap.size ≤ y ∧ Blk w y 2 (rowL [.int .i64 q.1, .int .i64 q.2]) ∧ Dep (fun b => ¬ O b ∧ ¬ O1 b ∧ b ≠ y) w (fun w' => BvAt w' u B)
section
variable {C : Code10} {W w w' : World} {m g y : Nat} {st st' : MemT} {s s' : Lg} {q q' : StT} {u u' : Value} {B L : List Bv}
theorem Sv.low (h : Sv C W w m g y st s q u B) (hb : Below w.heap.size w w') : Sv C W w' m g y st s q u B := by
  obtain ⟨O, O1, h1, h2, h3, h4, h5, h6, h7, h8⟩ := h
  exact ⟨O, O1, at9_keep h1 (Keeps.of hb), C.keep h2 (Keeps.of hb), h3, h4, h5.trans (hb.mono h5.size), h6, h7.below hb h7.lt, h8.on (Keeps.of hb)⟩
theorem Sv.below (h : Sv C W w m g y st s q u B) : Below W.heap.size W w := by
  obtain ⟨O, O1, h1, h2, h3, h4, h5, h6, h7, h8⟩ := h
  exact h5
theorem Sv.blk (h : Sv C W w m g y st s q u B) : Blk w y 2 (rowL [.int .i64 q.1, .int .i64 q.2]) := by
  obtain ⟨O, O1, h1, h2, h3, h4, h5, h6, h7, h8⟩ := h
  exact h7
theorem Sv.bv (h : Sv C W w m g y st s q u B) : BvAt w u B := by
  obtain ⟨O, O1, h1, h2, h3, h4, h5, h6, h7, h8⟩ := h
  exact h8.now
theorem Sv.at_ (h : Sv C W w m g y st s q u B) : ∃ O1, C.At O1 w m g st := by
  obtain ⟨O, O1, h1, h2, h3, h4, h5, h6, h7, h8⟩ := h
  exact ⟨O1, h2⟩
theorem Sv.store (h : Sv C W w m g y st s q u B) (hB : Blk w' y 2 (rowL [.int .i64 q'.1, .int .i64 q'.2])) (hu : Upd y w w') : Sv C W w' m g y st s q' u B := by
  obtain ⟨O, O1, h1, h2, h3, h4, h5, h6, h7, h8⟩ := h
  exact ⟨O, O1, at9_keep h1 (Keeps.upd hu fun b hb => (h3 b hb).2), C.keep h2 (Keeps.upd hu fun b hb => (h4 b hb).2.2), h3, h4, h5.trans (hu.below h6), h6, hB, h8.on (Keeps.upd hu fun b hb => hb.2.2)⟩
theorem Sv.row {e : TypeId} (h : Sv C W w m g y st s q u B) (hb : Below w.heap.size w w') (hr : w'.ownsRow w.heap.size e 6 u' (B ++ L).length (cellsB (B ++ L))) {v : Value} (hv : ∀ w', Below W.heap.size W w' → BvAt w' v L) : Sv C W w' m g y st s q u' (B ++ L) := by
  obtain ⟨O, O1, h1, h2, h3, h4, h5, h6, h7, h8⟩ := h
  have h5' : Below W.heap.size W w' := h5.trans (hb.mono h5.size)
  refine ⟨O, O1, at9_keep h1 (Keeps.of hb), C.keep h2 (Keeps.of hb), h3, h4, h5', h6, h7.below hb h7.lt, dep_bv hr (fun x hx => ?_) fun c hc => ?_⟩
  · rcases List.mem_append.1 hx with hx | hx
    · exact dep_inn (h8.on (Keeps.of hb)) x hx
    · intro w2 hk
      exact bv_inn (hv w2 (h5'.trans (SS.Keeps.low9 hk (fun b hl => ⟨fun h => absurd (h3 b h).1 (by omega), fun h => absurd (h4 b h).1 (by omega), by omega⟩) h5'.size))) x hx
  · have hc' := (hr.lt c hc).1
    have hy := h7.lt
    exact ⟨fun h => by have := at9_lt h1 c h; omega, fun h => by have := C.lt h2 c h; omega, by omega⟩
theorem NextT.sv {O O1 : Nat → Prop} (h1 : NextT C.At O O1 w m g st' s' w') (h3 : ∀ b, O b → W.heap.size ≤ b ∧ b ≠ y) (h4 : ∀ b, O1 b → W.heap.size ≤ b ∧ ¬ O b ∧ b ≠ y) (h5 : Below W.heap.size W w) (h6 : W.heap.size ≤ y) (h7 : Blk w y 2 (rowL [.int .i64 q.1, .int .i64 q.2])) (h8 : Dep (fun b => ¬ O b ∧ ¬ O1 b ∧ b ≠ y) w (fun w' => BvAt w' u B)) :
    Sv C W w' m g y st' s' q u B := by
  obtain ⟨O', O1', k1, k2, k3, k4, k5⟩ := h1
  have hy := h7.lt
  have hk : Below W.heap.size W w' := h5.trans (SS.Keeps.low9 k3 (fun b hl => ⟨fun h => absurd (h3 b h).1 (by omega), fun h => absurd (h4 b h).1 (by omega)⟩) h5.size)
  refine ⟨O', O1', k1, k2, fun b h => (k4 b h).elim (h3 b) fun h => ⟨Nat.le_trans h5.size h, by omega⟩, fun b h => ?_, hk, h6, blk_keeps h7 k3 ⟨fun h => (h3 y h).2 rfl, fun h => (h4 y h).2.2 rfl⟩, ?_⟩
  · rcases (k5 b h).1 with h0 | h0
    · exact ⟨(h4 b h0).1, (k5 b h).2, (h4 b h0).2.2⟩
    · exact ⟨Nat.le_trans h5.size h0, (k5 b h).2, by omega⟩
  · exact dep_step h8 (k3.sub fun b hb _ => ⟨hb.1, hb.2.1⟩) fun b hb hl => ⟨fun h => (k4 b h).elim hb.1 (by omega), fun h => (k5 b h).1.elim hb.2.1 (by omega), hb.2.2⟩
/-- one save -/
theorem save_sv (h : Sv C W w m g y st s q u B) {all : List ByteArray} {i : Nat} (hl : LogI s all st i) (hf : s.fuse = -1) (hi : i ≤ 30) (x : StT) (v : Value) (L : List Bv) (hv : ∀ w', Below W.heap.size W w' → BvAt w' v L) (hs : ∀ y ∈ L, SmallT y.1 ∧ MemI y.1) (hl5 : L.length ≤ 5) :
    Calls Tryz.prog 11 #[.pointer (some ⟨m, 0, none⟩), .agg #[.int .i64 x.1, .int .i64 x.2], v] w fun e w' =>
      (e = .returned (.int .i64 0) ∧ rightS x ∧ (∀ y ∈ L, blockOk y.1) ∧ ∃ s' all', Sv C W w' m g y (upS st.1 x, st.2 ++ L.map Prod.fst) s' q u B ∧ LogI s' all' (upS st.1 x, st.2 ++ L.map Prod.fst) (i + 1) ∧ s'.fuse = -1) ∨
       (e = .returned (.int .i64 2) ∧ ¬ (rightS x ∧ ∀ y ∈ L, blockOk y.1) ∧ Sv C W w' m g y st s q u B) := by
  have h0 := h
  obtain ⟨O, O1, h1, h2, h3, h4, h5, h6, h7, h8⟩ := h
  refine (C.save O O1 (fun b => b < W.heap.size) w m g st s x v L h1 h2 (fun b h => (h4 b h).2.1) hl.ok hl.gone (hl.sz hi) (hl.okT (by omega)) (fun w' hk => hv w' (h5.trans (SS.Keeps.low9 hk (fun b h => h) h5.size))) (fun b h => ⟨fun k => absurd (h3 b k).1 (by omega), fun k => absurd (h4 b k).1 (by omega)⟩) hs hl5).mono ?_
  intro e w' ha
  by_cases hr : rightS x ∧ ∀ y ∈ L, blockOk y.1
  · obtain ⟨hx, hL⟩ := hr
    have hL' : ∀ b ∈ L.map Prod.fst, blockOk b := fun b hb => by obtain ⟨y, hy, rfl⟩ := List.mem_map.1 hb; exact hL y hy
    rcases logI_save hl (x := x) (L := L.map Prod.fst) hx hL' (by rw [List.length_map]; exact hl5) with ⟨e0, k1, k2⟩ | ⟨_, k1, _⟩
    · obtain ⟨rfl, hn⟩ := save_fit ha hx hL' e0
      exact .inl ⟨rfl, hx, hL, _, _, NextT.sv hn h3 h4 h5 h6 h7 h8, k1, k2 hf⟩
    · exact absurd hf k1
  · have hn : ¬ (rightS x ∧ ∀ b ∈ L.map Prod.fst, blockOk b) := fun k => hr ⟨k.1, fun y hy => k.2 y.1 (List.mem_map.2 ⟨y, hy, rfl⟩)⟩
    obtain ⟨rfl, hw⟩ := save_form ha hn
    exact .inr ⟨rfl, hr, h0.low hw⟩
end
end Go.Proofs.YtnahebfhhcebpaaGreat
end
section
open Go Go.RowKit
namespace Go.Proofs.YtnahebfhhcebpaaGreat
open TT SS RR FF JJ CC MM WW BB
set_option maxRecDepth 100000 in
set_option maxHeartbeats 16000000 in
theorem lawS10 (C : Code10) (l : List Op10) (v : Value) (w : World) (hv : OpsT w v l) (hm : MemsT l) :
    Calls Tryz.prog 5 #[v] w fun e w' => e = .returned (.bool true) ∧ Below w.heap.size w w' := by
  have HV := Lib.hid hv
  have HM := Lib.hid hm
  obtain ⟨a0, cap, rfl, _⟩ := hv
  clear hm
  go_enter Tryz.func5, Tryz.ntmps5
  go_wp2_with fail
  refine (awake10_any C w).mono ?_
  rintro e w1 ⟨rfl, hb1⟩
  have X1 := Lib.hid hb1
  clear hb1
  go_wp2_with fail
  refine (few10_any l _ 30 w1 (by obtain ⟨a, c, e, h⟩ := HV.out; exact ⟨a, c, e, h.imp id fun ⟨b, off, h1, h2, h3⟩ => ⟨b, off, h1, Nat.lt_of_lt_of_le h2 X1.out.size, fun i hi => (h3 i hi).later X1.out h2⟩⟩) HM.out).mono ?_
  rintro e w2 ⟨X, rfl, hX, hb2⟩
  have X2 := Lib.hid (X1.out.trans (hb2.mono X1.out.size))
  have HX := Lib.hid hX
  clear hb2 hX
  cases X
  · go_wp2_with fail
    refine (awake10_any C w2).mono ?_
    rintro e w3 ⟨rfl, hb3⟩
    have X3 := Lib.hid (X2.out.trans (hb3.mono X2.out.size))
    clear hb3
    go_wp2_with fail
    go_ret
    exact ⟨rfl, X3.out⟩
  · have HF := Lib.hid (HX.out rfl)
    have HL30 := Lib.hid (show l.length ≤ 30 by have := HF.out.1; omega)
    go_wp2_with fail
    refine (new9 w2).mono ?_
    rintro e w3 ⟨g, O, rfl, hA, hO, hb3⟩
    have HA := Lib.hid (show At9 O w3 g lgE from hA)
    have HO := Lib.hid hO
    have W3 := Lib.hid (show Below w2.heap.size w2 w3 from hb3)
    clear hA hO hb3
    go_wp2_with fail
    refine (C.open_ O w3 g lgE HA.out ok_lgE (by show 0 + 0 ≤ 1000000; omega) (by rw [recs_whole inv_lgE rfl]; exact Nat.zero_le _) rfl).mono ?_
    rintro e w4 ⟨m, O', O1, rfl, hA, hM, hk, hO', hO1⟩
    rw [cut_whole inv_lgE] at hA
    rw [recs_whole inv_lgE rfl] at hM
    have HP := Lib.hid (show Sv C w (w4.alloc (.cells #[.int .i64 0, .int .i64 0] 33)) m g w4.heap.size ((0, 0), []) lgE (0, 0) (.slice none 0 0) [] from by
      have X4 : Below w.heap.size w w4 := X2.out.trans ((W3.out.trans (SS.Keeps.low9 hk (fun b hl ho => absurd (HO.out b ho) (by omega)) W3.out.size)).mono X2.out.size)
      have A4 : Below w4.heap.size w4 (w4.alloc (.cells #[.int .i64 0, .int .i64 0] 33)) := (Below.refl _ _).alloc (Nat.le_refl _) _
      exact ⟨O', O1, at9_keep hA (Keeps.of A4), C.keep hM (Keeps.of A4), fun b h => ⟨Nat.le_trans X2.out.size ((hO' b h).elim (HO.out b) fun h => Nat.le_trans W3.out.size h), by have := at9_lt hA b h; omega⟩,
        fun b h => ⟨Nat.le_trans X2.out.size (Nat.le_trans W3.out.size (hO1 b h).1), (hO1 b h).2, by have := C.lt hM b h; omega⟩, X4.trans (A4.mono X4.size), X4.size, Blk.new' rfl (row2_ _ _), fun w' _ => ⟨none, 0, rfl, Or.inl rfl⟩⟩)
    obtain ⟨y, hy⟩ : ∃ y, w4.heap.size = y := ⟨_, rfl⟩
    have HY := Lib.hid hy
    obtain ⟨wb, hwb⟩ : ∃ wb, w4.alloc (.cells #[.int .i64 0, .int .i64 0] 33) = wb := ⟨_, rfl⟩
    have HWB := Lib.hid hwb
    rw [hwb, hy] at HP
    clear hA hM hk hO' hO1 hy hwb
    go_wp2_with fail
    rw [HWB.out, HY.out]
    go_loopw [7, 8] (fun u z wr => ∃ (i : Nat) (s : Lg) (all : List ByteArray) (st : MemT) (B : List Bv), i ≤ l.length ∧ z = .int .i64 (i : Int) ∧ Sv C w wr m g y st s st.1 u B ∧ B.map Prod.fst = st.2 ∧ LogI s all st i ∧ s.fuse = -1) (fun _ z _ => l.length - (intOf z).toNat)
    case atStart => exact ⟨0, lgE, [], ((0, 0), []), [], Nat.zero_le _, rfl, HP.out, rfl, logI_start, rfl⟩
    case round =>
      obtain ⟨i, s, all, st, B, hi, rfl, hp, hmap, hlog, hf⟩ := hrel
      have HSV := Lib.hid hp
      have HMB := Lib.hid hmap
      have HLG := Lib.hid hlog
      have HFU := Lib.hid hf
      have HBL := Lib.hid hp.below
      obtain ⟨⟨s1, s2⟩, bl⟩ := st
      obtain ⟨ua, uc, rfl⟩ := bv_shape hp.bv
      have i0 : (0 : Int) ≤ (i : Int) := by omega
      have ib : (i : Int) ≤ 30 := by have := HL30.out; omega
      clear hp hlog hf hmap
      by_cases hlt : i < l.length
      · have hlt' : (i : Int) < (l.length : Int) := by omega
        have HLT := Lib.hid hlt
        obtain ⟨tb, toff, rfl, _, _, hat⟩ := opsT_at HV.out i hlt
        obtain ⟨f5, fs, fm⟩ := few_op HF.out (by omega) HM.out hlt
        obtain ⟨⟨⟨x1, x2⟩, lv, L, fz, n, cr, kp⟩, hP⟩ : ∃ P, l.getD i op10 = P := ⟨_, rfl⟩
        rw [hP] at f5 fs fm
        have HAT := Lib.hid (show ∀ wx, Below w.heap.size w wx → OpT wx tb (toff + i * 7) ⟨(x1, x2), lv, L, fz, n, cr, kp⟩ from fun wx hb => hP ▸ hat wx hb i hlt)
        have F5 := Lib.hid (show L.length ≤ 5 from f5)
        have FS := Lib.hid (show ∀ y ∈ L, SmallT y.1 ∧ MemI y.1 from fs)
        obtain ⟨pa, pc, hps⟩ := bv_shape (show BvAt w lv L from (HAT.out w (Below.refl _ _)).2.2.2.2.2.2.2)
        subst hps
        have HBV := Lib.hid (show ∀ wx, Below w.heap.size w wx → BvAt wx (.slice pa L.length pc) L from fun wx hb => (HAT.out wx hb).2.2.2.2.2.2.2)
        have HCE := Lib.hid (show ∀ wx, Below w.heap.size w wx → wx.cell? ⟨tb, toff + i * 7, none⟩ = some (.int .i64 x1) ∧ wx.cell? ⟨tb, toff + i * 7 + 1, none⟩ = some (.int .i64 x2) ∧ wx.cell? ⟨tb, toff + i * 7 + 2, none⟩ = some (.slice pa L.length pc) ∧ wx.cell? ⟨tb, toff + i * 7 + 3, none⟩ = some (.bool fz) ∧ wx.cell? ⟨tb, toff + i * 7 + 4, none⟩ = some (.int .i64 n) ∧ wx.cell? ⟨tb, toff + i * 7 + 5, none⟩ = some (.bool cr) ∧ wx.cell? ⟨tb, toff + i * 7 + 6, none⟩ = some (.int .i64 kp) from fun wx hb => by
          obtain ⟨h0, h1, h2, h3, h4, h5, h6, _⟩ := HAT.out wx hb
          exact ⟨h0, h1, h2, h3, h4, h5, h6⟩)
        clear hi hlt hat hP f5 fs fm
        go_upto_region 12 with fail
        refine plan_abs (fun wx => Below w.heap.size w wx) [(true, 0), (true, 1), (true, 2), (true, 3), (true, 4), (true, 5), (true, 6), (true, 7), (true, 8), (true, 9), (true, 10), (false, 11), (true, 12)] (by kernel_rfl) (by kernel_rfl) (fun _ _ d _ _ h => by cases d <;> exact h) fun w5 hs5 => ⟨HBL.out.trans ((hs5.below _).mono HBL.out.size), ?_⟩
        have P5 := Lib.hid (HSV.out.low (hs5.below _))
        clear hs5
        iterate 11 (refine pl_run _ ?_ rfl rfl ?_ ?_; rotate_left; (focus (intro w' hS; obtain ⟨c0, c1, c2, _, _, _, _⟩ := HCE.out w' hS; go_simp; exact rfl)); simp only [Act.put, List.setIfInBounds_toArray, List.set_cons_zero, List.set_cons_succ, List.getElem_toArray, List.getElem_cons_zero, List.getElem_cons_succ])
        refine pl_call (R := fun u' w' => Below w.heap.size w w' ∧ ((u' = .int .i64 0 ∧ rightS (x1, x2) ∧ (∀ y ∈ L, blockOk y.1) ∧ ∃ s' all', Sv C w w' m g y (upS (s1, s2) (x1, x2), bl ++ L.map Prod.fst) s' (s1, s2) (.slice ua B.length uc) B ∧ LogI s' all' (upS (s1, s2) (x1, x2), bl ++ L.map Prod.fst) (i + 1) ∧ s'.fuse = -1) ∨
          (u' = .int .i64 2 ∧ ¬ (rightS (x1, x2) ∧ ∀ y ∈ L, blockOk y.1) ∧ Sv C w w' m g y ((s1, s2), bl) s (s1, s2) (.slice ua B.length uc) B))) _ rfl rfl (by go_simp) ((save_sv P5.out HLG.out HFU.out (by omega) (x1, x2) _ L HBV.out FS.out F5.out).mono fun e w' h => ?_) (fun u w' h => h.1) fun u w6 h6 => ?_
        · rcases h with ⟨rfl, k1, k2, s', all', k3, k4, k5⟩ | ⟨rfl, k1, k2⟩
          · exact ⟨_, rfl, k3.below, .inl ⟨rfl, k1, k2, s', all', k3, k4, k5⟩⟩
          · exact ⟨_, rfl, k2.below, .inr ⟨rfl, k1, k2⟩⟩
        obtain ⟨hb6, ⟨rfl, k1, k2, s', all', k3, k4, k5⟩ | ⟨rfl, k1, k2⟩⟩ := h6
        · have HR := Lib.hid (show decide (rightO ⟨(x1, x2), .slice pa L.length pc, L, fz, n, cr, kp⟩) = true from decide_eq_true ⟨k1, k2⟩)
          have P6 := Lib.hid k3
          have HLG6 := Lib.hid k4
          have HFU6 := Lib.hid k5
          have X6 := Lib.hid hb6
          clear hb6 k1 k2 k3 k4 k5
          simp only [Act.put, List.setIfInBounds_toArray, List.set_cons_zero, List.set_cons_succ, List.getElem_toArray, List.getElem_cons_zero, List.getElem_cons_succ]
          iterate 1 (refine pl_run _ ?_ rfl rfl ?_ ?_; rotate_left; (focus (intro w' hS; go_simp; exact rfl)); simp only [Act.put, List.setIfInBounds_toArray, List.set_cons_zero, List.set_cons_succ, List.getElem_toArray, List.getElem_cons_zero, List.getElem_cons_succ])
          refine pl_end ?_
          obtain ⟨c0, c1, c2, c3, c4, c5, c6⟩ := HCE.out w6 X6.out
          go_wp2_with fail
          clear c0 c1 c2 c3 c4 c5 c6
          refine (right10_any ⟨(x1, x2), .slice pa L.length pc, L, fz, n, cr, kp⟩ w6 (HBV.out w6 X6.out) (fun y hy => (FS.out y hy).2) (by have := F5.out; show L.length ≤ 1000; omega)).mono ?_
          rintro e w7 ⟨rfl, hb7⟩
          have P7 := Lib.hid (P6.out.low hb7)
          rw [HR.out]
          clear hb7
          go_upto_region 16 with fail
          refine tail_abs 19 (by kernel_rfl) (by kernel_rfl) fun w8 hs8 => ?_
          have P8 := Lib.hid (P7.out.low (hs8.below _))
          clear hs8
          obtain ⟨c0, c1, _, _, _, _, _⟩ := HCE.out w8 P8.out.below
          obtain ⟨d0, d1⟩ := cells2 P8.out.blk
          have f0 := P8.out.blk.frz 0
          have f1 := P8.out.blk.frz 1
          simp only [List.take_succ_cons, List.take_zero, List.drop_succ_cons, List.drop_zero]
          repeat still_step
          refine wpStill_nil ?_
          clear c0 c1
          go_wp2_with fail
          obtain ⟨xi, ui⟩ := rset2 P8.out.blk (.int .i64 (max s1 x1)) (.int .i64 (max s2 x2))
          refine abs_wp (fun wx => Sv C w wx m g y (upS (s1, s2) (x1, x2), bl ++ L.map Prod.fst) s' (max s1 x1, max s2 x2) (.slice ua B.length uc) B) (Sv.store P8.out xi ui) ?_
          clear xi ui d0 d1 f0 f1
          intro w9 hp9
          have P9 := Lib.hid hp9
          clear hp9
          have HLB := Lib.hid (show B.length + L.length ≤ 10000 from by have h1 := congrArg List.length HMB.out; rw [List.length_map] at h1; have h2 := HLG.out.len; simp only at h1 h2; have := F5.out; omega)
          refine plan_abs (fun wx => Below w9.heap.size w9 wx) [(true, 1), (true, 3), (true, 4), (true, 5), (true, 6), (true, 7), (false, 0), (false, 2), (false, 8), (true, 9)] (by kernel_rfl) (by kernel_rfl) (fun _ _ d _ _ h => by cases d <;> exact h) fun w10 hs10 => ⟨hs10.below _, ?_⟩
          have Y10 := Lib.hid (show Below w9.heap.size w9 w10 from hs10.below _)
          have P10 := Lib.hid (P9.out.low Y10.out)
          clear hs10
          iterate 6 (refine pl_run _ ?_ rfl rfl ?_ ?_; rotate_left; (focus (intro w' hS; obtain ⟨_, _, c2, _, _, _, _⟩ := HCE.out w' (P9.out.below.trans (hS.mono P9.out.below.size)); go_simp; exact rfl)); simp only [Act.put, List.setIfInBounds_toArray, List.set_cons_zero, List.set_cons_succ, List.getElem_toArray, List.getElem_cons_zero, List.getElem_cons_succ])
          obtain ⟨ti, i1, i2, i3, i4⟩ := info_parts tinfo_blk
          obtain ⟨a3, c3, w11, a4, c4, w12, hr2, hr3, hb11, hb12, ho⟩ := two_rows (P := Tryz.prog) (w := w10) (t := 34) (ty := 34) (e := 47) (i := ti) (bytes := 88) tund_blks i1 i2 i3 i4 rfl P10.out.bv (HBV.out w10 P10.out.below) HLB.out (by decide)
          refine pl_value (w' := w10.alloc (.cells #[] 47)) _ (.slice (some ⟨w10.heap.size, 0, none⟩) 0 0) rfl rfl (by go_simp) (Y10.out.trans (((Below.refl _ _).alloc (Nat.le_refl _) _).mono Y10.out.size)) ?_
          simp only [Act.put, List.setIfInBounds_toArray, List.set_cons_zero, List.set_cons_succ, List.getElem_toArray, List.getElem_cons_zero]
          refine pl_value (w' := w11) _ (.slice a3 B.length c3) rfl rfl (JJ.run_op_append _ _ _ rfl _ _ rfl rfl hr2) (Y10.out.trans (hb11.mono Y10.out.size)) ?_
          simp only [Act.put, List.setIfInBounds_toArray, List.set_cons_zero, List.set_cons_succ, List.getElem_toArray, List.getElem_cons_zero, List.getElem_cons_succ]
          refine pl_value (w' := w12) _ (.slice a4 (B.length + L.length) c4) rfl rfl (JJ.run_op_append _ _ _ rfl _ _ rfl rfl hr3) (Y10.out.trans (hb12.mono Y10.out.size)) ?_
          simp only [Act.put, List.setIfInBounds_toArray, List.set_cons_zero, List.set_cons_succ, List.getElem_toArray, List.getElem_cons_zero, List.getElem_cons_succ]
          have P12 := Lib.hid (Sv.row P10.out hb12 ho HBV.out)
          clear hr2 hr3 hb11 hb12 ho i1 i2 i3 i4
          iterate 1 (refine pl_run _ ?_ rfl rfl ?_ ?_; rotate_left; (focus (intro w' hS; go_simp; exact rfl)); simp only [Act.put, List.setIfInBounds_toArray, List.set_cons_zero, List.set_cons_succ, List.getElem_toArray, List.getElem_cons_zero, List.getElem_cons_succ])
          refine pl_end ?_
          go_upto_region 18 with fail
          refine plan_abs (fun wx => Blk wx y 2 (rowL [.int .i64 (max s1 x1), .int .i64 (max s2 x2)])) [(true, 0), (true, 1), (true, 2), (true, 3), (true, 5), (false, 4), (true, 6), (true, 7)] (by kernel_rfl) (by kernel_rfl) (fun _ _ d _ _ h => by cases d <;> exact h) fun w13 hs13 => ⟨P12.out.blk.same hs13, ?_⟩
          have P13 := Lib.hid (P12.out.low (hs13.below _))
          clear hs13
          iterate 5 (refine pl_run _ ?_ rfl rfl ?_ ?_; rotate_left; (focus (intro w' hS; obtain ⟨c0, c1⟩ := cells2 hS; go_simp; exact rfl)); simp only [Act.put, List.setIfInBounds_toArray, List.set_cons_zero, List.set_cons_succ, List.getElem_toArray, List.getElem_cons_zero, List.getElem_cons_succ])
          obtain ⟨Oz, hz⟩ := P13.out.at_
          refine pl_call1 (v := .agg #[.int .i64 (max s1 x1), .int .i64 (max s2 x2)]) (R := fun w' => Below w13.heap.size w13 w') _ rfl rfl (by go_simp) ((C.state Oz w13 m g _ hz (HLG6.out.okT (by omega))).mono fun e w' h => h) (fun w' h => (P13.out.low h).blk) fun w14 hb14 => ?_
          have P14 := Lib.hid (P13.out.low hb14)
          clear hb14 hz
          simp only [Act.put, List.setIfInBounds_toArray, List.set_cons_zero, List.set_cons_succ, List.getElem_toArray, List.getElem_cons_zero, List.getElem_cons_succ]
          iterate 2 (refine pl_run _ ?_ rfl rfl ?_ ?_; rotate_left; (focus (intro w' hS; go_simp; exact rfl)); simp only [Act.put, List.setIfInBounds_toArray, List.set_cons_zero, List.set_cons_succ, List.getElem_toArray, List.getElem_cons_zero, List.getElem_cons_succ])
          refine pl_end ?_
          go_wp2_with fail
          go_roundw
          case rel => exact ⟨i + 1, s', all', (upS (s1, s2) (x1, x2), bl ++ L.map Prod.fst), B ++ L, by have := HLT.out; omega, by go_num, P14.out, by rw [List.map_append, HMB.out], HLG6.out, HFU6.out⟩
          case measure => have := HLT.out; simp [intOf]; omega
        · have HR := Lib.hid (show decide (rightO ⟨(x1, x2), .slice pa L.length pc, L, fz, n, cr, kp⟩) = false from decide_eq_false k1)
          have P6 := Lib.hid k2
          have X6 := Lib.hid hb6
          clear hb6 k1 k2
          simp only [Act.put, List.setIfInBounds_toArray, List.set_cons_zero, List.set_cons_succ, List.getElem_toArray, List.getElem_cons_zero, List.getElem_cons_succ]
          iterate 1 (refine pl_run _ ?_ rfl rfl ?_ ?_; rotate_left; (focus (intro w' hS; go_simp; exact rfl)); simp only [Act.put, List.setIfInBounds_toArray, List.set_cons_zero, List.set_cons_succ, List.getElem_toArray, List.getElem_cons_zero, List.getElem_cons_succ])
          refine pl_end ?_
          obtain ⟨c0, c1, c2, c3, c4, c5, c6⟩ := HCE.out w6 X6.out
          go_wp2_with fail
          clear c0 c1 c2 c3 c4 c5 c6
          refine (right10_any ⟨(x1, x2), .slice pa L.length pc, L, fz, n, cr, kp⟩ w6 (HBV.out w6 X6.out) (fun y hy => (FS.out y hy).2) (by have := F5.out; show L.length ≤ 1000; omega)).mono ?_
          rintro e w7 ⟨rfl, hb7⟩
          have P7 := Lib.hid (P6.out.low hb7)
          rw [HR.out]
          clear hb7
          go_wp2_with fail
          go_roundw
          case rel => exact ⟨i + 1, s, all, ((s1, s2), bl), B, by have := HLT.out; omega, by go_num, P7.out, HMB.out, HLG.out.more, HFU.out⟩
          case measure => have := HLT.out; simp [intOf]; omega
      · obtain rfl : i = l.length := by omega
        have hlt' : ¬ ((l.length : Nat) : Int) < ((l.length : Nat) : Int) := by omega
        obtain ⟨O2, O3, h1, h2, h3, h4, _, _, h7, h8⟩ := HSV.out
        have HA2 := Lib.hid h1
        have HM2 := Lib.hid h2
        have HO2 := Lib.hid h3
        have HO3 := Lib.hid h4
        have HY2 := Lib.hid h7
        have HD2 := Lib.hid h8
        have HOK := Lib.hid (HLG.out.okT (by have := HL30.out; omega))
        have HRC := Lib.hid HLG.out.recs
        have HCT := Lib.hid HLG.out.cut
        have HSZ := Lib.hid (HLG.out.sz (by have := HL30.out; omega))
        have HAL := Lib.hid (show all.length ≤ 1000 by have := HLG.out.alen; have := HL30.out; omega)
        clear hi hlt h1 h2 h3 h4 h7 h8
        go_wp2_with fail
        refine (C.open_ O2 wr g s HA2.out HLG.out.ok (by have := HSZ.out; omega) (by rw [HRC.out]; exact HAL.out) HLG.out.gone).mono ?_
        rintro e w5 ⟨ma, Oa, Oa1, rfl, hA, hM, hk, hO', hO1⟩
        rw [HRC.out, HLG.out.rec_] at hM
        have HMA5 := Lib.hid hM
        have HM5 := Lib.hid (C.keep HM2.out (hk.sub fun b h _ => (HO3.out b h).2.1))
        have HY5 := Lib.hid (blk_keeps HY2.out hk (fun h => (HO2.out y h).2 rfl))
        have HV5 := Lib.hid (HD2.out w5 (hk.sub fun b h _ => h.1))
        have HB5 := Lib.hid (show Below w.heap.size w w5 from HBL.out.trans (SS.Keeps.low9 hk (fun b hl ho => absurd (HO2.out b ho).1 (by omega)) HBL.out.size))
        clear hA hM hk hO' hO1
        go_upto_region 21 with fail
        refine plan_abs (fun wx => Blk wx y 2 (rowL [.int .i64 s1, .int .i64 s2])) [(true, 0), (true, 1), (true, 2), (true, 3), (true, 5), (false, 4), (false, 6), (true, 7), (true, 8), (true, 9), (true, 11), (false, 10), (true, 12), (true, 13), (true, 14), (true, 15), (true, 17), (false, 16), (false, 18), (true, 19), (true, 20)] (by kernel_rfl) (by kernel_rfl) (fun _ _ d _ _ h => by cases d <;> exact h) fun w6 hs6 => ⟨HY5.out.same hs6, ?_⟩
        have X6 := Lib.hid (show Below w5.heap.size w5 w6 from hs6.below _)
        have HY6 := Lib.hid (show ∀ wx, Below w5.heap.size w5 wx → Blk wx y 2 (rowL [.int .i64 s1, .int .i64 s2]) from fun wx hb => HY5.out.below hb HY5.out.lt)
        clear hs6
        iterate 5 (refine pl_run _ ?_ rfl rfl ?_ ?_; rotate_left; (focus (intro w' hS; go_simp; exact rfl)); simp only [Act.put, List.setIfInBounds_toArray, List.set_cons_zero, List.set_cons_succ, List.getElem_toArray, List.getElem_cons_zero, List.getElem_cons_succ])
        refine pl_call (R := fun u' w' => Below w5.heap.size w5 w' ∧ ∃ L1, L1.map Prod.fst = bl ∧ BvAt w' u' L1) _ rfl rfl (by go_simp) ((C.blocks O3 w6 m g _ (C.low HM5.out X6.out) HOK.out).mono fun e w' h => by obtain ⟨u', L1, rfl, k1, k2, k3⟩ := h; exact ⟨_, rfl, X6.out.trans (k3.mono X6.out.size), L1, k1, k2.now⟩) (fun u' w' h => HY6.out w' h.1) fun u1 w7 h7 => ?_
        obtain ⟨hb7, L1, hm1, hv1⟩ := h7
        have X7 := Lib.hid hb7
        have HM1 := Lib.hid hm1
        have HV1 := Lib.hid hv1
        have HBL1 := Lib.hid (show L1.length ≤ 1000000 from by have h := congrArg List.length hm1; rw [List.length_map] at h; have := HOK.out.2.2; simp only at this; omega)
        clear hb7 hm1 hv1
        simp only [Act.put, List.setIfInBounds_toArray, List.set_cons_zero, List.set_cons_succ, List.getElem_toArray, List.getElem_cons_zero, List.getElem_cons_succ]
        refine pl_call1 (v := .bool true) (R := fun w' => Below w5.heap.size w5 w') _ rfl rfl (by go_simp) ((rsame10_any L1 B u1 _ w7 HV1.out (HV5.out.later X7.out) (small_all HM1.out HOK.out.2.1) (small_all HMB.out HOK.out.2.1) HBL1.out).mono fun e w' h => ⟨by rw [h.1, decide_eq_true (texts_same (HM1.out.trans HMB.out.symm))], X7.out.trans (h.2.mono X7.out.size)⟩) (fun w' h => HY6.out w' h) fun w8 hb8 => ?_
        have X8 := Lib.hid hb8
        clear hb8
        simp only [Act.put, List.setIfInBounds_toArray, List.set_cons_zero, List.set_cons_succ, List.getElem_toArray, List.getElem_cons_zero, List.getElem_cons_succ]
        iterate 4 (refine pl_run _ ?_ rfl rfl ?_ ?_; rotate_left; (focus (intro w' hS; obtain ⟨c0, c1⟩ := cells2 hS; go_simp; exact rfl)); simp only [Act.put, List.setIfInBounds_toArray, List.set_cons_zero, List.set_cons_succ, List.getElem_toArray, List.getElem_cons_zero, List.getElem_cons_succ])
        refine pl_call1 (v := .agg #[.int .i64 s1, .int .i64 s2]) (R := fun w' => Below w5.heap.size w5 w') _ rfl rfl (by go_simp) ((C.state Oa1 w8 ma g _ (C.low HMA5.out X8.out) HOK.out).mono fun e w' h => ⟨h.1, X8.out.trans (h.2.mono X8.out.size)⟩) (fun w' h => HY6.out w' h) fun w9 hb9 => ?_
        have X9 := Lib.hid hb9
        clear hb9
        simp only [Act.put, List.setIfInBounds_toArray, List.set_cons_zero, List.set_cons_succ, List.getElem_toArray, List.getElem_cons_zero, List.getElem_cons_succ]
        iterate 5 (refine pl_run _ ?_ rfl rfl ?_ ?_; rotate_left; (focus (intro w' hS; go_simp; exact rfl)); simp only [Act.put, List.setIfInBounds_toArray, List.set_cons_zero, List.set_cons_succ, List.getElem_toArray, List.getElem_cons_zero, List.getElem_cons_succ])
        refine pl_call (R := fun u' w' => Below w5.heap.size w5 w' ∧ ∃ L1, L1.map Prod.fst = bl ∧ BvAt w' u' L1) _ rfl rfl (by go_simp) ((C.blocks Oa1 w9 ma g _ (C.low HMA5.out X9.out) HOK.out).mono fun e w' h => by obtain ⟨u', L1, rfl, k1, k2, k3⟩ := h; exact ⟨_, rfl, X9.out.trans (k3.mono X9.out.size), L1, k1, k2.now⟩) (fun u' w' h => HY6.out w' h.1) fun u2 w10 h10 => ?_
        obtain ⟨hb10, L2, hm2, hv2⟩ := h10
        have X10 := Lib.hid hb10
        have HM2' := Lib.hid hm2
        have HV2 := Lib.hid hv2
        have HBL2 := Lib.hid (show L2.length ≤ 1000000 from by have h := congrArg List.length hm2; rw [List.length_map] at h; have := HOK.out.2.2; simp only at this; omega)
        clear hb10 hm2 hv2
        simp only [Act.put, List.setIfInBounds_toArray, List.set_cons_zero, List.set_cons_succ, List.getElem_toArray, List.getElem_cons_zero, List.getElem_cons_succ]
        refine pl_call1 (v := .bool true) (R := fun w' => Below w5.heap.size w5 w') _ rfl rfl (by go_simp) ((rsame10_any L2 B u2 _ w10 HV2.out (HV5.out.later X10.out) (small_all HM2'.out HOK.out.2.1) (small_all HMB.out HOK.out.2.1) HBL2.out).mono fun e w' h => ⟨by rw [h.1, decide_eq_true (texts_same (HM2'.out.trans HMB.out.symm))], X10.out.trans (h.2.mono X10.out.size)⟩) (fun w' h => HY6.out w' h) fun w11 hb11 => ?_
        have X11 := Lib.hid hb11
        clear hb11
        simp only [Act.put, List.setIfInBounds_toArray, List.set_cons_zero, List.set_cons_succ, List.getElem_toArray, List.getElem_cons_zero, List.getElem_cons_succ]
        iterate 2 (refine pl_run _ ?_ rfl rfl ?_ ?_; rotate_left; (focus (intro w' hS; go_simp; exact rfl)); simp only [Act.put, List.setIfInBounds_toArray, List.set_cons_zero, List.set_cons_succ, List.getElem_toArray, List.getElem_cons_zero, List.getElem_cons_succ])
        refine pl_end ?_
        go_wp2_with fail
        go_ret
        exact ⟨rfl, HB5.out.trans (X11.out.mono HB5.out.size)⟩
end Go.Proofs.YtnahebfhhcebpaaGreat
end
section
open Go Go.RowKit
namespace TT
open SS RR WW BB FF
theorem sub_size (b : ByteArray) (n : Nat) : (b.extract 0 n).size ≤ b.size := by rw [ByteArray.size_extract]; omega
theorem crash_size (s : Lg) (c : Int) : sizeL (crashL s c) ≤ sizeL s := by
  have h := sub_size s.wait (keepN c s.wait.size)
  show (s.safe ++ s.wait.extract 0 (keepN c s.wait.size)).size + 0 ≤ s.safe.size + s.wait.size
  rw [ByteArray.size_append]; omega
theorem cut_size (s : Lg) : sizeL (cutL s) ≤ sizeL s := by
  obtain ⟨e, he⟩ : ∃ e, (splitS (s.safe ++ s.wait)).2 = e := ⟨_, rfl⟩
  have h1 := ByteArray.size_append (a := s.safe) (b := s.wait)
  show ((s.safe ++ s.wait).extract 0 (min (splitS (s.safe ++ s.wait)).2 s.safe.size)).size + ((s.safe ++ s.wait).extract (min (splitS (s.safe ++ s.wait)).2 s.safe.size) (splitS (s.safe ++ s.wait)).2).size ≤ s.safe.size + s.wait.size
  rw [he, ByteArray.size_extract, ByteArray.size_extract]; omega
theorem ok_crash (s : Lg) (c : Int) : OkL (crashL s c) := ⟨by show (-1 : Int) ≤ -1; omega, by show (-1 : Int) ≤ 9223372036854775807; omega⟩
/-- what is remembered behind a save, a loss of power and a new opening -/
structure CrashI (s1 : Lg) (c : Int) (lo hi : MemT) (i : Nat) (all2 : List ByteArray) (st2 : MemT) : Prop where
  recs : recsL (crashL s1 c) = all2
  alen : all2.length ≤ 1000
  gone : (crashL s1 c).gone = false
  ok : OkL (crashL s1 c)
  size : sizeL (crashL s1 c) ≤ 1000000
  rec_ : recallL all2 ((0, 0), []) = st2
  log : LogI (cutL (crashL s1 c)) all2 st2 (i + 1)
  lo_ : leS lo.1 st2.1
  hi_ : leS st2.1 hi.1
  len : lo.2.length ≤ st2.2.length
  pre : st2.2 <+: hi.2
/-- from a log of which n records are synced -/
theorem crash_of {s1 : Lg} {full : List ByteArray} {n i : Nat} {lo hi : MemT} (h : InvS s1 full n) (hz : sizeL s1 ≤ 28028 * (i + 1)) (hi30 : i ≤ 30) (hf : full.length ≤ 6 * (i + 1)) (hg : GoodL full) (hlo : recallL (full.take n) ((0, 0), []) = lo)
    (hhi : leS (recallL full ((0, 0), [])).1 hi.1 ∧ (recallL full ((0, 0), [])).2 <+: hi.2) (hb : ∀ b ∈ hi.2, blockOk b) (hl : hi.2.length ≤ 5 * (i + 1)) (c : Int) : ∃ all2 st2, CrashI s1 c lo hi i all2 st2 := by
  obtain ⟨j, j1, j2, c1, c2, c3, c4⟩ := inv_crash h c
  have ec : cutL (crashL s1 c) = ⟨encL (full.take j), ⟨#[]⟩, -1, false⟩ := by
    unfold cutA at c3
    rw [if_neg (by rw [c1]; decide)] at c3
    exact congrArg Prod.fst c3
  have hz2 : sizeL (crashL s1 c) ≤ 28028 * (i + 1) := Nat.le_trans (crash_size s1 c) hz
  have hzz : 28028 * (i + 1) ≤ 28028 * 31 := Nat.mul_le_mul_left _ (by omega)
  have hlen : (full.take j).length ≤ 6 * (i + 1) := Nat.le_trans (by rw [List.length_take]; omega) hf
  have e1 : full.take n ++ (full.take j).drop n = full.take j := by
    have : full.take n = (full.take j).take n := by rw [List.take_take, Nat.min_eq_left j1]
    rw [this, List.take_append_drop]
  have m1 := recall_mono ((full.take j).drop n) (recallL (full.take n) ((0, 0), []))
  rw [← recall_append _ _ _ (hg.take n), e1, hlo] at m1
  have m2 := recall_mono (full.drop j) (recallL (full.take j) ((0, 0), []))
  rw [← recall_append _ _ _ (hg.take j), List.take_append_drop] at m2
  obtain ⟨st2, hst⟩ : ∃ st2, recallL (full.take j) ((0, 0), []) = st2 := ⟨_, rfl⟩
  rw [hst] at m1 m2
  have hpre : st2.2 <+: hi.2 := m2.2.trans hhi.2
  have hr := (recall_ok (full.take j) ((0, 0), []) ok_none.1 (fun _ h => by cases h)).1
  rw [hst] at hr
  refine ⟨full.take j, st2, c2, by omega, c1, ok_crash _ _, by omega, hst, ⟨by rw [ec]; exact c4, by rw [ec], by rw [ec]; exact ok_lgE, Nat.le_trans (cut_size _) hz2, hst, hg.take j, hr, fun b hb' => hb b (hpre.subset hb'), Nat.le_trans hpre.length_le hl, hlen⟩, m1.1, ?_, m1.2.length_le, hpre⟩
  exact ⟨Int.le_trans m2.1.1 hhi.1.1, Int.le_trans m2.1.2 hhi.1.2⟩
theorem fuse_ok {s : Lg} {n : Int} (h : OkL s) (hn : n ≤ 9223372036854775807) : OkL (fuseL s n) := by
  unfold fuseL; split
  · exact h
  · exact ⟨by show -1 ≤ max n (-1); omega, by show max n (-1) ≤ _; omega⟩
theorem LogI.fuse {s : Lg} {all : List ByteArray} {st : MemT} {i : Nat} (h : LogI s all st i) {n : Int} (hn : n ≤ 9223372036854775807) : LogI (fuseL s n) all st i := by
  have e : (fuseL s n).safe = s.safe ∧ (fuseL s n).wait = s.wait ∧ (fuseL s n).gone = s.gone := by unfold fuseL; split <;> exact ⟨rfl, rfl, rfl⟩
  obtain ⟨e1, e2, e3⟩ := e
  exact ⟨h.inv.same e1 e2, by rw [e3]; exact h.gone, fuse_ok h.ok hn, by show (fuseL s n).safe.size + (fuseL s n).wait.size ≤ _; rw [e1, e2]; exact h.size, h.rec_, h.good, h.right, h.blocks, h.len, h.alen⟩
theorem leS_up {a b : StT} : leS a (upS a b) := ⟨by show a.1 ≤ max a.1 b.1; omega, by show a.2 ≤ max a.2 b.2; omega⟩
/-- behind a save that is done -/
theorem crash_done {s1 : Lg} {all : List ByteArray} {st : MemT} {i : Nat} (h : LogI s1 all st (i + 1)) (hi : i ≤ 30) (c : Int) : ∃ all2 st2, CrashI s1 c st st i all2 st2 :=
  crash_of h.inv h.size hi h.alen h.good (by rw [List.take_length]; exact h.rec_) (by rw [h.rec_]; exact ⟨leS.refl _, List.prefix_rfl⟩) h.blocks h.len c
/-- behind a save at which the power goes -/
theorem crash_lost {s : Lg} {all : List ByteArray} {st : MemT} {i : Nat} (h : LogI s all st i) {x : StT} {L : List BlockD} (hx : rightS x) (hL : ∀ b ∈ L, blockOk b) (hl : L.length ≤ 5) (hi : i ≤ 30) {s1 : Lg} (hz : sizeL s1 ≤ 28028 * (i + 1)) {k : Nat}
    (hv : InvS s1 (all ++ (recsOf st.1 x L).take k) all.length) (c : Int) : ∃ all2 st2, CrashI s1 c st (upS st.1 x, st.2 ++ L) i all2 st2 := by
  have hg := recs_good (st := st.1) hx hL
  have hr := recs_length (st := st.1) (x := x) hl
  have m := recall_mono ((recsOf st.1 x L).drop k) (recallL (all ++ (recsOf st.1 x L).take k) ((0, 0), []))
  have hg2 : GoodL (all ++ (recsOf st.1 x L).take k) := h.good.append (hg.take k)
  have e : recallL ((recsOf st.1 x L).drop k) (recallL (all ++ (recsOf st.1 x L).take k) ((0, 0), [])) = (upS st.1 x, st.2 ++ L) := by
    rw [← recall_append _ _ _ hg2, List.append_assoc, List.take_append_drop, recall_append _ _ _ h.good, h.rec_]
    exact recall_recs st.2 hx hL
  rw [e] at m
  refine crash_of hv hz hi ?_ hg2 ?_ m ?_ ?_ c
  · rw [List.length_append, List.length_take]; have := h.alen; omega
  · rw [List.take_left]; exact h.rec_
  · intro b hb; exact (List.mem_append.1 hb).elim (h.blocks b) (hL b)
  · show (st.2 ++ L).length ≤ _; rw [List.length_append]; have := h.len; omega
theorem bv_take {w : World} {a : Option Addr} {n c : Nat} {L : List Bv} (h : BvAt w (.slice a n c) L) (k c' : Nat) (hk : k ≤ L.length) : BvAt w (.slice a k c') (L.take k) := by
  have hl : (L.take k).length = k := by rw [List.length_take]; omega
  obtain ⟨a0, cap, e, h⟩ := h
  injection e with e1 e2 e3
  subst e1
  refine ⟨a, c', by rw [hl], ?_⟩
  rcases h with rfl | ⟨b, off, rfl, hb, hc⟩
  · exact .inl (by simp)
  · refine .inr ⟨b, off, rfl, hb, fun i hi => ?_⟩
    rw [hl] at hi
    have e : (L.take k).getD i vb0 = L.getD i vb0 := by
      rw [List.getD_eq_getElem?_getD, List.getD_eq_getElem?_getD, List.getElem?_take]
      rw [if_pos hi]
    rw [e]
    exact hc i (by omega)
theorem run_slice_hi {P : Program} {w : World} {t e sz n cap hi : Nat} {a : Option Addr} (hU : (underlying t).run P w = .ok (.slice e) w) (hS : (Go.sizeOf e).run P w = .ok sz w) (h1 : hi ≤ cap) :
    (Instr.sliceAt t (.slice a n cap) none (some (.int .i64 (hi : Int))) none).run P w = .ok (.slice a hi cap) w := by
  have h2 : ¬ cap < hi := by omega
  have h4 : (fun x : Addr => x.add 0) = id := by funext x; unfold Addr.add; rw [if_pos rfl]; rfl
  unfold Instr.sliceAt Instr.slice
  simp [hU, Instr.sliceBounds, Instr.sliceBound, asIntOf, hS, h1, h4]
theorem hold_slice6 {P : Program} {ops : Array Oper} {Q : Exit → Act → World → Prop} {a : Act} {w : World} {rest : List Oper} {o : Oper} {T : TypeId} {x : Operand} {p q r : Option Operand} (_ho : o.op = .slice T x p q r) (h : Held (wpList P ops Q (o :: rest) a w)) : wpList P ops Q (o :: rest) a w := h
theorem wpl_slice_hi {P : Program} {ops : Array Oper} {Q : Exit → Act → World → Prop} {a : Act} {w : World} {rest : List Oper} {o : Oper} {t e sz n cap hi : Nat} {a0 : Option Addr} (x z : Operand) (hg : Region.wanted o (yielded ops a.tmps) = true) (ho : o.op = .slice t x none (some z) none)
    (hx : a.eval x = .slice a0 n cap) (hz : a.eval z = .int .i64 (hi : Int)) (hU : (underlying t).run P w = .ok (.slice e) w) (hS : (Go.sizeOf e).run P w = .ok sz w) (h1 : hi ≤ cap) (hK : wpList P ops Q rest (a.put o.dst (.slice a0 hi cap)) w) : wpList P ops Q (o :: rest) a w := by
  have := run_slice_hi (P := P) (a := a0) (n := n) hU hS h1
  have h : (execOp a.eval o).run P w = .ok (.value (.slice a0 hi cap)) w := by
    unfold execOp
    simp only [ho, Option.map_some, Option.map_none, hx, hz, Sem.run_bind, this, Result.andThen_ok, Sem.run_pure]
  unfold wpList
  rw [if_pos hg]
  left
  unfold Oper.wp
  rw [h]
  exact hK
end TT
end
section
open Go Go.RowKit
namespace Go.Proofs.YtnahebfhhcebpaaGreat
open TT SS RR FF JJ CC MM WW BB
def Sw (C : Code10) (W w : World) (m g y z : Nat) (p : Prop) (st : MemT) (s : Lg) (q r : StT) (u : Value) (B : List Bv) : Prop :=
  ∃ O O1, At9 O w g s ∧ (p → C.At O1 w m g st) ∧ (∀ b, O1 b → b < w.heap.size) ∧ (∀ b, O b → W.heap.size ≤ b ∧ b ≠ y ∧ b ≠ z) ∧ (∀ b, O1 b → W.heap.size ≤ b ∧ ¬ O b ∧ b ≠ y ∧ b ≠ z) ∧ Below W.heap.size W w ∧ (W.heap.size ≤ y ∧ W.heap.size ≤ z ∧ y ≠ z) ∧
    (Blk w y 2 (rowL [.int .i64 q.1, .int .i64 q.2]) ∧ Blk w z 2 (rowL [.int .i64 r.1, .int .i64 r.2])) ∧ Dep (fun b => ¬ O b ∧ ¬ O1 b ∧ b ≠ y ∧ b ≠ z) w (fun w' => BvAt w' u B)
section
variable {C : Code10} {W w w' : World} {m g y z : Nat} {p : Prop} {st st' : MemT} {s s' : Lg} {q q' r r' : StT} {u u' : Value} {B L : List Bv}
theorem Sw.low (h : Sw C W w m g y z p st s q r u B) (hb : Below w.heap.size w w') : Sw C W w' m g y z p st s q r u B := by
  obtain ⟨O, O1, h1, h2, h2', h3, h4, h5, h6, h7, h8⟩ := h
  exact ⟨O, O1, at9_keep h1 (Keeps.of hb), fun hp => C.keep (h2 hp) (Keeps.of hb), fun b h => Nat.lt_of_lt_of_le (h2' b h) hb.size, h3, h4, h5.trans (hb.mono h5.size), h6, ⟨h7.1.below hb h7.1.lt, h7.2.below hb h7.2.lt⟩, h8.on (Keeps.of hb)⟩
theorem Sw.below (h : Sw C W w m g y z p st s q r u B) : Below W.heap.size W w := by
  obtain ⟨O, O1, h1, h2, h2', h3, h4, h5, h6, h7, h8⟩ := h
  exact h5
theorem Sw.y_ (h : Sw C W w m g y z p st s q r u B) : Blk w y 2 (rowL [.int .i64 q.1, .int .i64 q.2]) := by
  obtain ⟨O, O1, h1, h2, h2', h3, h4, h5, h6, h7, h8⟩ := h
  exact h7.1
theorem Sw.z_ (h : Sw C W w m g y z p st s q r u B) : Blk w z 2 (rowL [.int .i64 r.1, .int .i64 r.2]) := by
  obtain ⟨O, O1, h1, h2, h2', h3, h4, h5, h6, h7, h8⟩ := h
  exact h7.2
theorem Sw.bv (h : Sw C W w m g y z p st s q r u B) : BvAt w u B := by
  obtain ⟨O, O1, h1, h2, h2', h3, h4, h5, h6, h7, h8⟩ := h
  exact h8.now
theorem Sw.lost (h : Sw C W w m g y z p st s q r u B) : Sw C W w m g y z False st' s q r u B := by
  obtain ⟨O, O1, h1, h2, h2', h3, h4, h5, h6, h7, h8⟩ := h
  exact ⟨O, O1, h1, fun h => h.elim, h2', h3, h4, h5, h6, h7, h8⟩
theorem Sw.imp {p' : Prop} (h : Sw C W w m g y z p st s q r u B) (hp : p' → p) : Sw C W w m g y z p' st s q r u B := by
  obtain ⟨O, O1, h1, h2, h2', h3, h4, h5, h6, h7, h8⟩ := h
  exact ⟨O, O1, h1, fun h => h2 (hp h), h2', h3, h4, h5, h6, h7, h8⟩
theorem Sw.storeY (h : Sw C W w m g y z p st s q r u B) (hB : Blk w' y 2 (rowL [.int .i64 q'.1, .int .i64 q'.2])) (hu : Upd y w w') : Sw C W w' m g y z p st s q' r u B := by
  obtain ⟨O, O1, h1, h2, h2', h3, h4, h5, h6, h7, h8⟩ := h
  have hk := hu.below (Nat.zero_le y)
  exact ⟨O, O1, at9_keep h1 (Keeps.upd hu fun b hb => (h3 b hb).2.1), fun hp => C.keep (h2 hp) (Keeps.upd hu fun b hb => (h4 b hb).2.2.1), fun b h => Nat.lt_of_lt_of_le (h2' b h) hk.size, h3, h4, h5.trans (hu.below h6.1), h6, ⟨hB, h7.2.upd hu (Ne.symm h6.2.2)⟩, h8.on (Keeps.upd hu fun b hb => hb.2.2.1)⟩
theorem Sw.storeZ (h : Sw C W w m g y z p st s q r u B) (hB : Blk w' z 2 (rowL [.int .i64 r'.1, .int .i64 r'.2])) (hu : Upd z w w') : Sw C W w' m g y z p st s q r' u B := by
  obtain ⟨O, O1, h1, h2, h2', h3, h4, h5, h6, h7, h8⟩ := h
  have hk := hu.below (Nat.zero_le z)
  exact ⟨O, O1, at9_keep h1 (Keeps.upd hu fun b hb => (h3 b hb).2.2), fun hp => C.keep (h2 hp) (Keeps.upd hu fun b hb => (h4 b hb).2.2.2), fun b h => Nat.lt_of_lt_of_le (h2' b h) hk.size, h3, h4, h5.trans (hu.below h6.2.1), h6, ⟨h7.1.upd hu h6.2.2, hB⟩, h8.on (Keeps.upd hu fun b hb => hb.2.2.2)⟩
theorem Sw.row {e : TypeId} (h : Sw C W w m g y z p st s q r u B) (hb : Below w.heap.size w w') (hr : w'.ownsRow w.heap.size e 6 u' (B ++ L).length (cellsB (B ++ L))) {v : Value} (hv : ∀ w', Below W.heap.size W w' → BvAt w' v L) : Sw C W w' m g y z p st s q r u' (B ++ L) := by
  obtain ⟨O, O1, h1, h2, h2', h3, h4, h5, h6, h7, h8⟩ := h
  have h5' : Below W.heap.size W w' := h5.trans (hb.mono h5.size)
  refine ⟨O, O1, at9_keep h1 (Keeps.of hb), fun hp => C.keep (h2 hp) (Keeps.of hb), fun b h => Nat.lt_of_lt_of_le (h2' b h) hb.size, h3, h4, h5', h6, ⟨h7.1.below hb h7.1.lt, h7.2.below hb h7.2.lt⟩, dep_bv hr (fun x hx => ?_) fun c hc => ?_⟩
  · rcases List.mem_append.1 hx with hx | hx
    · exact dep_inn (h8.on (Keeps.of hb)) x hx
    · intro w2 hk
      exact bv_inn (hv w2 (h5'.trans (SS.Keeps.low9 hk (fun b hl => ⟨fun h => absurd (h3 b h).1 (by omega), fun h => absurd (h4 b h).1 (by omega), by omega, by omega⟩) h5'.size))) x hx
  · have hc' := (hr.lt c hc).1
    have hy := h7.1.lt
    have hz := h7.2.lt
    exact ⟨fun h => by have := at9_lt h1 c h; omega, fun h => by have := h2' c h; omega, by omega, by omega⟩
/-- behind a call on the log alone, at which a memory that is kept stays -/
theorem Sw.step {O O1 O' : Nat → Prop} (h2 : p → C.At O1 w m g st) (h2' : ∀ b, O1 b → b < w.heap.size) (h3 : ∀ b, O b → W.heap.size ≤ b ∧ b ≠ y ∧ b ≠ z) (h4 : ∀ b, O1 b → W.heap.size ≤ b ∧ ¬ O b ∧ b ≠ y ∧ b ≠ z) (h5 : Below W.heap.size W w) (h6 : W.heap.size ≤ y ∧ W.heap.size ≤ z ∧ y ≠ z)
    (h7 : Blk w y 2 (rowL [.int .i64 q.1, .int .i64 q.2]) ∧ Blk w z 2 (rowL [.int .i64 r.1, .int .i64 r.2])) (h8 : Dep (fun b => ¬ O b ∧ ¬ O1 b ∧ b ≠ y ∧ b ≠ z) w (fun w' => BvAt w' u B)) (k1 : At9 O' w' g s') (k3 : Keeps (fun b => ¬ O b) w w') (k4 : ∀ b, O' b → O b ∨ w.heap.size ≤ b) :
    Sw C W w' m g y z p st s' q r u B := by
  have hy := h7.1.lt
  have hz := h7.2.lt
  have hk : Below W.heap.size W w' := h5.trans (SS.Keeps.low9 k3 (fun b hl => fun h => absurd (h3 b h).1 (by omega)) h5.size)
  refine ⟨O', O1, k1, fun hp => C.keep (h2 hp) (k3.sub fun b h _ => (h4 b h).2.1), fun b h => Nat.lt_of_lt_of_le (h2' b h) k3.b0.size, fun b h => (k4 b h).elim (h3 b) fun h => ⟨Nat.le_trans h5.size h, by omega, by omega⟩, fun b h => ⟨(h4 b h).1, fun k => (k4 b k).elim (h4 b h).2.1 fun k => by have := h2' b h; omega, (h4 b h).2.2⟩, hk, h6,
    ⟨blk_keeps h7.1 k3 (fun h => (h3 y h).2.1 rfl), blk_keeps h7.2 k3 (fun h => (h3 z h).2.2 rfl)⟩, dep_step h8 (k3.sub fun b hb _ => hb.1) fun b hb hl => ⟨fun h => (k4 b h).elim hb.1 (by omega), hb.2⟩⟩
theorem fuse_sw (h : Sw C W w m g y z p st s q r u B) {n : Int} (hn : -9223372036854775808 ≤ n ∧ n ≤ 9223372036854775807) :
    Calls Tryz.prog 22 #[.pointer (some ⟨g, 0, none⟩), .int .i64 n] w fun e w' => e = .returned (.tuple #[]) ∧ Sw C W w' m g y z p st (fuseL s n) q r u B := by
  obtain ⟨O, O1, h1, h2, h2', h3, h4, h5, h6, h7, h8⟩ := h
  refine (fuse9 O w g s n h1 hn).mono ?_
  rintro e w' ⟨rfl, O', k1, k2, k3⟩
  exact ⟨rfl, Sw.step h2 h2' h3 h4 h5 h6 h7 h8 k1 k2 k3⟩
theorem crash_sw (h : Sw C W w m g y z p st s q r u B) {n : Int} (hz : sizeL s ≤ 1000000) :
    Calls Tryz.prog 23 #[.pointer (some ⟨g, 0, none⟩), .int .i64 n] w fun e w' => e = .returned (.tuple #[]) ∧ Sw C W w' m g y z p st (crashL s n) q r u B := by
  obtain ⟨O, O1, h1, h2, h2', h3, h4, h5, h6, h7, h8⟩ := h
  refine (crash9 O w g s n h1 hz).mono ?_
  rintro e w' ⟨rfl, O', k1, k2, k3⟩
  exact ⟨rfl, Sw.step h2 h2' h3 h4 h5 h6 h7 h8 k1 k2 k3⟩
theorem open_sw (h : Sw C W w m g y z p st s q r u B) (ok : OkL s) (hz : sizeL s ≤ 1000000) (hr : (recsL s).length ≤ 1000) (hg : s.gone = false) :
    Calls Tryz.prog 10 #[.pointer (some ⟨g, 0, none⟩)] w fun e w' => ∃ m', e = .returned (.tuple #[.pointer (some ⟨m', 0, none⟩), .int .i64 0]) ∧ Sw C W w' m' g y z True (recallL (recsL s) ((0, 0), [])) (cutL s) q r u B := by
  obtain ⟨O, O1, h1, h2, h2', h3, h4, h5, h6, h7, h8⟩ := h
  refine (C.open_ O w g s h1 ok hz hr hg).mono ?_
  rintro e w' ⟨m', O', O1', rfl, k1, k2, k3, k4, k5⟩
  have hy := h7.1.lt
  have hz := h7.2.lt
  have hk : Below W.heap.size W w' := h5.trans (SS.Keeps.low9 k3 (fun b hl => fun h => absurd (h3 b h).1 (by omega)) h5.size)
  refine ⟨m', rfl, O', O1', k1, fun _ => k2, C.lt k2, fun b h => (k4 b h).elim (h3 b) fun h => ⟨Nat.le_trans h5.size h, by omega, by omega⟩, fun b h => ⟨Nat.le_trans h5.size (k5 b h).1, (k5 b h).2, by have := (k5 b h).1; omega, by have := (k5 b h).1; omega⟩, hk, h6,
    ⟨blk_keeps h7.1 k3 (fun h => (h3 y h).2.1 rfl), blk_keeps h7.2 k3 (fun h => (h3 z h).2.2 rfl)⟩, dep_step h8 (k3.sub fun b hb _ => hb.1) fun b hb hl => ⟨fun h => (k4 b h).elim hb.1 (by omega), fun h => by have := (k5 b h).1; omega, hb.2.2⟩⟩
theorem blocks_sw (h : Sw C W w m g y z True st s q r u B) (ok : OkT st) :
    Calls Tryz.prog 15 #[.pointer (some ⟨m, 0, none⟩)] w fun e w' => ∃ u1 L1, e = .returned u1 ∧ L1.map Prod.fst = st.2 ∧ Sw C W w' m g y z True st s q r u1 L1 ∧ BvAt w' u B ∧ Below w.heap.size w w' := by
  have h0 := h
  obtain ⟨O, O1, h1, h2, h2', h3, h4, h5, h6, h7, h8⟩ := h
  refine (C.blocks O1 w m g st (h2 trivial) ok).mono ?_
  rintro e w' ⟨u1, L1, rfl, k1, k2, k3⟩
  have hy := h7.1.lt
  have hz := h7.2.lt
  refine ⟨u1, L1, rfl, k1, ⟨O, O1, at9_keep h1 (Keeps.of k3), fun hp => C.keep (h2 hp) (Keeps.of k3), fun b h => Nat.lt_of_lt_of_le (h2' b h) k3.size, h3, h4, h5.trans (k3.mono h5.size), h6, ⟨h7.1.below k3 hy, h7.2.below k3 hz⟩, k2.more fun b hb _ => ⟨fun h => by have := at9_lt h1 b h; omega, fun h => by have := h2' b h; omega, by omega, by omega⟩⟩, (h0.low k3).bv, k3⟩
theorem state_sw (h : Sw C W w m g y z True st s q r u B) (ok : OkT st) :
    Calls Tryz.prog 13 #[.pointer (some ⟨m, 0, none⟩)] w fun e w' => e = .returned (.agg #[.int .i64 st.1.1, .int .i64 st.1.2]) ∧ Below w.heap.size w w' := by
  obtain ⟨O, O1, h1, h2, h2', h3, h4, h5, h6, h7, h8⟩ := h
  exact C.state O1 w m g st (h2 trivial) ok
/-- one save, of a log with or without a fuse -/
theorem save_sw (h : Sw C W w m g y z True st s q r u B) {all : List ByteArray} {i : Nat} (hl : LogI s all st i) (hi : i ≤ 30) (x : StT) (v : Value) (L : List Bv) (hv : ∀ w', Below W.heap.size W w' → BvAt w' v L) (hs : ∀ y ∈ L, SmallT y.1 ∧ MemI y.1) (hl5 : L.length ≤ 5) (hx : rightS x) (hL : ∀ y ∈ L, blockOk y.1) :
    Calls Tryz.prog 11 #[.pointer (some ⟨m, 0, none⟩), .agg #[.int .i64 x.1, .int .i64 x.2], v] w fun e w' => ∃ (E : Int) (s1 : Lg), e = .returned (.int .i64 E) ∧ Sw C W w' m g y z (E = 0) (upS st.1 x, st.2 ++ L.map Prod.fst) s1 q r u B ∧ sizeL s1 ≤ 28028 * (i + 1) ∧
      ((E = 0 ∧ ∃ all1, LogI s1 all1 (upS st.1 x, st.2 ++ L.map Prod.fst) (i + 1)) ∨ (E = 8 ∧ ∃ k, InvS s1 (all ++ (recsOf st.1 x (L.map Prod.fst)).take k) all.length)) := by
  obtain ⟨O, O1, h1, h2, h2', h3, h4, h5, h6, h7, h8⟩ := h
  have hL' : ∀ b ∈ L.map Prod.fst, blockOk b := fun b hb => by obtain ⟨y, hy, rfl⟩ := List.mem_map.1 hb; exact hL y hy
  have hy := h7.1.lt
  have hz := h7.2.lt
  refine (C.save O O1 (fun b => b < W.heap.size) w m g st s x v L h1 (h2 trivial) (fun b h => (h4 b h).2.1) hl.ok hl.gone (hl.sz hi) (hl.okT (by omega)) (fun w' hk => hv w' (h5.trans (SS.Keeps.low9 hk (fun b h => h) h5.size))) (fun b h => ⟨fun k => absurd (h3 b k).1 (by omega), fun k => absurd (h4 b k).1 (by omega)⟩) hs hl5).mono ?_
  intro e w' ha
  rcases logI_save hl (x := x) (L := L.map Prod.fst) hx hL' (by rw [List.length_map]; exact hl5) with ⟨e0, k1, _⟩ | ⟨e8, _, _, ksz, kk, _, k5⟩
  · obtain ⟨rfl, O', O1', n1, n2, n3, n4, n5⟩ := save_fit ha hx hL' e0
    have hk : Below W.heap.size W w' := h5.trans (SS.Keeps.low9 n3 (fun b hl => ⟨fun h => absurd (h3 b h).1 (by omega), fun h => absurd (h4 b h).1 (by omega)⟩) h5.size)
    refine ⟨0, _, rfl, ⟨O', O1', n1, fun _ => n2, C.lt n2, fun b h => (n4 b h).elim (h3 b) fun h => ⟨Nat.le_trans h5.size h, by omega, by omega⟩, fun b h => ?_, hk, h6,
      ⟨blk_keeps h7.1 n3 ⟨fun h => (h3 y h).2.1 rfl, fun h => (h4 y h).2.2.1 rfl⟩, blk_keeps h7.2 n3 ⟨fun h => (h3 z h).2.2 rfl, fun h => (h4 z h).2.2.2 rfl⟩⟩, dep_step h8 (n3.sub fun b hb _ => ⟨hb.1, hb.2.1⟩) fun b hb hl => ⟨fun h => (n4 b h).elim hb.1 (by omega), fun h => (n5 b h).1.elim hb.2.1 (by omega), hb.2.2⟩⟩, k1.size, .inl ⟨rfl, _, k1⟩⟩
    rcases (n5 b h).1 with h0 | h0
    · exact ⟨(h4 b h0).1, (n5 b h).2, (h4 b h0).2.2⟩
    · exact ⟨Nat.le_trans h5.size h0, (n5 b h).2, by omega, by omega⟩
  · obtain ⟨rfl, O', n1, n3, n4⟩ := save_lost ha hx hL' e8
    have hk : Below W.heap.size W w' := h5.trans (SS.Keeps.low9 n3 (fun b hl => ⟨fun h => absurd (h3 b h).1 (by omega), fun h => absurd (h4 b h).1 (by omega)⟩) h5.size)
    exact ⟨8, _, rfl, ⟨O', fun _ => False, n1, fun h => absurd h (by omega), fun _ h => h.elim, fun b h => (n4 b h).elim (h3 b) fun h => ⟨Nat.le_trans h5.size h, by omega, by omega⟩, fun _ h => h.elim, hk, h6,
      ⟨blk_keeps h7.1 n3 ⟨fun h => (h3 y h).2.1 rfl, fun h => (h4 y h).2.2.1 rfl⟩, blk_keeps h7.2 n3 ⟨fun h => (h3 z h).2.2 rfl, fun h => (h4 z h).2.2.2 rfl⟩⟩, dep_step (h8.more (A' := fun b => ¬ O b ∧ ¬ O1 b ∧ b ≠ y ∧ b ≠ z) fun b hb _ => hb) (n3.sub fun b hb _ => ⟨hb.1, hb.2.1⟩) fun b hb hl => ⟨fun h => (n4 b h).elim hb.1 (by omega), fun h => h, hb.2.2⟩⟩, ksz, .inr ⟨rfl, kk, k5⟩⟩
end
end Go.Proofs.YtnahebfhhcebpaaGreat
end
