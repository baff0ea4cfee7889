/-
  The walks of the code's Recall and of what makes blocks' records.
-/
import Derived.Test.YtnahebfhhcebpaaKTSame
import Derived.Test.YtnahebfhhcebpaaKSWalkC
import Derived.Test.YtnahebfhhcebpaaKSWalkR
import Derived.Test.YtnahebfhhcebpaaKTApp
import Derived.Maps.AppendAt
section
open Go Go.RowKit
namespace TT
open SS RR WW BB FF JJ
/-- what is remembered is right -/
def OkT (st : MemT) : Prop := rightS st.1 ∧ (∀ b ∈ st.2, blockOk b) ∧ st.2.length ≤ 1000
/-- a block whose bytes are not too many -/
def SmallT (b : BlockD) : Prop := SmallB (parI b) (sigsI b) b.2
theorem few_smallT {b : BlockD} (h : fewI b = true) : SmallT b := few_smallB h
theorem SmallT.d {b : BlockD} (h : SmallT b) : SmallD b := ⟨by have := h.1; omega, h.2.1, h.2.2.1⟩
theorem ok_none : OkT ((0, 0), []) := ⟨⟨by show (0 : Int) ≤ 0; omega, by show (0 : Int) ≤ 1000000; omega, by show (0 : Int) ≤ 0; omega, by show (0 : Int) ≤ 1000000; omega⟩, fun _ h => (by cases h), Nat.zero_le _⟩
theorem readS_right {b : ByteArray} {s : StT} (h : readS b = some s) : rightS s := by
  unfold readS at h
  split at h
  · split at h
    · rename_i h2
      injection h with h
      subst h
      exact ⟨by show (0 : Int) ≤ ((_ : Nat) : Int); omega, by show ((_ : Nat) : Int) ≤ 1000000; omega, by show (0 : Int) ≤ ((_ : Nat) : Int); omega, by show ((_ : Nat) : Int) ≤ 1000000; omega⟩
    · cases h
  · cases h
theorem up_right {a b : StT} (h : rightS a) (k : rightS b) : rightS (upS a b) := by
  obtain ⟨a1, a2, a3, a4⟩ := h
  obtain ⟨b1, b2, b3, b4⟩ := k
  exact ⟨by show 0 ≤ max a.1 b.1; omega, by show max a.1 b.1 ≤ 1000000; omega, by show 0 ≤ max a.2 b.2; omega, by show max a.2 b.2 ≤ 1000000; omega⟩
theorem recall_ok : ∀ (l : List ByteArray) (a : MemT), rightS a.1 → (∀ b ∈ a.2, blockOk b) → rightS (recallL l a).1 ∧ (∀ b ∈ (recallL l a).2, blockOk b) ∧ (recallL l a).2.length ≤ a.2.length + l.length
  | [], a, h, k => ⟨h, k, by show a.2.length ≤ a.2.length + 0; omega⟩
  | r :: l, a, h, k => by
    cases hx : oneD r with
    | none => rw [recall_stop hx]; exact ⟨h, k, by omega⟩
    | some x =>
      rw [recall_cons hx]
      unfold oneD at hx
      split at hx
      · cases hs : readS (r.extract 1 r.size) with
        | none => rw [hs] at hx; cases hx
        | some s =>
          rw [hs] at hx
          injection hx with hx
          subst hx
          obtain ⟨i1, i2, i3⟩ := recall_ok l (upS a.1 s, a.2) (up_right h (readS_right hs)) k
          exact ⟨i1, i2, by rw [List.length_cons]; have i3 : _ ≤ a.2.length + l.length := i3; show (recallL l (upS a.1 s, a.2)).2.length ≤ _; omega⟩
      · split at hx
        · cases hs : blockRd (r.extract 1 r.size) with
          | none => rw [hs] at hx; cases hx
          | some d =>
            rw [hs] at hx
            injection hx with hx
            subst hx
            obtain ⟨i1, i2, i3⟩ := recall_ok l (a.1, a.2 ++ [d]) h (fun b hb => (List.mem_append.1 hb).elim (k b) fun e => by rw [List.mem_singleton.1 e]; exact (blockRd_sound hs).2)
            exact ⟨i1, i2, by rw [List.length_cons]; have i3 : _ ≤ (a.2 ++ [d]).length + l.length := i3; rw [List.length_append] at i3; show (recallL l (a.1, a.2 ++ [d])).2.length ≤ _; have : [d].length = 1 := rfl; omega⟩
        · cases hx
/-- the memory, and its log, behind a call -/
def NextT (At : (Nat → Prop) → World → Nat → Nat → MemT → Prop) (O O1 : Nat → Prop) (w : World) (m g : Nat) (st : MemT) (s : Lg) (w' : World) : Prop :=
  ∃ O' O1', At9 O' w' g s ∧ At O1' w' m g st ∧ Keeps (fun b => ¬ O b ∧ ¬ O1 b) w w' ∧ (∀ b, O' b → O b ∨ w.heap.size ≤ b) ∧ ∀ b, O1' b → (O1 b ∨ w.heap.size ≤ b) ∧ ¬ O' b
/-- the log alone, behind a call that has lost -/
def LostT (O O1 : Nat → Prop) (w : World) (g : Nat) (s : Lg) (w' : World) : Prop :=
  ∃ O', At9 O' w' g s ∧ Keeps (fun b => ¬ O b ∧ ¬ O1 b) w w' ∧ ∀ b, O' b → O b ∨ w.heap.size ≤ b
/-- what Save answers -/
def SaveAns (At : (Nat → Prop) → World → Nat → Nat → MemT → Prop) (O O1 : Nat → Prop) (w : World) (m g : Nat) (st : MemT) (s : Lg) (x : StT) (L : List BlockD) (e : Ending) (w' : World) : Prop :=
  if rightS x ∧ ∀ b ∈ L, blockOk b then
    e = .returned (.int .i64 (putL s (recsOf st.1 x L)).2) ∧
    (if (putL s (recsOf st.1 x L)).2 = 0 then NextT At O O1 w m g (upS st.1 x, st.2 ++ L) (putL s (recsOf st.1 x L)).1 w' else LostT O O1 w g (putL s (recsOf st.1 x L)).1 w')
  else e = .returned (.int .i64 2) ∧ Below w.heap.size w w'
end TT
namespace Go.Proofs.Ytnahebfhhcebpaa
open TT SS RR FF WW BB
structure Code10 where
  At : (Nat → Prop) → World → Nat → Nat → MemT → Prop
  keep : ∀ {O w w' m g st}, At O w m g st → Keeps O w w' → At O w' m g st
  lt : ∀ {O w m g st}, At O w m g st → ∀ b, O b → b < w.heap.size
  record : ∀ v l w, Calls Try.prog 25 #[.agg #[.int .i64 v, .int .i64 l]] w fun e w' => e = .returned (.string (rcS (v, l))) ∧ Below w.heap.size w w'
  blockRecord : ∀ (x : Bv) w, InnB w x → SmallD x.1 → Calls Try.prog 33 #[bvV x] w fun e w' => e = .returned (.string (rcB x.1)) ∧ Below w.heap.size w w'
  recall : ∀ l v w, StrsAt w v l → (∀ r ∈ l, r.size ≤ 1000000) → l.length ≤ 1000 →
    Calls Try.prog 6 #[v] w fun e w' => ∃ u L, e = .returned (.tuple #[.agg #[.int .i64 (recallL l ((0, 0), [])).1.1, .int .i64 (recallL l ((0, 0), [])).1.2], u]) ∧ L.map Prod.fst = (recallL l ((0, 0), [])).2 ∧ BvAt w' u L ∧ Below w.heap.size w w'
  open_ : ∀ O w g s, At9 O w g s → OkL s → sizeL s ≤ 1000000 → (recsL s).length ≤ 1000 → s.gone = false →
    Calls Try.prog 8 #[.pointer (some ⟨g, 0, none⟩)] w fun e w' => ∃ m O' O1, e = .returned (.tuple #[.pointer (some ⟨m, 0, none⟩), .int .i64 0]) ∧ At9 O' w' g (cutL s) ∧ At O1 w' m g (recallL (recsL s) ((0, 0), [])) ∧
      Keeps (fun b => ¬ O b) w w' ∧ (∀ b, O' b → O b ∨ w.heap.size ≤ b) ∧ ∀ b, O1 b → w.heap.size ≤ b ∧ ¬ O' b
  state : ∀ O w m g st, At O w m g st → OkT st → Calls Try.prog 11 #[.pointer (some ⟨m, 0, none⟩)] w fun e w' => e = .returned (.agg #[.int .i64 st.1.1, .int .i64 st.1.2]) ∧ Below w.heap.size w w'
  blocks : ∀ O w m g st, At O w m g st → OkT st → Calls Try.prog 12 #[.pointer (some ⟨m, 0, none⟩)] w fun e w' => ∃ u L, e = .returned u ∧ L.map Prod.fst = st.2 ∧ Dep (fun b => w.heap.size ≤ b) w' (fun w'' => BvAt w'' u L) ∧ Below w.heap.size w w'
  save : ∀ (O O1 A : Nat → Prop) w m g st s (x : StT) v (L : List Bv), At9 O w g s → At O1 w m g st → (∀ b, O1 b → ¬ O b) → OkL s → s.gone = false → sizeL s ≤ 900000 → OkT st → Dep A w (fun w' => BvAt w' v L) → (∀ b, A b → ¬ O b ∧ ¬ O1 b) → (∀ y ∈ L, SmallT y.1 ∧ MemI y.1) → L.length ≤ 5 →
    Calls Try.prog 14 #[.pointer (some ⟨m, 0, none⟩), .agg #[.int .i64 x.1, .int .i64 x.2], v] w (SaveAns At O O1 w m g st s x (L.map Prod.fst))
section
variable {C : Code10} {O O1 : Nat → Prop} {w w1 : World} {m g : Nat} {st : MemT}
theorem Code10.low (h : C.At O w m g st) (hb : Below w.heap.size w w1) : C.At O w1 m g st := C.keep h (Keeps.of hb)
end
end Go.Proofs.Ytnahebfhhcebpaa
end
section
open Go Go.RowKit
namespace TT
open SS RR WW BB FF
def lgE : Lg := ⟨⟨#[]⟩, ⟨#[]⟩, -1, false⟩
theorem inv_lgE : InvS lgE [] ([] : List ByteArray).length := ⟨by show (⟨#[]⟩ : ByteArray) ++ (⟨#[]⟩ : ByteArray) = encL []; rw [SS.app_nil]; rfl, rfl, Nat.le_refl _, fun _ h => (by cases h)⟩
/-- a log of which all is synced -/
theorem inv_whole {s : Lg} {all : List ByteArray} (h : InvS s all all.length) : s.safe = encL all ∧ s.wait = ⟨#[]⟩ := by
  obtain ⟨h1, h2, _, _⟩ := h
  rw [List.take_length] at h2
  refine ⟨h2, ba_nil ?_⟩
  have := congrArg ByteArray.size h1
  rw [ByteArray.size_append, h2] at this
  omega
theorem split_encL : ∀ (l : List ByteArray), (∀ r ∈ l, fitR r) → splitS (encL l) = (l, (encL l).size)
  | [], _ => by
    have : okR (encL []) = false := by rfl
    rw [split_no this]; rfl
  | r :: l, h => by
    have ih := split_encL l fun x hx => h x (by simp [hx])
    have hr := h r (by simp)
    show splitS (encR r ++ encL l) = _
    rw [split_enc hr, ih]
    have : (encL (r :: l)).size = 4 + r.size + (encL l).size := by show (encR r ++ encL l).size = _; rw [ByteArray.size_append, encR_size]
    rw [this]
theorem recs_whole {s : Lg} {all : List ByteArray} (h : InvS s all all.length) (hg : s.gone = false) : recsL s = all := by
  unfold recsL
  rw [if_neg (by rw [hg]; decide), h.1, split_encL all h.2.2.2]
theorem cut_whole {s : Lg} {all : List ByteArray} (h : InvS s all all.length) : cutL s = s := by
  obtain ⟨h1, h2⟩ := inv_whole h
  have h3 := split_encL all h.2.2.2
  unfold cutL
  simp only
  rw [h.1, h3]
  simp only
  rw [h1, Nat.min_self]
  obtain ⟨sa, wa, f, g⟩ := s
  replace h1 : sa = encL all := h1
  replace h2 : wa = ⟨#[]⟩ := h2
  subst h1 h2
  have e1 : (encL all).extract 0 (encL all).size = encL all := by apply ba_ext; rw [ext_list, List.drop_zero, Nat.sub_zero]; exact List.take_of_length_le (by rw [ba_list]; exact Nat.le_refl _)
  have e2 : (encL all).extract (encL all).size (encL all).size = ⟨#[]⟩ := ba_nil (by rw [ByteArray.size_extract]; omega)
  simp only [e1, e2]
theorem recs_len {s : Lg} : (recsL s).length * 5 ≤ sizeL s := by
  unfold recsL sizeL
  split
  · show 0 * 5 ≤ _; omega
  · have h := split_end _ (s.safe ++ s.wait) (Nat.lt_succ_self _)
    rw [ByteArray.size_append] at h
    exact Nat.le_trans h.2 h.1
theorem ok_lgE : OkL lgE := ⟨by show (-1 : Int) ≤ -1; omega, by show (-1 : Int) ≤ 9223372036854775807; omega⟩
end TT
namespace Go.Proofs.Ytnahebfhhcebpaa
open TT SS RR FF JJ CC MM WW BB
/-- a save that the log bears -/
theorem save_fit {C : Code10} {O O1 : Nat → Prop} {w w' : World} {m g : Nat} {st : MemT} {s : Lg} {x : StT} {L : List BlockD} {e : Ending} (h : SaveAns C.At O O1 w m g st s x L e w') (hx : rightS x) (hL : ∀ b ∈ L, blockOk b) (h0 : (putL s (recsOf st.1 x L)).2 = 0) :
    e = .returned (.int .i64 0) ∧ NextT C.At O O1 w m g (upS st.1 x, st.2 ++ L) (putL s (recsOf st.1 x L)).1 w' := by
  unfold SaveAns at h
  rw [if_pos ⟨hx, hL⟩, if_pos h0] at h
  exact ⟨by rw [h.1, h0], h.2⟩
theorem save_lost {C : Code10} {O O1 : Nat → Prop} {w w' : World} {m g : Nat} {st : MemT} {s : Lg} {x : StT} {L : List BlockD} {e : Ending} (h : SaveAns C.At O O1 w m g st s x L e w') (hx : rightS x) (hL : ∀ b ∈ L, blockOk b) (h0 : (putL s (recsOf st.1 x L)).2 = 8) :
    e = .returned (.int .i64 8) ∧ LostT O O1 w g (putL s (recsOf st.1 x L)).1 w' := by
  unfold SaveAns at h
  rw [if_pos ⟨hx, hL⟩, if_neg (by rw [h0]; decide)] at h
  exact ⟨by rw [h.1, h0], h.2⟩
theorem save_form {C : Code10} {O O1 : Nat → Prop} {w w' : World} {m g : Nat} {st : MemT} {s : Lg} {x : StT} {L : List BlockD} {e : Ending} (h : SaveAns C.At O O1 w m g st s x L e w') (hn : ¬ (rightS x ∧ ∀ b ∈ L, blockOk b)) : e = .returned (.int .i64 2) ∧ Below w.heap.size w w' := by
  unfold SaveAns at h
  rw [if_neg hn] at h
  exact h
set_option maxRecDepth 100000 in
set_option maxHeartbeats 4000000 in
theorem awake10_any (C : Code10) (w : World) : Calls Try.prog 4 #[] w fun e w' => e = .returned (.bool true) ∧ Below w.heap.size w w' := by
  have HP := Lib.hid (put_inv inv_lgE (rs := recsOf (0, 0) (1, 0) []) (recs_fit fun _ h => (by cases h)) rfl)
  have HR := Lib.hid (recs_whole inv_lgE rfl)
  have HC := Lib.hid (cut_whole inv_lgE)
  go_enter Try.func4, Try.ntmps4
  go_wp2_with fail
  refine (new9 w).mono ?_
  rintro e w1 ⟨g, O, rfl, hA, hO, hb⟩
  have HA := Lib.hid (show At9 O w1 g lgE from hA)
  have HO := Lib.hid hO
  have HB := Lib.hid hb
  clear hA hO hb
  go_wp2_with fail
  refine (C.open_ O w1 g lgE HA.out ok_lgE (by show 0 + 0 ≤ 1000000; omega) (by rw [HR.out]; exact Nat.zero_le _) rfl).mono ?_
  rintro e w2 ⟨m, O', O1, rfl, hA, hM, hk, hO', hO1⟩
  rw [HC.out] at hA
  rw [HR.out] at hM
  have HA2 := Lib.hid hA
  have HM2 := Lib.hid (show C.At O1 w2 m g ((0, 0), []) from hM)
  have HO2 := Lib.hid (show ∀ b, O' b → w.heap.size ≤ b from fun b h => (hO' b h).elim (HO.out b) fun h => Nat.le_trans HB.out.size h)
  have HO3 := Lib.hid (show ∀ b, O1 b → w.heap.size ≤ b ∧ ¬ O' b from fun b h => ⟨Nat.le_trans HB.out.size (hO1 b h).1, (hO1 b h).2⟩)
  have HB2 := Lib.hid (show Below w.heap.size w w2 from HB.out.trans (SS.Keeps.low9 hk (fun b hl ho => absurd (HO.out b ho) (by omega)) HB.out.size))
  clear hA hM hk hO' hO1
  go_wp2_with fail
  refine (C.save O' O1 (fun _ => False) w2 m g ((0, 0), []) lgE (1, 0) (.slice none 0 0) [] HA2.out HM2.out (fun b h => (HO3.out b h).2) ok_lgE rfl (by show 0 + 0 ≤ 900000; omega) ok_none (fun _ _ => ⟨none, 0, rfl, Or.inl rfl⟩) (fun _ h => h.elim) (fun _ h => (by cases h)) (Nat.zero_le _)).mono ?_
  intro e w3 hs
  have hput : (putL lgE (recsOf (0, 0) (1, 0) [])).2 = 0 := by
    rcases HP.out with h | h
    · exact h.1
    · exact absurd rfl h.2.1
  obtain ⟨rfl, O4, O5, hA, hM, hk, h4, h5⟩ := save_fit hs ⟨by show (0 : Int) ≤ 1; omega, by show (1 : Int) ≤ 1000000; omega, by show (0 : Int) ≤ 0; omega, by show (0 : Int) ≤ 1000000; omega⟩ (fun _ h => (by cases h)) hput
  have HM3 := Lib.hid (show C.At O5 w3 m g ((1, 0), []) from hM)
  have HB3 := Lib.hid (show Below w.heap.size w w3 from HB2.out.trans (SS.Keeps.low9 hk (fun b hl => ⟨fun h => absurd (HO2.out b h) (by omega), fun h => absurd (HO3.out b h).1 (by omega)⟩) HB2.out.size))
  clear hs hput hA hM hk h4 h5
  go_wp2_with fail
  refine (C.state O5 w3 m g ((1, 0), []) HM3.out ⟨⟨by show (0 : Int) ≤ 1; omega, by show (1 : Int) ≤ 1000000; omega, by show (0 : Int) ≤ 0; omega, by show (0 : Int) ≤ 1000000; omega⟩, fun _ h => (by cases h), Nat.zero_le _⟩).mono ?_
  rintro e w4 ⟨rfl, hb4⟩
  have HB4 := Lib.hid (HB3.out.trans (hb4.mono HB3.out.size))
  have hfd : ∀ w, (Instr.field 26 (.agg #[.int .i64 1, .int .i64 0]) 0).run Try.prog w = .ok (.int .i64 1) w := fun w => by kernel_rfl
  clear hb4
  go_wp2_with fail
  go_ret
  exact ⟨rfl, HB4.out⟩
end Go.Proofs.Ytnahebfhhcebpaa
end
section
open Go Go.RowKit
namespace TT
open SS RR WW BB FF
theorem ok_small {b : BlockD} (h : blockOk b) : SmallD b := by
  obtain ⟨h1, h2, h3, _⟩ := right_smallB h
  exact ⟨by have h3 : (parI b).size = 32 := h3; omega, h1, h2⟩
theorem small_all {L : List Bv} {bl : List BlockD} (h : L.map Prod.fst = bl) (k : ∀ b ∈ bl, blockOk b) : ∀ x ∈ L, SmallD x.1 := fun x hx => ok_small (k x.1 (by rw [← h]; exact List.mem_map.2 ⟨x, hx, rfl⟩))
theorem texts_same {L M : List Bv} (h : L.map Prod.fst = M.map Prod.fst) : textsB L = textsB M := by
  have e : ∀ X : List Bv, textsB X = (X.map Prod.fst).map blockD := fun X => by unfold textsB; rw [List.map_map]; rfl
  rw [e, e, h]
theorem enc_len {l : List ByteArray} (h : ∀ r ∈ l, r.size ≤ 300) : (encL l).size ≤ 304 * l.length := by
  induction l with
  | nil => show 0 ≤ _; omega
  | cons r l ih =>
    have h1 := ih fun x hx => h x (by simp [hx])
    have h2 := h r (by simp)
    show (encR r ++ encL l).size ≤ 304 * (l.length + 1)
    rw [ByteArray.size_append, encR_size]; omega
end TT
namespace Go.Proofs.Ytnahebfhhcebpaa
open TT SS RR FF JJ CC MM WW BB
set_option maxRecDepth 100000 in
set_option maxHeartbeats 16000000 in
theorem lawR10 (C : Code10) (l : List ByteArray) (v : Value) (w : World) (hv : StrsAt w v l) :
    Calls Try.prog 3 #[v] w fun e w' => e = .returned (.bool true) ∧ Below w.heap.size w w' := by
  have HV := Lib.hid hv
  obtain ⟨a0, cap, rfl, hx⟩ := hv
  have HX := Lib.hid hx
  clear hx
  by_cases h20 : l.length ≤ 20
  · have h20' : ¬ (20 : Int) < (l.length : Int) := by omega
    have HL := Lib.hid h20
    clear h20
    go_enter Try.func3, Try.ntmps3
    go_wp2_with fail
    refine (awake10_any C w).mono ?_
    rintro e w1 ⟨rfl, hb1⟩
    have X1 := Lib.hid hb1
    clear hb1
    go_wp2_with fail
    go_loopw [3, 4] (fun y z wr => ∃ i : Nat, i ≤ l.length ∧ z = .int .i64 (i : Int) ∧ y = .string (encL (l.take i)) ∧ (∀ r ∈ l.take i, fitR r ∧ r.size ≤ 300) ∧ Below w.heap.size w wr) (fun _ z _ => l.length - (intOf z).toNat)
    case atStart => exact ⟨0, Nat.zero_le _, rfl, rfl, fun r hr => by simp at hr, X1.out⟩
    case round =>
      obtain ⟨i, hi, rfl, rfl, hall, hb⟩ := hrel
      have HALL := Lib.hid hall
      have HB := Lib.hid hb
      have i0 : (0 : Int) ≤ (i : Int) := by omega
      have ib : (i : Int) ≤ 20 := by have := HL.out; omega
      clear hall hb
      by_cases hlt : i < l.length
      · have hlt' : (i : Int) < (l.length : Int) := by omega
        have HLT := Lib.hid hlt
        obtain ⟨tb, toff, rfl, hbw, hcell⟩ : ∃ b off, a0 = some ⟨b, off, none⟩ ∧ b < w.heap.size ∧ _ := by
          rcases HX.out with h | h
          · subst h; simp at hlt
          · exact h
        have k1 := (HB.out.cell (p := ⟨tb, toff + i, none⟩) hbw).trans (hcell i hlt)
        obtain ⟨r, hr⟩ : ∃ r, l.getD i ⟨#[]⟩ = r := ⟨_, rfl⟩
        have HR := Lib.hid hr
        rw [hr] at k1
        by_cases h300 : r.size ≤ 300
        · have h300' : ¬ (300 : Int) < (r.size : Int) := by omega
          by_cases h0 : r.size = 0
          · obtain rfl := ba_nil h0
            clear hi hlt hbw hcell hr h300 h0
            go_wp2_with fail
            go_ret
            exact ⟨rfl, HB.out⟩
          · have t1 := SS.CC_full (b := r) (by omega)
            have HFR := Lib.hid (show fitR r ∧ r.size ≤ 300 from ⟨⟨by omega, by omega⟩, h300⟩)
            obtain ⟨E, hE⟩ : ∃ E, encL (l.take i) = E := ⟨_, rfl⟩
            have HE := Lib.hid hE
            have HES := Lib.hid (show E.size ≤ 6080 by
              rw [← hE]
              have := enc_len (l := l.take i) fun r hr => (HALL.out r hr).2
              have h2 : (l.take i).length ≤ 20 := by rw [List.length_take]; have := HL.out; omega
              omega)
            rw [hE]
            have hno : ¬ 9223372036854775807 < E.size + (txt r).size := by rw [txt_size]; have := HES.out; omega
            clear hi hlt hbw hcell hr h300 h0 hE
            go_wp2_with fail
            refine (rtext_any r (by have := HFR.out.2; omega) wr).mono ?_
            rintro e w2 ⟨rfl, hb2⟩
            have B2 := Lib.hid (HB.out.trans (hb2.mono HB.out.size))
            have HEN := Lib.hid (show E ++ txt r = encL (l.take (i + 1)) by
              rw [take_step HLT.out, HR.out, enc_append, HE.out, txt_enc HFR.out.1]
              show E ++ encR r = E ++ (encR r ++ ⟨#[]⟩)
              rw [SS.app_nil])
            clear hb2 k1 t1
            go_wp2_with fail
            go_roundw
            case rel => exact ⟨i + 1, by have := HLT.out; omega, by go_num, by rw [HEN.out], fun x hx => by
              rw [take_step HLT.out, HR.out] at hx
              exact (List.mem_append.1 hx).elim (HALL.out x) fun e => by rw [List.mem_singleton.1 e]; exact HFR.out, B2.out⟩
            case measure => have := HLT.out; simp [intOf]; omega
        · have h300' : (300 : Int) < (r.size : Int) := by omega
          clear hi hlt hbw hcell hr h300
          go_wp2_with fail
          go_ret
          exact ⟨rfl, HB.out⟩
      · obtain rfl : i = l.length := by omega
        have hlt' : ¬ ((l.length : Nat) : Int) < ((l.length : Nat) : Int) := by omega
        rw [List.take_length] at HALL
        have hE : encL (l.take l.length) = encL l := by rw [List.take_length]
        have HE := Lib.hid hE
        have HFIT := Lib.hid (show ∀ r ∈ l, fitR r from fun r hr => (HALL.out r hr).1)
        have HSZ := Lib.hid (show ∀ r ∈ l, r.size ≤ 1000000 from fun r hr => by have := (HALL.out r hr).2; omega)
        have HES := Lib.hid (show (encL l).size ≤ 6080 by have := enc_len (l := l) fun r hr => (HALL.out r hr).2; have := HL.out; omega)
        rw [hE]
        obtain ⟨M, hM⟩ : ∃ M, recallL l ((0, 0), []) = M := ⟨_, rfl⟩
        have HM := Lib.hid hM
        have HOK := Lib.hid (show OkT M by
          rw [← hM]
          obtain ⟨h1, h2, h3⟩ := recall_ok l ((0, 0), []) ok_none.1 ok_none.2.1
          exact ⟨h1, h2, Nat.le_trans h3 (by show 0 + l.length ≤ 1000; have := HL.out; omega)⟩)
        have HREC := Lib.hid (C.recall l (.slice a0 l.length cap))
        have HRREC := Lib.hid (rrecall_any l (.slice a0 l.length cap))
        rw [hM] at HREC HRREC
        obtain ⟨⟨s1, s2⟩, bl⟩ := M
        clear hi hlt hE hM
        go_wp2_with fail
        refine (HREC.out wr (HV.out.later HB.out) HSZ.out (by have := HL.out; omega)).mono ?_
        rintro e w2 ⟨u1, L1, rfl, hmap1, hbv1, hb2⟩
        have B2 := Lib.hid (HB.out.trans (hb2.mono HB.out.size))
        have HBV1 := Lib.hid hbv1
        have HMAP1 := Lib.hid (show L1.map Prod.fst = bl from hmap1)
        obtain ⟨ua, uc, rfl⟩ := bv_shape hbv1
        clear hb2 hbv1 hmap1
        go_upto_region 11 with fail
        have BA := Lib.hid (show BoxAt w2 w2.heap.size [.int .i64 s1, .int .i64 s2] (w2.alloc (.cells #[.int .i64 s1, .int .i64 s2] 26)) from box_mk w2 _ _)
        obtain ⟨w3, hw3⟩ : ∃ w3, w2.alloc (.cells #[.int .i64 s1, .int .i64 s2] 26) = w3 := ⟨_, rfl⟩
        rw [hw3] at BA
        rw [hw3]
        have B3 := Lib.hid (B2.out.trans (BA.out.below.mono B2.out.size))
        clear hw3
        go_wp2_with fail
        refine (HRREC.out w3 (HV.out.later B3.out) HSZ.out (by have := HL.out; omega)).mono ?_
        rintro e w4 ⟨u2, L2, rfl, hmap2, hbv2, hb4⟩
        have B4 := Lib.hid (B3.out.trans (hb4.mono B3.out.size))
        have BA4 := Lib.hid (BA.out.on hb4)
        have HBV2 := Lib.hid hbv2
        have HMAP2 := Lib.hid (show L2.map Prod.fst = bl from hmap2)
        obtain ⟨va, vc, rfl⟩ := bv_shape hbv2
        clear hb4 hbv2 hmap2
        go_upto_region 12 with fail
        have BC := Lib.hid (show BoxAt w4 w4.heap.size [.int .i64 s1, .int .i64 s2] (w4.alloc (.cells #[.int .i64 s1, .int .i64 s2] 26)) from box_mk w4 _ _)
        obtain ⟨w5, hw5⟩ : ∃ w5, w4.alloc (.cells #[.int .i64 s1, .int .i64 s2] 26) = w5 := ⟨_, rfl⟩
        rw [hw5] at BC
        rw [hw5]
        have B5 := Lib.hid (B4.out.trans (BC.out.below.mono B4.out.size))
        clear hw5
        go_wp2_with fail
        refine (of9 w5 (encL l)).mono ?_
        rintro e w6 ⟨g, O, rfl, hA, hO, hb6⟩
        have HA := Lib.hid hA
        have HO := Lib.hid hO
        have B6 := Lib.hid (B5.out.trans (hb6.mono B5.out.size))
        have W6 := Lib.hid (show Below w5.heap.size w5 w6 from hb6)
        clear hA hO hb6
        go_wp2_with fail
        have HRS := Lib.hid (show recsL ⟨encL l, ⟨#[]⟩, -1, false⟩ = l by unfold recsL; rw [if_neg (show ¬ false = true by decide)]; show (splitS (encL l ++ (⟨#[]⟩ : ByteArray))).1 = l; rw [SS.app_nil, SS.split_encL l HFIT.out])
        refine (C.open_ O w6 g ⟨encL l, ⟨#[]⟩, -1, false⟩ HA.out ⟨by show (-1 : Int) ≤ -1; omega, by show (-1 : Int) ≤ 9223372036854775807; omega⟩ (by show (encL l).size + 0 ≤ 1000000; have := HES.out; omega) (by rw [HRS.out]; have := HL.out; omega) rfl).mono ?_
        rintro e w7 ⟨m, O', O1, rfl, hA, hM, hk, hO', hO1⟩
        rw [HRS.out, HM.out] at hM
        have HM7 := Lib.hid hM
        have W7 := Lib.hid (show Below w5.heap.size w5 w7 from W6.out.trans (SS.Keeps.low9 hk (fun b hl ho => absurd (HO.out b ho) (by omega)) W6.out.size))
        have B7 := Lib.hid (show Below w.heap.size w w7 from B5.out.trans (W7.out.mono B5.out.size))
        clear hA hM hk hO' hO1
        have XQ := Lib.hid B7.out
        have HCE := Lib.hid (fun wx (hb : Below w7.heap.size w7 wx) => And.intro (And.intro ((BA4.out.on (BC.out.below.trans ((W7.out.trans (hb.mono W7.out.size)).mono BC.out.below.size))).cell 0 _ rfl) ((BA4.out.on (BC.out.below.trans ((W7.out.trans (hb.mono W7.out.size)).mono BC.out.below.size))).cell 1 _ rfl)) (And.intro ((BC.out.on (W7.out.trans (hb.mono W7.out.size))).cell 0 _ rfl) ((BC.out.on (W7.out.trans (hb.mono W7.out.size))).cell 1 _ rfl)))
        have HW24 := Lib.hid (show Below w2.heap.size w2 w7 from ((BA4.out.below.trans (BC.out.below.mono BA4.out.below.size)).trans (W7.out.mono (Nat.le_trans BA4.out.below.size BC.out.below.size))))
        have HW47 := Lib.hid (show Below w4.heap.size w4 w7 from BC.out.below.trans (W7.out.mono BC.out.below.size))
        have HSAME1 := Lib.hid (fun wx (hb : Below w7.heap.size w7 wx) => (rsame10_any L1 L2 (.slice ua L1.length uc) (.slice va L2.length vc) wx (HBV1.out.later (HW24.out.trans (hb.mono HW24.out.size))) (HBV2.out.later (HW47.out.trans (hb.mono HW47.out.size))) (small_all HMAP1.out HOK.out.2.1) (small_all HMAP2.out HOK.out.2.1) (by have h := congrArg List.length HMAP1.out; rw [List.length_map] at h; have := HOK.out.2.2; simp only at this; omega)).mono (R' := fun e w' => e = .returned (.bool true) ∧ Below wx.heap.size wx w') fun e w' h => ⟨by rw [h.1, decide_eq_true (texts_same (HMAP1.out.trans HMAP2.out.symm))], h.2⟩)
        have HSTATE := Lib.hid (fun wx (hb : Below w7.heap.size w7 wx) => C.state O1 wx m g ((s1, s2), bl) (C.keep HM7.out (Keeps.of hb)) HOK.out)
        have HBLOCKS := Lib.hid (fun wx (hb : Below w7.heap.size w7 wx) => C.blocks O1 wx m g ((s1, s2), bl) (C.keep HM7.out (Keeps.of hb)) HOK.out)
        have HSAME2 := Lib.hid (fun wx (u : Value) (L3 : List Bv) (hb : Below w7.heap.size w7 wx) (hmap : L3.map Prod.fst = bl) (hbv : BvAt wx u L3) => (rsame10_any L3 L2 u (.slice va L2.length vc) wx hbv (HBV2.out.later (HW47.out.trans (hb.mono HW47.out.size))) (small_all hmap HOK.out.2.1) (small_all HMAP2.out HOK.out.2.1) (by have h := congrArg List.length hmap; rw [List.length_map] at h; have := HOK.out.2.2; simp only at this; omega)).mono (R' := fun e w' => e = .returned (.bool true) ∧ Below wx.heap.size wx w') fun e w' h => ⟨by rw [h.1, decide_eq_true (texts_same (hmap.trans HMAP2.out.symm))], h.2⟩)
        go_upto_region 13 with fail
        refine plan_abs (fun wx => Below w7.heap.size w7 wx) [(true, 0), (true, 1), (true, 2), (true, 3), (true, 4), (true, 5), (false, 6), (true, 7), (true, 8), (true, 9), (true, 10), (true, 11), (true, 12), (true, 13), (true, 15), (false, 14), (true, 16), (true, 17), (true, 18), (true, 19), (true, 21), (false, 20), (false, 22), (true, 23), (true, 24)] (by kernel_rfl) (by kernel_rfl) (fun _ _ d _ _ h => by cases d <;> exact h) fun w5 hs5 => ⟨hs5.below _, ?_⟩
        have B5 := Lib.hid (show Below w7.heap.size w7 w5 from hs5.below _)
        clear hs5
        iterate 6 (refine pl_run _ ?_ rfl rfl ?_ ?_; rotate_left; (focus (intro w' hS; obtain ⟨⟨c0, c1⟩, d0, d1⟩ := HCE.out w' hS; go_simp; exact rfl)); simp only [Act.put, List.setIfInBounds_toArray, List.set_cons_zero, List.set_cons_succ, List.getElem_toArray, List.getElem_cons_zero, List.getElem_cons_succ])
        refine pl_call1 (v := .bool true) (R := fun w' => Below w5.heap.size w5 w') _ rfl rfl (by go_simp) (HSAME1.out w5 B5.out) (fun w' h => B5.out.trans (h.mono B5.out.size)) fun w6 h6 => ?_
        have B6 := Lib.hid (B5.out.trans (h6.mono B5.out.size))
        clear h6
        simp only [Act.put, List.setIfInBounds_toArray, List.set_cons_zero, List.set_cons_succ, List.getElem_toArray, List.getElem_cons_zero, List.getElem_cons_succ]
        iterate 8 (refine pl_run _ ?_ rfl rfl ?_ ?_; rotate_left; (focus (intro w' hS; obtain ⟨⟨c0, c1⟩, d0, d1⟩ := HCE.out w' hS; go_simp; exact rfl)); simp only [Act.put, List.setIfInBounds_toArray, List.set_cons_zero, List.set_cons_succ, List.getElem_toArray, List.getElem_cons_zero, List.getElem_cons_succ])
        refine pl_call1 (v := .agg #[.int .i64 s1, .int .i64 s2]) (R := fun w' => Below w6.heap.size w6 w') _ rfl rfl (by go_simp) (HSTATE.out w6 B6.out) (fun w' h => B6.out.trans (h.mono B6.out.size)) fun w7 h7 => ?_
        have B7 := Lib.hid (B6.out.trans (h7.mono B6.out.size))
        clear h7
        simp only [Act.put, List.setIfInBounds_toArray, List.set_cons_zero, List.set_cons_succ, List.getElem_toArray, List.getElem_cons_zero, List.getElem_cons_succ]
        iterate 5 (refine pl_run _ ?_ rfl rfl ?_ ?_; rotate_left; (focus (intro w' hS; obtain ⟨⟨c0, c1⟩, d0, d1⟩ := HCE.out w' hS; go_simp; exact rfl)); simp only [Act.put, List.setIfInBounds_toArray, List.set_cons_zero, List.set_cons_succ, List.getElem_toArray, List.getElem_cons_zero, List.getElem_cons_succ])
        refine pl_call (R := fun u w' => ∃ L3, L3.map Prod.fst = bl ∧ BvAt w' u L3 ∧ Below w7.heap.size w7 w') _ rfl rfl (by go_simp) ((HBLOCKS.out w7 B7.out).mono fun e w' h => by obtain ⟨u, L3, h1, h2, h3, h4⟩ := h; exact ⟨u, h1, L3, h2, h3.now, h4⟩) (fun u w' h => by obtain ⟨_, _, _, h⟩ := h; exact B7.out.trans (h.mono B7.out.size)) fun u w8 h8 => ?_
        obtain ⟨L3, hmap3, hbv3, h8⟩ := h8
        have B8 := Lib.hid (B7.out.trans (h8.mono B7.out.size))
        have HS2 := Lib.hid (HSAME2.out w8 u L3 B8.out hmap3 hbv3)
        clear h8 hmap3 hbv3
        simp only [Act.put, List.setIfInBounds_toArray, List.set_cons_zero, List.set_cons_succ, List.getElem_toArray, List.getElem_cons_zero, List.getElem_cons_succ]
        refine pl_call1 (v := .bool true) (R := fun w' => Below w8.heap.size w8 w') _ rfl rfl (by go_simp) HS2.out (fun w' h => B8.out.trans (h.mono B8.out.size)) fun w9 h9 => ?_
        have B9 := Lib.hid (B8.out.trans (h9.mono B8.out.size))
        clear h9
        simp only [Act.put, List.setIfInBounds_toArray, List.set_cons_zero, List.set_cons_succ, List.getElem_toArray, List.getElem_cons_zero, List.getElem_cons_succ]
        iterate 2 (refine pl_run _ ?_ rfl rfl ?_ ?_; rotate_left; (focus (intro w' hS; go_simp; exact rfl)); simp only [Act.put, List.setIfInBounds_toArray, List.set_cons_zero, List.set_cons_succ, List.getElem_toArray, List.getElem_cons_zero, List.getElem_cons_succ])
        refine pl_end ?_
        go_wp2_with fail
        go_ret
        exact ⟨rfl, XQ.out.trans (B9.out.mono XQ.out.size)⟩
  · have h20' : (20 : Int) < (l.length : Int) := by omega
    clear h20
    go_enter Try.func3, Try.ntmps3
    go_wp2_with fail
    refine (awake10_any C w).mono ?_
    rintro e w1 ⟨rfl, hb1⟩
    have X1 := Lib.hid hb1
    clear hb1
    go_wp2_with fail
    refine (awake10_any C w1).mono ?_
    rintro e w2 ⟨rfl, hb2⟩
    have X2 := Lib.hid (X1.out.trans (hb2.mono X1.out.size))
    clear hb2
    go_wp2_with fail
    go_ret
    exact ⟨rfl, X2.out⟩
end Go.Proofs.Ytnahebfhhcebpaa
end
section
open Go Go.RowKit
namespace TT
open SS RR WW BB FF
/-- what is known of a log behind i saves: all is synced, and is remembered -/
structure LogI (s : Lg) (all : List ByteArray) (st : MemT) (i : Nat) : Prop where
  inv : InvS s all all.length
  gone : s.gone = false
  ok : OkL s
  size : sizeL s ≤ 28028 * i
  rec_ : recallL all ((0, 0), []) = st
  good : GoodL all
  right : rightS st.1
  blocks : ∀ b ∈ st.2, blockOk b
  len : st.2.length ≤ 5 * i
  alen : all.length ≤ 6 * i
theorem logI_start : LogI lgE [] ((0, 0), []) 0 := ⟨inv_lgE, rfl, ok_lgE, Nat.le_refl _, rfl, fun _ h => (by cases h), ok_none.1, fun _ h => (by cases h), Nat.le_refl _, Nat.le_refl _⟩
section
variable {s : Lg} {all : List ByteArray} {st x : StT × List BlockD} {i : Nat}
theorem LogI.okT (h : LogI s all st i) (hi : i ≤ 40) : OkT st := ⟨h.right, h.blocks, by have := h.len; omega⟩
theorem LogI.sz (h : LogI s all st i) (hi : i ≤ 30) : sizeL s ≤ 900000 := Nat.le_trans h.size (by have : 28028 * i ≤ 28028 * 30 := Nat.mul_le_mul_left _ hi; omega)
theorem LogI.recs (h : LogI s all st i) : recsL s = all := recs_whole h.inv h.gone
theorem LogI.cut (h : LogI s all st i) : cutL s = s := cut_whole h.inv
theorem LogI.more (h : LogI s all st i) : LogI s all st (i + 1) :=
  ⟨h.inv, h.gone, h.ok, Nat.le_trans h.size (Nat.mul_le_mul_left _ (Nat.le_succ _)), h.rec_, h.good, h.right, h.blocks, by have := h.len; omega, by have := h.alen; omega⟩
end
theorem recs_length {st x : StT} {L : List BlockD} (h : L.length ≤ 5) : (recsOf st x L).length ≤ 6 := by
  unfold recsOf
  rw [List.length_append, List.length_map]
  split
  · show L.length + 0 ≤ 6; omega
  · show L.length + 1 ≤ 6; omega
theorem sz28 {A B n i : Nat} (h : B ≤ A + 4004 * (n + 1)) (hn : n ≤ 6) (hA : A ≤ 28028 * i) : B ≤ 28028 * (i + 1) := by
  have h1 : 4004 * (n + 1) ≤ 4004 * 7 := Nat.mul_le_mul_left _ (by omega)
  have h2 : 28028 * (i + 1) = 28028 * i + 28028 := Nat.mul_succ _ _
  have h3 : B ≤ A + 28028 := Nat.le_trans h (Nat.add_le_add_left h1 _)
  rw [h2]
  exact Nat.le_trans h3 (Nat.add_le_add_right hA _)
/-- behind a save that is done, or one at which the power goes -/
theorem logI_save {s : Lg} {all : List ByteArray} {st : MemT} {i : Nat} (h : LogI s all st i) {x : StT} {L : List BlockD} (hx : rightS x) (hL : ∀ b ∈ L, blockOk b) (hl : L.length ≤ 5) :
    ((putL s (recsOf st.1 x L)).2 = 0 ∧ LogI (putL s (recsOf st.1 x L)).1 (all ++ recsOf st.1 x L) (upS st.1 x, st.2 ++ L) (i + 1) ∧ (s.fuse = -1 → (putL s (recsOf st.1 x L)).1.fuse = -1)) ∨
    ((putL s (recsOf st.1 x L)).2 = 8 ∧ s.fuse ≠ -1 ∧ OkL (putL s (recsOf st.1 x L)).1 ∧ sizeL (putL s (recsOf st.1 x L)).1 ≤ 28028 * (i + 1) ∧ ∃ k, k ≤ (recsOf st.1 x L).length ∧ InvS (putL s (recsOf st.1 x L)).1 (all ++ (recsOf st.1 x L).take k) all.length) := by
  have hsz := sz28 (putL_size s (recsOf st.1 x L)) (recs_length hl) h.size
  have hok := putL_ok h.ok (recsOf st.1 x L)
  rcases put_inv h.inv (recs_fit (st := st.1) (x := x) hL) h.gone with ⟨e, h1, h2, h3⟩ | ⟨e, h1, h2⟩
  · refine .inl ⟨e, ⟨h1, h2, hok, hsz, ?_, h.good.append (recs_good hx hL), up_right h.right hx, fun b hb => (List.mem_append.1 hb).elim (h.blocks b) (hL b), ?_, ?_⟩, h3⟩
    · rw [recall_append _ _ _ h.good, h.rec_]
      exact recall_recs st.2 hx hL
    · show (st.2 ++ L).length ≤ _
      rw [List.length_append]; have := h.len; omega
    · rw [List.length_append]; have := h.alen; have := recs_length (st := st.1) (x := x) hl; omega
  · exact .inr ⟨e, h1, hok, hsz, h2⟩
/-- what Few says of a save -/
theorem few_op {l : List Op10} {n : Int} (h : (l.length : Int) ≤ n ∧ ∀ i, i < l.length → i < 100 → FewO (l.getD i op10)) (hn : n ≤ 30) (hm : MemsT l) {i : Nat} (hi : i < l.length) : (l.getD i op10).L.length ≤ 5 ∧ (∀ y ∈ (l.getD i op10).L, SmallT y.1 ∧ MemI y.1) ∧ MemT10 (l.getD i op10) := by
  have h1 := h.2 i hi (by omega)
  have h2 := hm.2 (l.getD i op10) (by rw [getD_at hi]; exact List.getElem_mem hi)
  exact ⟨h1.1, fun y hy => ⟨few_smallT (h1.2 y hy), h2.1 y hy⟩, h2⟩
end TT
namespace Go.Proofs.Ytnahebfhhcebpaa
open TT SS RR FF JJ CC MM WW BB
/-- a memory and its log, in blocks that lay not in W -/
def Play (C : Code10) (W w : World) (m g : Nat) (st : MemT) (s : Lg) : Prop :=
  ∃ O O1, At9 O w g s ∧ C.At O1 w m g st ∧ (∀ b, O b → W.heap.size ≤ b) ∧ (∀ b, O1 b → W.heap.size ≤ b ∧ ¬ O b) ∧ Below W.heap.size W w
theorem Play.low {C : Code10} {W w w' : World} {m g : Nat} {st : MemT} {s : Lg} (h : Play C W w m g st s) (hb : Below w.heap.size w w') : Play C W w' m g st s := by
  obtain ⟨O, O1, h1, h2, h3, h4, h5⟩ := h
  exact ⟨O, O1, at9_keep h1 (Keeps.of hb), C.keep h2 (Keeps.of hb), h3, h4, h5.trans (hb.mono h5.size)⟩
theorem NextT.play {C : Code10} {O O1 : Nat → Prop} {W w w' : World} {m g : Nat} {st : MemT} {s : Lg} (h : NextT C.At O O1 w m g st s w') (hO : ∀ b, O b → W.heap.size ≤ b) (hO1 : ∀ b, O1 b → W.heap.size ≤ b ∧ ¬ O b) (hb : Below W.heap.size W w) : Play C W w' m g st s := by
  obtain ⟨O', O1', h1, h2, h3, h4, h5⟩ := h
  exact ⟨O', O1', h1, h2, fun b h => (h4 b h).elim (hO b) fun h => Nat.le_trans hb.size h, fun b h => ⟨(h5 b h).1.elim (fun h => (hO1 b h).1) fun h => Nat.le_trans hb.size h, (h5 b h).2⟩,
    hb.trans (SS.Keeps.low9 h3 (fun b hl => ⟨fun h => absurd (hO b h) (by omega), fun h => absurd (hO1 b h).1 (by omega)⟩) hb.size)⟩
/-- one save, of a log without a fuse -/
theorem play_save {C : Code10} {W w : World} {m g : Nat} {st : MemT} {s : Lg} {all : List ByteArray} {i : Nat} (h : Play C W w m g st s) (hl : LogI s all st i) (hf : s.fuse = -1) (hi : i ≤ 30) (x : StT) (v : Value) (L : List Bv) (hv : ∀ w', Below W.heap.size W w' → BvAt w' v L) (hs : ∀ y ∈ L, SmallT y.1 ∧ MemI y.1) (h5 : L.length ≤ 5) :
    Calls Try.prog 14 #[.pointer (some ⟨m, 0, none⟩), .agg #[.int .i64 x.1, .int .i64 x.2], v] w fun e w' => Below W.heap.size W w' ∧
      ((e = .returned (.int .i64 0) ∧ rightS x ∧ (∀ y ∈ L, blockOk y.1) ∧ ∃ s' all', Play C W w' m g (upS st.1 x, st.2 ++ L.map Prod.fst) s' ∧ LogI s' all' (upS st.1 x, st.2 ++ L.map Prod.fst) (i + 1) ∧ s'.fuse = -1) ∨
       (e = .returned (.int .i64 2) ∧ ¬ (rightS x ∧ ∀ y ∈ L, blockOk y.1) ∧ Play C W w' m g st s)) := by
  obtain ⟨O, O1, h1, h2, h3, h4, hb⟩ := h
  refine (C.save O O1 (fun b => b < W.heap.size) w m g st s x v L h1 h2 (fun b h => (h4 b h).2) hl.ok hl.gone (hl.sz hi) (hl.okT (by omega)) (fun w' hk => hv w' (hb.trans (SS.Keeps.low9 hk (fun b h => h) hb.size))) (fun b h => ⟨fun k => absurd (h3 b k) (by omega), fun k => absurd (h4 b k).1 (by omega)⟩) hs h5).mono ?_
  intro e w' ha
  by_cases hr : rightS x ∧ ∀ y ∈ L, blockOk y.1
  · obtain ⟨hx, hL⟩ := hr
    have hL' : ∀ b ∈ L.map Prod.fst, blockOk b := fun b hb => by obtain ⟨y, hy, rfl⟩ := List.mem_map.1 hb; exact hL y hy
    rcases logI_save hl (x := x) (L := L.map Prod.fst) hx hL' (by rw [List.length_map]; exact h5) with ⟨e0, k1, k2⟩ | ⟨_, k1, _⟩
    · obtain ⟨rfl, hn⟩ := save_fit ha hx hL' e0
      have hp := NextT.play hn h3 h4 hb
      refine ⟨?_, .inl ⟨rfl, hx, hL, _, _, hp, k1, k2 hf⟩⟩
      obtain ⟨_, _, _, _, _, _, h⟩ := hp
      exact h
    · exact absurd hf k1
  · have hn : ¬ (rightS x ∧ ∀ b ∈ L.map Prod.fst, blockOk b) := fun k => hr ⟨k.1, fun y hy => k.2 y.1 (List.mem_map.2 ⟨y, hy, rfl⟩)⟩
    obtain ⟨rfl, hw⟩ := save_form ha hn
    exact ⟨hb.trans (hw.mono hb.size), .inr ⟨rfl, hr, Play.low ⟨O, O1, h1, h2, h3, h4, hb⟩ hw⟩⟩
end Go.Proofs.Ytnahebfhhcebpaa
end
section
open Go Go.RowKit
namespace TT
open SS RR WW BB FF
theorem blk_keeps {A : Nat → Prop} {w w' : World} {y n : Nat} {f : Nat → Value} (h : Blk w y n f) (hk : Keeps A w w') (hA : A y) : Blk w' y n f := h.of_heap (hk.block y hA h.lt)
end TT
namespace Go.Proofs.Ytnahebfhhcebpaa
open TT SS RR FF JJ CC MM WW BB
def Sv (C : Code10) (W w : World) (m g y : Nat) (st : MemT) (s : Lg) (q : StT) (u : Value) (B : List Bv) : Prop :=
  ∃ O O1, At9 O w g s ∧ C.At O1 w m g st ∧ (∀ b, O b → W.heap.size ≤ b ∧ b ≠ y) ∧ (∀ b, O1 b → W.heap.size ≤ b ∧ ¬ O b ∧ b ≠ y) ∧ Below W.heap.size W w ∧ W.heap.size ≤ y ∧ Blk w y 2 (rowL [.int .i64 q.1, .int .i64 q.2]) ∧ Dep (fun b => ¬ O b ∧ ¬ O1 b ∧ b ≠ y) w (fun w' => BvAt w' u B)
section
variable {C : Code10} {W w w' : World} {m g y : Nat} {st st' : MemT} {s s' : Lg} {q q' : StT} {u u' : Value} {B L : List Bv}
theorem Sv.low (h : Sv C W w m g y st s q u B) (hb : Below w.heap.size w w') : Sv C W w' m g y st s q u B := by
  obtain ⟨O, O1, h1, h2, h3, h4, h5, h6, h7, h8⟩ := h
  exact ⟨O, O1, at9_keep h1 (Keeps.of hb), C.keep h2 (Keeps.of hb), h3, h4, h5.trans (hb.mono h5.size), h6, h7.below hb h7.lt, h8.on (Keeps.of hb)⟩
theorem Sv.below (h : Sv C W w m g y st s q u B) : Below W.heap.size W w := by
  obtain ⟨O, O1, h1, h2, h3, h4, h5, h6, h7, h8⟩ := h
  exact h5
theorem Sv.blk (h : Sv C W w m g y st s q u B) : Blk w y 2 (rowL [.int .i64 q.1, .int .i64 q.2]) := by
  obtain ⟨O, O1, h1, h2, h3, h4, h5, h6, h7, h8⟩ := h
  exact h7
theorem Sv.bv (h : Sv C W w m g y st s q u B) : BvAt w u B := by
  obtain ⟨O, O1, h1, h2, h3, h4, h5, h6, h7, h8⟩ := h
  exact h8.now
theorem Sv.at_ (h : Sv C W w m g y st s q u B) : ∃ O1, C.At O1 w m g st := by
  obtain ⟨O, O1, h1, h2, h3, h4, h5, h6, h7, h8⟩ := h
  exact ⟨O1, h2⟩
theorem Sv.store (h : Sv C W w m g y st s q u B) (hB : Blk w' y 2 (rowL [.int .i64 q'.1, .int .i64 q'.2])) (hu : Upd y w w') : Sv C W w' m g y st s q' u B := by
  obtain ⟨O, O1, h1, h2, h3, h4, h5, h6, h7, h8⟩ := h
  exact ⟨O, O1, at9_keep h1 (Keeps.upd hu fun b hb => (h3 b hb).2), C.keep h2 (Keeps.upd hu fun b hb => (h4 b hb).2.2), h3, h4, h5.trans (hu.below h6), h6, hB, h8.on (Keeps.upd hu fun b hb => hb.2.2)⟩
theorem Sv.row {e : TypeId} (h : Sv C W w m g y st s q u B) (hb : Below w.heap.size w w') (hr : w'.ownsRow w.heap.size e 6 u' (B ++ L).length (cellsB (B ++ L))) {v : Value} (hv : ∀ w', Below W.heap.size W w' → BvAt w' v L) : Sv C W w' m g y st s q u' (B ++ L) := by
  obtain ⟨O, O1, h1, h2, h3, h4, h5, h6, h7, h8⟩ := h
  have h5' : Below W.heap.size W w' := h5.trans (hb.mono h5.size)
  refine ⟨O, O1, at9_keep h1 (Keeps.of hb), C.keep h2 (Keeps.of hb), h3, h4, h5', h6, h7.below hb h7.lt, dep_bv hr (fun x hx => ?_) fun c hc => ?_⟩
  · rcases List.mem_append.1 hx with hx | hx
    · exact dep_inn (h8.on (Keeps.of hb)) x hx
    · intro w2 hk
      exact bv_inn (hv w2 (h5'.trans (SS.Keeps.low9 hk (fun b hl => ⟨fun h => absurd (h3 b h).1 (by omega), fun h => absurd (h4 b h).1 (by omega), by omega⟩) h5'.size))) x hx
  · have hc' := (hr.lt c hc).1
    have hy := h7.lt
    exact ⟨fun h => by have := at9_lt h1 c h; omega, fun h => by have := C.lt h2 c h; omega, by omega⟩
theorem NextT.sv {O O1 : Nat → Prop} (h1 : NextT C.At O O1 w m g st' s' w') (h3 : ∀ b, O b → W.heap.size ≤ b ∧ b ≠ y) (h4 : ∀ b, O1 b → W.heap.size ≤ b ∧ ¬ O b ∧ b ≠ y) (h5 : Below W.heap.size W w) (h6 : W.heap.size ≤ y) (h7 : Blk w y 2 (rowL [.int .i64 q.1, .int .i64 q.2])) (h8 : Dep (fun b => ¬ O b ∧ ¬ O1 b ∧ b ≠ y) w (fun w' => BvAt w' u B)) :
    Sv C W w' m g y st' s' q u B := by
  obtain ⟨O', O1', k1, k2, k3, k4, k5⟩ := h1
  have hy := h7.lt
  have hk : Below W.heap.size W w' := h5.trans (SS.Keeps.low9 k3 (fun b hl => ⟨fun h => absurd (h3 b h).1 (by omega), fun h => absurd (h4 b h).1 (by omega)⟩) h5.size)
  refine ⟨O', O1', k1, k2, fun b h => (k4 b h).elim (h3 b) fun h => ⟨Nat.le_trans h5.size h, by omega⟩, fun b h => ?_, hk, h6, blk_keeps h7 k3 ⟨fun h => (h3 y h).2 rfl, fun h => (h4 y h).2.2 rfl⟩, ?_⟩
  · rcases (k5 b h).1 with h0 | h0
    · exact ⟨(h4 b h0).1, (k5 b h).2, (h4 b h0).2.2⟩
    · exact ⟨Nat.le_trans h5.size h0, (k5 b h).2, by omega⟩
  · exact dep_step h8 (k3.sub fun b hb _ => ⟨hb.1, hb.2.1⟩) fun b hb hl => ⟨fun h => (k4 b h).elim hb.1 (by omega), fun h => (k5 b h).1.elim hb.2.1 (by omega), hb.2.2⟩
/-- one save -/
theorem save_sv (h : Sv C W w m g y st s q u B) {all : List ByteArray} {i : Nat} (hl : LogI s all st i) (hf : s.fuse = -1) (hi : i ≤ 30) (x : StT) (v : Value) (L : List Bv) (hv : ∀ w', Below W.heap.size W w' → BvAt w' v L) (hs : ∀ y ∈ L, SmallT y.1 ∧ MemI y.1) (hl5 : L.length ≤ 5) :
    Calls Try.prog 14 #[.pointer (some ⟨m, 0, none⟩), .agg #[.int .i64 x.1, .int .i64 x.2], v] w fun e w' =>
      (e = .returned (.int .i64 0) ∧ rightS x ∧ (∀ y ∈ L, blockOk y.1) ∧ ∃ s' all', Sv C W w' m g y (upS st.1 x, st.2 ++ L.map Prod.fst) s' q u B ∧ LogI s' all' (upS st.1 x, st.2 ++ L.map Prod.fst) (i + 1) ∧ s'.fuse = -1) ∨
       (e = .returned (.int .i64 2) ∧ ¬ (rightS x ∧ ∀ y ∈ L, blockOk y.1) ∧ Sv C W w' m g y st s q u B) := by
  have h0 := h
  obtain ⟨O, O1, h1, h2, h3, h4, h5, h6, h7, h8⟩ := h
  refine (C.save O O1 (fun b => b < W.heap.size) w m g st s x v L h1 h2 (fun b h => (h4 b h).2.1) hl.ok hl.gone (hl.sz hi) (hl.okT (by omega)) (fun w' hk => hv w' (h5.trans (SS.Keeps.low9 hk (fun b h => h) h5.size))) (fun b h => ⟨fun k => absurd (h3 b k).1 (by omega), fun k => absurd (h4 b k).1 (by omega)⟩) hs hl5).mono ?_
  intro e w' ha
  by_cases hr : rightS x ∧ ∀ y ∈ L, blockOk y.1
  · obtain ⟨hx, hL⟩ := hr
    have hL' : ∀ b ∈ L.map Prod.fst, blockOk b := fun b hb => by obtain ⟨y, hy, rfl⟩ := List.mem_map.1 hb; exact hL y hy
    rcases logI_save hl (x := x) (L := L.map Prod.fst) hx hL' (by rw [List.length_map]; exact hl5) with ⟨e0, k1, k2⟩ | ⟨_, k1, _⟩
    · obtain ⟨rfl, hn⟩ := save_fit ha hx hL' e0
      exact .inl ⟨rfl, hx, hL, _, _, NextT.sv hn h3 h4 h5 h6 h7 h8, k1, k2 hf⟩
    · exact absurd hf k1
  · have hn : ¬ (rightS x ∧ ∀ b ∈ L.map Prod.fst, blockOk b) := fun k => hr ⟨k.1, fun y hy => k.2 y.1 (List.mem_map.2 ⟨y, hy, rfl⟩)⟩
    obtain ⟨rfl, hw⟩ := save_form ha hn
    exact .inr ⟨rfl, hr, h0.low hw⟩
end
end Go.Proofs.Ytnahebfhhcebpaa
end
section
open Go Go.RowKit
namespace TT
open SS RR WW BB FF
theorem sub_size (b : ByteArray) (n : Nat) : (b.extract 0 n).size ≤ b.size := by rw [ByteArray.size_extract]; omega
theorem crash_size (s : Lg) (c : Int) : sizeL (crashL s c) ≤ sizeL s := by
  have h := sub_size s.wait (keepN c s.wait.size)
  show (s.safe ++ s.wait.extract 0 (keepN c s.wait.size)).size + 0 ≤ s.safe.size + s.wait.size
  rw [ByteArray.size_append]; omega
theorem cut_size (s : Lg) : sizeL (cutL s) ≤ sizeL s := by
  obtain ⟨e, he⟩ : ∃ e, (splitS (s.safe ++ s.wait)).2 = e := ⟨_, rfl⟩
  have h1 := ByteArray.size_append (a := s.safe) (b := s.wait)
  show ((s.safe ++ s.wait).extract 0 (min (splitS (s.safe ++ s.wait)).2 s.safe.size)).size + ((s.safe ++ s.wait).extract (min (splitS (s.safe ++ s.wait)).2 s.safe.size) (splitS (s.safe ++ s.wait)).2).size ≤ s.safe.size + s.wait.size
  rw [he, ByteArray.size_extract, ByteArray.size_extract]; omega
theorem ok_crash (s : Lg) (c : Int) : OkL (crashL s c) := ⟨by show (-1 : Int) ≤ -1; omega, by show (-1 : Int) ≤ 9223372036854775807; omega⟩
/-- what is remembered behind a save, a loss of power and a new opening -/
structure CrashI (s1 : Lg) (c : Int) (lo hi : MemT) (i : Nat) (all2 : List ByteArray) (st2 : MemT) : Prop where
  recs : recsL (crashL s1 c) = all2
  alen : all2.length ≤ 1000
  gone : (crashL s1 c).gone = false
  ok : OkL (crashL s1 c)
  size : sizeL (crashL s1 c) ≤ 1000000
  rec_ : recallL all2 ((0, 0), []) = st2
  log : LogI (cutL (crashL s1 c)) all2 st2 (i + 1)
  lo_ : leS lo.1 st2.1
  hi_ : leS st2.1 hi.1
  len : lo.2.length ≤ st2.2.length
  pre : st2.2 <+: hi.2
/-- from a log of which n records are synced -/
theorem crash_of {s1 : Lg} {full : List ByteArray} {n i : Nat} {lo hi : MemT} (h : InvS s1 full n) (hz : sizeL s1 ≤ 28028 * (i + 1)) (hi30 : i ≤ 30) (hf : full.length ≤ 6 * (i + 1)) (hg : GoodL full) (hlo : recallL (full.take n) ((0, 0), []) = lo)
    (hhi : leS (recallL full ((0, 0), [])).1 hi.1 ∧ (recallL full ((0, 0), [])).2 <+: hi.2) (hb : ∀ b ∈ hi.2, blockOk b) (hl : hi.2.length ≤ 5 * (i + 1)) (c : Int) : ∃ all2 st2, CrashI s1 c lo hi i all2 st2 := by
  obtain ⟨j, j1, j2, c1, c2, c3, c4⟩ := inv_crash h c
  have ec : cutL (crashL s1 c) = ⟨encL (full.take j), ⟨#[]⟩, -1, false⟩ := by
    unfold cutA at c3
    rw [if_neg (by rw [c1]; decide)] at c3
    exact congrArg Prod.fst c3
  have hz2 : sizeL (crashL s1 c) ≤ 28028 * (i + 1) := Nat.le_trans (crash_size s1 c) hz
  have hzz : 28028 * (i + 1) ≤ 28028 * 31 := Nat.mul_le_mul_left _ (by omega)
  have hlen : (full.take j).length ≤ 6 * (i + 1) := Nat.le_trans (by rw [List.length_take]; omega) hf
  have e1 : full.take n ++ (full.take j).drop n = full.take j := by
    have : full.take n = (full.take j).take n := by rw [List.take_take, Nat.min_eq_left j1]
    rw [this, List.take_append_drop]
  have m1 := recall_mono ((full.take j).drop n) (recallL (full.take n) ((0, 0), []))
  rw [← recall_append _ _ _ (hg.take n), e1, hlo] at m1
  have m2 := recall_mono (full.drop j) (recallL (full.take j) ((0, 0), []))
  rw [← recall_append _ _ _ (hg.take j), List.take_append_drop] at m2
  obtain ⟨st2, hst⟩ : ∃ st2, recallL (full.take j) ((0, 0), []) = st2 := ⟨_, rfl⟩
  rw [hst] at m1 m2
  have hpre : st2.2 <+: hi.2 := m2.2.trans hhi.2
  have hr := (recall_ok (full.take j) ((0, 0), []) ok_none.1 (fun _ h => by cases h)).1
  rw [hst] at hr
  refine ⟨full.take j, st2, c2, by omega, c1, ok_crash _ _, by omega, hst, ⟨by rw [ec]; exact c4, by rw [ec], by rw [ec]; exact ok_lgE, Nat.le_trans (cut_size _) hz2, hst, hg.take j, hr, fun b hb' => hb b (hpre.subset hb'), Nat.le_trans hpre.length_le hl, hlen⟩, m1.1, ?_, m1.2.length_le, hpre⟩
  exact ⟨Int.le_trans m2.1.1 hhi.1.1, Int.le_trans m2.1.2 hhi.1.2⟩
theorem fuse_ok {s : Lg} {n : Int} (h : OkL s) (hn : n ≤ 9223372036854775807) : OkL (fuseL s n) := by
  unfold fuseL; split
  · exact h
  · exact ⟨by show -1 ≤ max n (-1); omega, by show max n (-1) ≤ _; omega⟩
theorem LogI.fuse {s : Lg} {all : List ByteArray} {st : MemT} {i : Nat} (h : LogI s all st i) {n : Int} (hn : n ≤ 9223372036854775807) : LogI (fuseL s n) all st i := by
  have e : (fuseL s n).safe = s.safe ∧ (fuseL s n).wait = s.wait ∧ (fuseL s n).gone = s.gone := by unfold fuseL; split <;> exact ⟨rfl, rfl, rfl⟩
  obtain ⟨e1, e2, e3⟩ := e
  exact ⟨h.inv.same e1 e2, by rw [e3]; exact h.gone, fuse_ok h.ok hn, by show (fuseL s n).safe.size + (fuseL s n).wait.size ≤ _; rw [e1, e2]; exact h.size, h.rec_, h.good, h.right, h.blocks, h.len, h.alen⟩
theorem leS_up {a b : StT} : leS a (upS a b) := ⟨by show a.1 ≤ max a.1 b.1; omega, by show a.2 ≤ max a.2 b.2; omega⟩
/-- behind a save that is done -/
theorem crash_done {s1 : Lg} {all : List ByteArray} {st : MemT} {i : Nat} (h : LogI s1 all st (i + 1)) (hi : i ≤ 30) (c : Int) : ∃ all2 st2, CrashI s1 c st st i all2 st2 :=
  crash_of h.inv h.size hi h.alen h.good (by rw [List.take_length]; exact h.rec_) (by rw [h.rec_]; exact ⟨leS.refl _, List.prefix_rfl⟩) h.blocks h.len c
/-- behind a save at which the power goes -/
theorem crash_lost {s : Lg} {all : List ByteArray} {st : MemT} {i : Nat} (h : LogI s all st i) {x : StT} {L : List BlockD} (hx : rightS x) (hL : ∀ b ∈ L, blockOk b) (hl : L.length ≤ 5) (hi : i ≤ 30) {s1 : Lg} (hz : sizeL s1 ≤ 28028 * (i + 1)) {k : Nat}
    (hv : InvS s1 (all ++ (recsOf st.1 x L).take k) all.length) (c : Int) : ∃ all2 st2, CrashI s1 c st (upS st.1 x, st.2 ++ L) i all2 st2 := by
  have hg := recs_good (st := st.1) hx hL
  have hr := recs_length (st := st.1) (x := x) hl
  have m := recall_mono ((recsOf st.1 x L).drop k) (recallL (all ++ (recsOf st.1 x L).take k) ((0, 0), []))
  have hg2 : GoodL (all ++ (recsOf st.1 x L).take k) := h.good.append (hg.take k)
  have e : recallL ((recsOf st.1 x L).drop k) (recallL (all ++ (recsOf st.1 x L).take k) ((0, 0), [])) = (upS st.1 x, st.2 ++ L) := by
    rw [← recall_append _ _ _ hg2, List.append_assoc, List.take_append_drop, recall_append _ _ _ h.good, h.rec_]
    exact recall_recs st.2 hx hL
  rw [e] at m
  refine crash_of hv hz hi ?_ hg2 ?_ m ?_ ?_ c
  · rw [List.length_append, List.length_take]; have := h.alen; omega
  · rw [List.take_left]; exact h.rec_
  · intro b hb; exact (List.mem_append.1 hb).elim (h.blocks b) (hL b)
  · show (st.2 ++ L).length ≤ _; rw [List.length_append]; have := h.len; omega
theorem bv_take {w : World} {a : Option Addr} {n c : Nat} {L : List Bv} (h : BvAt w (.slice a n c) L) (k c' : Nat) (hk : k ≤ L.length) : BvAt w (.slice a k c') (L.take k) := by
  have hl : (L.take k).length = k := by rw [List.length_take]; omega
  obtain ⟨a0, cap, e, h⟩ := h
  injection e with e1 e2 e3
  subst e1
  refine ⟨a, c', by rw [hl], ?_⟩
  rcases h with rfl | ⟨b, off, rfl, hb, hc⟩
  · exact .inl (by simp)
  · refine .inr ⟨b, off, rfl, hb, fun i hi => ?_⟩
    rw [hl] at hi
    have e : (L.take k).getD i vb0 = L.getD i vb0 := by
      rw [List.getD_eq_getElem?_getD, List.getD_eq_getElem?_getD, List.getElem?_take]
      rw [if_pos hi]
    rw [e]
    exact hc i (by omega)
theorem run_slice_hi {P : Program} {w : World} {t e sz n cap hi : Nat} {a : Option Addr} (hU : (underlying t).run P w = .ok (.slice e) w) (hS : (Go.sizeOf e).run P w = .ok sz w) (h1 : hi ≤ cap) :
    (Instr.sliceAt t (.slice a n cap) none (some (.int .i64 (hi : Int))) none).run P w = .ok (.slice a hi cap) w := by
  have h2 : ¬ cap < hi := by omega
  have h4 : (fun x : Addr => x.add 0) = id := by funext x; unfold Addr.add; rw [if_pos rfl]; rfl
  unfold Instr.sliceAt Instr.slice
  simp [hU, Instr.sliceBounds, Instr.sliceBound, asIntOf, hS, h1, h4]
theorem hold_slice6 {P : Program} {ops : Array Oper} {Q : Exit → Act → World → Prop} {a : Act} {w : World} {rest : List Oper} {o : Oper} {T : TypeId} {x : Operand} {p q r : Option Operand} (_ho : o.op = .slice T x p q r) (h : Held (wpList P ops Q (o :: rest) a w)) : wpList P ops Q (o :: rest) a w := h
theorem wpl_slice_hi {P : Program} {ops : Array Oper} {Q : Exit → Act → World → Prop} {a : Act} {w : World} {rest : List Oper} {o : Oper} {t e sz n cap hi : Nat} {a0 : Option Addr} (x z : Operand) (hg : Region.wanted o (yielded ops a.tmps) = true) (ho : o.op = .slice t x none (some z) none)
    (hx : a.eval x = .slice a0 n cap) (hz : a.eval z = .int .i64 (hi : Int)) (hU : (underlying t).run P w = .ok (.slice e) w) (hS : (Go.sizeOf e).run P w = .ok sz w) (h1 : hi ≤ cap) (hK : wpList P ops Q rest (a.put o.dst (.slice a0 hi cap)) w) : wpList P ops Q (o :: rest) a w := by
  have := run_slice_hi (P := P) (a := a0) (n := n) hU hS h1
  have h : (execOp a.eval o).run P w = .ok (.value (.slice a0 hi cap)) w := by
    unfold execOp
    simp only [ho, Option.map_some, Option.map_none, hx, hz, Sem.run_bind, this, Result.andThen_ok, Sem.run_pure]
  unfold wpList
  rw [if_pos hg]
  left
  unfold Oper.wp
  rw [h]
  exact hK
end TT
end
section
open Go Go.RowKit
namespace Go.Proofs.Ytnahebfhhcebpaa
open TT SS RR FF JJ CC MM WW BB
def Sw (C : Code10) (W w : World) (m g y z : Nat) (p : Prop) (st : MemT) (s : Lg) (q r : StT) (u : Value) (B : List Bv) : Prop :=
  ∃ O O1, At9 O w g s ∧ (p → C.At O1 w m g st) ∧ (∀ b, O1 b → b < w.heap.size) ∧ (∀ b, O b → W.heap.size ≤ b ∧ b ≠ y ∧ b ≠ z) ∧ (∀ b, O1 b → W.heap.size ≤ b ∧ ¬ O b ∧ b ≠ y ∧ b ≠ z) ∧ Below W.heap.size W w ∧ (W.heap.size ≤ y ∧ W.heap.size ≤ z ∧ y ≠ z) ∧
    (Blk w y 2 (rowL [.int .i64 q.1, .int .i64 q.2]) ∧ Blk w z 2 (rowL [.int .i64 r.1, .int .i64 r.2])) ∧ Dep (fun b => ¬ O b ∧ ¬ O1 b ∧ b ≠ y ∧ b ≠ z) w (fun w' => BvAt w' u B)
section
variable {C : Code10} {W w w' : World} {m g y z : Nat} {p : Prop} {st st' : MemT} {s s' : Lg} {q q' r r' : StT} {u u' : Value} {B L : List Bv}
theorem Sw.low (h : Sw C W w m g y z p st s q r u B) (hb : Below w.heap.size w w') : Sw C W w' m g y z p st s q r u B := by
  obtain ⟨O, O1, h1, h2, h2', h3, h4, h5, h6, h7, h8⟩ := h
  exact ⟨O, O1, at9_keep h1 (Keeps.of hb), fun hp => C.keep (h2 hp) (Keeps.of hb), fun b h => Nat.lt_of_lt_of_le (h2' b h) hb.size, h3, h4, h5.trans (hb.mono h5.size), h6, ⟨h7.1.below hb h7.1.lt, h7.2.below hb h7.2.lt⟩, h8.on (Keeps.of hb)⟩
theorem Sw.below (h : Sw C W w m g y z p st s q r u B) : Below W.heap.size W w := by
  obtain ⟨O, O1, h1, h2, h2', h3, h4, h5, h6, h7, h8⟩ := h
  exact h5
theorem Sw.y_ (h : Sw C W w m g y z p st s q r u B) : Blk w y 2 (rowL [.int .i64 q.1, .int .i64 q.2]) := by
  obtain ⟨O, O1, h1, h2, h2', h3, h4, h5, h6, h7, h8⟩ := h
  exact h7.1
theorem Sw.z_ (h : Sw C W w m g y z p st s q r u B) : Blk w z 2 (rowL [.int .i64 r.1, .int .i64 r.2]) := by
  obtain ⟨O, O1, h1, h2, h2', h3, h4, h5, h6, h7, h8⟩ := h
  exact h7.2
theorem Sw.bv (h : Sw C W w m g y z p st s q r u B) : BvAt w u B := by
  obtain ⟨O, O1, h1, h2, h2', h3, h4, h5, h6, h7, h8⟩ := h
  exact h8.now
theorem Sw.lost (h : Sw C W w m g y z p st s q r u B) : Sw C W w m g y z False st' s q r u B := by
  obtain ⟨O, O1, h1, h2, h2', h3, h4, h5, h6, h7, h8⟩ := h
  exact ⟨O, O1, h1, fun h => h.elim, h2', h3, h4, h5, h6, h7, h8⟩
theorem Sw.imp {p' : Prop} (h : Sw C W w m g y z p st s q r u B) (hp : p' → p) : Sw C W w m g y z p' st s q r u B := by
  obtain ⟨O, O1, h1, h2, h2', h3, h4, h5, h6, h7, h8⟩ := h
  exact ⟨O, O1, h1, fun h => h2 (hp h), h2', h3, h4, h5, h6, h7, h8⟩
theorem Sw.storeY (h : Sw C W w m g y z p st s q r u B) (hB : Blk w' y 2 (rowL [.int .i64 q'.1, .int .i64 q'.2])) (hu : Upd y w w') : Sw C W w' m g y z p st s q' r u B := by
  obtain ⟨O, O1, h1, h2, h2', h3, h4, h5, h6, h7, h8⟩ := h
  have hk := hu.below (Nat.zero_le y)
  exact ⟨O, O1, at9_keep h1 (Keeps.upd hu fun b hb => (h3 b hb).2.1), fun hp => C.keep (h2 hp) (Keeps.upd hu fun b hb => (h4 b hb).2.2.1), fun b h => Nat.lt_of_lt_of_le (h2' b h) hk.size, h3, h4, h5.trans (hu.below h6.1), h6, ⟨hB, h7.2.upd hu (Ne.symm h6.2.2)⟩, h8.on (Keeps.upd hu fun b hb => hb.2.2.1)⟩
theorem Sw.storeZ (h : Sw C W w m g y z p st s q r u B) (hB : Blk w' z 2 (rowL [.int .i64 r'.1, .int .i64 r'.2])) (hu : Upd z w w') : Sw C W w' m g y z p st s q r' u B := by
  obtain ⟨O, O1, h1, h2, h2', h3, h4, h5, h6, h7, h8⟩ := h
  have hk := hu.below (Nat.zero_le z)
  exact ⟨O, O1, at9_keep h1 (Keeps.upd hu fun b hb => (h3 b hb).2.2), fun hp => C.keep (h2 hp) (Keeps.upd hu fun b hb => (h4 b hb).2.2.2), fun b h => Nat.lt_of_lt_of_le (h2' b h) hk.size, h3, h4, h5.trans (hu.below h6.2.1), h6, ⟨h7.1.upd hu h6.2.2, hB⟩, h8.on (Keeps.upd hu fun b hb => hb.2.2.2)⟩
theorem Sw.row {e : TypeId} (h : Sw C W w m g y z p st s q r u B) (hb : Below w.heap.size w w') (hr : w'.ownsRow w.heap.size e 6 u' (B ++ L).length (cellsB (B ++ L))) {v : Value} (hv : ∀ w', Below W.heap.size W w' → BvAt w' v L) : Sw C W w' m g y z p st s q r u' (B ++ L) := by
  obtain ⟨O, O1, h1, h2, h2', h3, h4, h5, h6, h7, h8⟩ := h
  have h5' : Below W.heap.size W w' := h5.trans (hb.mono h5.size)
  refine ⟨O, O1, at9_keep h1 (Keeps.of hb), fun hp => C.keep (h2 hp) (Keeps.of hb), fun b h => Nat.lt_of_lt_of_le (h2' b h) hb.size, h3, h4, h5', h6, ⟨h7.1.below hb h7.1.lt, h7.2.below hb h7.2.lt⟩, dep_bv hr (fun x hx => ?_) fun c hc => ?_⟩
  · rcases List.mem_append.1 hx with hx | hx
    · exact dep_inn (h8.on (Keeps.of hb)) x hx
    · intro w2 hk
      exact bv_inn (hv w2 (h5'.trans (SS.Keeps.low9 hk (fun b hl => ⟨fun h => absurd (h3 b h).1 (by omega), fun h => absurd (h4 b h).1 (by omega), by omega, by omega⟩) h5'.size))) x hx
  · have hc' := (hr.lt c hc).1
    have hy := h7.1.lt
    have hz := h7.2.lt
    exact ⟨fun h => by have := at9_lt h1 c h; omega, fun h => by have := h2' c h; omega, by omega, by omega⟩
/-- behind a call on the log alone, at which a memory that is kept stays -/
theorem Sw.step {O O1 O' : Nat → Prop} (h2 : p → C.At O1 w m g st) (h2' : ∀ b, O1 b → b < w.heap.size) (h3 : ∀ b, O b → W.heap.size ≤ b ∧ b ≠ y ∧ b ≠ z) (h4 : ∀ b, O1 b → W.heap.size ≤ b ∧ ¬ O b ∧ b ≠ y ∧ b ≠ z) (h5 : Below W.heap.size W w) (h6 : W.heap.size ≤ y ∧ W.heap.size ≤ z ∧ y ≠ z)
    (h7 : Blk w y 2 (rowL [.int .i64 q.1, .int .i64 q.2]) ∧ Blk w z 2 (rowL [.int .i64 r.1, .int .i64 r.2])) (h8 : Dep (fun b => ¬ O b ∧ ¬ O1 b ∧ b ≠ y ∧ b ≠ z) w (fun w' => BvAt w' u B)) (k1 : At9 O' w' g s') (k3 : Keeps (fun b => ¬ O b) w w') (k4 : ∀ b, O' b → O b ∨ w.heap.size ≤ b) :
    Sw C W w' m g y z p st s' q r u B := by
  have hy := h7.1.lt
  have hz := h7.2.lt
  have hk : Below W.heap.size W w' := h5.trans (SS.Keeps.low9 k3 (fun b hl => fun h => absurd (h3 b h).1 (by omega)) h5.size)
  refine ⟨O', O1, k1, fun hp => C.keep (h2 hp) (k3.sub fun b h _ => (h4 b h).2.1), fun b h => Nat.lt_of_lt_of_le (h2' b h) k3.b0.size, fun b h => (k4 b h).elim (h3 b) fun h => ⟨Nat.le_trans h5.size h, by omega, by omega⟩, fun b h => ⟨(h4 b h).1, fun k => (k4 b k).elim (h4 b h).2.1 fun k => by have := h2' b h; omega, (h4 b h).2.2⟩, hk, h6,
    ⟨blk_keeps h7.1 k3 (fun h => (h3 y h).2.1 rfl), blk_keeps h7.2 k3 (fun h => (h3 z h).2.2 rfl)⟩, dep_step h8 (k3.sub fun b hb _ => hb.1) fun b hb hl => ⟨fun h => (k4 b h).elim hb.1 (by omega), hb.2⟩⟩
theorem open_sw (h : Sw C W w m g y z p st s q r u B) (ok : OkL s) (hz : sizeL s ≤ 1000000) (hr : (recsL s).length ≤ 1000) (hg : s.gone = false) :
    Calls Try.prog 8 #[.pointer (some ⟨g, 0, none⟩)] w fun e w' => ∃ m', e = .returned (.tuple #[.pointer (some ⟨m', 0, none⟩), .int .i64 0]) ∧ Sw C W w' m' g y z True (recallL (recsL s) ((0, 0), [])) (cutL s) q r u B := by
  obtain ⟨O, O1, h1, h2, h2', h3, h4, h5, h6, h7, h8⟩ := h
  refine (C.open_ O w g s h1 ok hz hr hg).mono ?_
  rintro e w' ⟨m', O', O1', rfl, k1, k2, k3, k4, k5⟩
  have hy := h7.1.lt
  have hz := h7.2.lt
  have hk : Below W.heap.size W w' := h5.trans (SS.Keeps.low9 k3 (fun b hl => fun h => absurd (h3 b h).1 (by omega)) h5.size)
  refine ⟨m', rfl, O', O1', k1, fun _ => k2, C.lt k2, fun b h => (k4 b h).elim (h3 b) fun h => ⟨Nat.le_trans h5.size h, by omega, by omega⟩, fun b h => ⟨Nat.le_trans h5.size (k5 b h).1, (k5 b h).2, by have := (k5 b h).1; omega, by have := (k5 b h).1; omega⟩, hk, h6,
    ⟨blk_keeps h7.1 k3 (fun h => (h3 y h).2.1 rfl), blk_keeps h7.2 k3 (fun h => (h3 z h).2.2 rfl)⟩, dep_step h8 (k3.sub fun b hb _ => hb.1) fun b hb hl => ⟨fun h => (k4 b h).elim hb.1 (by omega), fun h => by have := (k5 b h).1; omega, hb.2.2⟩⟩
theorem blocks_sw (h : Sw C W w m g y z True st s q r u B) (ok : OkT st) :
    Calls Try.prog 12 #[.pointer (some ⟨m, 0, none⟩)] w fun e w' => ∃ u1 L1, e = .returned u1 ∧ L1.map Prod.fst = st.2 ∧ Sw C W w' m g y z True st s q r u1 L1 ∧ BvAt w' u B ∧ Below w.heap.size w w' := by
  have h0 := h
  obtain ⟨O, O1, h1, h2, h2', h3, h4, h5, h6, h7, h8⟩ := h
  refine (C.blocks O1 w m g st (h2 trivial) ok).mono ?_
  rintro e w' ⟨u1, L1, rfl, k1, k2, k3⟩
  have hy := h7.1.lt
  have hz := h7.2.lt
  refine ⟨u1, L1, rfl, k1, ⟨O, O1, at9_keep h1 (Keeps.of k3), fun hp => C.keep (h2 hp) (Keeps.of k3), fun b h => Nat.lt_of_lt_of_le (h2' b h) k3.size, h3, h4, h5.trans (k3.mono h5.size), h6, ⟨h7.1.below k3 hy, h7.2.below k3 hz⟩, k2.more fun b hb _ => ⟨fun h => by have := at9_lt h1 b h; omega, fun h => by have := h2' b h; omega, by omega, by omega⟩⟩, (h0.low k3).bv, k3⟩
theorem state_sw (h : Sw C W w m g y z True st s q r u B) (ok : OkT st) :
    Calls Try.prog 11 #[.pointer (some ⟨m, 0, none⟩)] w fun e w' => e = .returned (.agg #[.int .i64 st.1.1, .int .i64 st.1.2]) ∧ Below w.heap.size w w' := by
  obtain ⟨O, O1, h1, h2, h2', h3, h4, h5, h6, h7, h8⟩ := h
  exact C.state O1 w m g st (h2 trivial) ok
/-- one save, of a log with or without a fuse -/
theorem save_sw (h : Sw C W w m g y z True st s q r u B) {all : List ByteArray} {i : Nat} (hl : LogI s all st i) (hi : i ≤ 30) (x : StT) (v : Value) (L : List Bv) (hv : ∀ w', Below W.heap.size W w' → BvAt w' v L) (hs : ∀ y ∈ L, SmallT y.1 ∧ MemI y.1) (hl5 : L.length ≤ 5) (hx : rightS x) (hL : ∀ y ∈ L, blockOk y.1) :
    Calls Try.prog 14 #[.pointer (some ⟨m, 0, none⟩), .agg #[.int .i64 x.1, .int .i64 x.2], v] w fun e w' => ∃ (E : Int) (s1 : Lg), e = .returned (.int .i64 E) ∧ Sw C W w' m g y z (E = 0) (upS st.1 x, st.2 ++ L.map Prod.fst) s1 q r u B ∧ sizeL s1 ≤ 28028 * (i + 1) ∧
      ((E = 0 ∧ ∃ all1, LogI s1 all1 (upS st.1 x, st.2 ++ L.map Prod.fst) (i + 1)) ∨ (E = 8 ∧ ∃ k, InvS s1 (all ++ (recsOf st.1 x (L.map Prod.fst)).take k) all.length)) := by
  obtain ⟨O, O1, h1, h2, h2', h3, h4, h5, h6, h7, h8⟩ := h
  have hL' : ∀ b ∈ L.map Prod.fst, blockOk b := fun b hb => by obtain ⟨y, hy, rfl⟩ := List.mem_map.1 hb; exact hL y hy
  have hy := h7.1.lt
  have hz := h7.2.lt
  refine (C.save O O1 (fun b => b < W.heap.size) w m g st s x v L h1 (h2 trivial) (fun b h => (h4 b h).2.1) hl.ok hl.gone (hl.sz hi) (hl.okT (by omega)) (fun w' hk => hv w' (h5.trans (SS.Keeps.low9 hk (fun b h => h) h5.size))) (fun b h => ⟨fun k => absurd (h3 b k).1 (by omega), fun k => absurd (h4 b k).1 (by omega)⟩) hs hl5).mono ?_
  intro e w' ha
  rcases logI_save hl (x := x) (L := L.map Prod.fst) hx hL' (by rw [List.length_map]; exact hl5) with ⟨e0, k1, _⟩ | ⟨e8, _, _, ksz, kk, _, k5⟩
  · obtain ⟨rfl, O', O1', n1, n2, n3, n4, n5⟩ := save_fit ha hx hL' e0
    have hk : Below W.heap.size W w' := h5.trans (SS.Keeps.low9 n3 (fun b hl => ⟨fun h => absurd (h3 b h).1 (by omega), fun h => absurd (h4 b h).1 (by omega)⟩) h5.size)
    refine ⟨0, _, rfl, ⟨O', O1', n1, fun _ => n2, C.lt n2, fun b h => (n4 b h).elim (h3 b) fun h => ⟨Nat.le_trans h5.size h, by omega, by omega⟩, fun b h => ?_, hk, h6,
      ⟨blk_keeps h7.1 n3 ⟨fun h => (h3 y h).2.1 rfl, fun h => (h4 y h).2.2.1 rfl⟩, blk_keeps h7.2 n3 ⟨fun h => (h3 z h).2.2 rfl, fun h => (h4 z h).2.2.2 rfl⟩⟩, dep_step h8 (n3.sub fun b hb _ => ⟨hb.1, hb.2.1⟩) fun b hb hl => ⟨fun h => (n4 b h).elim hb.1 (by omega), fun h => (n5 b h).1.elim hb.2.1 (by omega), hb.2.2⟩⟩, k1.size, .inl ⟨rfl, _, k1⟩⟩
    rcases (n5 b h).1 with h0 | h0
    · exact ⟨(h4 b h0).1, (n5 b h).2, (h4 b h0).2.2⟩
    · exact ⟨Nat.le_trans h5.size h0, (n5 b h).2, by omega, by omega⟩
  · obtain ⟨rfl, O', n1, n3, n4⟩ := save_lost ha hx hL' e8
    have hk : Below W.heap.size W w' := h5.trans (SS.Keeps.low9 n3 (fun b hl => ⟨fun h => absurd (h3 b h).1 (by omega), fun h => absurd (h4 b h).1 (by omega)⟩) h5.size)
    exact ⟨8, _, rfl, ⟨O', fun _ => False, n1, fun h => absurd h (by omega), fun _ h => h.elim, fun b h => (n4 b h).elim (h3 b) fun h => ⟨Nat.le_trans h5.size h, by omega, by omega⟩, fun _ h => h.elim, hk, h6,
      ⟨blk_keeps h7.1 n3 ⟨fun h => (h3 y h).2.1 rfl, fun h => (h4 y h).2.2.1 rfl⟩, blk_keeps h7.2 n3 ⟨fun h => (h3 z h).2.2 rfl, fun h => (h4 z h).2.2.2 rfl⟩⟩, dep_step (h8.more (A' := fun b => ¬ O b ∧ ¬ O1 b ∧ b ≠ y ∧ b ≠ z) fun b hb _ => hb) (n3.sub fun b hb _ => ⟨hb.1, hb.2.1⟩) fun b hb hl => ⟨fun h => (n4 b h).elim hb.1 (by omega), fun h => h, hb.2.2⟩⟩, ksz, .inr ⟨rfl, kk, k5⟩⟩
end
end Go.Proofs.Ytnahebfhhcebpaa
end
section
open Go Go.RowKit
namespace TT
open SS RR WW BB FF
theorem readS_is {v l : Int} {s : StT} (h : readS (bytesS v l) = some s) : decide (s = (v, l)) = decide (rightS (v, l)) := by
  by_cases hr : rightS (v, l)
  · rw [read_bytes hr] at h
    injection h with h
    subst h
    simp [hr]
  · have hne : s ≠ (v, l) := by rintro rfl; exact hr (readS_right h)
    simp [hne, hr]
theorem readS_no {v l : Int} (h : readS (bytesS v l) = none) : decide (rightS (v, l)) = false := decide_eq_false fun hr => by rw [read_bytes hr] at h; cases h
end TT
namespace Go.Proofs.Ytnahebfhhcebpaa
open TT SS RR FF WW BB
set_option maxRecDepth 100000 in
set_option maxHeartbeats 2000000 in
theorem record_any (v l : Int) (w : World) : Calls Try.prog 25 #[.agg #[.int .i64 v, .int .i64 l]] w fun e w' => e = .returned (.string (rcS (v, l))) ∧ Below w.heap.size w w' := by
  have X1 := Lib.hid ((Below.refl w.heap.size w).alloc (Nat.le_refl _) (.cells #[.int .i64 v, .int .i64 l] 26))
  have hno : ¬ 9223372036854775807 < (⟨#[83]⟩ : ByteArray).size + (bytesS v l).size := by rw [bytes_size]; decide
  go_enter Try.func25, Try.ntmps25
  go_wp2_with fail
  refine (bytes_any v l _).mono ?_
  rintro e w1 ⟨rfl, hb1⟩
  have X2 := Lib.hid (X1.out.trans (hb1.mono X1.out.size))
  clear hb1
  go_wp2_with fail
  go_ret
  exact ⟨rfl, X2.out⟩
set_option maxRecDepth 100000 in
set_option maxHeartbeats 2000000 in
theorem blockrec_any (x : Bv) (w : World) (hi : InnB w x) (hs : SmallD x.1) : Calls Try.prog 33 #[bvV x] w fun e w' => e = .returned (.string (rcB x.1)) ∧ Below w.heap.size w w' := by
  obtain ⟨⟨⟨⟨v, p⟩, ⟨⟨cv, k⟩, l⟩⟩, m⟩, sv, rv⟩ := x
  obtain ⟨h1, h2⟩ := hi
  obtain ⟨s1, s2, s3⟩ := hs
  replace h1 : SigsAt w sv l := h1
  replace h2 : ReqsAt w rv m := h2
  replace s1 : k.size ≤ 1000000 := s1
  replace s2 : SmallS l := s2
  replace s3 : SmallR m := s3
  have hno : ¬ 9223372036854775807 < (⟨#[66]⟩ : ByteArray).size + (blockB v p cv k l m).size := by
    unfold blockB
    simp only [ByteArray.size_append, num_size, certB_size, flat_size]
    have := s2.2.1; have := s3.2.1
    show ¬ 9223372036854775807 < 1 + _
    omega
  show Calls Try.prog 33 #[.agg #[.int .i64 v, .int .i64 p, .int .i64 cv, .string k, sv, rv]] w fun e w' => e = .returned (.string ((⟨#[66]⟩ : ByteArray) ++ blockB v p cv k l m)) ∧ Below w.heap.size w w'
  have HX := Lib.hid (fun wx (hb : Below w.heap.size w wx) => block_any v p cv k sv rv l m wx (h1.later hb) (h2.later hb) s1 s2 s3)
  obtain ⟨a0, cap, rfl, _⟩ := h1
  obtain ⟨a1, cap1, rfl, _⟩ := h2
  have X1 := Lib.hid ((Below.refl w.heap.size w).alloc (Nat.le_refl _) (.cells #[.int .i64 v, .int .i64 p, .int .i64 cv, .string k, .slice a0 l.length cap, .slice a1 m.length cap1] 51))
  clear s1 s2 s3
  go_enter Try.func33, Try.ntmps33
  go_wp2_with fail
  refine (HX.out _ X1.out).mono ?_
  rintro e w1 ⟨rfl, hb1⟩
  have X2 := Lib.hid (X1.out.trans (hb1.mono X1.out.size))
  clear hb1
  go_wp2_with fail
  go_ret
  exact ⟨rfl, X2.out⟩
set_option maxRecDepth 100000 in
set_option maxHeartbeats 2000000 in
/-- the state of the greater one of both views each -/
theorem greatest_any (s x : StT) (w : World) : Calls Try.prog 27 #[.agg #[.int .i64 s.1, .int .i64 s.2], .agg #[.int .i64 x.1, .int .i64 x.2]] w fun e w' => e = .returned (.agg #[.int .i64 (upS s x).1, .int .i64 (upS s x).2]) ∧ Below w.heap.size w w' := by
  obtain ⟨a, b⟩ := s
  obtain ⟨c, d⟩ := x
  have B3 := Lib.hid ((((Below.refl w.heap.size w).alloc (Nat.le_refl _) (.cells #[.int .i64 a, .int .i64 b] 26)).alloc (by simp) (.cells #[.int .i64 c, .int .i64 d] 26)).alloc (by simp; omega) (.cells #[.int .i64 0, .int .i64 0] 26))
  have C3 := Lib.hid (show Blk (((w.alloc (.cells #[.int .i64 a, .int .i64 b] 26)).alloc (.cells #[.int .i64 c, .int .i64 d] 26)).alloc (.cells #[.int .i64 0, .int .i64 0] 26)) (w.heap.size + 2) 2 (rowL [.int .i64 0, .int .i64 0]) from Blk.new' (by simp) (row2_ _ _))
  have D1 := Lib.hid (show Blk (((w.alloc (.cells #[.int .i64 a, .int .i64 b] 26)).alloc (.cells #[.int .i64 c, .int .i64 d] 26)).alloc (.cells #[.int .i64 0, .int .i64 0] 26)) w.heap.size 2 (rowL [.int .i64 a, .int .i64 b]) from ((Blk.new' rfl (row2_ _ _)).alloc _).alloc _)
  have D2 := Lib.hid (show Blk (((w.alloc (.cells #[.int .i64 a, .int .i64 b] 26)).alloc (.cells #[.int .i64 c, .int .i64 d] 26)).alloc (.cells #[.int .i64 0, .int .i64 0] 26)) (w.heap.size + 1) 2 (rowL [.int .i64 c, .int .i64 d]) from (Blk.new' (by simp) (row2_ _ _)).alloc _)
  obtain ⟨w3, hw3⟩ : ∃ w3, ((w.alloc (.cells #[.int .i64 a, .int .i64 b] 26)).alloc (.cells #[.int .i64 c, .int .i64 d] 26)).alloc (.cells #[.int .i64 0, .int .i64 0] 26) = w3 := ⟨_, rfl⟩
  have HW3 := Lib.hid hw3
  rw [hw3] at B3 C3 D1 D2
  clear hw3
  go_enter Try.func27, Try.ntmps27
  go_upto_region 1 with fail
  rw [HW3.out]
  obtain ⟨q0, q1⟩ := cells2 D1.out
  obtain ⟨r0, r1⟩ := cells2 D2.out
  obtain ⟨x0, x1⟩ := cells2 C3.out
  have f0 := C3.out.frz 0
  have f1 := C3.out.frz 1
  go_wp2_with fail
  obtain ⟨xi, ui⟩ := rset2 C3.out (.int .i64 (max a c)) (.int .i64 (max b d))
  obtain ⟨p0, p1⟩ := cells2 xi
  refine bodyPost_ret (v := .agg #[.int .i64 (max a c), .int .i64 (max b d)]) (by simp [results, Try.results27, go_sem, p0, p1]) rfl ⟨rfl, ?_⟩
  exact B3.out.trans (ui.below (by omega))
set_option maxRecDepth 100000 in
set_option maxHeartbeats 2000000 in
/-- is a state read as it was? -/
theorem readable_any (v l : Int) (w : World) : Calls Try.prog 22 #[.agg #[.int .i64 v, .int .i64 l]] w fun e w' => e = .returned (.bool (decide (rightS (v, l)))) ∧ Below w.heap.size w w' := by
  have X1 := Lib.hid ((Below.refl w.heap.size w).alloc (Nat.le_refl _) (.cells #[.int .i64 v, .int .i64 l] 26))
  have Q1 := Lib.hid (show Blk (w.alloc (.cells #[.int .i64 v, .int .i64 l] 26)) w.heap.size 2 (rowL [.int .i64 v, .int .i64 l]) from Blk.new' rfl (row2_ _ _))
  obtain ⟨w1, hw1⟩ : ∃ w1, w.alloc (.cells #[.int .i64 v, .int .i64 l] 26) = w1 := ⟨_, rfl⟩
  have HW1 := Lib.hid hw1
  rw [hw1] at X1 Q1
  clear hw1
  obtain ⟨X, hX⟩ : ∃ X, decide (rightS (v, l)) = X := ⟨_, rfl⟩
  rw [hX]
  have HX := Lib.hid hX
  clear hX
  go_enter Try.func22, Try.ntmps22
  go_upto_region 1 with fail
  rw [HW1.out]
  obtain ⟨q0, q1⟩ := cells2 Q1.out
  go_wp2_with fail
  refine (bytes_any v l w1).mono ?_
  rintro e w2 ⟨rfl, hb2⟩
  have X2 := Lib.hid (X1.out.trans (hb2.mono X1.out.size))
  have Q2 := Lib.hid (Q1.out.below hb2 Q1.out.lt)
  clear hb2 q0 q1
  go_wp2_with fail
  cases hr : readS (bytesS v l) with
  | none =>
    have HR := Lib.hid hr
    refine (readst_none _ w2 hr).mono ?_
    rintro e w3 ⟨rfl, hb3⟩
    have X3 := Lib.hid (X2.out.trans (hb3.mono X2.out.size))
    clear hb3 hr
    go_wp2_with fail
    go_ret
    exact ⟨by rw [← HX.out, readS_no HR.out]; rfl, X3.out.alloc X3.out.size _⟩
  | some s =>
    have HR := Lib.hid hr
    refine (readst_some _ s w2 hr).mono ?_
    rintro e w3 ⟨rfl, hb3⟩
    have X3 := Lib.hid (X2.out.trans (hb3.mono X2.out.size))
    have Q3 := Lib.hid (Q2.out.below hb3 Q2.out.lt)
    clear hb3 hr
    have Q4 := Lib.hid (Q3.out.alloc (.cells #[.int .i64 s.1, .int .i64 s.2] 26))
    have HE := Lib.hid (readS_is HR.out)
    obtain ⟨s1, s2⟩ := s
    obtain ⟨q0, q1⟩ := cells2 Q4.out
    by_cases e1 : s1 = v
    · by_cases e2 : s2 = l
      · subst e1 e2
        have HEX := Lib.hid (show true = X by rw [← HX.out, ← HE.out]; simp)
        go_wp2_with fail
        go_ret
        exact ⟨by rw [← HEX.out]; rfl, X3.out.alloc X3.out.size _⟩
      · have HEX := Lib.hid (show false = X by rw [← HX.out, ← HE.out]; symm; rw [decide_eq_false_iff_not]; intro h; injection h with _ h; exact e2 h)
        subst e1
        go_wp2_with fail
        go_ret
        exact ⟨by rw [← HEX.out]; rfl, X3.out.alloc X3.out.size _⟩
    · have HEX := Lib.hid (show false = X by rw [← HX.out, ← HE.out]; symm; rw [decide_eq_false_iff_not]; intro h; injection h with h _; exact e1 h)
      go_wp2_with fail
      go_ret
      exact ⟨by rw [← HEX.out]; rfl, X3.out.alloc X3.out.size _⟩
end Go.Proofs.Ytnahebfhhcebpaa
end
section
open Go Go.RowKit
namespace TT
open SS RR FF WW BB
/-- the memory in block g -/
structure Mm (tB : TypeId) (g : Nat) (s : StT) (L : List Bv) (x : Value) (w : World) : Prop where
  blk : Blk w g 3 (rowL [.int .i64 s.1, .int .i64 s.2, x])
  row : w.ownsRow (g + 1) tB 6 x L.length (cellsB L)
  inn : ∀ y ∈ L, Dep (fun b => g + 1 ≤ b ∧ x.ownBlock ≠ some b) w (fun w' => InnB w' y)
section
variable {tB : TypeId} {g : Nat} {s : StT} {L : List Bv} {x x' : Value} {w w' w1 : World}
theorem Mm.on (h : Mm tB g s L x w) (hb : Below w.heap.size w w') : Mm tB g s L x w' :=
  ⟨h.blk.below hb h.blk.lt, row_keep h.row fun c hc => hb.block c (h.row.lt c hc).2, fun y hy => (h.inn y hy).on (Keeps.of hb)⟩
theorem Mm.now (h : Mm tB g s L x w) : ∀ y ∈ L, InnB w y := fun y hy => (h.inn y hy).now
theorem Mm.sl (h : Mm tB g s L x w) : ∃ a c, x = .slice a L.length c := own_sl6 h.row
theorem Mm.ne (h : Mm tB g s L x w) : x.ownBlock ≠ some g := fun e => by have := (h.row.lt g e).1; omega
/-- another state -/
theorem Mm.set (h : Mm tB g s L x w) (s' : StT) : Mm tB g s' L x ((w.setCell ⟨g, 0, none⟩ (.int .i64 s'.1)).setCell ⟨g, 1, none⟩ (.int .i64 s'.2)) ∧ Below g w ((w.setCell ⟨g, 0, none⟩ (.int .i64 s'.1)).setCell ⟨g, 1, none⟩ (.int .i64 s'.2)) := by
  have hu : Upd g w ((w.setCell ⟨g, 0, none⟩ (.int .i64 s'.1)).setCell ⟨g, 1, none⟩ (.int .i64 s'.2)) := ((Upd.refl g w).trans (Upd.set _ _ _ _)).trans (Upd.set _ _ _ _)
  refine ⟨⟨((h.blk.set 0 (.int .i64 s'.1)).set 1 (.int .i64 s'.2)).congr _ fun i hi => ?_, row_keep h.row fun c hc => hu.block c (by have := (h.row.lt c hc).1; omega), fun y hy => (h.inn y hy).on (Keeps.upd hu fun b hb => by have := hb.1; omega)⟩, hu.below (Nat.le_refl _)⟩
  match i, hi with
  | 0, _ => rfl
  | 1, _ => rfl
  | 2, _ => rfl
/-- a block more -/
theorem Mm.push (h : Mm tB g s L x w) {y : Bv} (hy : Dep (fun b => g + 1 ≤ b ∧ x.ownBlock ≠ some b) w (fun w' => InnB w' y)) (hg : w.grownBy w1 x.ownBlock)
    (hr : w1.ownsRow (g + 1) tB 6 x' (L.length + 1) (cellsB L ++ encB y)) (hlo : ∀ c, x'.ownBlock = some c → x.ownBlock = some c ∨ w.heap.size ≤ c) :
    Mm tB g s (L ++ [y]) x' (w1.setCell ⟨g, 2, none⟩ x') ∧ Below g w (w1.setCell ⟨g, 2, none⟩ x') := by
  have hu : Upd g w1 (w1.setCell ⟨g, 2, none⟩ x') := (Upd.refl g w1).trans (Upd.set _ _ _ _)
  have hgl := h.blk.lt
  have hk : Keeps (fun b => g + 1 ≤ b ∧ x.ownBlock ≠ some b) w (w1.setCell ⟨g, 2, none⟩ x') := (Keeps.grown hg fun b e hb => hb.2 e).trans (Keeps.upd hu fun b hb => by have := hb.1; omega)
  have hb1 : Below g w w1 := (Below.refl g w).grown hg (by omega) (fun k hk => by have := (h.row.lt k hk).1; omega)
  refine ⟨⟨((h.blk.of_heap (hg.block g hgl (fun e => h.ne e.symm))).set 2 x').congr _ fun i hi => ?_, ?_, fun z hz => ?_⟩, hb1.trans (hu.below (Nat.le_refl _))⟩
  · match i, hi with
    | 0, _ => rfl
    | 1, _ => rfl
    | 2, _ => rfl
  · have hr2 := row_keep hr (w' := w1.setCell ⟨g, 2, none⟩ x') fun c hc => hu.block c (by have := (hr.lt c hc).1; omega)
    rw [List.length_append, cellsB_snoc]
    exact hr2
  · have hA : ∀ b, (g + 1 ≤ b ∧ x.ownBlock ≠ some b) → b < w.heap.size → (g + 1 ≤ b ∧ x'.ownBlock ≠ some b) := fun b hb hl => ⟨hb.1, fun e => (hlo b e).elim hb.2 fun h => by omega⟩
    rcases List.mem_append.1 hz with hz | hz
    · exact dep_step (h.inn z hz) hk hA
    · rw [List.mem_singleton.1 hz]
      exact dep_step hy hk hA
end
theorem mm_start (w : World) (g : Nat) (hg : w.heap.size = g) (t tB : TypeId) : Mm tB g (0, 0) [] (.slice none 0 0) (w.alloc (.cells #[.int .i64 0, .int .i64 0, .slice none 0 0] t)) := by
  subst hg
  exact ⟨Blk.new' rfl (row3_ _ _ _), World.ownsRow_nil _ _ _ _, fun y hy => by cases hy⟩
/-- what a record does to what is remembered -/
def TakeAns (tB : TypeId) (g : Nat) (s : StT) (L : List Bv) (x : Value) (w : World) (o : Option (StT ⊕ BlockD)) (e : Ending) (w' : World) : Prop :=
  Below g w w' ∧ match o with
  | none => e = .returned (.int .i64 2) ∧ Mm tB g s L x w'
  | some (.inl s') => e = .returned (.int .i64 0) ∧ Mm tB g (upS s s') L x w'
  | some (.inr d) => e = .returned (.int .i64 0) ∧ ∃ x' sv rv, Mm tB g s (L ++ [(d, sv, rv)]) x' w'
theorem blockrd_none : blockRd (⟨#[]⟩ : ByteArray) = none := by
  cases h : blockRd (⟨#[]⟩ : ByteArray) with
  | none => rfl
  | some d =>
    obtain ⟨h1, h2⟩ := blockRd_sound h
    have := (block_few h2).1
    rw [← h1] at this
    exact absurd this (by decide)
theorem one_83 {r : ByteArray} (_ : 0 < r.size) (h : r.data.toList.getD 0 0 = 83) : oneD r = (readS (r.extract 1 r.size)).map .inl := by
  unfold oneD
  by_cases h9 : r.size = 9
  · rw [if_pos ⟨h9, h⟩]
  · rw [if_neg (fun k => h9 k.1), if_neg (fun k => by rw [h] at k; exact absurd k.2 (by decide))]
    have : readS (r.extract 1 r.size) = none := by
      unfold readS
      rw [if_neg (by rw [ByteArray.size_extract]; omega)]
    rw [this]; rfl
theorem one_66 {r : ByteArray} (_ : 0 < r.size) (h : r.data.toList.getD 0 0 = 66) : oneD r = (blockRd (r.extract 1 r.size)).map .inr := by
  unfold oneD
  rw [if_neg (fun k => by rw [h] at k; exact absurd k.2 (by decide))]
  by_cases h1 : 1 < r.size
  · rw [if_pos ⟨h1, h⟩]
  · rw [if_neg (fun k => h1 k.1)]
    have : r.extract 1 r.size = ⟨#[]⟩ := by
      apply ba_ext
      rw [ByteArray.data_extract, Array.toList_extract, List.extract_eq_take_drop]
      apply List.eq_nil_of_length_eq_zero
      simp
      omega
    rw [this, blockrd_none]; rfl
theorem one_else {r : ByteArray} (h1 : r.data.toList.getD 0 0 ≠ 83) (h2 : r.data.toList.getD 0 0 ≠ 66) : oneD r = none := by
  unfold oneD
  rw [if_neg (fun k => h1 k.2), if_neg (fun k => h2 k.2)]
theorem one_empty : oneD (⟨#[]⟩ : ByteArray) = none := one_else (by decide) (by decide)
end TT
namespace Go.Proofs.Ytnahebfhhcebpaa
open TT SS RR FF JJ CC WW BB
section
variable {g : Nat} {s : StT} {L : List Bv} {x : Value} {w : World}
set_option maxRecDepth 100000 in
set_option maxHeartbeats 8000000 in
theorem takestate_any (b : ByteArray) (o : Option StT) (ho : readS b = o) (h : Mm 51 g s L x w) :
    Calls Try.prog 28 #[.pointer (some ⟨g, 0, none⟩), .string b] w (TakeAns 51 g s L x w (o.map .inl)) := by
  have H := Lib.hid h
  have HG := Lib.hid h.blk.lt
  clear h
  go_enter Try.func28, Try.ntmps28
  go_wp2_with fail
  cases o with
  | none =>
    refine (readst_none b w ho).mono ?_
    rintro e w1 ⟨rfl, hb1⟩
    have X1 := Lib.hid (hb1.alloc hb1.size (.cells #[.int .i64 0, .int .i64 0] 26))
    clear hb1 ho
    go_wp2_with fail
    go_ret
    exact ⟨X1.out.mono (Nat.le_of_lt HG.out), rfl, H.out.on X1.out⟩
  | some s' =>
    refine (readst_some b s' w ho).mono ?_
    rintro e w1 ⟨rfl, hb1⟩
    have X1 := Lib.hid (hb1.alloc hb1.size (.cells #[.int .i64 s'.1, .int .i64 s'.2] 26))
    have H1 := Lib.hid (H.out.on X1.out)
    have Q1 := Lib.hid (show Blk (w1.alloc (.cells #[.int .i64 s'.1, .int .i64 s'.2] 26)) w1.heap.size 2 (rowL [.int .i64 s'.1, .int .i64 s'.2]) from Blk.new' rfl (row2_ _ _))
    have HGQ := Lib.hid (show g < w1.heap.size from Nat.lt_of_lt_of_le HG.out hb1.size)
    obtain ⟨q, hq⟩ : ∃ q, w1.heap.size = q := ⟨_, rfl⟩
    obtain ⟨wy, hwy⟩ : ∃ wy, w1.alloc (.cells #[.int .i64 s'.1, .int .i64 s'.2] 26) = wy := ⟨_, rfl⟩
    have HWY := Lib.hid hwy
    have HQ := Lib.hid hq
    rw [hwy] at X1 H1 Q1
    rw [hq] at Q1 HGQ
    clear hb1 ho hwy hq
    go_upto_region 3 with fail
    rw [HWY.out, HQ.out]
    have HSC := Lib.hid (fun (wx : World) (hk : wx.heap[g]? = wy.heap[g]? ∧ wx.heap[q]? = wy.heap[q]?) => And.intro (cells3 (H1.out.blk.of_heap hk.1)) (cells2 (Q1.out.of_heap hk.2)))
    refine planE_abs (fun wx => wx.heap[g]? = wy.heap[g]? ∧ wx.heap[q]? = wy.heap[q]?) 9 [(true, 0), (true, 1), (true, 2), (true, 3), (true, 4), (true, 5), (false, 6), (false, 7), (false, 8), (false, 9)] (by kernel_rfl) (by kernel_rfl) (fun _ _ d _ _ h => by cases d <;> exact h) fun w5 hs5 => ⟨by rw [hs5.heap]; exact ⟨rfl, rfl⟩, ?_⟩
    have Y5 := Lib.hid (show Below wy.heap.size wy w5 from hs5.below _)
    clear hs5
    iterate 6 (refine pe_run _ ?_ rfl rfl ?_ ?_; rotate_left; (focus (intro w' hS; obtain ⟨⟨c0, c1, c2⟩, d0, d1⟩ := HSC.out w' hS; go_simp; exact rfl)); simp only [Act.put, List.setIfInBounds_toArray, List.set_cons_zero, List.set_cons_succ, List.getElem_toArray, List.getElem_cons_zero, List.getElem_cons_succ])
    refine pe_call (R := fun u w' => u = .agg #[.int .i64 (upS s s').1, .int .i64 (upS s s').2] ∧ Below w5.heap.size w5 w') _ rfl rfl (by go_simp) ((greatest_any s s' w5).mono fun e w' h => ⟨_, h.1, rfl, h.2⟩) (fun u w' h => by
      have hb := Y5.out.trans (h.2.mono Y5.out.size)
      exact ⟨hb.block g H1.out.blk.lt, hb.block q Q1.out.lt⟩) fun u w6 hr => ?_
    obtain ⟨rfl, hb6⟩ := hr
    have Y6 := Lib.hid (Y5.out.trans (hb6.mono Y5.out.size))
    have H6 := Lib.hid (H1.out.on Y6.out)
    have S6 := Lib.hid (show w6.heap[g]? = wy.heap[g]? ∧ w6.heap[q]? = wy.heap[q]? from ⟨Y6.out.block g H1.out.blk.lt, Y6.out.block q Q1.out.lt⟩)
    clear hb6
    simp only [Act.put, List.setIfInBounds_toArray, List.set_cons_zero, List.set_cons_succ, List.getElem_toArray, List.getElem_cons_zero, List.getElem_cons_succ]
    refine pe_value (w' := w6) _ (.pointer (some ⟨g, 0, none⟩)) rfl rfl (by go_simp) S6.out ?_
    simp only [Act.put, List.setIfInBounds_toArray, List.set_cons_zero, List.set_cons_succ, List.getElem_toArray, List.getElem_cons_zero, List.getElem_cons_succ]
    refine pe_value (w' := w6) _ (.pointer (some ⟨g, 0, none⟩)) rfl rfl (by go_simp) S6.out ?_
    simp only [Act.put, List.setIfInBounds_toArray, List.set_cons_zero, List.set_cons_succ, List.getElem_toArray, List.getElem_cons_zero, List.getElem_cons_succ]
    refine pe_last _ rfl ?_
    simp only [List.getElem_toArray, List.getElem_cons_zero, List.getElem_cons_succ]
    obtain ⟨e0, e1, e2⟩ := cells3 H6.out.blk
    have f0 := H6.out.blk.frz 0
    have f1 := H6.out.blk.frz 1
    obtain ⟨u0, u1⟩ : ∃ u : Int × Int, u = upS s s' := ⟨_, rfl⟩
    go_wp2_with fail
    go_ret
    obtain ⟨k1, k2⟩ := H6.out.set (upS s s')
    exact ⟨(X1.out.mono (Nat.le_of_lt HG.out)).trans ((Y6.out.mono (Nat.le_of_lt H1.out.blk.lt)).trans k2), rfl, k1⟩
set_option maxRecDepth 100000 in
set_option maxHeartbeats 8000000 in
theorem takeblock_any (b : ByteArray) (hb : b.size ≤ 1000000) (o : Option BlockD) (ho : blockRd b = o) (h : Mm 51 g s L x w) (hl : L.length ≤ 1000) :
    Calls Try.prog 29 #[.pointer (some ⟨g, 0, none⟩), .string b] w (TakeAns 51 g s L x w (o.map .inr)) := by
  have H := Lib.hid h
  have HG := Lib.hid h.blk.lt
  have HL := Lib.hid hl
  have HO := Lib.hid ho
  have HBZ := Lib.hid hb
  clear h hl ho hb
  go_enter Try.func29, Try.ntmps29
  go_wp2_with fail
  refine (read_block b HBZ.out w).mono ?_
  rintro e w1 ⟨hans, hb1⟩
  rw [HO.out] at hans
  cases o with
  | none =>
    have hans : e = .returned (.tuple #[.agg #[.int .i64 0, .int .i64 0, .int .i64 0, .string ⟨#[]⟩, .slice none 0 0, .slice none 0 0], .int .i64 2]) := hans
    subst hans
    have X1 := Lib.hid (hb1.alloc hb1.size (.cells #[.int .i64 0, .int .i64 0, .int .i64 0, .string ⟨#[]⟩, .slice none 0 0, .slice none 0 0] 51))
    clear hb1
    go_wp2_with fail
    go_ret
    exact ⟨X1.out.mono (Nat.le_of_lt HG.out), rfl, H.out.on X1.out⟩
  | some d =>
    obtain ⟨sv, rv, rfl, hin⟩ := blockans_dep hans
    have HIN := Lib.hid hin
    have HENC := Lib.hid (show encB (d, sv, rv) = [.int .i64 (viewI d), .int .i64 (propI d), .int .i64 (jvI d), .string (parI d), sv, rv] from rfl)
    have HXX := Lib.hid (fun c (hc : x.ownBlock = some c) => (H.out.row.lt c hc).2)
    obtain ⟨hsv, hrv⟩ := hin.now
    obtain ⟨sa, sc, hse, _⟩ := hsv
    obtain ⟨ra, rc, hre, _⟩ := hrv
    obtain ⟨sn, hsn⟩ : ∃ sn, (sigsI (d, sv, rv).1).length = sn := ⟨_, rfl⟩
    obtain ⟨rn, hrn⟩ : ∃ rn, ((d, sv, rv) : Bv).1.2.length = rn := ⟨_, rfl⟩
    rw [hsn] at hse
    rw [hrn] at hre
    replace hse : sv = .slice sa sn sc := hse
    replace hre : rv = .slice ra rn rc := hre
    subst hse hre
    clear hans hin hsn hrn
    unfold bvV
    simp only
    obtain ⟨pv, hpv⟩ : ∃ pv, viewI d = pv := ⟨_, rfl⟩
    obtain ⟨pp, hpp⟩ : ∃ pp, propI d = pp := ⟨_, rfl⟩
    obtain ⟨pj, hpj⟩ : ∃ pj, jvI d = pj := ⟨_, rfl⟩
    obtain ⟨pk, hpk⟩ : ∃ pk, parI d = pk := ⟨_, rfl⟩
    rw [hpv, hpp, hpj, hpk] at HENC
    simp only [hpv, hpp, hpj, hpk]
    clear hpv hpp hpj hpk
    have BY := Lib.hid ((Below.refl w1.heap.size w1).alloc (Nat.le_refl _) (.cells #[.int .i64 pv, .int .i64 pp, .int .i64 pj, .string pk, .slice sa sn sc, .slice ra rn rc] 51))
    have X1 := Lib.hid (hb1.alloc hb1.size (.cells #[.int .i64 pv, .int .i64 pp, .int .i64 pj, .string pk, .slice sa sn sc, .slice ra rn rc] 51))
    have H1 := Lib.hid (H.out.on X1.out)
    have Q1 := Lib.hid (show Blk (w1.alloc (.cells #[.int .i64 pv, .int .i64 pp, .int .i64 pj, .string pk, .slice sa sn sc, .slice ra rn rc] 51)) w1.heap.size 6 (rowL [.int .i64 pv, .int .i64 pp, .int .i64 pj, .string pk, .slice sa sn sc, .slice ra rn rc]) from Blk.new' rfl (row6_ _ _ _ _ _ _))
    have D1 := Lib.hid ((HIN.out.more (A' := fun b => g + 1 ≤ b ∧ x.ownBlock ≠ some b) fun b hb _ => ⟨by have := HG.out; omega, fun e => by have := HXX.out b e; omega⟩).on (Keeps.of BY.out))
    obtain ⟨q, hq⟩ : ∃ q, w1.heap.size = q := ⟨_, rfl⟩
    obtain ⟨wy, hwy⟩ : ∃ wy, w1.alloc (.cells #[.int .i64 pv, .int .i64 pp, .int .i64 pj, .string pk, .slice sa sn sc, .slice ra rn rc] 51) = wy := ⟨_, rfl⟩
    have HWY := Lib.hid hwy
    have HQ := Lib.hid hq
    have HWW := Lib.hid (show w.heap.size ≤ w1.heap.size from hb1.size)
    rw [hwy] at X1 H1 Q1 D1
    rw [hq] at Q1
    clear hb1 hwy hq BY
    obtain ⟨xa, xc, hxs⟩ := H.out.sl
    have HXS := Lib.hid hxs
    go_upto_region 3 with fail
    rw [HWY.out, HQ.out]
    have HSC := Lib.hid (fun (wx : World) (hk : Below wy.heap.size wy wx) => And.intro (cells3 (H1.out.blk.below hk H1.out.blk.lt)) (cells6 (Q1.out.below hk Q1.out.lt)))
    clear hxs
    refine planE_abs (fun wx => wx.heap[g]? = wy.heap[g]? ∧ wx.heap[q]? = wy.heap[q]?) 10 [(true, 0), (true, 1), (true, 2), (true, 3), (true, 4), (true, 5), (false, 6), (false, 7), (false, 8), (false, 9), (false, 10)] (by kernel_rfl) (by kernel_rfl) (fun _ _ d _ _ h => by cases d <;> exact h) fun w5 hs5 => ⟨by rw [hs5.heap]; exact ⟨rfl, rfl⟩, ?_⟩
    have Y5 := Lib.hid (show Below wy.heap.size wy w5 from hs5.below _)
    clear hs5
    have HSD := Lib.hid (fun (wx : World) (hk : wx.heap[g]? = wy.heap[g]? ∧ wx.heap[q]? = wy.heap[q]?) => And.intro (cells3 (H1.out.blk.of_heap hk.1)) (cells6 (Q1.out.of_heap hk.2)))
    have H5 := Lib.hid (H1.out.on Y5.out)
    have D5 := Lib.hid (D1.out.on (Keeps.of Y5.out))
    iterate 6 (refine pe_run _ ?_ rfl rfl ?_ ?_; rotate_left; (focus (intro w' hS; obtain ⟨⟨c0, c1, c2⟩, d0, d1, d2, d3, d4, d5⟩ := HSD.out w' hS; go_simp; exact rfl)); simp only [Act.put, List.setIfInBounds_toArray, List.set_cons_zero, List.set_cons_succ, List.getElem_toArray, List.getElem_cons_zero, List.getElem_cons_succ])
    have BA := Lib.hid ((Below.refl w5.heap.size w5).alloc (Nat.le_refl _) (.cells #[.int .i64 pv, .int .i64 pp, .int .i64 pj, .string pk, .slice sa sn sc, .slice ra rn rc] 51))
    obtain ⟨wa, hwa⟩ : ∃ wa, w5.alloc (.cells #[.int .i64 pv, .int .i64 pp, .int .i64 pj, .string pk, .slice sa sn sc, .slice ra rn rc] 51) = wa := ⟨_, rfl⟩
    have HNW := Lib.hid (show ∀ i u, (encB (d, .slice sa sn sc, .slice ra rn rc))[i]? = some u → wa.cell? ((⟨w5.heap.size, 0, none⟩ : Addr).add i) = some u from fun i u hu => by
      have e : (⟨w5.heap.size, 0, none⟩ : Addr).add i = ⟨w5.heap.size, i, none⟩ := by unfold Addr.add; split <;> simp [*]
      rw [e, ← hwa]
      refine cell_new w5 _ _ i u ?_
      rw [← hu, HENC.out]
      simp)
    have HK6 := Lib.hid (fun (wx : World) (hb : Below w5.heap.size w5 wx) => show wx.heap[g]? = wy.heap[g]? ∧ wx.heap[q]? = wy.heap[q]? from ⟨(Y5.out.trans (hb.mono Y5.out.size)).block g H1.out.blk.lt, (Y5.out.trans (hb.mono Y5.out.size)).block q Q1.out.lt⟩)
    refine pe_value (w' := wa) _ (.slice (some ⟨w5.heap.size, 0, none⟩) 1 1) rfl rfl (by rw [← hwa]; go_simp) (HK6.out wa (by rw [← hwa]; exact BA.out)) ?_
    simp only [Act.put, List.setIfInBounds_toArray, List.set_cons_zero, List.set_cons_succ, List.getElem_toArray, List.getElem_cons_zero, List.getElem_cons_succ]
    rw [hwa] at BA
    clear hwa
    have HA := Lib.hid (H5.out.on BA.out)
    have DA := Lib.hid (D5.out.on (Keeps.of BA.out))
    obtain ⟨ti, i1, i2, i3, i4⟩ := info_parts tinfo_blk
    obtain ⟨v', w10, hrun, hown, hgr, _, hloc⟩ := run_append_own_at (P := Try.prog) (w := wa) (g + 1) 27 27 51 ti _ 6 88 tund_blks i1 i2 i3 i4 rfl (by decide) x L.length (cellsB L) HA.out.row ⟨w5.heap.size, 0, none⟩ 1 1 (encB (d, .slice sa sn sc, .slice ra rn rc)) rfl HNW.out (encB_one DA.out.now) (by have := HL.out; unfold maxLen; omega) (by have := HL.out; omega) (by have := HA.out.blk.lt; omega)
    obtain ⟨va, vc, rfl⟩ := own_sl6 hown
    have HLO := Lib.hid (show ∀ c, (Value.slice va (L.length + 1) vc).ownBlock = some c → x.ownBlock = some c ∨ wa.heap.size ≤ c from fun c hc => by
      rcases hloc with h | h
      · exact Or.inl (h ▸ hc)
      · rw [h] at hc; injection hc with hc; exact Or.inr (by omega))
    have HGR := Lib.hid hgr
    have HOW := Lib.hid hown
    have hgb := hgr.block g HA.out.blk.lt (fun e => HA.out.ne e.symm)
    have HGB := Lib.hid hgb
    have hqx : q < wa.heap.size := Nat.lt_of_lt_of_le Q1.out.lt (Nat.le_trans Y5.out.size BA.out.size)
    have S10 := Lib.hid (show w10.heap[g]? = wy.heap[g]? ∧ w10.heap[q]? = wy.heap[q]? from ⟨HGB.out.trans (HK6.out wa BA.out).1, (hgr.block q hqx (fun e => by
      have h1 := HXX.out q e.symm
      have h2 := Q1.out
      have h3 := HQ.out
      have h4 := HWW.out
      omega)).trans (HK6.out wa BA.out).2⟩)
    clear hgr hown hloc i1 i2 i3 i4 hgb hqx
    refine pe_value (w' := w10) _ (.slice va (L.length + 1) vc) rfl rfl (by simp [execOp, resolve, invoke, builtin, Act.eval, hrun, Result.andThen]) S10.out ?_
    clear hrun
    simp only [Act.put, List.setIfInBounds_toArray, List.set_cons_zero, List.set_cons_succ, List.getElem_toArray, List.getElem_cons_zero, List.getElem_cons_succ]
    refine pe_value (w' := w10) _ (.pointer (some ⟨g, 0, none⟩)) rfl rfl (by go_simp) S10.out ?_
    simp only [Act.put, List.setIfInBounds_toArray, List.set_cons_zero, List.set_cons_succ, List.getElem_toArray, List.getElem_cons_zero, List.getElem_cons_succ]
    refine pe_value (w' := w10) _ (.pointer (some ⟨g, 2, none⟩)) rfl rfl (by go_simp) S10.out ?_
    simp only [Act.put, List.setIfInBounds_toArray, List.set_cons_zero, List.set_cons_succ, List.getElem_toArray, List.getElem_cons_zero, List.getElem_cons_succ]
    refine pe_last _ rfl ?_
    simp only [List.getElem_toArray, List.getElem_cons_zero, List.getElem_cons_succ]
    obtain ⟨⟨e0, e1, e2⟩, _⟩ := HSD.out w10 S10.out
    have f2 := (World.frozen?_of_block (w := wy) (a := ⟨g, 2, none⟩) S10.out.1).trans (H1.out.blk.frz 2)
    go_wp2_with fail
    go_ret
    obtain ⟨k1, k2⟩ := HA.out.push DA.out HGR.out HOW.out HLO.out
    exact ⟨(X1.out.mono (Nat.le_of_lt HG.out)).trans ((Y5.out.mono (Nat.le_of_lt H1.out.blk.lt)).trans ((BA.out.mono (by have := H5.out.blk.lt; omega)).trans k2)), rfl, _, _, _, k1⟩
set_option maxRecDepth 100000 in
set_option maxHeartbeats 8000000 in
/-- one record more -/
theorem take_any (r : ByteArray) (hr : r.size ≤ 1000000) (h : Mm 51 g s L x w) (hl : L.length ≤ 1000) :
    Calls Try.prog 16 #[.pointer (some ⟨g, 0, none⟩), .string r] w (TakeAns 51 g s L x w (oneD r)) := by
  have H := Lib.hid h
  have HL := Lib.hid hl
  have HR := Lib.hid hr
  clear h hl hr
  by_cases h0 : r.size = 0
  · obtain rfl : r = ⟨#[]⟩ := by apply ba_ext; rw [List.eq_nil_of_length_eq_zero ((ba_list r).trans h0)]
    rw [one_empty]
    go_enter Try.func16, Try.ntmps16
    go_wp2_with fail
    go_ret
    exact ⟨Below.refl _ _, rfl, H.out⟩
  · have g0' : 0 < r.size := by omega
    have g0 : (0 : Int) < (r.size : Int) := by omega
    have q3 : (1 : Int) ≤ (r.size : Int) := by omega
    have e0 := byte0 r g0'
    have te := ba_full g0'
    have HEX := Lib.hid (show (r.extract 1 r.size).size ≤ 1000000 by rw [ByteArray.size_extract]; have := HR.out; omega)
    by_cases h83 : r.data.toList.getD 0 0 = 83
    · have HO := Lib.hid (one_83 g0' h83)
      rw [h83] at e0
      replace e0 : (r[0].toNat : Int) = 83 := e0
      clear h83 h0
      go_enter Try.func16, Try.ntmps16
      go_wp2_with fail
      refine (takestate_any (r.extract 1 r.size) _ rfl H.out).mono ?_
      intro e w1 hans
      rw [← HO.out] at hans
      cases hx : oneD r with
      | none =>
        rw [hx] at hans
        obtain ⟨hb1, rfl, h1⟩ := hans
        go_wp2_with fail
        go_ret
        refine ⟨hb1, ?_⟩
        rw [hx]
        exact ⟨rfl, h1⟩
      | some z =>
        rcases z with s' | d
        · rw [hx] at hans
          obtain ⟨hb1, rfl, h1⟩ := hans
          go_wp2_with fail
          go_ret
          refine ⟨hb1, ?_⟩
          rw [hx]
          exact ⟨rfl, h1⟩
        · rw [hx] at hans
          obtain ⟨hb1, rfl, h1⟩ := hans
          go_wp2_with fail
          go_ret
          refine ⟨hb1, ?_⟩
          rw [hx]
          exact ⟨rfl, h1⟩
    · by_cases h66 : r.data.toList.getD 0 0 = 66
      · have HO := Lib.hid (one_66 g0' h66)
        rw [h66] at e0
        replace e0 : (r[0].toNat : Int) = 66 := e0
        clear h66 h83 h0
        go_enter Try.func16, Try.ntmps16
        go_wp2_with fail
        refine (takeblock_any (r.extract 1 r.size) HEX.out _ rfl H.out HL.out).mono ?_
        intro e w1 hans
        rw [← HO.out] at hans
        cases hx : oneD r with
        | none =>
          rw [hx] at hans
          obtain ⟨hb1, rfl, h1⟩ := hans
          go_wp2_with fail
          go_ret
          refine ⟨hb1, ?_⟩
          rw [hx]
          exact ⟨rfl, h1⟩
        | some z =>
          rcases z with s' | d
          · rw [hx] at hans
            obtain ⟨hb1, rfl, h1⟩ := hans
            go_wp2_with fail
            go_ret
            refine ⟨hb1, ?_⟩
            rw [hx]
            exact ⟨rfl, h1⟩
          · rw [hx] at hans
            obtain ⟨hb1, rfl, h1⟩ := hans
            go_wp2_with fail
            go_ret
            refine ⟨hb1, ?_⟩
            rw [hx]
            exact ⟨rfl, h1⟩
      · rw [one_else h83 h66]
        obtain ⟨c, hc⟩ : ∃ c : Nat, (r.data.toList.getD 0 0).toNat = c := ⟨_, rfl⟩
        have hn83 : c ≠ 83 := fun e => h83 (UInt8.toNat_inj.1 (hc.trans (e.trans rfl)))
        have hn66 : c ≠ 66 := fun e => h66 (UInt8.toNat_inj.1 (hc.trans (e.trans rfl)))
        rw [hc] at e0
        have t1 : ((c : Int) == 83) = false := by rw [beq_eq_false_iff_ne]; omega
        have t2 : ((c : Int) == 66) = false := by rw [beq_eq_false_iff_ne]; omega
        clear h66 h83 h0 hc hn83 hn66
        go_enter Try.func16, Try.ntmps16
        go_wp2_with fail
        go_ret
        exact ⟨Below.refl _ _, rfl, H.out⟩
end
end Go.Proofs.Ytnahebfhhcebpaa
end
section
open Go Go.RowKit
namespace TT
open SS RR FF WW BB
/-- what Recall has remembered so far: the result's box in block n, the memory behind it -/
structure RcU (tB : TypeId) (n : Nat) (w0 : World) (s : StT) (L : List Bv) (x : Value) (wr : World) : Prop where
  below : Below n w0 wr
  rb : Blk wr n 2 (rowL [.int .i64 0, .int .i64 0])
  mm : Mm tB (n + 1) s L x wr
section
variable {tB : TypeId} {n : Nat} {w0 wr w' : World} {s s' : StT} {L L' : List Bv} {x x' : Value}
theorem RcU.next (h : RcU tB n w0 s L x wr) (hb : Below (n + 1) wr w') (hm : Mm tB (n + 1) s' L' x' w') : RcU tB n w0 s' L' x' w' :=
  ⟨h.below.trans (hb.mono (Nat.le_succ n)), h.rb.of_heap (hb.block n (Nat.lt_succ_self n)), hm⟩
theorem RcU.fin (h : RcU tB n w0 s L x wr) (hu : Upd n wr w') : Dep (fun b => n ≤ b) w' (fun w'' => BvAt w'' x L) ∧ Below n w0 w' := by
  refine ⟨?_, h.below.trans (hu.below (Nat.le_refl _))⟩
  have hr := row_keep h.mm.row (w' := w') fun c hc => hu.block c (by have := (h.mm.row.lt c hc).1; omega)
  exact dep_bv hr (fun y hy => ((h.mm.inn y hy).on (Keeps.upd hu fun b hb => by have := hb.1; omega)).more fun b hb _ => by have := hb.1; omega) fun b hb => by have := (hr.lt b hb).1; omega
end
/-- the blocks' records, as strings -/
def recsV (L : List Bv) : List Value := L.map fun y => Value.string (rcB y.1)
theorem recsV_len (L : List Bv) : (recsV L).length = L.length := by unfold recsV; rw [List.length_map]
theorem recsV_of (L : List Bv) : recsV L = ((L.map Prod.fst).map rcB).map Value.string := by unfold recsV; rw [List.map_map, List.map_map]; rfl
theorem recsV_step {L : List Bv} {i : Nat} (h : i < L.length) : recsV (L.take (i + 1)) = recsV (L.take i) ++ [.string (rcB (L.getD i vb0).1)] := by
  unfold recsV
  rw [List.take_add_one, List.getElem?_eq_getElem h, List.map_append, List.getD_eq_getElem?_getD, List.getElem?_eq_getElem h]; rfl
end TT
namespace Go.Proofs.Ytnahebfhhcebpaa
open TT SS RR FF JJ CC WW BB
set_option maxRecDepth 100000 in
set_option maxHeartbeats 8000000 in
theorem recall_any (l : List ByteArray) (v : Value) (w : World) (hv : StrsAt w v l) (hs : ∀ r ∈ l, r.size ≤ 1000000) (hl : l.length ≤ 1000) :
    Calls Try.prog 6 #[v] w fun e w' => ∃ u L, e = .returned (.tuple #[.agg #[.int .i64 (recallL l ((0, 0), [])).1.1, .int .i64 (recallL l ((0, 0), [])).1.2], u]) ∧ L.map Prod.fst = (recallL l ((0, 0), [])).2 ∧ Dep (fun b => w.heap.size ≤ b) w' (fun w'' => BvAt w'' u L) ∧ Below w.heap.size w w' := by
  obtain ⟨M, hM⟩ : ∃ M, recallL l ((0, 0), []) = M := ⟨_, rfl⟩
  rw [hM]
  have HM := Lib.hid hM
  have HV := Lib.hid hv
  have HSZ := Lib.hid hs
  have HL := Lib.hid hl
  obtain ⟨a0, cap, rfl, hx⟩ := hv
  have HX := Lib.hid hx
  clear hM hs hl hx
  obtain ⟨n, hn⟩ : ∃ n, w.heap.size = n := ⟨_, rfl⟩
  have K0 := Lib.hid (show RcU 51 n w (0, 0) [] (.slice none 0 0) ((w.alloc (.cells #[.int .i64 0, .int .i64 0] 26)).alloc (.cells #[.int .i64 0, .int .i64 0, .slice none 0 0] 44)) from
    ⟨((Below.refl _ _).alloc (by omega) _).alloc (by simp; omega) _, by rw [← hn]; exact (Blk.new' rfl (row2_ _ _)).alloc _, mm_start _ (n + 1) (by simp; omega) _ _⟩)
  obtain ⟨w0, hw0⟩ : ∃ w0, (w.alloc (.cells #[.int .i64 0, .int .i64 0] 26)).alloc (.cells #[.int .i64 0, .int .i64 0, .slice none 0 0] 44) = w0 := ⟨_, rfl⟩
  have HW0 := Lib.hid hw0
  have HN := Lib.hid hn
  have HB0 := Lib.hid (show Below w.heap.size w w0 by rw [← hw0]; exact ((Below.refl _ _).alloc (Nat.le_refl _) _).alloc (by simp) _)
  rw [hw0] at K0
  clear hw0 hn
  go_enter Try.func6, Try.ntmps6
  go_upto_region 2 with fail
  rw [HW0.out, HN.out]
  go_wp2_with fail
  go_loopw [9] (fun y wr => ∃ (i : Nat) (s : StT) (L : List Bv) (x : Value), i ≤ l.length ∧ y = .int .i64 (i : Int) ∧ GoodL (l.take i) ∧ recallL (l.take i) ((0, 0), []) = (s, L.map Prod.fst) ∧ L.length ≤ i ∧ RcU 51 n w s L x wr) (fun y _ => l.length - (intOf y).toNat)
  case atStart => exact ⟨0, (0, 0), [], _, Nat.zero_le _, rfl, fun r hr => by simp at hr, rfl, Nat.le_refl _, K0.out⟩
  case round =>
    obtain ⟨i, s, L, x, hi, rfl, hg, hrec, hLi, hst⟩ := hrel
    have HST := Lib.hid hst
    have HG := Lib.hid hg
    have HREC := Lib.hid hrec
    have HLI := Lib.hid hLi
    have i0' : (0 : Int) ≤ (i : Int) := by omega
    have ib : (i : Int) ≤ 1000 := by have := HL.out; omega
    clear hst hg hrec hLi
    by_cases h1 : i < l.length
    · have h1' : (i : Int) < (l.length : Int) := by omega
      have HLT := Lib.hid h1
      obtain ⟨tb, toff, rfl, hbw, hcell⟩ : ∃ b off, a0 = some ⟨b, off, none⟩ ∧ b < w.heap.size ∧ _ := by
        rcases HX.out with h | h
        · subst h; simp at h1
        · exact h
      have k1 := (HST.out.below.cell (p := ⟨tb, toff + i, none⟩) (HN.out ▸ hbw)).trans (hcell i h1)
      obtain ⟨r, hr⟩ : ∃ r, l.getD i ⟨#[]⟩ = r := ⟨_, rfl⟩
      have HR := Lib.hid hr
      rw [hr] at k1
      have HRS := Lib.hid (show r.size ≤ 1000000 from HSZ.out r (by rw [← hr, List.getD_eq_getElem?_getD, List.getElem?_eq_getElem h1]; exact List.getElem_mem h1))
      clear h1 hi hbw hcell hr
      go_wp2_with fail
      refine (take_any r HRS.out HST.out.mm (by have := HLI.out; have := HLT.out; have := HL.out; omega)).mono ?_
      intro e w2 hans
      cases hx : oneD r with
      | none =>
        rw [hx] at hans
        obtain ⟨hb2, rfl, hm2⟩ := hans
        have K2 := Lib.hid (HST.out.next hb2 hm2)
        have HH := Lib.hid (rec_halt HLT.out HG.out HREC.out (by rw [HR.out]; exact hx))
        clear hb2 hx k1 hm2
        have HMM := Lib.hid (show M = (s, L.map Prod.fst) from HM.out.symm.trans HH.out)
        go_wp2_with fail
        obtain ⟨xa, xc, hxs⟩ := K2.out.mm.sl
        subst hxs
        have HSC := Lib.hid (fun (wx : World) (hk : wx.heap[n + 1]? = w2.heap[n + 1]?) => cells3 (K2.out.mm.blk.of_heap hk))
        refine plan_abs (fun wx => wx.heap[n + 1]? = w2.heap[n + 1]?) [(true, 0), (true, 1), (true, 2), (true, 3), (false, 4), (false, 5)] (by kernel_rfl) (by kernel_rfl) (fun _ _ d _ _ h => by cases d <;> exact h) fun w5 hs5 => ⟨by rw [hs5.heap], ?_⟩
        have K5 := Lib.hid (show RcU 51 n w s L (.slice xa L.length xc) w5 from K2.out.next (hs5.below _) (K2.out.mm.on (hs5.below _)))
        have H5 := Lib.hid (show w5.heap[n + 1]? = w2.heap[n + 1]? by rw [hs5.heap])
        clear hs5
        iterate 4 (refine pl_run _ ?_ rfl rfl ?_ ?_; rotate_left; (focus (intro w' hS; obtain ⟨c0, c1, c2⟩ := HSC.out w' hS; go_simp; exact rfl)); simp only [Act.put, List.setIfInBounds_toArray, List.set_cons_zero, List.set_cons_succ, List.getElem_toArray, List.getElem_cons_zero, List.getElem_cons_succ])
        obtain ⟨xi, ui⟩ := rset2 K5.out.rb (.int .i64 s.1) (.int .i64 s.2)
        have XI := Lib.hid xi
        have UI := Lib.hid ui
        obtain ⟨p0, p1⟩ := cells2 xi
        obtain ⟨d0, d1⟩ := cells2 K5.out.rb
        have f0 := K5.out.rb.frz 0
        have f1 := K5.out.rb.frz 1
        have S6 := Lib.hid ((ui.block (n + 1) (by omega)).trans H5.out)
        clear xi ui
        refine pl_store _ rfl rfl (by go_simp) S6.out ?_
        simp only [Act.put, List.getElem_toArray, List.getElem_cons_zero, List.getElem_cons_succ]
        refine pl_value _ (.slice xa L.length xc) rfl rfl (by go_simp) S6.out ?_
        simp only [Act.put, List.setIfInBounds_toArray, List.set_cons_zero, List.set_cons_succ, List.getElem_toArray, List.getElem_cons_zero, List.getElem_cons_succ]
        refine pl_end ?_
        go_wp2_with fail
        obtain ⟨k1, k2⟩ := K5.out.fin UI.out
        refine bodyPost_ret (v := .tuple #[.agg #[.int .i64 s.1, .int .i64 s.2], .slice xa L.length xc]) (by simp [results, Try.results6, go_sem, p0, p1]) rfl ⟨.slice xa L.length xc, L, by rw [HMM.out], by rw [HMM.out], ?_, ?_⟩
        · rw [HN.out]; exact k1
        · rw [HN.out]; exact k2
      | some z =>
        rcases z with s' | d
        · rw [hx] at hans
          obtain ⟨hb2, rfl, hm2⟩ := hans
          have K2 := Lib.hid (HST.out.next hb2 hm2)
          have HH := Lib.hid (rec_step HLT.out HG.out HREC.out (by rw [HR.out]; exact hx))
          clear hb2 hx k1 hm2
          go_wp2_with fail
          go_roundw
          case rel => exact ⟨i + 1, upS s s', L, x, by have := HLT.out; omega, by go_num, HH.out.1, HH.out.2, by have := HLI.out; omega, K2.out⟩
          case measure => have := HLT.out; simp [intOf]; omega
        · rw [hx] at hans
          obtain ⟨hb2, rfl, x', sv, rv, hm2⟩ := hans
          have K2 := Lib.hid (HST.out.next hb2 hm2)
          have HH := Lib.hid (rec_step HLT.out HG.out HREC.out (by rw [HR.out]; exact hx))
          clear hb2 hx k1 hm2
          go_wp2_with fail
          go_roundw
          case rel => exact ⟨i + 1, s, L ++ [(d, sv, rv)], x', by have := HLT.out; omega, by go_num, HH.out.1, by rw [HH.out.2, List.map_append]; rfl, by rw [List.length_append]; have := HLI.out; show L.length + 1 ≤ i + 1; omega, K2.out⟩
          case measure => have := HLT.out; simp [intOf]; omega
    · obtain rfl : i = l.length := by omega
      have h1' : ¬ ((l.length : Nat) : Int) < ((l.length : Nat) : Int) := by omega
      have HMM := Lib.hid (show M = (s, L.map Prod.fst) by rw [← HM.out, ← HREC.out, List.take_length])
      clear h1 hi
      go_wp2_with fail
      obtain ⟨xa, xc, hxs⟩ := HST.out.mm.sl
      subst hxs
      have HSC := Lib.hid (fun (wx : World) (hk : wx.heap[n + 1]? = wr.heap[n + 1]?) => cells3 (HST.out.mm.blk.of_heap hk))
      refine plan_abs (fun wx => wx.heap[n + 1]? = wr.heap[n + 1]?) [(true, 0), (true, 1), (true, 2), (true, 3), (false, 4), (false, 5)] (by kernel_rfl) (by kernel_rfl) (fun _ _ d _ _ h => by cases d <;> exact h) fun w5 hs5 => ⟨by rw [hs5.heap], ?_⟩
      have K5 := Lib.hid (show RcU 51 n w s L (.slice xa L.length xc) w5 from HST.out.next (hs5.below _) (HST.out.mm.on (hs5.below _)))
      have H5 := Lib.hid (show w5.heap[n + 1]? = wr.heap[n + 1]? by rw [hs5.heap])
      clear hs5
      iterate 4 (refine pl_run _ ?_ rfl rfl ?_ ?_; rotate_left; (focus (intro w' hS; obtain ⟨c0, c1, c2⟩ := HSC.out w' hS; go_simp; exact rfl)); simp only [Act.put, List.setIfInBounds_toArray, List.set_cons_zero, List.set_cons_succ, List.getElem_toArray, List.getElem_cons_zero, List.getElem_cons_succ])
      obtain ⟨xi, ui⟩ := rset2 K5.out.rb (.int .i64 s.1) (.int .i64 s.2)
      have XI := Lib.hid xi
      have UI := Lib.hid ui
      obtain ⟨p0, p1⟩ := cells2 xi
      obtain ⟨d0, d1⟩ := cells2 K5.out.rb
      have f0 := K5.out.rb.frz 0
      have f1 := K5.out.rb.frz 1
      have S6 := Lib.hid ((ui.block (n + 1) (by omega)).trans H5.out)
      clear xi ui
      refine pl_store _ rfl rfl (by go_simp) S6.out ?_
      simp only [Act.put, List.getElem_toArray, List.getElem_cons_zero, List.getElem_cons_succ]
      refine pl_value _ (.slice xa L.length xc) rfl rfl (by go_simp) S6.out ?_
      simp only [Act.put, List.setIfInBounds_toArray, List.set_cons_zero, List.set_cons_succ, List.getElem_toArray, List.getElem_cons_zero, List.getElem_cons_succ]
      refine pl_end ?_
      go_wp2_with fail
      obtain ⟨k1, k2⟩ := K5.out.fin UI.out
      refine bodyPost_ret (v := .tuple #[.agg #[.int .i64 s.1, .int .i64 s.2], .slice xa L.length xc]) (by simp [results, Try.results6, go_sem, p0, p1]) rfl ⟨.slice xa L.length xc, L, by rw [HMM.out], by rw [HMM.out], ?_, ?_⟩
      · rw [HN.out]; exact k1
      · rw [HN.out]; exact k2
theorem info_str10 : (Try.prog.info? 9).map (fun i => (i.zero, i.size, i.bytes)) = some (some (.string ⟨#[]⟩), 1, 16) := by kernel_rfl
set_option maxRecDepth 100000 in
set_option maxHeartbeats 8000000 in
/-- the blocks' records, in a new row -/
theorem blockrecs_any (L : List Bv) (v : Value) (w : World) (hv : BvAt w v L) (hs : ∀ y ∈ L, SmallD y.1) (hl : L.length ≤ 1000) :
    Calls Try.prog 20 #[v] w fun e w' => ∃ u, e = .returned u ∧ w'.ownsRow w.heap.size 9 1 u L.length (recsV L) ∧ Below w.heap.size w w' := by
  have HV := Lib.hid hv
  have HS := Lib.hid hs
  have HL := Lib.hid hl
  obtain ⟨a0, cap, rfl⟩ := bv_shape hv
  obtain ⟨i0, hi0, hz0, hz1, hz2⟩ := info_parts info_str10
  have HI := Lib.hid hi0
  have HZ := Lib.hid (And.intro hz0 (And.intro hz1 hz2))
  clear hv hs hl hi0 hz0 hz1 hz2
  go_enter Try.func20, Try.ntmps20
  go_wp2_with fail
  go_loopw [3, 8] (fun x y wr => ∃ i : Nat, i ≤ L.length ∧ y = .int .i64 (i : Int) ∧ wr.ownsRow w.heap.size 9 1 x i (recsV (L.take i)) ∧ Below w.heap.size w wr) (fun _ y _ => L.length - (intOf y).toNat)
  case atStart => exact ⟨0, Nat.zero_le _, rfl, World.ownsRow_nil _ _ _ _, Below.refl _ _⟩
  case round =>
    obtain ⟨i, hi, rfl, hrow, hbr⟩ := hrel
    have HROW := Lib.hid hrow
    have HBR := Lib.hid hbr
    have i0' : (0 : Int) ≤ (i : Int) := by omega
    have ib : (i : Int) ≤ 1000 := by have := HL.out; omega
    obtain ⟨xa, xc, rfl⟩ := own_sl6 hrow
    clear hrow
    by_cases hlt : i < L.length
    · have hlt' : (i : Int) < (L.length : Int) := by omega
      have HLT := Lib.hid hlt
      obtain ⟨qb, qoff, rfl, _, _, hq⟩ := bv_at HV.out i hlt
      obtain ⟨c0, c1, c2, c3, c4, c5, hin⟩ := hq wr hbr i hlt
      obtain ⟨y, hy⟩ : ∃ y, L.getD i vb0 = y := ⟨_, rfl⟩
      have HY := Lib.hid hy
      have HSM := Lib.hid (show SmallD y.1 by rw [← hy, getD_at hlt]; exact HS.out _ (List.getElem_mem hlt))
      rw [hy] at c0 c1 c2 c3 c4 c5 hin
      have HIN := Lib.hid hin
      obtain ⟨bd, s5, s6⟩ := y
      obtain ⟨e5, n5, h5⟩ := sl_of_sigs hin.1
      obtain ⟨e6, n6, h6⟩ := sl_of_reqs hin.2
      replace h5 : s5 = .slice e5 (sigsI bd).length n5 := h5
      replace h6 : s6 = .slice e6 bd.2.length n6 := h6
      subst h5 h6
      have B1 := Lib.hid ((Below.refl wr.heap.size wr).alloc (Nat.le_refl _) (.cells #[.int .i64 (viewI bd), .int .i64 (propI bd), .int .i64 (jvI bd), .string (parI bd), .slice e5 (sigsI bd).length n5, .slice e6 bd.2.length n6] 51))
      have HC := Lib.hid (fun wx (hb : Below wr.heap.size wr wx) => blockrec_any (bd, .slice e5 (sigsI bd).length n5, .slice e6 bd.2.length n6) wx (HIN.out.later hb) HSM.out)
      unfold bvV at HC
      simp only at c0 c1 c2 c3 c4 c5 HC
      clear hi hlt hy hbr hq hin
      go_wp2_with fail
      refine (HC.out _ B1.out).mono ?_
      rintro e w2 ⟨rfl, hb2⟩
      have B2 := Lib.hid (B1.out.trans (hb2.mono B1.out.size))
      have BW2 := Lib.hid (HBR.out.trans (B2.out.mono HBR.out.size))
      obtain ⟨r, hr⟩ : ∃ r, rcB bd = r := ⟨_, rfl⟩
      rw [hr]
      have HR := Lib.hid hr
      have R2 := Lib.hid (row_keep HROW.out fun c hc => B2.out.block c (HROW.out.lt c hc).2)
      clear hb2 HC c0 c1 c2 c3 c4 c5 hr
      go_wp2_with (at_builtin; refine wpList_append_own _ rfl _ _ 22 rfl w.heap.size 9 i0 (.string ⟨#[]⟩) 1 16 (by kernel_rfl) HI.out HZ.out.1 HZ.out.2.1 HZ.out.2.2 rfl (by decide) _ _ _ rfl (R2.out.alloc _) ⟨w2.heap.size, 0, none⟩ 1 1 [.string r] rfl ?qc1 ?qc2 ?qc3 ?qc4 ?qc5 ?qc6 ?_)
      case qc1 => rfl
      case qc2 => exact cell_one_new _ _ _
      case qc3 => simp [Value.oneCell']
      case qc4 => have := HLT.out; have := HL.out; unfold maxLen; omega
      case qc5 => have := HLT.out; have := HL.out; omega
      case qc6 => have := BW2.out.size; simp; omega
      intro v' w3 hown hgrow hnil
      obtain ⟨va, vc, rfl⟩ := own_sl6 hown
      have HOW := Lib.hid hown
      have BW3 := Lib.hid ((BW2.out.alloc BW2.out.size _).grown hgrow (by have := BW2.out.size; simp; omega) (fun k hk => (R2.out.lt k hk).1))
      clear hown hgrow hnil
      go_wp2_with fail
      go_roundw
      case rel => exact ⟨i + 1, by have := HLT.out; omega, by go_num, by rw [recsV_step HLT.out, HY.out]; show World.ownsRow _ _ _ _ _ _ (_ ++ [.string (rcB bd)]); rw [HR.out]; exact HOW.out, BW3.out⟩
      case measure => have := HLT.out; simp [intOf]; omega
    · obtain rfl : i = L.length := by omega
      have hlt' : ¬ (L.length : Int) < (L.length : Int) := by omega
      have HRW := Lib.hid (show wr.ownsRow w.heap.size 9 1 (.slice xa L.length xc) L.length (recsV L) by have := HROW.out; rwa [List.take_length] at this)
      clear hi hlt
      go_wp2_with fail
      go_ret
      exact ⟨_, rfl, HRW.out, HBR.out⟩
end Go.Proofs.Ytnahebfhhcebpaa
end
