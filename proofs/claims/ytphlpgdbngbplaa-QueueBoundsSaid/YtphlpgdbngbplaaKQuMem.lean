/-
  The code's queue in memory: a box with two slices of strings (an array in a struct) and a number; the walks of its small calls (layer 17).
-/
import Derived.Test.YtphlpgdbngbplaaKWMsgLaw
import Derived.Test.YtphlpgdbngbplaaKFAdopt
import Derived.Test.YtphlpgdbngbplaaKJDig
import Derived.Test.YtphlpgdbngbplaaKPlanF
import Derived.Test.YtphlpgdbngbplaaKLNum
import Derived.BigQuiet
section
open Go Go.RowKit
namespace QU
open WW BB
/-- both lanes, how many were dropped -/
structure Qu where
  first : List ByteArray
  second : List ByteArray
  dropped : Int
def emptyQ : Qu := ⟨[], [], 0⟩
def kindD (d : MsgD) : Int := d.1.1.1.1.1.1.1.1.1.1
def clientD (d : MsgD) : Bool := decide (kindD d = 4) || decide (kindD d = 5)
/-- a message's bytes come: the queue behind it, the error -/
def pushQ (q : Qu) (b : ByteArray) : Qu × Int :=
  match msgRd b with
  | none => (q, 2)
  | some d =>
    if clientD d then (if 64 ≤ q.second.length then (⟨q.first, q.second, q.dropped + 1⟩, 7) else (⟨q.first, q.second ++ [b], q.dropped⟩, 0))
    else (if 64 ≤ q.first.length then (⟨q.first, q.second, q.dropped + 1⟩, 7) else (⟨q.first ++ [b], q.second, q.dropped⟩, 0))
def allQ (q : Qu) : List ByteArray := q.first ++ q.second
/-- which one is meant -/
def ixQ (q : Qu) (i : Int) : Nat := (i % ((allQ q).length : Int)).toNat
def popQ (q : Qu) (i : Int) : Qu :=
  if ixQ q i < q.first.length then ⟨q.first.eraseIdx (ixQ q i), q.second, q.dropped⟩ else ⟨q.first, q.second.eraseIdx (ixQ q i - q.first.length), q.dropped⟩
def clearQ (q : Qu) : Qu := ⟨[], [], q.dropped⟩
/-- what always holds -/
structure InvQ (q : Qu) : Prop where
  l1 : q.first.length ≤ 64
  l2 : q.second.length ≤ 64
  d0 : 0 ≤ q.dropped
  m1 : ∀ b ∈ q.first, b.size ≤ 1000000 ∧ ∃ d, msgRd b = some d ∧ clientD d = false
  m2 : ∀ b ∈ q.second, b.size ≤ 1000000 ∧ ∃ d, msgRd b = some d ∧ clientD d = true
theorem inv_emptyQ : InvQ emptyQ := ⟨by simp [emptyQ], by simp [emptyQ], by simp [emptyQ], (fun b h => by cases h), (fun b h => by cases h)⟩
theorem inv_clearQ {q : Qu} (h : InvQ q) : InvQ (clearQ q) := ⟨by simp [clearQ], by simp [clearQ], h.d0, (fun b h => by cases h), (fun b h => by cases h)⟩
theorem inv_pushQ {q : Qu} (h : InvQ q) {b : ByteArray} (hb : b.size ≤ 1000000) : InvQ (pushQ q b).1 := by
  unfold pushQ
  cases hr : msgRd b with
  | none => exact h
  | some d =>
    dsimp only
    by_cases hc : clientD d = true
    · rw [if_pos hc]
      by_cases hl : 64 ≤ q.second.length
      · rw [if_pos hl]; exact ⟨h.l1, h.l2, by have := h.d0; show 0 ≤ q.dropped + 1; omega, h.m1, h.m2⟩
      · rw [if_neg hl]
        refine ⟨h.l1, by show (q.second ++ [b]).length ≤ 64; simp; omega, h.d0, h.m1, fun x hx => ?_⟩
        rcases List.mem_append.1 hx with hx | hx
        · exact h.m2 x hx
        · obtain rfl := List.mem_singleton.1 hx; exact ⟨hb, d, hr, hc⟩
    · rw [if_neg hc]
      by_cases hl : 64 ≤ q.first.length
      · rw [if_pos hl]; exact ⟨h.l1, h.l2, by have := h.d0; show 0 ≤ q.dropped + 1; omega, h.m1, h.m2⟩
      · rw [if_neg hl]
        refine ⟨by show (q.first ++ [b]).length ≤ 64; simp; omega, h.l2, h.d0, fun x hx => ?_, h.m2⟩
        rcases List.mem_append.1 hx with hx | hx
        · exact h.m1 x hx
        · obtain rfl := List.mem_singleton.1 hx; exact ⟨hb, d, hr, by simpa using hc⟩
theorem inv_popQ {q : Qu} (h : InvQ q) (i : Int) : InvQ (popQ q i) := by
  unfold popQ
  split
  · exact ⟨by have := List.length_eraseIdx_le q.first (ixQ q i); have := h.l1; show (q.first.eraseIdx (ixQ q i)).length ≤ 64; omega, h.l2, h.d0, fun b hb => h.m1 b ((List.eraseIdx_sublist _ _).mem hb), h.m2⟩
  · exact ⟨h.l1, by have := List.length_eraseIdx_le q.second (ixQ q i - q.first.length); have := h.l2; show (q.second.eraseIdx _).length ≤ 64; omega, h.d0, h.m1, fun b hb => h.m2 b ((List.eraseIdx_sublist _ _).mem hb)⟩
theorem push_none {q : Qu} {b : ByteArray} (h : msgRd b = none) : pushQ q b = (q, 2) := by unfold pushQ; rw [h]
end QU
namespace Go.Proofs.Ytphlpgdbngbplaa
open QU WW BB
/-- a message in memory that stands in given bytes -/
def MsgOf (w : World) (f : Nat → Value) (b : ByteArray) : Prop :=
  (∀ i, i < 21 → (f i).oneCell' = true) ∧ ∃ (d : MsgD) (s9 r10 s13 t15 : Value), msgRd b = some d ∧ MsgAt w f d.1.1.1.1.1.1.1.1.1.1 d.1.1.1.1.1.1.1.1.1.2 d.1.1.1.1.1.1.1.1.2 d.1.1.1.1.1.1.1.2 d.1.1.1.1.1.1.2 (d.1.1.1.1.1.2.getD noB) (d.1.1.1.1.2.getD noC) (d.1.1.1.2.getD noS) (d.1.1.2.getD noR) d.1.2 d.2 s9 r10 s13 t15
theorem MsgOf.later {w w' : World} {f : Nat → Value} {b : ByteArray} (h : MsgOf w f b) (hb : Below w.heap.size w w') : MsgOf w' f b := by
  obtain ⟨h1, d, s9, r10, s13, t15, h2, h3⟩ := h
  exact ⟨h1, d, s9, r10, s13, t15, h2, h3.later hb⟩
theorem MsgOf.bytes {w : World} {f : Nat → Value} {b : ByteArray} (h : MsgOf w f b) : Calls Try.prog 12 #[.agg (row 21 f)] w fun e w' => e = .returned (.string b) ∧ Below w.heap.size w w' := by
  obtain ⟨_, d, s9, r10, s13, t15, h2, h3⟩ := h
  obtain ⟨e, hok⟩ := msgRd_sound h2
  have RF := rightF_of hok
  exact rmsg_is b w f _ _ _ _ _ _ _ _ _ _ _ _ _ _ _ h3 (right_smallM RF.1).1 (by rw [← msgD_toD, RF.2]; exact e.symm)
theorem MsgOf.right {w : World} {f : Nat → Value} {b : ByteArray} (h : MsgOf w f b) : Calls Try.prog 9 #[.agg (row 21 f)] w fun e w' => e = .returned (.bool true) ∧ Below w.heap.size w w' := by
  obtain ⟨_, d, s9, r10, s13, t15, h2, h3⟩ := h
  obtain ⟨e, hok⟩ := msgRd_sound h2
  have RF := rightF_of hok
  exact rightmsg_is true w f _ _ _ _ _ _ _ _ _ _ _ _ _ _ _ h3 (right_smallM RF.1).2 (rightMsg_iff.2 RF.1)
/-- a message that is right, its bytes read -/
theorem rd_of {k fr dst v : Int} {h : ByteArray} {x : BlockD} {c : CertD} {s : Int × List ByteArray} {r : Int × Int × ByteArray} {ix : Int} {tg : ByteArray} (H : RightF k fr dst v h x c s r ix tg) : msgRd (msgB k fr dst v h x c s r ix tg) = some (toD k fr dst v h x c s r ix tg) := by
  rw [← msgD_toD]; exact msgRd_put (msgOk_of H)
theorem rd_nil : msgRd ⟨#[]⟩ = none := by
  cases h : msgRd ⟨#[]⟩ with
  | none => rfl
  | some d =>
    obtain ⟨e, _⟩ := msgRd_sound h
    have := congrArg ByteArray.size e
    unfold msgD at this
    simp only [ByteArray.size_append, num_size] at this
    have h0 : (⟨#[]⟩ : ByteArray).size = 0 := rfl
    omega
end Go.Proofs.Ytphlpgdbngbplaa
end
section
open Go Go.RowKit
namespace QU
open FF WW BB
/-- the queue behind a call -/
def Next17 (At : (Nat → Prop) → World → Nat → Qu → Prop) (O : Nat → Prop) (w : World) (g : Nat) (t : Qu) (w' : World) : Prop :=
  ∃ O', At O' w' g t ∧ Keeps (fun b => ¬ O b) w w' ∧ ∀ b, O' b → O b ∨ w.heap.size ≤ b
theorem low17 {A : Nat → Prop} {w w' : World} {n : Nat} (h : Keeps A w w') (hA : ∀ b, b < n → A b) (hn : n ≤ w.heap.size) : Below n w w' :=
  ⟨h.b0.os, h.b0.tape, h.b0.output, h.b0.size, fun k hk => h.block k (hA k hk) (Nat.lt_of_lt_of_le hk hn)⟩
end QU
namespace Go.Proofs.Ytphlpgdbngbplaa
open QU FF WW BB
/-- what is popped -/
def Popped (q : Qu) (i : Int) (f : Nat → Value) (B : Bool) (w' : World) : Prop :=
  (B = false ∧ allQ q = [] ∧ f = zM) ∨ (B = true ∧ allQ q ≠ [] ∧ MsgOf w' f ((allQ q).getD (ixQ q i) ⟨#[]⟩))
structure Code17 where
  At : (Nat → Prop) → World → Nat → Qu → Prop
  keep : ∀ {O w w' g t}, At O w g t → Keeps O w w' → At O w' g t
  lt : ∀ {O w g t}, At O w g t → ∀ b, O b → b < w.heap.size
  new : ∀ w, Calls Try.prog 8 #[] w fun e w' => ∃ g O, e = .returned (.pointer (some ⟨g, 0, none⟩)) ∧ At O w' g emptyQ ∧ (∀ b, O b → w.heap.size ≤ b) ∧ Below w.heap.size w w'
  push : ∀ O w g t (b : ByteArray), At O w g t → InvQ t → t.dropped ≤ 1000000 → b.size ≤ 1000000 → Calls Try.prog 11 #[.pointer (some ⟨g, 0, none⟩), .string b] w fun e w' => e = .returned (.int .i64 (pushQ t b).2) ∧ Next17 At O w g (pushQ t b).1 w'
  pop : ∀ O w g t (i : Int), At O w g t → InvQ t → -9223372036854775808 ≤ i ∧ i ≤ 9223372036854775807 → Calls Try.prog 14 #[.pointer (some ⟨g, 0, none⟩), .int .i64 i] w fun e w' => ∃ f B, e = .returned (.tuple #[.agg (row 21 f), .bool B]) ∧ Popped t i f B w' ∧ Next17 At O w g (popQ t i) w'
  len : ∀ O w g t, At O w g t → InvQ t → Calls Try.prog 17 #[.pointer (some ⟨g, 0, none⟩)] w fun e w' => e = .returned (.int .i64 ((t.first.length + t.second.length : Nat) : Int)) ∧ Below w.heap.size w w'
  lanes : ∀ O w g t, At O w g t → InvQ t → Calls Try.prog 16 #[.pointer (some ⟨g, 0, none⟩)] w fun e w' => e = .returned (.tuple #[.int .i64 (t.first.length : Int), .int .i64 (t.second.length : Int)]) ∧ Below w.heap.size w w'
  dropped : ∀ O w g t, At O w g t → InvQ t → Calls Try.prog 18 #[.pointer (some ⟨g, 0, none⟩)] w fun e w' => e = .returned (.int .i64 t.dropped) ∧ Below w.heap.size w w'
  clear : ∀ O w g t, At O w g t → InvQ t → Calls Try.prog 15 #[.pointer (some ⟨g, 0, none⟩)] w fun e w' => e = .returned (.tuple #[]) ∧ Next17 At O w g (clearQ t) w'
/-- the queue behind calls of a law that began in w0 -/
def QuX (C : Code17) (w0 : World) (g : Nat) (t : Qu) (w : World) : Prop := ∃ O, C.At O w g t ∧ (∀ b, O b → w0.heap.size ≤ b) ∧ Below w0.heap.size w0 w
theorem QuX.below {C : Code17} {w0 w : World} {g : Nat} {t : Qu} (h : QuX C w0 g t w) : Below w0.heap.size w0 w := by obtain ⟨_, _, _, h⟩ := h; exact h
theorem QuX.on {C : Code17} {w0 w w' : World} {g : Nat} {t : Qu} (h : QuX C w0 g t w) (hb : Below w.heap.size w w') : QuX C w0 g t w' := by
  obtain ⟨O, h1, h2, h3⟩ := h
  exact ⟨O, C.keep h1 (Keeps.of hb), h2, h3.trans (hb.mono h3.size)⟩
theorem QuX.next {C : Code17} {w0 w w' : World} {g : Nat} {t : Qu} {O : Nat → Prop} (h2 : ∀ b, O b → w0.heap.size ≤ b) (h3 : Below w0.heap.size w0 w) (h : Next17 C.At O w g t w') : QuX C w0 g t w' := by
  obtain ⟨O', k1, k2, k3⟩ := h
  exact ⟨O', k1, fun b hb => (k3 b hb).elim (h2 b) (Nat.le_trans h3.size), h3.trans (low17 k2 (fun b hb hO => by have := h2 b hO; omega) h3.size)⟩
theorem qu_new (C : Code17) (w0 w : World) (hb : Below w0.heap.size w0 w) : Calls Try.prog 8 #[] w fun e w' => ∃ g, e = .returned (.pointer (some ⟨g, 0, none⟩)) ∧ QuX C w0 g emptyQ w' ∧ Below w.heap.size w w' :=
  (C.new w).mono fun _ _ ⟨g, O, he, h1, h2, h3⟩ => ⟨g, he, ⟨O, h1, fun b hO => Nat.le_trans hb.size (h2 b hO), hb.trans (h3.mono hb.size)⟩, h3⟩
theorem qu_push (C : Code17) {w0 w : World} {g : Nat} {t : Qu} (b : ByteArray) {q : Qu} {n : Int} (hq : pushQ t b = (q, n)) (h : QuX C w0 g t w) (hi : InvQ t) (hd : t.dropped ≤ 1000000) (hb : b.size ≤ 1000000) : Calls Try.prog 11 #[.pointer (some ⟨g, 0, none⟩), .string b] w fun e w' => e = .returned (.int .i64 n) ∧ QuX C w0 g q w' := by
  obtain ⟨O, h1, h2, h3⟩ := h
  have := C.push O w g t b h1 hi hd hb
  rw [hq] at this
  exact this.mono fun _ _ ⟨he, hn⟩ => ⟨he, QuX.next h2 h3 hn⟩
theorem qu_pop (C : Code17) {w0 w : World} {g : Nat} {t : Qu} (i : Int) (h : QuX C w0 g t w) (hi : InvQ t) (hr : -9223372036854775808 ≤ i ∧ i ≤ 9223372036854775807) : Calls Try.prog 14 #[.pointer (some ⟨g, 0, none⟩), .int .i64 i] w fun e w' => ∃ f B, e = .returned (.tuple #[.agg (row 21 f), .bool B]) ∧ Popped t i f B w' ∧ QuX C w0 g (popQ t i) w' := by
  obtain ⟨O, h1, h2, h3⟩ := h
  exact (C.pop O w g t i h1 hi hr).mono fun _ _ ⟨f, B, he, hp, hn⟩ => ⟨f, B, he, hp, QuX.next h2 h3 hn⟩
theorem qu_len (C : Code17) {w0 w : World} {g : Nat} {t : Qu} (h : QuX C w0 g t w) (hi : InvQ t) : Calls Try.prog 17 #[.pointer (some ⟨g, 0, none⟩)] w fun e w' => e = .returned (.int .i64 ((t.first.length + t.second.length : Nat) : Int)) ∧ Below w.heap.size w w' := by
  obtain ⟨O, h1, _⟩ := h; exact C.len O w g t h1 hi
theorem qu_lanes (C : Code17) {w0 w : World} {g : Nat} {t : Qu} (h : QuX C w0 g t w) (hi : InvQ t) : Calls Try.prog 16 #[.pointer (some ⟨g, 0, none⟩)] w fun e w' => e = .returned (.tuple #[.int .i64 (t.first.length : Int), .int .i64 (t.second.length : Int)]) ∧ Below w.heap.size w w' := by
  obtain ⟨O, h1, _⟩ := h; exact C.lanes O w g t h1 hi
theorem qu_dropped (C : Code17) {w0 w : World} {g : Nat} {t : Qu} (h : QuX C w0 g t w) (hi : InvQ t) : Calls Try.prog 18 #[.pointer (some ⟨g, 0, none⟩)] w fun e w' => e = .returned (.int .i64 t.dropped) ∧ Below w.heap.size w w' := by
  obtain ⟨O, h1, _⟩ := h; exact C.dropped O w g t h1 hi
theorem qu_clear (C : Code17) {w0 w : World} {g : Nat} {t : Qu} (h : QuX C w0 g t w) (hi : InvQ t) : Calls Try.prog 15 #[.pointer (some ⟨g, 0, none⟩)] w fun e w' => e = .returned (.tuple #[]) ∧ QuX C w0 g (clearQ t) w' := by
  obtain ⟨O, h1, h2, h3⟩ := h; exact (C.clear O w g t h1 hi).mono fun _ _ ⟨he, hn⟩ => ⟨he, QuX.next h2 h3 hn⟩
end Go.Proofs.Ytphlpgdbngbplaa
end
section
open Go Go.RowKit
namespace QU
open WW BB
/-- a message of a kind, a view, a request's number -/
def mz (k v rq : Int) : Nat → Value := fun i => if i = 0 then .int .i64 k else if i = 3 then .int .i64 v else if i = 17 then .int .i64 rq else zM i
theorem mz_row (k v rq : Int) : (#[.int .i64 k, .int .i64 0, .int .i64 0, .int .i64 v, .string ⟨#[]⟩, .int .i64 0, .int .i64 0, .int .i64 0, .string ⟨#[]⟩, .slice none 0 0, .slice none 0 0, .int .i64 0, .string ⟨#[]⟩, .slice none 0 0, .int .i64 0, .slice none 0 0, .int .i64 0, .int .i64 rq, .string ⟨#[]⟩, .int .i64 0, .string ⟨#[]⟩] : Array Value) = row 21 (mz k v rq) := by rfl
/-- so many of each -/
def bq (A V : ByteArray) (a v : Nat) : Qu := ⟨List.replicate (min v 64) V, List.replicate (min a 64) A, ((a - 64 : Nat) : Int) + ((v - 64 : Nat) : Int)⟩
theorem push_ask {A V : ByteArray} {d : MsgD} (h : msgRd A = some d) (hc : clientD d = true) (a v : Nat) : pushQ (bq A V a v) A = (bq A V (a + 1) v, if a < 64 then 0 else 7) := by
  unfold pushQ
  rw [h]
  dsimp only
  rw [if_pos hc]
  by_cases ha : a < 64
  · rw [if_neg (by simp [bq]; omega), if_pos ha]
    unfold bq
    simp only [Prod.mk.injEq, Qu.mk.injEq, true_and, and_true]
    refine ⟨?_, by omega⟩
    rw [show min a 64 = a by omega, show min (a + 1) 64 = a + 1 by omega, List.replicate_succ']
  · rw [if_pos (by simp [bq]; omega), if_neg ha]
    unfold bq
    simp only [Prod.mk.injEq, Qu.mk.injEq, true_and, and_true]
    refine ⟨?_, by omega⟩
    rw [show min a 64 = 64 by omega, show min (a + 1) 64 = 64 by omega]
theorem push_vote {A V : ByteArray} {d : MsgD} (h : msgRd V = some d) (hc : clientD d = false) (a v : Nat) : pushQ (bq A V a v) V = (bq A V a (v + 1), if v < 64 then 0 else 7) := by
  unfold pushQ
  rw [h]
  dsimp only
  rw [if_neg (by rw [hc]; simp)]
  by_cases ha : v < 64
  · rw [if_neg (by simp [bq]; omega), if_pos ha]
    unfold bq
    simp only [Prod.mk.injEq, Qu.mk.injEq, true_and, and_true]
    refine ⟨?_, by omega⟩
    rw [show min v 64 = v by omega, show min (v + 1) 64 = v + 1 by omega, List.replicate_succ']
  · rw [if_pos (by simp [bq]; omega), if_neg ha]
    unfold bq
    simp only [Prod.mk.injEq, Qu.mk.injEq, true_and, and_true]
    refine ⟨?_, by omega⟩
    rw [show min v 64 = 64 by omega, show min (v + 1) 64 = 64 by omega]
theorem inv_bq {A V : ByteArray} {d e : MsgD} (h1 : msgRd A = some d) (c1 : clientD d = true) (h2 : msgRd V = some e) (c2 : clientD e = false) (z1 : A.size ≤ 1000000) (z2 : V.size ≤ 1000000) (a v : Nat) : InvQ (bq A V a v) :=
  ⟨by simp [bq]; omega, by simp [bq]; omega, by simp only [bq]; omega, fun b hb => by
    obtain rfl := List.eq_of_mem_replicate hb; exact ⟨z2, e, h2, c2⟩, fun b hb => by
    obtain rfl := List.eq_of_mem_replicate hb; exact ⟨z1, d, h1, c1⟩⟩
theorem bq_zero (A V : ByteArray) : bq A V 0 0 = emptyQ := by simp [bq, emptyQ]
theorem bq_lens (A V : ByteArray) (a v : Nat) : (bq A V a v).first.length = min v 64 ∧ (bq A V a v).second.length = min a 64 := ⟨by simp [bq], by simp [bq]⟩
end QU
namespace Go.Proofs.Ytphlpgdbngbplaa
open QU WW BB
theorem mz_at (k v rq : Int) (w : World) : MsgAt w (mz k v rq) k 0 0 v ⟨#[]⟩ noB noC noS (0, rq, ⟨#[]⟩) 0 ⟨#[]⟩ (.slice none 0 0) (.slice none 0 0) (.slice none 0 0) (.slice none 0 0) :=
  ⟨rfl, rfl, rfl, rfl, rfl, rfl, rfl, rfl, rfl, rfl, rfl, rfl, rfl, rfl, rfl, rfl, rfl, rfl, rfl, rfl, rfl, sigs_nil w, reqs_nil w, sigs_nil w, strs_nil w⟩
def mzB (k v rq : Int) : ByteArray := msgB k 0 0 v ⟨#[]⟩ noB noC noS (0, rq, ⟨#[]⟩) 0 ⟨#[]⟩
theorem mz_bytes (k v rq : Int) (w : World) : Calls Try.prog 12 #[.agg #[.int .i64 k, .int .i64 0, .int .i64 0, .int .i64 v, .string ⟨#[]⟩, .int .i64 0, .int .i64 0, .int .i64 0, .string ⟨#[]⟩, .slice none 0 0, .slice none 0 0, .int .i64 0, .string ⟨#[]⟩, .slice none 0 0, .int .i64 0, .slice none 0 0, .int .i64 0, .int .i64 rq, .string ⟨#[]⟩, .int .i64 0, .string ⟨#[]⟩]] w fun e w' => e = .returned (.string (mzB k v rq)) ∧ Below w.heap.size w w' := by
  rw [mz_row]
  exact rmsg_any w (mz k v rq) _ _ _ _ _ _ _ _ _ _ _ _ _ _ _ (mz_at k v rq w) (smallM_mk (Nat.zero_le _) (Nat.zero_le _) (Nat.zero_le _) smallS_nil smallR_nil (Nat.zero_le _) smallS_nil (by show (flat []).length ≤ _; rw [flat_nil]; omega) (Nat.zero_le _) (Nat.zero_le _))
theorem mz_right {k v rq : Int} (hk : 1 ≤ k ∧ k ≤ 7) (hv : 0 ≤ v ∧ v ≤ 1000000) (hr : nzR (0, rq, ⟨#[]⟩) = false ∨ reqOk (0, rq, ⟨#[]⟩)) : RightF k 0 0 v ⟨#[]⟩ noB noC noS (0, rq, ⟨#[]⟩) 0 ⟨#[]⟩ :=
  ⟨⟨hk.1, hk.2, by omega, by omega, by omega, by omega, hv.1, hv.2⟩, ⟨by omega, by omega, .inl rfl, .inl rfl⟩, .inl nz_noB, .inl nz_noC, .inl nz_noS, hr⟩
theorem mz_rd {k v rq : Int} (hk : 1 ≤ k ∧ k ≤ 7) (hv : 0 ≤ v ∧ v ≤ 1000000) (hr : nzR (0, rq, ⟨#[]⟩) = false ∨ reqOk (0, rq, ⟨#[]⟩)) : ∃ d, msgRd (mzB k v rq) = some d ∧ kindD d = k := ⟨_, rd_of (mz_right hk hv hr), rfl⟩
theorem mz_size (k v rq : Int) : (mzB k v rq).size ≤ 1000000 := (few_smallM (by unfold fewMsg; rfl)).2 _ _ _ _ _
set_option maxRecDepth 100000 in
set_option maxHeartbeats 8000000 in
theorem awake17_any (C : Code17) (w : World) : Calls Try.prog 6 #[] w fun e w' => e = .returned (.bool true) ∧ Below w.heap.size w w' := by
  obtain ⟨B, hB⟩ : ∃ B, mzB 6 0 0 = B := ⟨_, rfl⟩
  have HB := Lib.hid (fun wx => hB ▸ mz_bytes 6 0 0 wx)
  have HBZ := Lib.hid (show B.size ≤ 1000000 by rw [← hB]; exact mz_size 6 0 0)
  have HP := Lib.hid (show pushQ emptyQ B = (⟨[B], [], 0⟩, 0) by
    obtain ⟨d, h1, h2⟩ := mz_rd (k := 6) (v := 0) (rq := 0) (by omega) (by omega) (.inl (by decide))
    rw [hB] at h1
    unfold pushQ
    rw [h1]
    dsimp only
    rw [if_neg (by unfold clientD; rw [h2]; decide), if_neg (by simp [emptyQ])]
    rfl)
  have HP0 := Lib.hid (push_none (q := emptyQ) rd_nil)
  have I1 := Lib.hid (show InvQ ⟨[B], [], 0⟩ by have := inv_pushQ inv_emptyQ HBZ.out; rw [HP.out] at this; exact this)
  clear hB
  go_enter Try.func6, Try.ntmps6
  go_wp2_with fail
  refine (qu_new C w w (Below.refl _ _)).mono ?_
  rintro e w1 ⟨g, rfl, h1, _⟩
  have H1 := Lib.hid h1
  clear h1
  go_wp2_with fail
  refine (qu_push C ⟨#[]⟩ HP0.out H1.out inv_emptyQ (by decide) (by decide)).mono ?_
  rintro e w2 ⟨rfl, h2⟩
  have H2 := Lib.hid h2
  clear h2
  go_wp2_with fail
  refine (HB.out w2).mono ?_
  rintro e w3 ⟨rfl, hb3⟩
  have H3 := Lib.hid (H2.out.on hb3)
  clear hb3
  go_wp2_with fail
  refine (qu_push C B HP.out H3.out inv_emptyQ (by decide) HBZ.out).mono ?_
  rintro e w4 ⟨rfl, h4⟩
  have H4 := Lib.hid h4
  clear h4
  go_wp2_with fail
  refine (qu_len C H4.out I1.out).mono ?_
  rintro e w5 ⟨rfl, hb5⟩
  have H5 := Lib.hid (H4.out.on hb5)
  clear hb5
  go_wp2_with fail
  go_ret
  exact ⟨rfl, H5.out.below⟩
set_option maxRecDepth 100000 in
set_option maxHeartbeats 16000000 in
theorem lawB17 (C : Code17) (a b : Nat) (w : World) (ha : a < 256) (hb : b < 256) :
    Calls Try.prog 4 #[.int .u8 (a : Int), .int .u8 (b : Int)] w fun e w' => e = .returned (.bool true) ∧ Below w.heap.size w w' := by
  have HAB := Lib.hid (And.intro ha hb)
  have a0 : (0 : Int) ≤ (a : Int) := by omega
  have a1 : (a : Int) ≤ 255 := by omega
  have b0 : (0 : Int) ≤ (b : Int) := by omega
  have b1 : (b : Int) ≤ 255 := by omega
  obtain ⟨A, hA⟩ : ∃ A, mzB 4 0 1 = A := ⟨_, rfl⟩
  obtain ⟨V, hV⟩ : ∃ V, mzB 2 3 0 = V := ⟨_, rfl⟩
  have HA := Lib.hid (fun wx => hA ▸ mz_bytes 4 0 1 wx)
  have HV := Lib.hid (fun wx => hV ▸ mz_bytes 2 3 0 wx)
  have HAZ := Lib.hid (show A.size ≤ 1000000 by rw [← hA]; exact mz_size _ _ _)
  have HVZ := Lib.hid (show V.size ≤ 1000000 by rw [← hV]; exact mz_size _ _ _)
  obtain ⟨d, hd1, hd2⟩ : ∃ d, msgRd A = some d ∧ clientD d = true := by
    obtain ⟨d, h1, h2⟩ := mz_rd (k := 4) (v := 0) (rq := 1) (by omega) (by omega) (.inr (by unfold reqOk rightR; decide))
    exact ⟨d, hA ▸ h1, by unfold clientD; rw [h2]; decide⟩
  obtain ⟨d', hd3, hd4⟩ : ∃ d, msgRd V = some d ∧ clientD d = false := by
    obtain ⟨d, h1, h2⟩ := mz_rd (k := 2) (v := 3) (rq := 0) (by omega) (by omega) (.inl (by decide))
    exact ⟨d, hV ▸ h1, by unfold clientD; rw [h2]; decide⟩
  have HPA := Lib.hid (fun x y => push_ask (V := V) hd1 hd2 x y)
  have HPV := Lib.hid (fun x y => push_vote (A := A) hd3 hd4 x y)
  have HI := Lib.hid (fun x y => inv_bq hd1 hd2 hd3 hd4 HAZ.out HVZ.out x y)
  clear hA hV hd1 hd2 hd3 hd4 ha hb
  go_enter Try.func4, Try.ntmps4
  go_wp2_with fail
  refine (awake17_any C w).mono ?_
  rintro e w1 ⟨rfl, hb1⟩
  have B1 := Lib.hid hb1
  clear hb1
  go_wp2_with fail
  refine (qu_new C w w1 B1.out).mono ?_
  rintro e w2 ⟨g, rfl, h2, _⟩
  have H2 := Lib.hid (show QuX C w g (bq A V 0 0) w2 by rw [bq_zero]; exact h2)
  clear h2
  go_wp2_with fail
  refine (HA.out w2).mono ?_
  rintro e w3 ⟨rfl, hb3⟩
  have H3 := Lib.hid (H2.out.on hb3)
  clear hb3
  go_wp2_with fail
  refine (HV.out w3).mono ?_
  rintro e w4 ⟨rfl, hb4⟩
  have H4 := Lib.hid (H3.out.on hb4)
  clear hb4
  go_wp2_with fail
  go_loopw [8] (fun x wr => ∃ i : Nat, i ≤ a ∧ x = .int .i64 (i : Int) ∧ QuX C w g (bq A V i 0) wr) (fun x _ => a - (intOf x).toNat)
  case atStart => exact ⟨0, Nat.zero_le _, rfl, H4.out⟩
  case round =>
    obtain ⟨i, hi, rfl, hst⟩ := hrel
    have HST := Lib.hid hst
    have HII := Lib.hid hi
    have i0 : (0 : Int) ≤ (i : Int) := by omega
    have ib : (i : Int) ≤ 255 := by have := HAB.out; omega
    clear hst hi
    by_cases hlt : i < a
    · have hlt' : (i : Int) < (a : Int) := by omega
      have HLT := Lib.hid hlt
      clear hlt
      go_wp2_with fail
      by_cases h64 : i < 64
      · have d64 : decide ((i : Int) < 64) = true := decide_eq_true (by omega)
        have HQ := Lib.hid (show pushQ (bq A V i 0) A = (bq A V (i + 1) 0, 0) by rw [HPA.out, if_pos h64])
        clear h64
        refine (qu_push C A HQ.out HST.out (HI.out _ _) (by have := HAB.out; have := HLT.out; simp only [bq]; omega) HAZ.out).mono ?_
        rintro e w5 ⟨rfl, h5⟩
        have H5 := Lib.hid h5
        clear h5
        go_wp2_with fail
        go_roundw
        case rel => exact ⟨i + 1, HLT.out, by go_num, H5.out⟩
        case measure => have := HLT.out; simp [intOf]; omega
      · have d64 : decide ((i : Int) < 64) = false := decide_eq_false (by omega)
        have HQ := Lib.hid (show pushQ (bq A V i 0) A = (bq A V (i + 1) 0, 7) by rw [HPA.out, if_neg h64])
        clear h64
        refine (qu_push C A HQ.out HST.out (HI.out _ _) (by have := HAB.out; have := HLT.out; simp only [bq]; omega) HAZ.out).mono ?_
        rintro e w5 ⟨rfl, h5⟩
        have H5 := Lib.hid h5
        clear h5
        go_wp2_with fail
        go_roundw
        case rel => exact ⟨i + 1, HLT.out, by go_num, H5.out⟩
        case measure => have := HLT.out; simp [intOf]; omega
    · obtain rfl : i = a := by have := HII.out; omega
      have hlt' : ¬ (i : Int) < (i : Int) := by omega
      clear hlt
      go_wp2_with fail
      go_loopw [9] (fun x wr => ∃ j : Nat, j ≤ b ∧ x = .int .i64 (j : Int) ∧ QuX C w g (bq A V i j) wr) (fun x _ => b - (intOf x).toNat)
      case atStart => exact ⟨0, Nat.zero_le _, rfl, HST.out⟩
      case round =>
        obtain ⟨j, hj, rfl, hst⟩ := hrel
        have HSJ := Lib.hid hst
        have HJJ := Lib.hid hj
        have j0 : (0 : Int) ≤ (j : Int) := by omega
        have jb : (j : Int) ≤ 255 := by have := HAB.out; omega
        clear hst hj
        by_cases hlt : j < b
        · have hltj : (j : Int) < (b : Int) := by omega
          have HLT := Lib.hid hlt
          clear hlt
          go_wp2_with fail
          by_cases h64 : j < 64
          · have d64 : decide ((j : Int) < 64) = true := decide_eq_true (by omega)
            have HQ := Lib.hid (show pushQ (bq A V i j) V = (bq A V i (j + 1), 0) by rw [HPV.out, if_pos h64])
            clear h64
            refine (qu_push C V HQ.out HSJ.out (HI.out _ _) (by have := HAB.out; have := HLT.out; simp only [bq]; omega) HVZ.out).mono ?_
            rintro e w5 ⟨rfl, h5⟩
            have H5 := Lib.hid h5
            clear h5
            go_wp2_with fail
            go_roundw
            case rel => exact ⟨j + 1, HLT.out, by go_num, H5.out⟩
            case measure => have := HLT.out; simp [intOf]; omega
          · have d64 : decide ((j : Int) < 64) = false := decide_eq_false (by omega)
            have HQ := Lib.hid (show pushQ (bq A V i j) V = (bq A V i (j + 1), 7) by rw [HPV.out, if_neg h64])
            clear h64
            refine (qu_push C V HQ.out HSJ.out (HI.out _ _) (by have := HAB.out; have := HLT.out; simp only [bq]; omega) HVZ.out).mono ?_
            rintro e w5 ⟨rfl, h5⟩
            have H5 := Lib.hid h5
            clear h5
            go_wp2_with fail
            go_roundw
            case rel => exact ⟨j + 1, HLT.out, by go_num, H5.out⟩
            case measure => have := HLT.out; simp [intOf]; omega
        · obtain rfl : j = b := by have := HJJ.out; omega
          have hltj : ¬ (j : Int) < (j : Int) := by omega
          have HL := Lib.hid (bq_lens A V i j)
          have s1 : ((((min j 64 : Nat) : Int)) == min (j : Int) 64) = true := by rw [beq_iff_eq]; omega
          have s2 : ((((min i 64 : Nat) : Int)) == min (i : Int) 64) = true := by rw [beq_iff_eq]; omega
          have HD := Lib.hid (show (bq A V i j).dropped = max ((j : Int) - 64) 0 + max ((i : Int) - 64) 0 by simp only [bq]; omega)
          have f1 : 0 ≤ max ((j : Int) - 64) 0 ∧ max ((j : Int) - 64) 0 ≤ 255 := by omega
          have f2 : 0 ≤ max ((i : Int) - 64) 0 ∧ max ((i : Int) - 64) 0 ≤ 255 := by omega
          obtain ⟨X, hX⟩ : ∃ X, max ((j : Int) - 64) 0 = X := ⟨_, rfl⟩
          obtain ⟨Y, hY⟩ : ∃ Y, max ((i : Int) - 64) 0 = Y := ⟨_, rfl⟩
          rw [hX] at f1 HD
          rw [hY] at f2 HD
          have f3 := f1.1
          have f4 := f1.2
          have f5 := f2.1
          have f6 := f2.2
          have s3 : (X + Y == X + Y) = true := by simp
          clear hlt f1 f2
          go_wp2_with fail
          refine (qu_lanes C HSJ.out (HI.out _ _)).mono ?_
          rintro e w5 ⟨rfl, hb5⟩
          have H5 := Lib.hid (HSJ.out.on hb5)
          rw [HL.out.1, HL.out.2]
          clear hb5
          go_wp2_with fail
          refine (qu_dropped C H5.out (HI.out _ _)).mono ?_
          rintro e w6 ⟨rfl, hb6⟩
          have H6 := Lib.hid (H5.out.on hb6)
          rw [HD.out]
          clear hb6
          go_wp2_with fail
          go_ret
          exact ⟨rfl, H6.out.below⟩
end Go.Proofs.Ytphlpgdbngbplaa
end
section
open Go Go.RowKit
namespace Go.Proofs.Ytphlpgdbngbplaa
open QU RR WW BB
set_option maxRecDepth 100000 in
set_option maxHeartbeats 16000000 in
theorem lawY17 (C : Code17) (b : ByteArray) (w : World) :
    Calls Try.prog 5 #[.string b] w fun e w' => e = .returned (.bool true) ∧ Below w.heap.size w w' := by
  by_cases h8 : 800 < b.size
  · have t1 : decide ((800 : Int) < (b.size : Int)) = true := decide_eq_true (by omega)
    have t2 : (800 : Int) < (b.size : Int) := by omega
    clear h8
    go_enter Try.func5, Try.ntmps5
    go_wp2_with fail
    refine (awake17_any C w).mono ?_
    rintro e w1 ⟨rfl, hb1⟩
    have B1 := Lib.hid hb1
    clear hb1
    go_wp2_with fail
    refine (awake17_any C w1).mono ?_
    rintro e wz ⟨rfl, hbz⟩
    have BZ := Lib.hid (B1.out.trans (hbz.mono B1.out.size))
    go_wp2_with fail
    go_ret
    exact ⟨rfl, BZ.out⟩
  have HBZ := Lib.hid (show b.size ≤ 1000000 by omega)
  have t1 : decide ((800 : Int) < (b.size : Int)) = false := decide_eq_false (by omega)
  have t2 : ¬ (800 : Int) < (b.size : Int) := by omega
  obtain ⟨R, hR⟩ : ∃ R, msgRd b = R := ⟨_, rfl⟩
  have HR := Lib.hid hR
  clear hR h8
  go_enter Try.func5, Try.ntmps5
  go_wp2_with fail
  refine (awake17_any C w).mono ?_
  rintro e w1 ⟨rfl, hb1⟩
  have B1 := Lib.hid hb1
  clear hb1
  go_wp2_with fail
  refine (qu_new C w w1 B1.out).mono ?_
  rintro e w2 ⟨g, rfl, h2, _⟩
  have H2 := Lib.hid h2
  clear h2 t1 t2
  go_wp2_with fail
  cases R with
  | none =>
    refine (qu_push C b (push_none HR.out) H2.out inv_emptyQ (by decide) HBZ.out).mono ?_
    rintro e w3 ⟨rfl, h3⟩
    have H3 := Lib.hid h3
    clear h3
    go_wp2_with fail
    refine (qu_pop C 0 H3.out inv_emptyQ (by omega)).mono ?_
    rintro e w4 ⟨f, B, rfl, hp, h4⟩
    obtain ⟨rfl, rfl⟩ : B = false ∧ f = zM := by
      rcases hp with ⟨h1, _, h2⟩ | ⟨_, h1, _⟩
      · exact ⟨h1, h2⟩
      · exact absurd rfl h1
    have H4 := Lib.hid (show QuX C w g emptyQ w4 from h4)
    clear h4 hp
    obtain ⟨a, ha⟩ : ∃ a, w4.heap.size = a := ⟨_, rfl⟩
    have K5 := Lib.hid (show Blk (w4.alloc (.cells #[.int .i64 0, .int .i64 0, .int .i64 0, .int .i64 0, .string ⟨#[]⟩, .int .i64 0, .int .i64 0, .int .i64 0, .string ⟨#[]⟩, .slice none 0 0, .slice none 0 0, .int .i64 0, .string ⟨#[]⟩, .slice none 0 0, .int .i64 0, .slice none 0 0, .int .i64 0, .int .i64 0, .string ⟨#[]⟩, .int .i64 0, .string ⟨#[]⟩] 42)) a 21 zM from Blk.new' ha.symm zM_row)
    have A5 := Lib.hid ((Below.refl w4.heap.size w4).alloc (Nat.le_refl _) (.cells #[.int .i64 0, .int .i64 0, .int .i64 0, .int .i64 0, .string ⟨#[]⟩, .int .i64 0, .int .i64 0, .int .i64 0, .string ⟨#[]⟩, .slice none 0 0, .slice none 0 0, .int .i64 0, .string ⟨#[]⟩, .slice none 0 0, .int .i64 0, .slice none 0 0, .int .i64 0, .int .i64 0, .string ⟨#[]⟩, .int .i64 0, .string ⟨#[]⟩] 42))
    go_wp2_with (with_reducible refine hold_store (.tmp 5) (.tmp 22) rfl ?_)
    refine wpl_store (.tmp 5) (.tmp 22) a 0 21 21 zM zM rfl rfl (by rfl) (by rfl) (size_msg _) K5.out (by omega) zM_one ?_
    intro w6 h6
    have U6 := Lib.hid (h6.2.below (Nat.le_of_eq ha))
    have H6 := Lib.hid (H4.out.on (A5.out.trans U6.out))
    clear h6 ha
    go_wp2_with fail
    refine (qu_dropped C H6.out inv_emptyQ).mono ?_
    rintro e w7 ⟨rfl, hb7⟩
    have H7 := Lib.hid (H6.out.on hb7)
    rw [show emptyQ.dropped = 0 from rfl]
    clear hb7
    go_wp2_with fail
    go_ret
    exact ⟨rfl, H7.out.below⟩
  | some d =>
    obtain ⟨q, hq⟩ : ∃ q, (pushQ emptyQ b).1 = q := ⟨_, rfl⟩
    have HPQ := Lib.hid (show pushQ emptyQ b = (q, 0) ∧ allQ q = [b] ∧ (popQ q 0).first.length + (popQ q 0).second.length = 0 ∧ (allQ q).getD (ixQ q 0) ⟨#[]⟩ = b by
      have e : pushQ emptyQ b = if clientD d then (⟨[], [b], 0⟩, 0) else (⟨[b], [], 0⟩, 0) := by
        unfold pushQ
        rw [HR.out]
        rfl
      cases hc : clientD d with
      | true =>
        rw [hc, if_pos rfl] at e
        rw [e] at hq
        subst hq
        exact ⟨e, rfl, rfl, rfl⟩
      | false =>
        rw [hc] at e
        rw [if_neg (by simp)] at e
        rw [e] at hq
        subst hq
        exact ⟨e, rfl, rfl, rfl⟩)
    have HIQ := Lib.hid (show InvQ q by rw [← hq]; exact inv_pushQ inv_emptyQ HBZ.out)
    have HIP := Lib.hid (inv_popQ HIQ.out 0)
    clear hq
    refine (qu_push C b HPQ.out.1 H2.out inv_emptyQ (by decide) HBZ.out).mono ?_
    rintro e w3 ⟨rfl, h3⟩
    have H3 := Lib.hid h3
    clear h3
    go_wp2_with fail
    refine (qu_pop C 0 H3.out HIQ.out (by omega)).mono ?_
    rintro e w4 ⟨f, B, rfl, hp, h4⟩
    obtain ⟨rfl, hmf⟩ : B = true ∧ MsgOf w4 f b := by
      rcases hp with ⟨_, h1, _⟩ | ⟨h1, _, h2⟩
      · rw [HPQ.out.2.1] at h1; cases h1
      · rw [HPQ.out.2.2.2] at h2; exact ⟨h1, h2⟩
    have H4 := Lib.hid h4
    have HMF := Lib.hid hmf
    clear h4 hp hmf
    obtain ⟨a, ha⟩ : ∃ a, w4.heap.size = a := ⟨_, rfl⟩
    have K5 := Lib.hid (show Blk (w4.alloc (.cells #[.int .i64 0, .int .i64 0, .int .i64 0, .int .i64 0, .string ⟨#[]⟩, .int .i64 0, .int .i64 0, .int .i64 0, .string ⟨#[]⟩, .slice none 0 0, .slice none 0 0, .int .i64 0, .string ⟨#[]⟩, .slice none 0 0, .int .i64 0, .slice none 0 0, .int .i64 0, .int .i64 0, .string ⟨#[]⟩, .int .i64 0, .string ⟨#[]⟩] 42)) a 21 zM from Blk.new' ha.symm zM_row)
    have A5 := Lib.hid ((Below.refl w4.heap.size w4).alloc (Nat.le_refl _) (.cells #[.int .i64 0, .int .i64 0, .int .i64 0, .int .i64 0, .string ⟨#[]⟩, .int .i64 0, .int .i64 0, .int .i64 0, .string ⟨#[]⟩, .slice none 0 0, .slice none 0 0, .int .i64 0, .string ⟨#[]⟩, .slice none 0 0, .int .i64 0, .slice none 0 0, .int .i64 0, .int .i64 0, .string ⟨#[]⟩, .int .i64 0, .string ⟨#[]⟩] 42))
    go_wp2_with (with_reducible refine hold_store (.tmp 5) (.tmp 22) rfl ?_)
    refine wpl_store (.tmp 5) (.tmp 22) a 0 21 21 zM f rfl rfl (by rfl) (by rfl) (size_msg _) K5.out (by omega) HMF.out.1 ?_
    intro w6 h6
    have U6 := Lib.hid (A5.out.trans (h6.2.below (Nat.le_of_eq ha)))
    have K6 := Lib.hid (h6.1.congr f fun i hi => by first | (simp [hi]; done) | (rw [if_pos ⟨Nat.zero_le _, by omega⟩]; rfl))
    have H6 := Lib.hid (H4.out.on U6.out)
    have M6 := Lib.hid (HMF.out.later U6.out)
    clear h6 ha
    go_wp2_with (with_reducible refine hold_load (.tmp 5) rfl ?_)
    refine wpl_load_w (.tmp 5) a 0 21 21 f (by rfl) rfl (by rfl) (agg_msg _) (size_msg _) K6.out.cells (by omega) ?_
    simp only [Nat.zero_add]
    go_wp2_with fail
    refine M6.out.bytes.mono ?_
    rintro e w7 ⟨rfl, hb7⟩
    have H7 := Lib.hid (H6.out.on hb7)
    have M7 := Lib.hid (M6.out.later hb7)
    have K7 := Lib.hid (K6.out.below hb7 K6.out.lt)
    clear hb7
    go_wp2_with (with_reducible refine hold_load (.tmp 5) rfl ?_)
    refine wpl_load_w (.tmp 5) a 0 21 21 f (by rfl) rfl (by rfl) (agg_msg _) (size_msg _) K7.out.cells (by omega) ?_
    simp only [Nat.zero_add]
    go_wp2_with fail
    refine M7.out.right.mono ?_
    rintro e w8 ⟨rfl, hb8⟩
    have H8 := Lib.hid (H7.out.on hb8)
    clear hb8
    go_wp2_with fail
    refine (qu_len C H8.out HIP.out).mono ?_
    rintro e w9 ⟨rfl, hb9⟩
    have H9 := Lib.hid (H8.out.on hb9)
    rw [HPQ.out.2.2.1]
    clear hb9
    go_wp2_with fail
    go_ret
    exact ⟨rfl, H9.out.below⟩
end Go.Proofs.Ytphlpgdbngbplaa
end
section
open Go Go.RowKit
namespace FF
open WW BB
/-- a block's digest -/
def digI (b : BlockD) : ByteArray := JJ.digD (viewI b) (propI b) (jvI b) (parI b) b.2
/-- the call's three boxes: the forest, the block, the result -/
structure PqS (w : World) (g : Nat) (f1 f2 f3 : Nat → Value) (w' : World) : Prop where
  below : Below w.heap.size w w'
  lo : w.heap.size = g
  a : Blk w' g 4 f1
  b : Blk w' (g + 1) 6 f2
  c : Blk w' (g + 1 + 1) 4 f3
theorem PqS.on {w : World} {g : Nat} {f1 f2 f3 : Nat → Value} {w1 w2 : World} (h : PqS w g f1 f2 f3 w1) (hb : Below w1.heap.size w1 w2) : PqS w g f1 f2 f3 w2 :=
  ⟨h.below.trans (hb.mono h.below.size), h.lo, h.a.below hb h.a.lt, h.b.below hb h.b.lt, h.c.below hb h.c.lt⟩
theorem PqS.mk3 (w : World) (cs ds es : List Value) (t u s : TypeId) (h1 : cs.toArray = row 4 (rowL cs)) (h2 : ds.toArray = row 6 (rowL ds)) (h3 : es.toArray = row 4 (rowL es)) : PqS w w.heap.size (rowL cs) (rowL ds) (rowL es) (((w.alloc (.cells cs.toArray t)).alloc (.cells ds.toArray u)).alloc (.cells es.toArray s)) := by
  have b1 := (Below.refl w.heap.size w).alloc (Nat.le_refl _) (.cells cs.toArray t)
  have b2 := b1.alloc b1.size (.cells ds.toArray u)
  have b3 := b2.alloc b2.size (.cells es.toArray s)
  refine ⟨b3, rfl, ((Blk.new' rfl h1).alloc _).alloc _, (Blk.new' (by simp) h2).alloc _, Blk.new' (by simp) h3⟩
/-- an item is written whole -/
theorem set7 {w : World} {a : Nat} {f : Nat → Value} (h : Blk w a 7 f) (u0 u1 u2 u3 u4 u5 u6 : Value) :
    Blk (((((((w.setCell ⟨a, 0, none⟩ u0).setCell ⟨a, 1, none⟩ u1).setCell ⟨a, 2, none⟩ u2).setCell ⟨a, 3, none⟩ u3).setCell ⟨a, 4, none⟩ u4).setCell ⟨a, 5, none⟩ u5).setCell ⟨a, 6, none⟩ u6) a 7 (rowL [u0, u1, u2, u3, u4, u5, u6]) ∧
    Upd a w (((((((w.setCell ⟨a, 0, none⟩ u0).setCell ⟨a, 1, none⟩ u1).setCell ⟨a, 2, none⟩ u2).setCell ⟨a, 3, none⟩ u3).setCell ⟨a, 4, none⟩ u4).setCell ⟨a, 5, none⟩ u5).setCell ⟨a, 6, none⟩ u6) := by
  refine ⟨(((((((h.set 0 u0).set 1 u1).set 2 u2).set 3 u3).set 4 u4).set 5 u5).set 6 u6).congr _ fun i hi => ?_, (((((((Upd.refl a w).trans (Upd.set _ _ _ _)).trans (Upd.set _ _ _ _)).trans (Upd.set _ _ _ _)).trans (Upd.set _ _ _ _)).trans (Upd.set _ _ _ _)).trans (Upd.set _ _ _ _)).trans (Upd.set _ _ _ _)⟩
  match i, hi with
  | 0, _ => rfl
  | 1, _ => rfl
  | 2, _ => rfl
  | 3, _ => rfl
  | 4, _ => rfl
  | 5, _ => rfl
  | 6, _ => rfl
end FF
namespace Go.Proofs.Ytphlpgdbngbplaa
open FF JJ CC WW BB
end Go.Proofs.Ytphlpgdbngbplaa
end
section
open Go Go.RowKit
namespace QU
open RR FF JJ WW BB
/-- the queue's own blocks -/
def OwnQ (g : Nat) (v1 v2 : Value) (b : Nat) : Prop := b = g ∨ v1.ownBlock = some b ∨ v2.ownBlock = some b
/-- the remainder, from zero on -/
theorem fromZ_is (i n : Int) (hn : 0 < n) : (i.tmod n + n).tmod n = i % n := by
  have h1 : -n < i.tmod n := Int.lt_tmod_of_pos i hn
  rw [Int.tmod_eq_emod_of_nonneg (show 0 ≤ i.tmod n + n by omega)]
  rw [Int.add_emod_right, Int.tmod_eq_emod]
  split
  · simp
  · rw [Int.sub_emod]; have : ((n.natAbs : Int)) = n := by omega
    rw [this]; simp
theorem below_drewU (w : World) (n : Nat) : Below w.heap.size w (w.drewN n) := ⟨rfl, rfl, rfl, Nat.le_refl _, fun _ _ => rfl⟩
theorem row_shapeU {w : World} {B k n : Nat} {e : TypeId} {v : Value} {xs : List Value} (h : w.ownsRow B e k v n xs) : ∃ a c, v = .slice a n c := by
  rcases h.2 with ⟨rfl, h0⟩ | ⟨q, cap, cur, rfl, _⟩
  · exact ⟨none, 0, by rw [h0]⟩
  · exact ⟨_, _, rfl⟩
end QU
namespace Go.Proofs.Ytphlpgdbngbplaa
open QU RR FF JJ WW BB
structure QM (w : World) (g : Nat) (t : Qu) (v1 v2 : Value) : Prop where
  blk : Blk w g 3 (rowL [v1, v2, .int .i64 t.dropped])
  r1 : w.ownsRow 0 9 1 v1 t.first.length (t.first.map Value.string)
  r2 : w.ownsRow 0 9 1 v2 t.second.length (t.second.map Value.string)
  g1 : v1.ownBlock ≠ some g
  g2 : v2.ownBlock ≠ some g
  ne : ∀ b, v1.ownBlock = some b → v2.ownBlock ≠ some b
theorem QM.on {w w' : World} {g : Nat} {t : Qu} {v1 v2 : Value} (h : QM w g t v1 v2) (hk : Keeps (OwnQ g v1 v2) w w') : QM w' g t v1 v2 :=
  ⟨h.blk.of_heap (hk.block g (.inl rfl) h.blk.lt), row_keep h.r1 fun c hc => hk.block c (.inr (.inl hc)) (h.r1.lt c hc).2, row_keep h.r2 fun c hc => hk.block c (.inr (.inr hc)) (h.r2.lt c hc).2, h.g1, h.g2, h.ne⟩
theorem QM.below {w w' : World} {g : Nat} {t : Qu} {v1 v2 : Value} (h : QM w g t v1 v2) (hb : Below w.heap.size w w') : QM w' g t v1 v2 :=
  ⟨h.blk.of_heap (hb.block g h.blk.lt), row_keep h.r1 fun c hc => hb.block c (h.r1.lt c hc).2, row_keep h.r2 fun c hc => hb.block c (h.r2.lt c hc).2, h.g1, h.g2, h.ne⟩
theorem QM.lt {w : World} {g : Nat} {t : Qu} {v1 v2 : Value} (h : QM w g t v1 v2) : ∀ b, OwnQ g v1 v2 b → b < w.heap.size := by
  rintro b (rfl | hb | hb)
  · exact h.blk.lt
  · exact (h.r1.lt b hb).2
  · exact (h.r2.lt b hb).2
/-- the code's queue -/
def At17 (O : Nat → Prop) (w : World) (g : Nat) (t : Qu) : Prop := ∃ v1 v2, QM w g t v1 v2 ∧ ∀ b, O b ↔ OwnQ g v1 v2 b
theorem at17_keep {O : Nat → Prop} {w w' : World} {g : Nat} {t : Qu} (h : At17 O w g t) (hk : Keeps O w w') : At17 O w' g t := by
  obtain ⟨v1, v2, h1, h2⟩ := h
  exact ⟨v1, v2, h1.on ⟨hk.b0, fun b hb => hk.block b ((h2 b).2 hb)⟩, h2⟩
theorem at17_lt {O : Nat → Prop} {w : World} {g : Nat} {t : Qu} (h : At17 O w g t) : ∀ b, O b → b < w.heap.size := fun b hb => by
  obtain ⟨v1, v2, h1, h2⟩ := h
  exact h1.lt b ((h2 b).1 hb)
theorem at17_same {O : Nat → Prop} {w w' : World} {g : Nat} {t : Qu} (h : At17 O w g t) (hb : Below w.heap.size w w') : Next17 At17 O w g t w' :=
  ⟨O, at17_keep h (Keeps.of hb), Keeps.of hb, fun _ => Or.inl⟩
set_option maxRecDepth 100000 in
theorem lane_is (k : Int) (w : World) : Calls Try.prog 28 #[.int .i64 k] w fun e w' => e = .returned (.int .i64 (if (decide (k = 4) || decide (k = 5)) = true then 1 else 0)) ∧ w = w' := by
  by_cases h4 : k = 4
  · subst h4
    rw [show (decide ((4 : Int) = 4) || decide ((4 : Int) = 5)) = true from rfl, if_pos rfl]
    go_enter Try.func28, Try.ntmps28
    go_wp2_with fail
    go_ret
    exact ⟨rfl, rfl⟩
  · by_cases h5 : k = 5
    · subst h5
      rw [show (decide ((5 : Int) = 4) || decide ((5 : Int) = 5)) = true from rfl, if_pos rfl]
      go_enter Try.func28, Try.ntmps28
      go_wp2_with fail
      go_ret
      exact ⟨rfl, rfl⟩
    · rw [decide_eq_false h4, decide_eq_false h5, if_neg (by decide)]
      have e4 : (k == 4) = false := by rw [beq_eq_false_iff_ne]; exact h4
      have e5 : (k == 5) = false := by rw [beq_eq_false_iff_ne]; exact h5
      clear h4 h5
      go_enter Try.func28, Try.ntmps28
      go_wp2_with fail
      go_ret
      exact ⟨rfl, rfl⟩
set_option maxRecDepth 100000 in
theorem fromZ_any (i n : Int) (h0 : 0 < n) (hn : n ≤ 1000000) (w : World) : Calls Try.prog 37 #[.int .i64 i, .int .i64 n] w fun e w' => e = .returned (.int .i64 (i % n)) ∧ w = w' := by
  have HC := Lib.hid (fromZ_is i n h0)
  have h3 : -n < i.tmod n := Int.lt_tmod_of_pos i h0
  have h4 : i.tmod n < n := Int.tmod_lt_of_pos i h0
  have hw : IntKind.i64.wrap (i.tmod n) = i.tmod n := IntWalk.i64_in _ (by omega)
  obtain ⟨t, ht⟩ : ∃ t, i.tmod n = t := ⟨_, rfl⟩
  rw [ht] at HC h3 h4 hw
  have hw2 : IntKind.i64.wrap (t + n) = t + n := IntWalk.i64_in _ (by omega)
  have h5 : (t + n).tmod n < n := Int.tmod_lt_of_pos _ h0
  have h6 : 0 ≤ (t + n).tmod n := Int.tmod_nonneg _ (by omega)
  have hw3 : IntKind.i64.wrap ((t + n).tmod n) = (t + n).tmod n := IntWalk.i64_in _ (by omega)
  have hm0 : n ≠ 0 := by omega
  clear h3 h4 h5 h6
  go_enter Try.func37, Try.ntmps37
  go_wp2_with fail
  go_ret
  exact ⟨by rw [← HC.out]; rfl, rfl⟩
set_option maxRecDepth 100000 in
set_option maxHeartbeats 1000000 in
theorem new17 (w : World) : Calls Try.prog 8 #[] w fun e w' => ∃ g O, e = .returned (.pointer (some ⟨g, 0, none⟩)) ∧ At17 O w' g emptyQ ∧ (∀ b, O b → w.heap.size ≤ b) ∧ Below w.heap.size w w' := by
  go_enter Try.func8, Try.ntmps8
  go_wp2_with fail
  go_ret
  refine ⟨w.heap.size, OwnQ w.heap.size (.slice none 0 0) (.slice none 0 0), rfl, ⟨.slice none 0 0, .slice none 0 0, ⟨?_, World.ownsRow_nil _ _ _ _, World.ownsRow_nil _ _ _ _, (fun h => by cases h), (fun h => by cases h), fun b h => by cases h⟩, fun _ => Iff.rfl⟩, ?_, (Below.refl _ _).alloc (Nat.le_refl _) _⟩
  · exact Blk.new' rfl rfl
  · rintro b (rfl | h | h)
    · exact Nat.le_refl _
    · cases h
    · cases h
set_option maxRecDepth 100000 in
set_option maxHeartbeats 1000000 in
theorem lanesM17 {w : World} {g : Nat} {t : Qu} {v1 v2 : Value} (h : QM w g t v1 v2) : Calls Try.prog 16 #[.pointer (some ⟨g, 0, none⟩)] w fun e w' => e = .returned (.tuple #[.int .i64 (t.first.length : Int), .int .i64 (t.second.length : Int)]) ∧ Below w.heap.size w w' := by
  obtain ⟨c0, c1, _⟩ := RR.cells3 h.blk
  obtain ⟨a, c, rfl⟩ := row_shapeU h.r1
  obtain ⟨a', c', rfl⟩ := row_shapeU h.r2
  clear h
  go_enter Try.func16, Try.ntmps16
  go_wp2_with fail
  go_quiet (fail)
  go_wp2_with fail
  go_ret2
  exact ⟨rfl, below_drewU _ _⟩
set_option maxRecDepth 100000 in
set_option maxHeartbeats 1000000 in
theorem lenM17 {w : World} {g : Nat} {t : Qu} {v1 v2 : Value} (h : QM w g t v1 v2) (hi : InvQ t) : Calls Try.prog 17 #[.pointer (some ⟨g, 0, none⟩)] w fun e w' => e = .returned (.int .i64 ((t.first.length + t.second.length : Nat) : Int)) ∧ Below w.heap.size w w' := by
  have H := Lib.hid h
  have h1 := hi.l1
  have h2 := hi.l2
  have hw : IntKind.i64.wrap ((t.first.length : Int) + (t.second.length : Int)) = (t.first.length : Int) + (t.second.length : Int) := IntWalk.i64_in _ (by omega)
  clear h hi h1 h2
  go_enter Try.func17, Try.ntmps17
  go_wp2_with fail
  refine (lanesM17 H.out).mono ?_
  rintro e w1 ⟨rfl, hb1⟩
  go_wp2_with fail
  go_ret
  exact ⟨by rw [Int.natCast_add]; rfl, hb1⟩
set_option maxRecDepth 100000 in
set_option maxHeartbeats 1000000 in
theorem droppedM17 {w : World} {g : Nat} {t : Qu} {v1 v2 : Value} (h : QM w g t v1 v2) : Calls Try.prog 18 #[.pointer (some ⟨g, 0, none⟩)] w fun e w' => e = .returned (.int .i64 t.dropped) ∧ w = w' := by
  obtain ⟨_, _, c2⟩ := RR.cells3 h.blk
  clear h
  go_enter Try.func18, Try.ntmps18
  go_wp2_with fail
  go_ret
  exact ⟨rfl, rfl⟩
set_option maxRecDepth 100000 in
set_option maxHeartbeats 1000000 in
theorem clear17 (O : Nat → Prop) (w : World) (g : Nat) (t : Qu) (h : At17 O w g t) : Calls Try.prog 15 #[.pointer (some ⟨g, 0, none⟩)] w fun e w' => e = .returned (.tuple #[]) ∧ Next17 At17 O w g (clearQ t) w' := by
  obtain ⟨v1, v2, hM, hO⟩ := h
  obtain ⟨c0, c1, _⟩ := RR.cells3 hM.blk
  have f0 := hM.blk.frz 0
  have f1 := hM.blk.frz 1
  have HM := Lib.hid hM
  have HO := Lib.hid hO
  clear hM hO
  go_enter Try.func15, Try.ntmps15
  go_wp2_with fail
  go_end0
  have hs := ((HM.out.blk.set 0 (.slice none 0 0)).set 1 (.slice none 0 0)).congr (rowL [.slice none 0 0, .slice none 0 0, .int .i64 t.dropped]) fun i hi => by
    match i, hi with
    | 0, _ => rfl
    | 1, _ => rfl
    | 2, _ => rfl
  have hu : Upd g w ((w.setCell ⟨g, 0, none⟩ (.slice none 0 0)).setCell ⟨g, 1, none⟩ (.slice none 0 0)) := (Upd.set w g 0 _).trans (Upd.set _ g 1 _)
  refine ⟨rfl, OwnQ g (.slice none 0 0) (.slice none 0 0), ⟨_, _, ⟨hs, World.ownsRow_nil _ _ _ _, World.ownsRow_nil _ _ _ _, (fun h => by cases h), (fun h => by cases h), fun b h => by cases h⟩, fun _ => Iff.rfl⟩, Keeps.upd hu fun b hb e => hb ((HO.out b).2 (.inl e)), ?_⟩
  rintro b (rfl | h | h)
  · exact .inl ((HO.out _).2 (.inl rfl))
  · cases h
  · cases h
end Go.Proofs.Ytphlpgdbngbplaa
end
