/-
  Bytes fed one by one are the blocks taken one behind the other: plain functions.
-/
import Derived.Test.YtfbjjlejmcpphaaDoorNew
open Go Go.RowKit
namespace BB
theorem wstep_congr (B B' : Nat → Nat) (k : Nat) (h : ∀ j, j < k → B j = B' j) : wstep B k = wstep B' k := by
  induction k with
  | zero => rfl
  | succ k ih =>
    show put (wstep B k) (k / 4) _ = put (wstep B' k) (k / 4) _
    rw [ih (fun j hj => h j (by omega)), h k (by omega)]
theorem comp_congr (w : Nat → BitVec 32) (B B' : Nat → Nat) (n : Nat) (last : Bool) (h : ∀ j, j < 64 → B j = B' j) : comp w B n last = comp w B' n last := by
  unfold comp; rw [wstep_congr B B' 64 h]
/-- the k-th block of the bytes b -/
def rblk (b : Nat → Nat) (k : Nat) : Nat → Nat := fun j => b (64 * k + j)
/-- the words behind k blocks, none of which was the last one -/
def rwords (n : Nat) (b : Nat → Nat) : Nat → Nat → BitVec 32
  | 0 => h0 n
  | k + 1 => comp (rwords n b k) (rblk b k) (64 * (k + 1)) false
theorem rwords_congr (n : Nat) (b b' : Nat → Nat) (k : Nat) (h : ∀ j, j < 64 * k → b j = b' j) : rwords n b k = rwords n b' k := by
  induction k with
  | zero => rfl
  | succ k ih =>
    show comp _ _ _ _ = comp _ _ _ _
    rw [ih (fun j hj => h j (by omega))]
    exact comp_congr _ _ _ _ _ fun j hj => h _ (by omega)
theorem sb_append_lt (A : List UInt8) (c : UInt8) (j : Nat) (h : j < A.length) : sb (A ++ [c]) j = sb A j := by
  simp [sb, List.getElem?_append_left h]
theorem sb_append_at (A : List UInt8) (c : UInt8) : sb (A ++ [c]) A.length = c.toNat := by simp [sb]
theorem sb_ge (A : List UInt8) (j : Nat) (h : A.length ≤ j) : sb A j = 0 := by simp [sb, List.getElem?_eq_none h]
/-- s is what the bytes A make of an empty digest -/
def FedAs (n : Nat) (A : List UInt8) (s : St) : Prop :=
  ∃ m, s.h = rwords n (sb A) m ∧ s.be = 64 * m ∧ A.length = 64 * m + s.fl ∧ s.fl ≤ 64 ∧ (m = 0 ∨ 0 < s.fl) ∧ ∀ j, s.B j = if j < s.fl then sb A (64 * m + j) else 0
theorem fed_nil (n : Nat) : FedAs n [] ⟨h0 n, fun _ => 0, 0, 0⟩ := ⟨0, rfl, rfl, rfl, Nat.zero_le _, Or.inl rfl, fun j => by simp⟩
theorem fed_add (n : Nat) (A : List UInt8) (c : UInt8) (s : St) (h : FedAs n A s) : FedAs n (A ++ [c]) (s.add c) := by
  obtain ⟨m, hh, hb, hl, hf, hm, hB⟩ := h
  by_cases e : s.fl = 64
  · have hn : s.next = ⟨comp s.h s.B (s.be + 64) false, fun _ => 0, 0, s.be + 64⟩ := by unfold St.next; rw [if_pos e]
    have ha : s.add c = ⟨comp s.h s.B (s.be + 64) false, put (fun _ => 0) 0 c.toNat, 1, s.be + 64⟩ := by unfold St.add; rw [hn]
    rw [ha]
    refine ⟨m + 1, ?_, ?_, ?_, by show 1 ≤ 64; omega, Or.inr (by show 0 < 1; omega), fun j => ?_⟩
    · show comp s.h s.B (s.be + 64) false = comp (rwords n (sb (A ++ [c])) m) (rblk (sb (A ++ [c])) m) (64 * (m + 1)) false
      rw [hh, hb, rwords_congr n (sb A) (sb (A ++ [c])) m (fun j hj => (sb_append_lt A c j (by omega)).symm)]
      refine comp_congr _ _ _ _ _ fun j hj => ?_
      rw [hB, if_pos (by omega)]
      exact (sb_append_lt A c _ (by omega)).symm
    · show s.be + 64 = 64 * (m + 1); omega
    · show (A ++ [c]).length = 64 * (m + 1) + 1; simp; omega
    · show put (fun _ => 0) 0 c.toNat j = if j < 1 then sb (A ++ [c]) (64 * (m + 1) + j) else 0
      by_cases hj : j = 0
      · subst hj
        rw [put_same, if_pos (by omega), show 64 * (m + 1) + 0 = A.length by omega, sb_append_at]
      · rw [put_other _ _ hj, if_neg (by omega)]
  · have hn : s.next = s := by unfold St.next; rw [if_neg e]
    have ha : s.add c = ⟨s.h, put s.B s.fl c.toNat, s.fl + 1, s.be⟩ := by unfold St.add; rw [hn]
    rw [ha]
    refine ⟨m, ?_, hb, ?_, by show s.fl + 1 ≤ 64; omega, Or.inr (by show 0 < s.fl + 1; omega), fun j => ?_⟩
    · show s.h = _
      rw [hh]
      exact rwords_congr n (sb A) (sb (A ++ [c])) m (fun j hj => (sb_append_lt A c j (by omega)).symm)
    · show (A ++ [c]).length = 64 * m + (s.fl + 1); simp; omega
    · show put s.B s.fl c.toNat j = if j < s.fl + 1 then sb (A ++ [c]) (64 * m + j) else 0
      by_cases hj : j = s.fl
      · subst hj
        rw [put_same, if_pos (by omega), ← hl, sb_append_at]
      · rw [put_other _ _ hj, hB]
        by_cases h2 : j < s.fl
        · rw [if_pos h2, if_pos (by omega), sb_append_lt A c _ (by omega)]
        · rw [if_neg h2, if_neg (by omega)]
theorem fed_feed (n : Nat) (l : List UInt8) : ∀ (A : List UInt8) (s : St), FedAs n A s → FedAs n (A ++ l) (s.feed l) := by
  induction l with
  | nil => intro A s h; simpa [St.feed] using h
  | cons c l ih =>
    intro A s h
    have := ih (A ++ [c]) (s.add c) (fed_add n A c s h)
    rw [List.append_assoc, List.singleton_append] at this
    exact this
/-- the words that the reference makes of the bytes A -/
def rdone (n : Nat) (A : List UInt8) : Nat → BitVec 32 := comp (rwords n (sb A) ((A.length - 1) / 64)) (rblk (sb A) ((A.length - 1) / 64)) A.length true
theorem fed_done (n : Nat) (A : List UInt8) (s : St) (h : FedAs n A s) : s.done = rdone n A := by
  obtain ⟨m, hh, hb, hl, hf, hm, hB⟩ := h
  have e : (A.length - 1) / 64 = m := by omega
  unfold St.done rdone
  rw [e, hh, hb, ← hl]
  refine comp_congr _ _ _ _ _ fun j hj => ?_
  rw [hB]
  show _ = sb A (64 * m + j)
  by_cases h2 : j < s.fl
  · rw [if_pos h2]
  · rw [if_neg h2, sb_ge A _ (by omega)]
/-- the key's block -/
def kblock (l : List UInt8) : List UInt8 := if l = [] then [] else l ++ List.replicate (64 - l.length) 0
theorem fed_st0 (l : List UInt8) (h32 : l.length ≤ 32) : FedAs l.length (kblock l) (st0 l) := by
  by_cases h : l = []
  · subst h
    exact fed_nil 0
  · have e1 : kblock l = l ++ List.replicate (64 - l.length) 0 := by unfold kblock; rw [if_neg h]
    have e2 : st0 l = ⟨h0 l.length, fun j => if j < l.length then sb l j else 0, 64, 0⟩ := by unfold st0; rw [if_neg h]
    rw [e1, e2]
    refine ⟨0, rfl, rfl, by simp; omega, Nat.le_refl _, Or.inl rfl, fun j => ?_⟩
    show (if j < l.length then sb l j else 0) = if j < 64 then sb (l ++ List.replicate (64 - l.length) 0) (64 * 0 + j) else 0
    rw [Nat.mul_zero, Nat.zero_add]
    by_cases h1 : j < l.length
    · rw [if_pos h1, if_pos (by omega)]
      simp [sb, List.getElem?_append_left h1]
    · rw [if_neg h1]
      by_cases h2 : j < 64
      · rw [if_pos h2]
        have h3 : j - l.length < 64 - l.length := by omega
        simp [sb, List.getElem?_append_right (show l.length ≤ j by omega), h3]
      · rw [if_neg h2]
/-- the digest is the reference's -/
theorem done_eq (key b : List UInt8) (h32 : key.length ≤ 32) : ((st0 key).feed b).done = rdone key.length (kblock key ++ b) :=
  fed_done _ _ _ (fed_feed _ b _ _ (fed_st0 key h32))
end BB
