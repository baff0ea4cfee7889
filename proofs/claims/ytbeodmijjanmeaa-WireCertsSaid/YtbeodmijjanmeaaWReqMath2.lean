/-
  Plain lemmas: a request that is read has just these bytes; right requests come again.
-/
import Derived.Test.YtbeodmijjanmeaaWReqMath
open Go Go.RowKit
namespace WW
open BB
theorem num_nat (n : Nat) (h : n ≤ 2147483647) : num (n : Int) = be4 n := by
  unfold num; rw [if_neg (by omega)]; rfl
/-- a text, its length below a bound -/
def textG (hi : Int) (fits : Nat → Bool) (b : ByteArray) : Option (ByteArray × ByteArray) :=
  match numSp 0 hi b with
  | none => none
  | some (r, N) => if fits N then bytesSp N r else none
theorem textG_some (hi : Int) (fits : Nat → Bool) (b : ByteArray) {r : ByteArray} {N : Nat} (h : numSp 0 hi b = some (r, N)) : textG hi fits b = if fits N = true then bytesSp N r else none := by unfold textG; rw [h]
theorem textSp_G (fits : Nat → Bool) (b : ByteArray) : textSp fits b = textG 2147483647 fits b := rfl
theorem textG_put (hi : Int) (fits : Nat → Bool) (s r : ByteArray) (hs : (s.size : Int) ≤ hi) (h32 : s.size < 4294967296) (hn : num (s.size : Int) = be4 s.size) : textG hi fits (txt s ++ r) = if fits s.size = true then some (r, s) else none := by
  have h1 : numSp 0 hi (be4 s.size ++ (s ++ r)) = some (s ++ r, s.size) := by rw [numSp_put _ _ _ h32, if_neg (by omega)]
  have e : txt s ++ r = be4 s.size ++ (s ++ r) := by unfold txt; rw [hn, ByteArray.append_assoc]
  rw [e, textG_some hi fits _ h1, bytesSp_put]
theorem textG_sound {hi : Int} {fits : Nat → Bool} {b r s : ByteArray} (h : textG hi fits b = some (r, s)) : b = be4 s.size ++ s ++ r ∧ fits s.size = true ∧ (s.size : Int) ≤ hi := by
  unfold textG at h
  rcases hn : numSp 0 hi b with _ | ⟨r1, N⟩
  · rw [hn] at h; cases h
  · rw [hn] at h
    dsimp only at h
    split at h
    · rename_i hf
      obtain ⟨e1, e2⟩ := bytesSp_sound h
      obtain ⟨f1, f2, f3⟩ := numSp_sound hn
      subst e2
      exact ⟨by rw [f1, e1, ByteArray.append_assoc], hf, f3⟩
    · cases h
theorem textSp_put (fits : Nat → Bool) (s r : ByteArray) (hs : s.size ≤ 2147483647) : textSp fits (txt s ++ r) = if fits s.size = true then some (r, s) else none := by
  rw [textSp_G]; exact textG_put _ fits s r (by omega) (by omega) (num_nat _ hs)
theorem textSp_sound {fits : Nat → Bool} {b r s : ByteArray} (h : textSp fits b = some (r, s)) : b = txt s ++ r ∧ fits s.size = true ∧ s.size ≤ 2147483647 := by
  rw [textSp_G] at h
  obtain ⟨h1, h2, h3⟩ := textG_sound h
  have h4 : s.size ≤ 2147483647 := by omega
  exact ⟨by rw [h1, txt, num_nat _ h4], h2, h4⟩
/-- a right request -/
def rightR (c q : Int) (s : ByteArray) : Prop := 0 ≤ c ∧ c < 4 ∧ 1 ≤ q ∧ q ≤ 2147483647 ∧ s.size ≤ 40
/-- a request, its number below a bound -/
def reqG (hi : Int) (tx : ByteArray → Option (ByteArray × ByteArray)) (b : ByteArray) : Option (ByteArray × (Nat × Nat × ByteArray)) :=
  match numSp 0 3 b with
  | none => none
  | some (r1, c) =>
    match numSp 1 hi r1 with
    | none => none
    | some (r2, q) =>
      match tx r2 with
      | none => none
      | some (r3, s) => some (r3, (c, q, s))
theorem reqG_some (hi : Int) (tx : ByteArray → Option (ByteArray × ByteArray)) (b r1 r2 r3 s : ByteArray) (c q : Nat) (h1 : numSp 0 3 b = some (r1, c)) (h2 : numSp 1 hi r1 = some (r2, q)) (h3 : tx r2 = some (r3, s)) : reqG hi tx b = some (r3, (c, q, s)) := by
  unfold reqG
  rw [h1]
  dsimp only
  rw [h2]
  dsimp only
  rw [h3]
theorem reqSp_G (b : ByteArray) : reqSp b = reqG 2147483647 (textSp fun d => decide (d ≤ 40)) b := rfl
theorem reqG_put (hi : Int) (tx : ByteArray → Option (ByteArray × ByteArray)) (c q : Nat) (x s r : ByteArray) (h1 : c ≤ 3) (h2 : 1 ≤ q) (h3 : (q : Int) ≤ hi) (h4 : q < 4294967296) (h5 : tx (x ++ r) = some (r, s)) : reqG hi tx (be4 c ++ (be4 q ++ (x ++ r))) = some (r, (c, q, s)) := by
  have e1 : numSp 0 3 (be4 c ++ (be4 q ++ (x ++ r))) = some (be4 q ++ (x ++ r), c) := by rw [numSp_put _ _ _ (by omega), if_neg (by omega)]
  have e2 : numSp 1 hi (be4 q ++ (x ++ r)) = some (x ++ r, q) := by rw [numSp_put _ _ _ h4, if_neg (by omega)]
  exact reqG_some hi tx _ _ _ _ _ _ _ e1 e2 h5
theorem reqG_sound {hi : Int} {tx : ByteArray → Option (ByteArray × ByteArray)} {b r : ByteArray} {c q : Nat} {s : ByteArray} (h : reqG hi tx b = some (r, (c, q, s))) : ∃ r2, b = be4 c ++ (be4 q ++ r2) ∧ c ≤ 3 ∧ 1 ≤ q ∧ (q : Int) ≤ hi ∧ tx r2 = some (r, s) := by
  unfold reqG at h
  rcases h1 : numSp 0 3 b with _ | ⟨r1, c1⟩
  · rw [h1] at h; cases h
  rw [h1] at h
  dsimp only at h
  rcases h2 : numSp 1 hi r1 with _ | ⟨r2, q2⟩
  · rw [h2] at h; cases h
  rw [h2] at h
  dsimp only at h
  rcases h3 : tx r2 with _ | ⟨r3, s3⟩
  · rw [h3] at h; cases h
  rw [h3] at h
  simp only [Option.some.injEq, Prod.mk.injEq] at h
  obtain ⟨rfl, rfl, rfl, rfl⟩ := h
  obtain ⟨a1, a2, a3⟩ := numSp_sound h1
  obtain ⟨b1, b2, b3⟩ := numSp_sound h2
  exact ⟨r2, by rw [a1, b1], by omega, by omega, b3, h3⟩
theorem reqSp_put (c q : Nat) (s r : ByteArray) (h : rightR c q s) : reqSp (reqB c q s ++ r) = some (r, (c, q, s)) := by
  obtain ⟨h1, h2, h3, h4, h5⟩ := h
  have e : reqB (c : Int) q s ++ r = be4 c ++ (be4 q ++ (txt s ++ r)) := by
    unfold reqB; rw [num_nat c (by omega), num_nat q (by omega), ByteArray.append_assoc, ByteArray.append_assoc]
  have t1 : textSp (fun d => decide (d ≤ 40)) (txt s ++ r) = some (r, s) := (textSp_put (fun d => decide (d ≤ 40)) s r (by omega)).trans (if_pos (by simpa using h5))
  rw [e]
  exact (reqSp_G _).trans (reqG_put 2147483647 (textSp fun d => decide (d ≤ 40)) c q (txt s) s r (by omega) (by omega) h4 (by omega) t1)
theorem reqSp_sound {b r : ByteArray} {c q : Nat} {s : ByteArray} (h : reqSp b = some (r, (c, q, s))) : b = reqB c q s ++ r ∧ rightR c q s := by
  rw [reqSp_G] at h
  obtain ⟨r2, e1, h1, h2, h3, h4⟩ := reqG_sound h
  obtain ⟨d1, d2, d3⟩ := textSp_sound h4
  have d2 : s.size ≤ 40 := by simpa using d2
  refine ⟨?_, by omega, by omega, by omega, h3, d2⟩
  rw [e1, d1, reqB, num_nat c (by omega), num_nat q (by omega), ByteArray.append_assoc, ByteArray.append_assoc]
theorem reqRd_some {b r : ByteArray} {d : Nat × Nat × ByteArray} (h : reqSp b = some (r, d)) (h0 : r.size = 0) : reqRd b = some d := by unfold reqRd; rw [h]; exact if_pos h0
theorem reqRd_put (c q : Nat) (s : ByteArray) (h : rightR c q s) : reqRd (reqB c q s) = some (c, q, s) := by
  have := reqSp_put c q s ⟨#[]⟩ h
  rw [show reqB (c : Int) q s ++ ⟨#[]⟩ = reqB c q s from ba_ext (by simp)] at this
  exact reqRd_some this rfl
theorem reqRd_sound {b : ByteArray} {c q : Nat} {s : ByteArray} (h : reqRd b = some (c, q, s)) : b = reqB c q s ∧ rightR c q s := by
  unfold reqRd at h
  rcases h1 : reqSp b with _ | ⟨r, d⟩
  · rw [h1] at h; cases h
  rw [h1] at h
  dsimp only at h
  split at h
  · rename_i h0
    injection h with h
    subst h
    obtain ⟨e1, e2⟩ := reqSp_sound h1
    refine ⟨?_, e2⟩
    rw [e1, nil_size r h0]
    exact ba_ext (by simp)
  · cases h
end WW
