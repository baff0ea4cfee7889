/-
  The walk of the law WireApart.
-/
import Derived.Test.YthajnkcipifhcaaGreatDoorKRState
import Derived.Test.YthajnkcipifhcaaGreatDoorKPlanN
import Derived.Test.YthajnkcipifhcaaGreatDoorKCallsW
import Derived.OrdersHeld
import Derived.Deep.CutRange
import Derived.Deep.QuietTactic
import Derived.BigQuiet
open Go Go.RowKit
namespace WW
open BB
/-- a block's cells -/
abbrev bc (v p cv : Int) (k : ByteArray) (sv rv : Value) : List Value := [.int .i64 v, .int .i64 p, .int .i64 cv, .string k, sv, rv]
theorem fewsig_flat (ts : List ByteArray) (h : fewSig ts = true) : (flat ts).length ≤ 300 ∧ ts.length ≤ 10 := by
  unfold fewSig at h
  simp only [Bool.and_eq_true, decide_eq_true_eq, List.all_eq_true] at h
  obtain ⟨h1, h2⟩ := h
  rw [List.take_of_length_le (by omega)] at h1
  refine ⟨?_, h2⟩
  have : ∀ (l : List ByteArray), (∀ x ∈ l, x.size ≤ 30) → (flat l).length ≤ 30 * l.length := by
    intro l
    induction l with
    | nil => intro _; simp [flat]
    | cons x l ih =>
      intro hx
      have h1 := hx x (List.mem_cons_self ..)
      have h2 := ih fun y hy => hx y (List.mem_cons_of_mem _ hy)
      have h3 := ba_list x
      have : flat (x :: l) = x.data.toList ++ flat l := rfl
      rw [this, List.length_append, List.length_cons]; omega
  have := this ts h1
  omega
theorem flat_le (c : Nat) (l : List ByteArray) (h : ∀ x ∈ l, x.size ≤ c) : (flat l).length ≤ c * l.length := by
  induction l with
  | nil => simp [flat]
  | cons x l ih =>
    have h1 := h x (List.mem_cons_self ..)
    have h2 := ih fun y hy => h y (List.mem_cons_of_mem _ hy)
    have h3 := ba_list x
    have : flat (x :: l) = x.data.toList ++ flat l := rfl
    rw [this, List.length_append, List.length_cons, Nat.mul_add]; omega
theorem few_smallS {k : ByteArray} {l : List (Int × List ByteArray)} (h : fewCert k l = true) : SmallS l ∧ k.size ≤ 50 ∧ l.length ≤ 10 := by
  unfold fewCert at h
  simp only [Bool.and_eq_true, decide_eq_true_eq, List.all_eq_true] at h
  obtain ⟨h1, h2, h3⟩ := h
  rw [List.take_of_length_le (by omega)] at h1
  refine ⟨⟨by omega, ?_, ?_⟩, h3, h2⟩
  · have := flat_le 308 (sigsB l) (fun x hx => by
      unfold sigsB at hx
      obtain ⟨p, hp, rfl⟩ := List.mem_map.1 hx
      have h4 := fewsig_flat p.2 (h1 p hp)
      show (num p.1 ++ listB p.2).size ≤ 308
      rw [ByteArray.size_append, flat_size]
      have : (num p.1).size = 4 := by unfold num; split <;> rfl
      omega)
    have e : (sigsB l).length = l.length := by unfold sigsB; rw [List.length_map]
    omega
  · intro i hi
    have := fewsig_flat _ (h1 _ (show l.getD i (0, []) ∈ l by rw [List.getD_eq_getElem?_getD, List.getElem?_eq_getElem hi]; exact List.getElem_mem hi))
    omega
theorem few_block {k : ByteArray} {l : List (Int × List ByteArray)} {m : List (Int × Int × ByteArray)} (h : fewBlock k l m = true) : SmallS l ∧ SmallR m ∧ k.size ≤ 50 ∧ l.length ≤ 10 ∧ m.length ≤ 6 := by
  unfold fewBlock at h
  rw [Bool.and_eq_true, Bool.and_eq_true] at h
  obtain ⟨h1, h2, h3⟩ := h
  simp only [decide_eq_true_eq, List.all_eq_true] at h1 h2
  rw [List.take_of_length_le (by omega)] at h1
  obtain ⟨h4, h5, h6⟩ := few_smallS h3
  refine ⟨h4, ⟨by omega, ?_, ?_⟩, h5, h6, h2⟩
  · have := flat_le 72 (reqsB m) (fun x hx => by
      unfold reqsB at hx
      obtain ⟨p, hp, rfl⟩ := List.mem_map.1 hx
      have h4 := h1 p hp
      rw [reqB_size]; omega)
    have e : (reqsB m).length = m.length := by unfold reqsB; rw [List.length_map]
    omega
  · intro i hi
    have := h1 _ (show m.getD i (0, 0, ⟨#[]⟩) ∈ m by rw [List.getD_eq_getElem?_getD, List.getElem?_eq_getElem hi]; exact List.getElem_mem hi)
    omega
/-- two blocks in boxes -/
structure Two2 (w : World) (g : Nat) (A B : List Value) (wr : World) : Prop where
  a : BoxAt w g A wr
  b : BoxAt w (g + 1) B wr
theorem Two2.on {w w1 w2 : World} {g : Nat} {A B : List Value} (h : Two2 w g A B w1) (hb : Below w1.heap.size w1 w2) : Two2 w g A B w2 := ⟨h.a.on hb, h.b.on hb⟩
end WW
namespace Go.Proofs.YthajnkcipifhcaaGreatDoor
open WW BB
end Go.Proofs.YthajnkcipifhcaaGreatDoor
