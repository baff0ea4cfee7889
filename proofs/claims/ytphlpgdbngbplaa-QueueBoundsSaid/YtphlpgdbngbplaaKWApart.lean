/-
  The walk of the law WireApart.
-/
import Derived.Test.YtphlpgdbngbplaaKGMath
import Derived.Test.YtphlpgdbngbplaaKPlanE
import Derived.Test.YtphlpgdbngbplaaKJMath
import Derived.OrdersHeld
import Derived.Deep.CutRange
import Derived.Deep.QuietTactic
import Derived.BigQuiet
open Go Go.RowKit
namespace WW
open BB
/-- a block's cells -/
abbrev bc (v p cv : Int) (k : ByteArray) (sv rv : Value) : List Value := [.int .i64 v, .int .i64 p, .int .i64 cv, .string k, sv, rv]
theorem fewsig_flat (ts : List ByteArray) (h : fewSig ts = true) : (flat ts).length ≤ 300 ∧ ts.length ≤ 10 := by
  unfold fewSig at h
  simp only [Bool.and_eq_true, decide_eq_true_eq, List.all_eq_true] at h
  obtain ⟨h1, h2⟩ := h
  rw [List.take_of_length_le (by omega)] at h1
  refine ⟨?_, h2⟩
  have : ∀ (l : List ByteArray), (∀ x ∈ l, x.size ≤ 30) → (flat l).length ≤ 30 * l.length := by
    intro l
    induction l with
    | nil => intro _; simp [flat]
    | cons x l ih =>
      intro hx
      have h1 := hx x (List.mem_cons_self ..)
      have h2 := ih fun y hy => hx y (List.mem_cons_of_mem _ hy)
      have h3 := ba_list x
      have : flat (x :: l) = x.data.toList ++ flat l := rfl
      rw [this, List.length_append, List.length_cons]; omega
  have := this ts h1
  omega
theorem flat_le (c : Nat) (l : List ByteArray) (h : ∀ x ∈ l, x.size ≤ c) : (flat l).length ≤ c * l.length := by
  induction l with
  | nil => simp [flat]
  | cons x l ih =>
    have h1 := h x (List.mem_cons_self ..)
    have h2 := ih fun y hy => h y (List.mem_cons_of_mem _ hy)
    have h3 := ba_list x
    have : flat (x :: l) = x.data.toList ++ flat l := rfl
    rw [this, List.length_append, List.length_cons, Nat.mul_add]; omega
theorem few_smallS {k : ByteArray} {l : List (Int × List ByteArray)} (h : fewCert k l = true) : SmallS l ∧ k.size ≤ 50 ∧ l.length ≤ 10 := by
  unfold fewCert at h
  simp only [Bool.and_eq_true, decide_eq_true_eq, List.all_eq_true] at h
  obtain ⟨h1, h2, h3⟩ := h
  rw [List.take_of_length_le (by omega)] at h1
  refine ⟨⟨by omega, ?_, ?_⟩, h3, h2⟩
  · have := flat_le 308 (sigsB l) (fun x hx => by
      unfold sigsB at hx
      obtain ⟨p, hp, rfl⟩ := List.mem_map.1 hx
      have h4 := fewsig_flat p.2 (h1 p hp)
      show (num p.1 ++ listB p.2).size ≤ 308
      rw [ByteArray.size_append, flat_size]
      have : (num p.1).size = 4 := by unfold num; split <;> rfl
      omega)
    have e : (sigsB l).length = l.length := by unfold sigsB; rw [List.length_map]
    omega
  · intro i hi
    have := fewsig_flat _ (h1 _ (show l.getD i (0, []) ∈ l by rw [List.getD_eq_getElem?_getD, List.getElem?_eq_getElem hi]; exact List.getElem_mem hi))
    omega
theorem few_block {k : ByteArray} {l : List (Int × List ByteArray)} {m : List (Int × Int × ByteArray)} (h : fewBlock k l m = true) : SmallS l ∧ SmallR m ∧ k.size ≤ 50 ∧ l.length ≤ 10 ∧ m.length ≤ 6 := by
  unfold fewBlock at h
  rw [Bool.and_eq_true, Bool.and_eq_true] at h
  obtain ⟨h1, h2, h3⟩ := h
  simp only [decide_eq_true_eq, List.all_eq_true] at h1 h2
  rw [List.take_of_length_le (by omega)] at h1
  obtain ⟨h4, h5, h6⟩ := few_smallS h3
  refine ⟨h4, ⟨by omega, ?_, ?_⟩, h5, h6, h2⟩
  · have := flat_le 72 (reqsB m) (fun x hx => by
      unfold reqsB at hx
      obtain ⟨p, hp, rfl⟩ := List.mem_map.1 hx
      have h4 := h1 p hp
      rw [reqB_size]; omega)
    have e : (reqsB m).length = m.length := by unfold reqsB; rw [List.length_map]
    omega
  · intro i hi
    have := h1 _ (show m.getD i (0, 0, ⟨#[]⟩) ∈ m by rw [List.getD_eq_getElem?_getD, List.getElem?_eq_getElem hi]; exact List.getElem_mem hi)
    omega
theorem bs_beq (a b : ByteArray) : (a.toList == b.toList) = decide (a = b) := by
  rw [Bool.eq_iff_iff, beq_iff_eq, decide_eq_true_eq, ByteArray.toList_eq, ByteArray.toList_eq]
  exact ⟨fun h => ba_ext h, fun h => by rw [h]⟩
theorem take_snoc_iff {α : Type} (m m' : List α) (d : α) (i : Nat) (h : i < m.length) (h' : i < m'.length) : m.take (i + 1) = m'.take (i + 1) ↔ m.take i = m'.take i ∧ m.getD i d = m'.getD i d := by
  rw [List.take_succ_eq_append_getElem h, List.take_succ_eq_append_getElem h', List.getD_eq_getElem?_getD, List.getD_eq_getElem?_getD, List.getElem?_eq_getElem h, List.getElem?_eq_getElem h']
  constructor
  · intro e
    have := List.append_inj e (by simp; omega)
    exact ⟨this.1, by simpa using this.2⟩
  · rintro ⟨e1, e2⟩
    have e3 : m[i] = m'[i] := by simpa using e2
    rw [e1, e3]
/-- the heads are the same -/
def headEq (v p cv v' p' cv' : Int) (k k' : ByteArray) (n n' h h' : Nat) : Bool := decide (v = v' ∧ p = p' ∧ cv = cv' ∧ k = k' ∧ n = n' ∧ h = h')
/-- two blocks in boxes -/
structure Two2 (w : World) (g : Nat) (A B : List Value) (wr : World) : Prop where
  a : BoxAt w g A wr
  b : BoxAt w (g + 1) B wr
theorem Two2.on {w w1 w2 : World} {g : Nat} {A B : List Value} (h : Two2 w g A B w1) (hb : Below w1.heap.size w1 w2) : Two2 w g A B w2 := ⟨h.a.on hb, h.b.on hb⟩
theorem cells12 {w wr : World} {g : Nat} {a0 a1 a2 a3 a4 a5 b0 b1 b2 b3 b4 b5 : Value} (h : Two2 w g [a0, a1, a2, a3, a4, a5] [b0, b1, b2, b3, b4, b5] wr) :
    wr.cell? ⟨g, 0, none⟩ = some a0 ∧ wr.cell? ⟨g, 1, none⟩ = some a1 ∧ wr.cell? ⟨g, 2, none⟩ = some a2 ∧ wr.cell? ⟨g, 3, none⟩ = some a3 ∧ wr.cell? ⟨g, 4, none⟩ = some a4 ∧ wr.cell? ⟨g, 5, none⟩ = some a5 ∧
    wr.cell? ⟨g + 1, 0, none⟩ = some b0 ∧ wr.cell? ⟨g + 1, 1, none⟩ = some b1 ∧ wr.cell? ⟨g + 1, 2, none⟩ = some b2 ∧ wr.cell? ⟨g + 1, 3, none⟩ = some b3 ∧ wr.cell? ⟨g + 1, 4, none⟩ = some b4 ∧ wr.cell? ⟨g + 1, 5, none⟩ = some b5 ∧ Two2 w g [a0, a1, a2, a3, a4, a5] [b0, b1, b2, b3, b4, b5] wr :=
  ⟨h.a.cell 0 _ rfl, h.a.cell 1 _ rfl, h.a.cell 2 _ rfl, h.a.cell 3 _ rfl, h.a.cell 4 _ rfl, h.a.cell 5 _ rfl, h.b.cell 0 _ rfl, h.b.cell 1 _ rfl, h.b.cell 2 _ rfl, h.b.cell 3 _ rfl, h.b.cell 4 _ rfl, h.b.cell 5 _ rfl, h⟩
theorem two2_mk (w : World) (A B : List Value) (t : TypeId) : Two2 w w.heap.size A B ((w.alloc (.cells A.toArray t)).alloc (.cells B.toArray t)) := by
  have h1 := box_mk w A t
  have h2 := box_mk (w.alloc (.cells A.toArray t)) B t
  have e : (w.alloc (.cells A.toArray t)).heap.size = w.heap.size + 1 := by simp
  rw [e] at h2
  exact ⟨h1.on ((Below.refl _ _).alloc (Nat.le_refl _) _), ⟨h1.below.trans (h2.below.mono (by omega)), h2.lt, h2.cell⟩⟩
end WW
namespace Go.Proofs.Ytphlpgdbngbplaa
open WW BB
end Go.Proofs.Ytphlpgdbngbplaa
