/-
  slices.Sort and slices.Clone of ints, as the shelf has them, in the words of rows that a call owns; and the code's Top.
-/
import Derived.Test.YtlkdogaonjemhaaKLMap
import Derived.Test.YtlkdogaonjemhaaShelf
import Derived.Sort.OwnSortedInts
open Go Go.RowKit
namespace WW
open BB
/-- l, rising -/
def sortI (l : List Int) : List Int := l.mergeSort fun x y => decide (x ≤ y)
theorem sort_perm (l : List Int) : (sortI l).Perm l := List.mergeSort_perm _ _
theorem sort_len (l : List Int) : (sortI l).length = l.length := (sort_perm l).length_eq
theorem sort_mem (l : List Int) (x : Int) : x ∈ sortI l ↔ x ∈ l := (sort_perm l).mem_iff
theorem sort_rise (l : List Int) : (sortI l).Pairwise (fun x y => x ≤ y) := by
  have h := List.pairwise_mergeSort (le := fun (x y : Int) => decide (x ≤ y)) (by intro a b c; simp; omega) (by intro a b; simp; omega) l
  exact h.imp fun h => by simpa using h
theorem below_row {B g : Nat} {a b c : World} (h : Below B a b) (hg : b.grownBy c (some g)) (hB : B ≤ b.heap.size) (hb : B ≤ g) : Below B a c := h.grown hg hB (fun j hj => by cases hj; exact hb)
theorem above_like_le (l : List Int) (y : Int) : aboveI l y + likeI l y ≤ l.length := by
  unfold aboveI likeI
  induction l with
  | nil => simp
  | cons a l ih =>
    rw [List.countP_cons, List.countP_cons, List.length_cons]
    by_cases h1 : y < a <;> by_cases h2 : a = y <;> simp [h1, h2] <;> omega
theorem above_none {l : List Int} {y : Int} (h : ∀ a ∈ l, a ≤ y) : aboveI l y = 0 := by
  unfold aboveI; rw [List.countP_eq_zero]; intro a ha; have := h a ha; simp; omega
theorem above_all {l : List Int} {y : Int} (h : ∀ a ∈ l, y < a) : aboveI l y = l.length := by
  unfold aboveI; rw [List.countP_eq_length]; intro a ha; simpa using h a ha
theorem like_none {l : List Int} {y : Int} (h : ∀ a ∈ l, a ≠ y) : likeI l y = 0 := by
  unfold likeI; rw [List.countP_eq_zero]; intro a ha; simpa using h a ha
theorem above_like_all {l : List Int} {y : Int} (h : ∀ a ∈ l, y ≤ a) : aboveI l y + likeI l y = l.length := by
  unfold aboveI likeI
  induction l with
  | nil => simp
  | cons a l ih =>
    have ih := ih fun b hb => h b (List.mem_cons_of_mem _ hb)
    have ha := h a (List.mem_cons_self ..)
    rw [List.countP_cons, List.countP_cons, List.length_cons]
    by_cases h1 : y < a <;> by_cases h2 : a = y <;> simp [h1, h2] <;> omega
theorem ints_cell {w : World} {g n cap : Nat} {l : List Int} (h : IntsAt w (.slice (some ⟨g, 0, none⟩) n cap) l) (i : Nat) (hi : i < l.length) : w.cell? ⟨g, i, none⟩ = some (.int .i64 (l.getD i 0)) := by
  obtain ⟨a0, c, he, _, h | ⟨b, off, rfl, hb, hc⟩⟩ := h
  · rw [h] at hi; simp at hi
  · injection he with e1 e2 e3
    injection e1 with e1
    injection e1 with e1 e4
    subst e1 e4
    have := hc i hi
    rwa [Nat.zero_add] at this
/-- the k-th from above of a rising list -/
theorem top_sorted (l : List Int) (k : Nat) (h1 : 1 ≤ k) (h2 : k ≤ l.length) : topI l (k : Int) = (sortI l).getD (l.length - k) 0 := by
  have hlen := sort_len l
  have hlt : l.length - k < (sortI l).length := by omega
  have hR := sort_rise l
  have ab : ∀ y, aboveI l y = aboveI (sortI l) y := fun y => ((sort_perm l).countP_eq _).symm
  have li : ∀ y, likeI l y = likeI (sortI l) y := fun y => ((sort_perm l).countP_eq _).symm
  obtain ⟨x, hx⟩ : ∃ x, (sortI l).getD (l.length - k) 0 = x := ⟨_, rfl⟩
  have hx' : (sortI l)[l.length - k] = x := by rw [← hx]; simp [List.getD, List.getElem?_eq_getElem hlt]
  rw [hx]
  obtain ⟨A, hA⟩ : ∃ A, (sortI l).take (l.length - k) = A := ⟨_, rfl⟩
  obtain ⟨B, hB⟩ : ∃ B, (sortI l).drop (l.length - k + 1) = B := ⟨_, rfl⟩
  have hsplit : sortI l = A ++ x :: B := by
    rw [← hx', ← hA, ← hB, List.getElem_cons_drop, List.take_append_drop]
  have hAB : A.length + (B.length + 1) = l.length := by rw [← hlen, hsplit, List.length_append, List.length_cons]
  have lA : A.length = l.length - k := by rw [← hA, List.length_take]; omega
  rw [hsplit, List.pairwise_append] at hR
  obtain ⟨_, hxB, hAx⟩ := hR
  rw [List.pairwise_cons] at hxB
  have hAx : ∀ a ∈ A, a ≤ x := fun a ha => hAx a ha x (List.mem_cons_self ..)
  have hxB := hxB.1
  have aS : ∀ y, aboveI (sortI l) y = aboveI A y + ((if y < x then 1 else 0) + aboveI B y) := fun y => by
    rw [hsplit]; unfold aboveI; rw [List.countP_append, List.countP_cons]; simp; omega
  have lS : ∀ y, likeI (sortI l) y = likeI A y + ((if x = y then 1 else 0) + likeI B y) := fun y => by
    rw [hsplit]; unfold likeI; rw [List.countP_append, List.countP_cons]; simp; omega
  have fit : topOk l (k : Int) x = true := by
    unfold topOk
    rw [decide_eq_true_eq, ab, li, aS, lS, above_none hAx, if_neg (Int.lt_irrefl x), if_pos rfl]
    have := above_like_all hxB
    omega
  have only : ∀ y, topOk l (k : Int) y = true → y = x := by
    intro y hy
    unfold topOk at hy
    rw [decide_eq_true_eq, ab, li, aS, lS] at hy
    rcases Int.lt_trichotomy y x with h | h | h
    · rw [if_pos h, above_all (l := B) (y := y) fun a ha => Int.lt_of_lt_of_le h (hxB a ha)] at hy
      omega
    · exact h
    · have e1 : aboveI A y = 0 := above_none fun a ha => by have := hAx a ha; omega
      have e2 : likeI A y = 0 := like_none fun a ha => by have := hAx a ha; omega
      have e3 := above_like_le B y
      rw [if_neg (by omega), if_neg (by omega), e1, e2] at hy
      omega
  have hmem : x ∈ l := (sort_mem l x).1 (by rw [← hx']; exact List.getElem_mem hlt)
  unfold topI
  rcases hf : l.find? (topOk l (k : Int)) with _ | y
  · have := List.find?_eq_none.1 hf x hmem
    exact absurd fit this
  · exact only y (List.find?_some hf)
end WW
namespace Go.Proofs.Ytlkdogaonjemhaa
open WW BB Go.Sort
set_option maxRecDepth 100000 in
/-- slices.Sort of a row of the call's own -/
theorem sort_own (l : List Int) (v : Value) (base : Nat) (w : World) (h : w.ownsRow base 3 1 v l.length (l.map (Value.int .i64))) (hs : l.length ≤ 1000) : Calls Try.prog 23 #[v] w fun e w' => e = .returned (.tuple #[]) ∧ w'.ownsRow base 3 1 v l.length ((sortI l).map (Value.int .i64)) ∧ Below base w w' := by
  rcases h.2 with ⟨rfl, h0⟩ | ⟨g, cap, cur, rfl, hg, hh, hn, hcm, hsz, htk⟩
  · have : l = [] := List.eq_nil_of_length_eq_zero h0
    subst this
    exact (Any.slices_Sort_int_none Try.lays189 none 0 w).mono fun e w' ⟨he, hw⟩ => ⟨he, by rw [hw, show sortI [] = [] by simp [sortI]]; exact h, hw ▸ Below.refl _ _⟩
  · rw [Nat.mul_one] at htk
    have hlt : g < w.heap.size := (Array.getElem?_eq_some_iff.1 hh).1
    refine (Any.slices_Sort_int Try.lays189 g 0 cap l w (holds_of_blockI hh htk) hlt (by omega)).mono ?_
    rintro e w' ⟨he, n, os, rfl⟩
    refine ⟨he, ?_, ?_⟩
    · have := ownsRow_sortedI (n := n) (os := os) (ss := l) (ts := sortI l) (sort_len l) hg hh hn hcm hsz
      exact sort_len l ▸ this
    · exact (Below.refl base w).grown (grownBy_sortedI (w := w) (g := g) (n := n) (os := os) (sortI l).toArray) (by omega) (fun j hj => by cases hj; exact hg)
/-- slices.Clone of a slice that came in -/
theorem clone_own (l : List Int) (v : Value) (w : World) (h : IntsAt w v l) (h0 : l ≠ []) (hs : l.length ≤ 1000) : Calls Try.prog 22 #[v] w fun e w' => ∃ g cap, w.heap.size ≤ g ∧ g < w'.heap.size ∧ e = .returned (.slice (some ⟨g, 0, none⟩) l.length cap) ∧ w'.ownsRow w.heap.size 3 1 (.slice (some ⟨g, 0, none⟩) l.length cap) l.length (l.map (Value.int .i64)) ∧ Below w.heap.size w w' := by
  obtain ⟨a0, cap, rfl, _, h | ⟨b, off, rfl, hb, hc⟩⟩ := h
  · exact absurd h h0
  refine (Any.slices_Clone_int Try.lays215 b off l.length cap l w (Nat.le_refl _) (by omega) hc).mono ?_
  rintro e w' ⟨v', rfl, hown, _, hbw⟩
  rw [List.take_length] at hown
  have hO := hown
  rcases hown.2 with ⟨_, h⟩ | ⟨g, cap', cur, rfl, hg, hh, hn, hcm, hsz, htk⟩
  · exact absurd (List.eq_nil_of_length_eq_zero h) h0
  · exact ⟨g, cap', hg, (Array.getElem?_eq_some_iff.1 hh).1, rfl, hO, hbw⟩
set_option maxRecDepth 100000 in
set_option maxHeartbeats 2000000 in
theorem ctop_any (l : List Int) (v : Value) (k : Int) (w : World) (hv : IntsAt w v l) (hs : l.length ≤ 1000) : Calls Try.prog 18 #[v, .int .i64 k] w fun e w' => e = .returned (.int .i64 (if 1 ≤ k ∧ k ≤ (l.length : Int) then topI l k else 0)) ∧ Below w.heap.size w w' := by
  have HV := Lib.hid hv
  have HS := Lib.hid hs
  obtain ⟨a0, cap, rfl, _, hx⟩ := hv
  clear hx
  by_cases k1 : 1 ≤ k
  · by_cases k2 : k ≤ (l.length : Int)
    · rw [if_pos ⟨k1, k2⟩]
      obtain ⟨T, hT⟩ : ∃ T, topI l k = T := ⟨_, rfl⟩
      obtain ⟨m, rfl⟩ : ∃ m : Nat, k = (m : Int) := ⟨k.toNat, by omega⟩
      have m1 : 1 ≤ m := by omega
      have m2 : m ≤ l.length := by omega
      have HT := Lib.hid (show (sortI l).getD (l.length - m) 0 = T by rw [← top_sorted l m m1 m2, hT])
      have HM := Lib.hid (show ((l.length - m : Nat) : Int) = (l.length : Int) - (m : Int) by omega)
      have HL := Lib.hid (show l.length - m < l.length by omega)
      have h0 : l ≠ [] := by rintro rfl; simp at m2; omega
      have lb : (l.length : Int) ≤ 1000 := by omega
      rw [hT]
      clear hT hs
      have HH0 := Lib.hid h0
      clear h0 m1 m2
      go_enter Try.func18, Try.ntmps18
      go_wp2_with (first
        | (go_at_call 22; refine (clone_own l _ w HV.out HH0.out HS.out).mono ?_; rintro e w1 ⟨g, cap1, hg0, hg1, rfl, hown, hb1⟩; have HO := Lib.hid hown; have B1 := Lib.hid hb1; have HG := Lib.hid hg0; clear hown hb1 hg0)
        | (go_at_call 23; refine (sort_own l _ w.heap.size w1 HO.out HS.out).mono ?_; rintro e w2 ⟨rfl, hown2, hb2⟩; have B2 := Lib.hid (B1.out.trans hb2); have hcl := ints_cell (ints_own hown2) (l.length - m) (by rw [sort_len]; exact HL.out); rw [HT.out] at hcl; clear hown2 hb2))
      go_ret
      exact ⟨rfl, B2.out⟩
    · rw [if_neg (by omega)]
      have k2' : (l.length : Int) < k := by omega
      go_enter Try.func18, Try.ntmps18
      go_wp2_with fail
      go_ret
      exact ⟨rfl, Below.refl _ _⟩
  · rw [if_neg (by omega)]
    have k1' : k < 1 := by omega
    go_enter Try.func18, Try.ntmps18
    go_wp2_with fail
    go_ret
    exact ⟨rfl, Below.refl _ _⟩
end Go.Proofs.Ytlkdogaonjemhaa
