/-
  A slice of bytes of the call's own, as []byte(s) and append leave it.
-/
import Derived.Test.YthajnkcipifhcaaGreatDoorKCallsW
import Derived.ArgAppend
import Derived.Laws.IdiomStrings
open Go Go.RowKit
namespace BB
/-- v is a slice over the bytes A, in a block of its own from base on -/
def BRow (e : TypeId) (w : World) (base : Nat) (v : Value) (A : List UInt8) : Prop :=
  ∃ g cap cur fr, v = .slice (some ⟨g, 0, none⟩) A.length cap ∧ base ≤ g ∧ w.heap[g]? = some (.cells cur e fr) ∧ cur.size = cap ∧ A.length ≤ cap ∧ (fr = (0, 0) ∨ cap ≤ fr.1) ∧
    ∀ j, j < A.length → cur[j]? = some (.int .u8 (sb A j : Int))
section
variable {e : TypeId} {w w' : World} {base B : Nat} {v : Value} {A : List UInt8}
theorem BRow.below (h : BRow e w base v A) (hb : Below B w w') (hB : w.heap.size ≤ B) : BRow e w' base v A := by
  obtain ⟨g, cap, cur, fr, rfl, hg, hh, r⟩ := h
  have hlt : g < w.heap.size := by
    rcases Nat.lt_or_ge g w.heap.size with h | h
    · exact h
    · rw [Array.getElem?_eq_none h] at hh; cases hh
  exact ⟨g, cap, cur, fr, rfl, hg, (hb.block g (by omega)).trans hh, r⟩
theorem brow_conv (w : World) (s : ByteArray) : BRow e (w.drew.alloc (.cells (bytesRow s (grownCap w s.size 0 e)) e ((bytesRow s (grownCap w s.size 0 e)).size, (bytesRow s (grownCap w s.size 0 e)).size + 1))) w.heap.size
    (.slice (some ⟨w.heap.size, 0, none⟩) s.size (grownCap w s.size 0 e)) s.data.toList := by
  have hge := grownCap_ge w s.size 0 e
  have hs : (bytesRow s (grownCap w s.size 0 e)).size = grownCap w s.size 0 e := by
    unfold bytesRow
    simp only [Array.size_append, Array.size_map, Array.size_replicate]
    show s.size + _ = _
    omega
  refine ⟨w.heap.size, grownCap w s.size 0 e, bytesRow s (grownCap w s.size 0 e), ((bytesRow s (grownCap w s.size 0 e)).size, (bytesRow s (grownCap w s.size 0 e)).size + 1), by rw [Array.length_toList]; rfl, Nat.le_refl _, by show (w.heap.push _)[w.heap.size]? = _; simp, hs, by rw [Array.length_toList]; exact hge, Or.inr (by rw [hs]; exact Nat.le_refl _), fun j hj => ?_⟩
  rw [Array.length_toList] at hj
  unfold bytesRow
  rw [Array.getElem?_append_left (by simpa using hj)]
  simp only [sb, List.getD_eq_getElem?_getD, Array.getElem?_toList, Array.getElem?_map, Array.getElem?_eq_getElem hj, Option.map_some, Option.getD_some]
section
variable {P : Program} {ops : Array Oper} {Q : Exit → Act → World → Prop} {a : Act} {rest : List Oper} {o : Oper}
theorem wpl_append0 (hg : o.guard = none) (s x : Operand) (t : TypeId) (hop : o.op = Op.call { callee := Callee.builtin Builtin.append, args := #[s, x], argTypes := #[t, t] })
    (i : TypeInfo) (h1 : P.underlying t = some (.slice e)) (h2 : P.info? e = some i) (h3 : i.zero = some (.int .u8 0)) (h4 : i.size = 1) (h5 : i.bytes = 1)
    (hv : a.eval s = v) (hrow : BRow e w base v A) (hbase : base ≤ w.heap.size) (ad : Addr) (c : Nat) (hx : a.eval x = .slice (some ad) 1 c) (hc : w.cell? ad = some (.int .u8 0)) (hl : A.length < 1099511627776)
    (hK : ∀ v' w', BRow e w' base v' (A ++ [0]) → Below base w w' → wpList P ops Q rest (a.put o.dst v') w') : wpList P ops Q (o :: rest) a w := by
  obtain ⟨g, cap, cur, fr, rfl, hgb, hh, hsz, hle, hfr, hcur⟩ := hrow
  have hcell : ∀ j, w.cell? ⟨g, j, none⟩ = cur[j]? := fun j => by unfold World.cell?; rw [hh]; simp
  have hfz : ∀ j, j < cap → w.frozen? ⟨g, j, none⟩ = false := fun j hj => by
    unfold World.frozen?; rw [hh]
    rcases hfr with rfl | h
    · simp
    · obtain ⟨lo, hi⟩ := fr
      simp only [Bool.and_eq_false_iff, decide_eq_false_iff_not]
      left
      have : cap ≤ lo := h
      show ¬ lo ≤ j
      omega
  refine wpList_append_arg w hg s x t hop e i (.int .u8 0) 1 1 h1 h2 h3 h4 h5 rfl (by decide) g 0 A.length cap ((List.range A.length).map fun j => .int .u8 (sb A j : Int)) hv (by simp) (fun j u hj => ?_) ad 1 c [.int .u8 0] hx rfl (fun j u hj => ?_) (fun u hu => ?_) (fun hroom j hj => ?_) (by unfold maxLen; omega) (by omega) (fun hroom => ?_) (fun hgrow v' w' hown hgr => ?_)
  · rw [Nat.zero_add, hcell]
    have hj' : j < A.length := by
      rcases Nat.lt_or_ge j A.length with h | h
      · exact h
      · rw [List.getElem?_eq_none (by simpa using h)] at hj; cases hj
    rw [hcur j hj', ← hj]; simp [hj']
  · match j, hj with
    | 0, hj => simp at hj; subst hj; simpa [Addr.add] using hc
    | j + 1, hj => simp at hj
  · simp at hu; subst hu; rfl
  · have hj0 : j = 0 := by simpa using hj
    subst hj0
    refine ⟨?_, hfz _ (by omega)⟩
    rw [hcell, Array.getElem?_eq_getElem (show 0 + A.length * 1 + 0 < cur.size by omega)]; rfl
  · have e1 : w.setCells g (0 + A.length * 1) [.int .u8 0] = w.setCell ⟨g, A.length, none⟩ (.int .u8 0) := by
      simp [World.setCells]
    rw [e1]
    have hlen : (A ++ [0]).length = A.length + 1 := by simp
    refine hK _ _ ⟨g, cap, cur.setIfInBounds A.length (.int .u8 0), fr, by rw [hlen], hgb, ?_, by simpa using hsz, by omega, hfr, fun j hj => ?_⟩ ((Below.refl _ _).setCell hgb _)
    · unfold World.setCell
      simp only [Array.getElem?_modify, if_true, hh, Option.map_some]
      simp
    · rw [Array.getElem?_setIfInBounds]
      by_cases hja : A.length = j
      · subst hja
        rw [if_pos rfl, if_pos (by omega)]
        simp [sb]
      · rw [if_neg hja, hcur j (by omega)]
        simp [sb, List.getElem?_append_left (show j < A.length by omega)]
  · rcases hown.2 with ⟨_, h0⟩ | ⟨g', cap', cur', rfl, hg', hh', hn', _, hsz', htk⟩
    · omega
    · have hlen : (A ++ [0]).length = A.length + 1 := by simp
      refine hK _ _ ⟨g', cap', cur', (0, 0), by rw [hlen], by omega, hh', by omega, by omega, Or.inl rfl, fun j hj => ?_⟩ ((Below.refl _ _).grown hgr hbase (fun k hk => by cases hk))
      rw [hlen] at hj
      have h6 := congrArg (·[j]?) htk
      simp only [Nat.mul_one, List.getElem?_take, if_pos hj, Array.getElem?_toList] at h6
      rw [h6]
      by_cases hja : j < A.length
      · rw [List.getElem?_append_left (by simpa using hja)]
        simp [sb, hja, List.getElem?_append_left hja]
      · have hj2 : j = A.length := by omega
        subst hj2
        rw [List.getElem?_append_right (by simp)]
        simp [sb]
end
end
end BB
