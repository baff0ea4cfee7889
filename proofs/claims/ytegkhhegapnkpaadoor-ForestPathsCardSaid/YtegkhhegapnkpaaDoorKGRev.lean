/-
  slices.Reverse of a row of the call's own.
-/
import Derived.Test.YtegkhhegapnkpaaDoorShelf
import Derived.Test.YtegkhhegapnkpaaDoorKJBox
import Derived.Test.YtegkhhegapnkpaaDoorKGLook
import Derived.Shelf.Slices.ReverseS
import Derived.Lib.RowBridge
open Go Go.RowKit
namespace FF
open WW BB
/-- a whole row is written: what is there then -/
theorem cells_all (b : Nat) (t : TypeId) : ∀ (vs : List Value) (o : Nat) (w : World) (cur : Array Value), w.heap[b]? = some (.cells cur t (0, 0)) → o + vs.length ≤ cur.size →
    ∃ cur', (w.setCells b o vs).heap[b]? = some (.cells cur' t (0, 0)) ∧ cur'.size = cur.size ∧ (∀ j, j < o → cur'[j]? = cur[j]?) ∧ ∀ j, j < vs.length → cur'[o + j]? = vs[j]?
  | [], _, _, cur, h, _ => ⟨cur, h, rfl, fun _ _ => rfl, fun _ h => absurd h (Nat.not_lt_zero _)⟩
  | v :: r, o, w, cur, h, hl => by
    have h1 : (w.setCell ⟨b, o, none⟩ v).heap[b]? = some (.cells (cur.setIfInBounds o v) t (0, 0)) := by
      unfold World.setCell
      simp only [Array.getElem?_modify, if_true, h, Option.map_some]
      rfl
    obtain ⟨cur', k1, k2, k3, k4⟩ := cells_all b t r (o + 1) _ _ h1 (by simp at hl ⊢; omega)
    refine ⟨cur', k1, by rw [k2]; simp, fun j hj => ?_, fun j hj => ?_⟩
    · rw [k3 j (by omega), Array.getElem?_setIfInBounds, if_neg (by omega)]
    · cases j with
      | zero =>
        rw [Nat.add_zero, k3 o (by omega), Array.getElem?_setIfInBounds, if_pos rfl, if_pos (by simp at hl; omega)]; rfl
      | succ j =>
        rw [show o + (j + 1) = o + 1 + j by omega, k4 j (by simpa using hj)]; rfl
theorem take_vs {a : Array Value} {vs : List Value} (h : ∀ j, j < vs.length → a[0 + j]? = vs[j]?) : a.toList.take vs.length = vs := by
  apply List.ext_getElem?
  intro j
  by_cases hj : j < vs.length
  · rw [List.getElem?_take_of_lt hj, Array.getElem?_toList, ← h j hj, Nat.zero_add]
  · rw [List.getElem?_take_eq_none (by omega), List.getElem?_eq_none (by omega)]
end FF
namespace Go.Proofs.YtegkhhegapnkpaaDoor
open FF WW BB Go.Shelf Go.Lib Go.Sort
theorem holds_strs {w : World} {g : Nat} {cur : Array Value} {t : TypeId} {l : List ByteArray} (hh : w.heap[g]? = some (.cells cur t (0, 0))) (htk : cur.toList.take l.length = l.map Value.string) : Holds encStr w g 0 (l.map fun b => b.data.toList).toArray := by
  intro j hj
  have hj' : j < l.length := by simpa using hj
  have hc : cur[j]? = some (.string l[j]) := by
    have := congrArg (fun z => z[j]?) htk
    simp only [List.getElem?_take_of_lt hj', Array.getElem?_toList, List.getElem?_map, List.getElem?_eq_getElem hj', Option.map_some] at this
    exact this
  refine ⟨?_, ?_⟩
  · simp only [Nat.zero_add, World.cell?, hh, hc]
    simp [encStr, List.getElem?_eq_getElem hj']
  · simp [World.frozen?, hh]
theorem rev_own (l : List ByteArray) (v : Value) (base : Nat) (w : World) (h : w.ownsRow base 9 1 v l.length (l.map Value.string)) (hs : l.length ≤ 100000) :
    Calls Tryd.prog 97 #[v] w fun e w' => e = .returned (.tuple #[]) ∧ w'.ownsRow base 9 1 v l.length (l.reverse.map Value.string) ∧ w.grownBy w' v.ownBlock := by
  rcases h.2 with ⟨rfl, h0⟩ | ⟨g, cap, cur, rfl, hg, hh, hn, hcm, hsz, htk⟩
  · have : l = [] := List.eq_nil_of_length_eq_zero h0
    subst this
    exact (Any.slices_Reverse_string_empty Tryd.lays217 none 0 w).mono fun e w' ⟨he, hw⟩ => ⟨he, by rw [hw]; exact h, hw ▸ ⟨rfl, rfl, rfl, Nat.le_refl _, fun _ _ _ => rfl⟩⟩
  · rw [Nat.mul_one] at htk hsz
    have hH := holds_strs hh htk
    have hc := Any.slices_Reverse_string Tryd.lays217 g 0 cap (l.map fun b => b.data.toList) w hH (by simp; omega)
    rw [List.length_map] at hc
    refine hc.mono ?_
    rintro e w' ⟨he, q, rfl⟩
    refine ⟨he, ?_⟩
    have hlen : (l.map fun b => b.data.toList).reverse.length = (l.map fun b => b.data.toList).toArray.size := by simp
    have he1 := putRow_eq_setCells encStr w g 0 _ _ q hH hlen
    rw [he1]
    have hm : ((l.map fun b => b.data.toList).reverse.map encStr) = l.reverse.map Value.string := by
      rw [← List.map_reverse, List.map_map]
      apply List.map_congr_left
      intro b _
      simp [encStr]
    rw [hm]
    obtain ⟨cur', k1, k2, _, k4⟩ := cells_all g 9 (l.reverse.map Value.string) 0 (w.drewN q) cur (by simpa using hh) (by simp; omega)
    have hl : (l.reverse.map Value.string).length = l.length := by simp
    refine ⟨⟨by rw [hl, Nat.mul_one], Or.inr ⟨g, cap, cur', rfl, hg, k1, hn, hcm, by rw [k2, hsz, Nat.mul_one], ?_⟩⟩, ?_⟩
    · rw [Nat.mul_one, ← hl]
      exact take_vs k4
    · have hk := keepC g (l.reverse.map Value.string) 0 (w.drewN q)
      exact ⟨hk.os, hk.tape, hk.output, hk.size, fun k hk1 hk2 => hk.block k hk1 fun e => hk2 (by rw [e]; rfl)⟩
end Go.Proofs.YtegkhhegapnkpaaDoor
