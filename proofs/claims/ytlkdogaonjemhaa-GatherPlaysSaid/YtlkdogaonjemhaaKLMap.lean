/-
  A map that counts: what it reads as, key by key; and the code's own times and Distinct.
-/
import Derived.Test.YtlkdogaonjemhaaKLNum
import Derived.Maps.RangeWalk
import Derived.Maps.OwnOps
import Derived.Maps.OwnSet
import Derived.Maps.Ext
open Go Go.RowKit
namespace WW
open BB Go.Maps
/-- how a key is spelled, and a number -/
def keyI (x : Int) : Lit := .int .i64 x
def numM (x : Int) : DataW Unit := .lit (.int .i64 x)
/-- D counts the numbers of l that are from 0 below n -/
structure MapIs (D : DataW Unit) (l : List Int) (n : Int) : Prop where
  tidy : Tidy D
  has : ∀ x, Maps.has D (keyI x) = decide (x ∈ onceL l n)
  size : Maps.size D = (onceL l n).length
  at_ : ∀ x, ∃ c : Int, D.atKey (keyI x) (numM 0) = numM c ∧ 0 ≤ c ∧ c ≤ l.length ∧ (0 < c ↔ x ∈ onceL l n)
theorem keyI_ne {x y : Int} (h : x ≠ y) : keyI x ≠ keyI y := fun e => h (by unfold keyI at e; injection e)
theorem MapIs.empty (n : Int) : MapIs (.map []) [] n :=
  ⟨tidy_empty, fun x => rfl, rfl, fun x => ⟨0, rfl, by simp, by simp, by simp [onceL]⟩⟩
theorem once_app (l : List Int) (n y : Int) : onceL (l ++ [y]) n = onceStep n (onceL l n) y := by
  unfold onceL; rw [List.foldl_append]; rfl
theorem once_mem_app (l : List Int) (n y x : Int) (h : 0 ≤ y ∧ y < n) : x ∈ onceL (l ++ [y]) n ↔ x = y ∨ x ∈ onceL l n := by
  rw [once_app]; unfold onceStep
  split
  · rw [List.mem_append, List.mem_singleton]; exact Or.comm
  · rename_i hn
    have : y ∈ onceL l n := Classical.not_not.1 fun hy => hn ⟨h.1, h.2, hy⟩
    exact ⟨Or.inr, fun h => h.elim (fun e => e ▸ this) id⟩
/-- one that counts comes -/
theorem MapIs.put {D : DataW Unit} {l : List Int} {n y c : Int} (h : MapIs D l n) (hy : 0 ≤ y ∧ y < n) (hc : D.atKey (keyI y) (numM 0) = numM c) : MapIs (D.put (keyI y) (numM (c + 1))) (l ++ [y]) n := by
  have hM : IsMap D := h.tidy.isMap
  have hk : WideAt.IsKeyLit (keyI y) := trivial
  obtain ⟨c', hc', c0, cl, ci⟩ := h.at_ y
  obtain rfl : c' = c := by rw [hc] at hc'; unfold numM at hc'; injection hc' with e; injection e with _ e; exact e.symm
  refine ⟨h.tidy.put hk _, fun x => ?_, ?_, fun x => ?_⟩
  · by_cases e : x = y
    · subst e
      rw [has_put_same hM hk]; symm; rw [decide_eq_true_eq, once_mem_app l n x x hy]; exact Or.inl rfl
    · rw [has_put_other (keyI_ne e), h.has, Bool.eq_iff_iff, decide_eq_true_eq, decide_eq_true_eq, once_mem_app l n y x hy]
      exact ⟨Or.inr, fun k => k.elim (fun k => absurd k e) id⟩
  · rw [size_put h.tidy, h.has, h.size, once_app]
    unfold onceStep
    by_cases hm : y ∈ onceL l n
    · rw [if_pos (by simpa using hm), if_neg (by simp [hm])]
    · rw [if_neg (by simpa using hm), if_pos ⟨hy.1, hy.2, hm⟩]; simp
  · by_cases e : x = y
    · subst e
      exact ⟨c' + 1, atKey_put_same hM hk _ _, by omega, by simp; omega, by rw [once_mem_app l n x x hy]; exact ⟨fun _ => Or.inl rfl, fun _ => by omega⟩⟩
    · obtain ⟨d, hd, d0, dl, di⟩ := h.at_ x
      exact ⟨d, by rw [atKey_put_other (keyI_ne e)]; exact hd, d0, by simp; omega, by
        rw [once_mem_app l n y x hy, di]; exact ⟨Or.inr, fun k => k.elim (fun k => absurd k e) id⟩⟩
/-- one that doesn't -/
theorem MapIs.skip {D : DataW Unit} {l : List Int} {n y : Int} (h : MapIs D l n) (hy : ¬ (0 ≤ y ∧ y < n)) : MapIs D (l ++ [y]) n := by
  have e : onceL (l ++ [y]) n = onceL l n := by
    rw [once_app]; unfold onceStep; rw [if_neg fun k => hy ⟨k.1, k.2.1⟩]
  refine ⟨h.tidy, fun x => by rw [e]; exact h.has x, by rw [e]; exact h.size, fun x => ?_⟩
  obtain ⟨d, hd, d0, dl, di⟩ := h.at_ x
  exact ⟨d, hd, d0, by simp; omega, by rw [e]; exact di⟩
theorem take_snoc (l : List Int) (i : Nat) (h : i < l.length) : l.take (i + 1) = l.take i ++ [l.getD i 0] := by
  rw [List.take_succ_eq_append_getElem h]; simp [List.getD, List.getElem?_eq_getElem h]
theorem wf_i64_mk {x : Int} (h0 : -9223372036854775808 ≤ x) (h1 : x ≤ 9223372036854775807) : (Lit.int .i64 x).wf = true := by
  simp [Lit.wf, IntKind.min, IntKind.max, IntKind.signed, IntKind.bits]; omega
theorem once_sub (l : List Int) (n : Int) : ∀ i, i ≤ l.length → ((onceL (l.take i) n).length : Int) ≤ i := fun i h => by
  have := once_len l n i h; omega
end WW
namespace Go.Proofs.Ytlkdogaonjemhaa
open WW BB
theorem law_int : Go.Maps.Keyed Try.prog 3 := Go.Maps.int_keyed Try.underlying3
theorem zero_int (w : World) : (zeroValue 3).run Try.prog w = .ok (.int .i64 0) w := by first | exact Try.zeroValue3 w | exact run_zeroValue (by kernel_rfl)
/-- block b counts l's numbers from 0 below n -/
def CountsAt (w : World) (b : Nat) (m : Nat) (l : List Int) (n : Int) : Prop := ∃ D : DataW Unit, w.ownsMap Try.prog 3 (plainElem Try.prog 3) b m D ∧ MapIs D l n
end Go.Proofs.Ytlkdogaonjemhaa
