/-
  A row of signatures in memory that may be written. No program is named here.
-/
import Derived.Test.YtphlpgdbngbplaaKJMath
import Derived.Sort.LotA
section
open Go Go.RowKit
namespace CC
/-- a signature as it stands in memory: its node, its tags' slice, its tags -/
abbrev Sg := Int × (Option Addr × Nat) × List ByteArray
/-- its tags, as a slice -/
def tvS (x : Sg) : Value := .slice x.2.1.1 x.2.2.length x.2.1.2
/-- a signature's cells -/
def encS (x : Sg) : List Value := [.int .i64 x.1, tvS x]
instance instSg : Inhabited Sg := ⟨(0, (none, 0), [])⟩
def s0 : Sg := (0, (none, 0), [])
def ltS (x y : Sg) : Bool := decide (x.1 < y.1)
theorem swo_ltS : Sort.SWO ltS := ⟨fun x => by simp [ltS], fun x y z h1 h2 => by simp [ltS] at *; omega, fun x y z h1 h2 => by simp [ltS] at *; omega⟩
/-- those of one node -/
def ofN (c : Int) (l : List Sg) : List Sg := l.filter fun x => decide (x.1 = c)
theorem ofN_swap (c : Int) : ∀ (l : List Sg) (j : Nat), j + 1 < l.length → (l.getD (j + 1) s0).1 ≠ (l.getD j s0).1 → ofN c ((l.set (j + 1) (l.getD j s0)).set j (l.getD (j + 1) s0)) = ofN c l
  | [], j, h, _ => by simp at h
  | [x], j, h, _ => by simp at h
  | x :: y :: r, 0, _, hne => by
    have hne : y.1 ≠ x.1 := by simpa [List.getD] using hne
    show ofN c (y :: x :: r) = ofN c (x :: y :: r)
    unfold ofN
    by_cases h1 : x.1 = c
    · have h2 : ¬ y.1 = c := fun h => hne (h.trans h1.symm)
      simp [h1, h2]
    · by_cases h2 : y.1 = c <;> simp [h1, h2]
  | x :: y :: r, j + 1, h, hne => by
    have ih := ofN_swap c (y :: r) j (by simpa using h) (by simpa [List.getD] using hne)
    have e : ((x :: y :: r).set (j + 1 + 1) ((x :: y :: r).getD (j + 1) s0)).set (j + 1) ((x :: y :: r).getD (j + 1 + 1) s0) = x :: (((y :: r).set (j + 1) ((y :: r).getD j s0)).set j ((y :: r).getD (j + 1) s0)) := by
      simp [List.getD]
    rw [e]
    unfold ofN at ih ⊢
    rw [List.filter_cons, List.filter_cons, ih]
theorem getBang (d : Array Sg) (i : Nat) : d[i]! = d.toList.getD i s0 := by
  rw [Array.getElem!_eq_getD, Array.getD_eq_getD_getElem?, List.getD_eq_getElem?_getD, Array.getElem?_toList]; rfl
theorem ofN_swp (c : Int) (d : Array Sg) (j : Nat) (h : j + 1 < d.size) (hl : ltS d[j + 1]! d[j]! = true) : ofN c (Sort.swp d (j + 1) j).toList = ofN c d.toList := by
  unfold Sort.swp
  rw [Array.toList_setIfInBounds, Array.toList_setIfInBounds, getBang, getBang]
  rw [getBang, getBang] at hl
  have hl : (d.toList.getD (j + 1) s0).1 < (d.toList.getD j s0).1 := by simpa [ltS] using hl
  exact ofN_swap c d.toList j (by simpa using h) (by omega)
theorem ofN_inner (c : Int) (a : Nat) : ∀ (j : Nat) (d : Array Sg), j < d.size → ofN c (Sort.insInner ltS a j d).toList = ofN c d.toList ∧ (Sort.insInner ltS a j d).size = d.size
  | 0, d, _ => by unfold Sort.insInner; exact ⟨rfl, rfl⟩
  | j + 1, d, h => by
    unfold Sort.insInner
    split
    · rename_i hc
      simp only [Bool.and_eq_true, decide_eq_true_eq] at hc
      have ih := ofN_inner c a j (Sort.swp d (j + 1) j) (by rw [Sort.swp_size]; omega)
      exact ⟨ih.1.trans (ofN_swp c d j h hc.2), ih.2.trans (Sort.swp_size _ _ _)⟩
    · exact ⟨rfl, rfl⟩
theorem ofN_outer (c : Int) (a b : Nat) : ∀ (n i : Nat) (d : Array Sg), b - i ≤ n → b ≤ d.size → ofN c (Sort.insOuter ltS a b i d).toList = ofN c d.toList
  | 0, i, d, hn, hb => by
    unfold Sort.insOuter
    rw [if_neg (by omega)]
  | n + 1, i, d, hn, hb => by
    unfold Sort.insOuter
    split
    · rename_i hi
      have h1 := ofN_inner c a i d (by omega)
      rw [ofN_outer c a b n (i + 1) _ (by omega) (by rw [h1.2]; exact hb)]
      exact h1.1
    · rfl
/-- the signatures, by nodes; of each node's as they stood -/
def srt (l : List Sg) : List Sg := (Sort.insertionSort ltS l.toArray 0 l.length).toList
theorem srt_ofN (c : Int) (l : List Sg) : ofN c (srt l) = ofN c l := by
  unfold srt Sort.insertionSort
  rw [ofN_outer c 0 l.length (l.length - 1) 1 l.toArray (Nat.le_refl _) (by simp)]
theorem srt_spec (l : List Sg) : (srt l).length = l.length ∧ (srt l).Pairwise (fun x y => x.1 ≤ y.1) := by
  obtain ⟨⟨h1, _, _⟩, h2⟩ := Sort.insertionSort_holds swo_ltS l.toArray 0 l.length (Nat.zero_le _) (by simp)
  have hs : (srt l).length = l.length := by unfold srt; rw [Array.length_toList, h1]; simp
  refine ⟨hs, ?_⟩
  rw [List.pairwise_iff_getElem]
  intro i j hi hj hij
  have := h2 i j (Nat.zero_le _) hij (by omega)
  have e : ∀ k (hk : k < (srt l).length), (Sort.insertionSort ltS l.toArray 0 l.length)[k]! = (srt l)[k] := fun k hk => by
    rw [getBang]; show (srt l).getD k s0 = _; rw [List.getD_eq_getElem?_getD, List.getElem?_eq_getElem hk]; rfl
  rw [e i hi, e j hj] at this
  have : ¬ ((srt l)[j].1 < (srt l)[i].1) := by simpa [ltS] using this
  omega
/-- the j-th is the first of its node (the one ahead is another's) -/
def kp (d : List Sg) (j : Nat) : Bool := decide (j = 0 ∨ (d.getD j s0).1 ≠ (d.getD (j - 1) s0).1)
/-- of the first m those that are the first of their node -/
def cmpt (d : List Sg) (m : Nat) : List Sg := ((List.range m).filter (kp d)).map fun j => d.getD j s0
theorem cmpt_succ (d : List Sg) (m : Nat) : cmpt d (m + 1) = cmpt d m ++ (if kp d m = true then [d.getD m s0] else []) := by
  unfold cmpt
  rw [List.range_succ, List.filter_append, List.map_append]
  congr 1
  by_cases h : kp d m = true <;> simp [h]
theorem cmpt_all (d : List Sg) (m : Nat) (hm : m ≤ d.length) (h : ∀ j, j < m → kp d j = true) : cmpt d m = d.take m := by
  unfold cmpt
  rw [List.filter_eq_self.2 (fun j hj => h j (List.mem_range.1 hj))]
  apply List.ext_getElem
  · simp; omega
  · intro i h1 h2
    have hi : i < d.length := by simp at h1; omega
    simp [List.getD, List.getElem?_eq_getElem hi]
theorem cmpt_le (d : List Sg) (m : Nat) : (cmpt d m).length ≤ m := by
  unfold cmpt
  have := List.length_filter_le (kp d) (List.range m)
  simp at this ⊢; omega
/-- the signatures of a certificate: of each node the first, by nodes -/
def mkL (l : List Sg) : List Sg := cmpt (srt l) l.length
/-- what is known of them -/
theorem cmpt_spec (d : List Sg) (hd : d.Pairwise (fun x y => x.1 ≤ y.1)) : ∀ m, m ≤ d.length →
    (cmpt d m).Pairwise (fun x y => x.1 < y.1) ∧ (∀ x ∈ cmpt d m, 0 < m ∧ x.1 ≤ (d.getD (m - 1) s0).1) ∧ (0 < m → ∃ x ∈ cmpt d m, x.1 = (d.getD (m - 1) s0).1) ∧ ∀ c, ofN c (cmpt d m) = (ofN c (d.take m)).take 1
  | 0, _ => by
    refine ⟨by simp [cmpt], by simp [cmpt], by simp, fun c => by simp [cmpt, ofN]⟩
  | m + 1, hm => by
    obtain ⟨h1, h2, h3, h4⟩ := cmpt_spec d hd m (by omega)
    have hlt : m < d.length := by omega
    obtain ⟨y, hy⟩ : ∃ y, d.getD m s0 = y := ⟨_, rfl⟩
    have hy' : d[m] = y := by rw [← hy]; simp [List.getD, List.getElem?_eq_getElem hlt]
    have htk : d.take (m + 1) = d.take m ++ [y] := by rw [List.take_succ_eq_append_getElem hlt, hy']
    have hof : ∀ c, ofN c (d.take (m + 1)) = ofN c (d.take m) ++ (if y.1 = c then [y] else []) := fun c => by
      rw [htk]; unfold ofN; rw [List.filter_append]; congr 1; by_cases h : y.1 = c <;> simp [h]
    have hprev : 0 < m → (d.getD (m - 1) s0).1 ≤ y.1 := fun h0 => by
      have := (List.pairwise_iff_getElem.1 hd) (m - 1) m (by omega) hlt (by omega)
      rw [hy'] at this
      simpa [List.getD, List.getElem?_eq_getElem (show m - 1 < d.length by omega)] using this
    rw [cmpt_succ, hy]
    by_cases hk : kp d m = true
    · rw [if_pos hk]
      have hnew : ∀ x ∈ cmpt d m, x.1 < y.1 := fun x hx => by
        obtain ⟨g0, g1⟩ := h2 x hx
        have g2 := hprev g0
        have : y.1 ≠ (d.getD (m - 1) s0).1 := by
          have hk := of_decide_eq_true hk
          rw [hy] at hk
          rcases hk with hk | hk
          · omega
          · exact hk
        omega
      refine ⟨?_, ?_, fun _ => ⟨y, by simp, by rw [Nat.add_sub_cancel, hy]⟩, fun c => ?_⟩
      · rw [List.pairwise_append]
        exact ⟨h1, by simp, fun a ha b hb => by
          obtain rfl : b = y := by simpa using hb
          exact hnew a ha⟩
      · intro x hx
        refine ⟨by omega, ?_⟩
        rw [Nat.add_sub_cancel, hy]
        rcases List.mem_append.1 hx with hx | hx
        · have := hnew x hx; omega
        · obtain rfl : x = y := by simpa using hx
          exact Int.le_refl _
      · have e : ofN c (cmpt d m ++ [y]) = ofN c (cmpt d m) ++ (if y.1 = c then [y] else []) := by
          unfold ofN; rw [List.filter_append]; congr 1; by_cases h : y.1 = c <;> simp [h]
        rw [e, hof, h4]
        by_cases hc : y.1 = c
        · have hno : ofN c (cmpt d m) = [] := by
            unfold ofN
            rw [List.filter_eq_nil_iff]
            intro x hx
            have := hnew x hx
            simp; omega
          have hno2 : ofN c (d.take m) = [] := by
            have := h4 c
            rw [hno] at this
            cases hz : ofN c (d.take m) with
            | nil => rfl
            | cons a r => rw [hz] at this; simp at this
          rw [hno2, if_pos hc]; rfl
        · rw [if_neg hc, List.append_nil, List.append_nil]
    · rw [if_neg hk, List.append_nil]
      have hk' : m ≠ 0 ∧ y.1 = (d.getD (m - 1) s0).1 := by
        have : ¬ (m = 0 ∨ (d.getD m s0).1 ≠ (d.getD (m - 1) s0).1) := fun h => hk (decide_eq_true h)
        rw [hy] at this
        exact ⟨fun h => this (Or.inl h), Classical.byContradiction fun h => this (Or.inr h)⟩
      refine ⟨h1, fun x hx => ?_, fun _ => ?_, fun c => ?_⟩
      · obtain ⟨g0, g1⟩ := h2 x hx
        refine ⟨by omega, ?_⟩
        rw [Nat.add_sub_cancel, hy]
        have := hprev g0; omega
      · obtain ⟨x, hx, he⟩ := h3 (by omega)
        exact ⟨x, hx, by rw [Nat.add_sub_cancel, hy, he, hk'.2]⟩
      · rw [hof, h4]
        by_cases hc : y.1 = c
        · rw [if_pos hc]
          obtain ⟨x, hx, he⟩ := h3 (by omega)
          have hmem : x ∈ ofN c (cmpt d m) := by unfold ofN; rw [List.mem_filter]; exact ⟨hx, by simp; rw [he, ← hk'.2, hc]⟩
          rw [h4] at hmem
          cases hz : ofN c (d.take m) with
          | nil => rw [hz] at hmem; simp at hmem
          | cons a r => simp
        · rw [if_neg hc, List.append_nil]
theorem mkL_spec (l : List Sg) : (mkL l).Pairwise (fun x y => x.1 < y.1) ∧ ∀ c, ofN c (mkL l) = (ofN c l).take 1 := by
  obtain ⟨h1, h2⟩ := srt_spec l
  obtain ⟨g1, _, _, g4⟩ := cmpt_spec (srt l) h2 l.length (by omega)
  refine ⟨g1, fun c => ?_⟩
  have := g4 c
  rw [show (srt l).take l.length = srt l by rw [← h1, List.take_length], srt_ofN] at this
  exact this
end CC
end
section
open Go Go.RowKit
namespace CC
open BB WW
theorem cset_same {w : World} {a : Addr} {u v : Value} (h : w.cell? a = some u) : (w.setCell a v).cell? a = some v := World.cell?_setCell_same (w := w) (a := a) (v := v) h
theorem cset_other {w : World} {a c : Addr} {v : Value} (h : a ≠ c) : (w.setCell a v).cell? c = w.cell? c := World.cell?_setCell_other (w := w) (a := a) (v := v) (b := c) h
/-- n signatures, D, in block b from cell o on; they may be written -/
structure SgRow (w : World) (b o n : Nat) (D : Nat → Sg) : Prop where
  lt : b < w.heap.size
  at0 : ∀ i, i < n → w.cell? ⟨b, o + i * 2, none⟩ = some (.int .i64 (D i).1)
  at1 : ∀ i, i < n → w.cell? ⟨b, o + i * 2 + 1, none⟩ = some (tvS (D i))
  f0 : ∀ i, i < n → w.frozen? ⟨b, o + i * 2, none⟩ = false
  f1 : ∀ i, i < n → w.frozen? ⟨b, o + i * 2 + 1, none⟩ = false
section
variable {w w' : World} {b o n : Nat} {D : Nat → Sg}
theorem SgRow.of_heap (h : SgRow w b o n D) (e : w'.heap[b]? = w.heap[b]?) : SgRow w' b o n D := by
  have hl : b < w'.heap.size := by
    rcases Nat.lt_or_ge b w'.heap.size with g | g
    · exact g
    · rw [Array.getElem?_eq_none g, Array.getElem?_eq_getElem h.lt] at e; cases e
  exact ⟨hl, fun i hi => (World.cell?_of_block (a := ⟨b, _, none⟩) e).trans (h.at0 i hi), fun i hi => (World.cell?_of_block (a := ⟨b, _, none⟩) e).trans (h.at1 i hi),
    fun i hi => (World.frozen?_of_block (a := ⟨b, _, none⟩) e).trans (h.f0 i hi), fun i hi => (World.frozen?_of_block (a := ⟨b, _, none⟩) e).trans (h.f1 i hi)⟩
theorem SgRow.keep {c : Nat} (h : SgRow w b o n D) (k : Keep c w w') (hc : b ≠ c) : SgRow w' b o n D := h.of_heap (k.block b h.lt hc)
theorem SgRow.below (h : SgRow w b o n D) (k : Below w.heap.size w w') : SgRow w' b o n D := h.of_heap (k.block b h.lt)
theorem SgRow.drew (h : SgRow w b o n D) (q : Nat) : SgRow (w.drewN q) b o n D := h.of_heap rfl
theorem SgRow.congr (h : SgRow w b o n D) (E : Nat → Sg) (e : ∀ i, i < n → D i = E i) : SgRow w b o n E :=
  ⟨h.lt, fun i hi => by rw [h.at0 i hi, e i hi], fun i hi => by rw [h.at1 i hi, e i hi], h.f0, h.f1⟩
theorem SgRow.sub (h : SgRow w b o n D) (m : Nat) (hm : m ≤ n) : SgRow w b o m D :=
  ⟨h.lt, fun i hi => h.at0 i (by omega), fun i hi => h.at1 i (by omega), fun i hi => h.f0 i (by omega), fun i hi => h.f1 i (by omega)⟩
theorem frozen_setCell (w : World) (a c : Addr) (v : Value) : (w.setCell a v).frozen? c = w.frozen? c := by
  unfold World.frozen? World.setCell
  simp only [Array.getElem?_modify]
  by_cases e : a.block = c.block
  · rw [if_pos e]
    rcases w.heap[c.block]? with _ | ob
    · rfl
    · cases ob <;> rfl
  · rw [if_neg e]
theorem SgRow.set1 (h : SgRow w b o n D) (i : Nat) (hi : i < n) (t : Option Addr × Nat) (ts : List ByteArray) : SgRow (w.setCell ⟨b, o + i * 2 + 1, none⟩ (.slice t.1 ts.length t.2)) b o n (put D i ((D i).1, t, ts)) := by
  refine ⟨by simpa [World.setCell] using h.lt, fun j hj => ?_, fun j hj => ?_, fun j hj => (frozen_setCell _ _ _ _).trans (h.f0 j hj), fun j hj => (frozen_setCell _ _ _ _).trans (h.f1 j hj)⟩
  · rw [cset_other (by intro e; injection e with _ e; omega), h.at0 j hj]
    unfold put; split
    · rename_i e; subst e; rfl
    · rfl
  · by_cases e : j = i
    · subst e
      rw [cset_same (h.at1 j hj), put_same]; rfl
    · rw [cset_other (by intro e'; injection e' with _ e'; omega), h.at1 j hj, put_other _ _ e]
theorem SgRow.set (h : SgRow w b o n D) (i : Nat) (hi : i < n) (x : Sg) : SgRow ((w.setCell ⟨b, o + i * 2, none⟩ (.int .i64 x.1)).setCell ⟨b, o + i * 2 + 1, none⟩ (tvS x)) b o n (put D i x) := by
  refine ⟨by simpa [World.setCell] using h.lt, fun j hj => ?_, fun j hj => ?_, fun j hj => ?_, fun j hj => ?_⟩
  · rw [cset_other (by intro e; injection e with _ e; omega)]
    by_cases e : j = i
    · subst e
      rw [cset_same (h.at0 j hj), put_same]
    · rw [cset_other (by intro e'; injection e' with _ e'; omega), h.at0 j hj, put_other _ _ e]
  · by_cases e : j = i
    · subst e
      rw [cset_same (u := tvS (D j)) (by rw [cset_other (by intro e'; injection e' with _ e'; omega)]; exact h.at1 j hj), put_same]
    · rw [cset_other (by intro e'; injection e' with _ e'; omega), cset_other (by intro e'; injection e' with _ e'; omega), h.at1 j hj, put_other _ _ e]
  · rw [frozen_setCell, frozen_setCell]; exact h.f0 j hj
  · rw [frozen_setCell, frozen_setCell]; exact h.f1 j hj
theorem keep_set (w : World) (b o : Nat) (u : Value) : Keep b w (w.setCell ⟨b, o, none⟩ u) := (Upd.set w b o u).keep
theorem keep_drew (w : World) (b q : Nat) : Keep b w (w.drewN q) := ⟨Nat.le_refl _, fun _ _ _ => rfl, rfl, rfl, rfl⟩
end
end CC
end
