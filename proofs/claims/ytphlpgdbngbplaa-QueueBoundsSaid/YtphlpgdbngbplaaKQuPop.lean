/-
  The reference's Pop (layer 17).
-/
import Derived.Test.YtphlpgdbngbplaaKGIdx
import Derived.Test.YtphlpgdbngbplaaKPlanE
import Derived.Test.YtphlpgdbngbplaaKPlanF
import Derived.Test.YtphlpgdbngbplaaKQuMem
import Derived.Test.YtphlpgdbngbplaaKJCopy
import Derived.ArgAppend
import Derived.Test.YtphlpgdbngbplaaKFItem
import Derived.Test.YtphlpgdbngbplaaKFAdopt
import Derived.Test.YtphlpgdbngbplaaKJRow
import Derived.Test.YtphlpgdbngbplaaKWAppR
section
open Go Go.RowKit
namespace FF
open WW BB MM
theorem ent_fresh {F : Fo} {N : List Iv} (hn : N.map Prod.fst = F.nodes) {x : It} (hx : Fresh F x) : entF F N x.1 = none := by
  unfold entF
  rw [Option.map_eq_none_iff, List.find?_eq_none]
  intro y hy e
  exact hx.2.2 y.1 (List.mem_append_left _ (hn ▸ List.mem_map.2 ⟨y, hy, rfl⟩)) (by simpa using e)
theorem ent_more {F : Fo} (hF : WF F) {N : List Iv} (hn : N.map Prod.fst = F.nodes) {x : Iv} (hx : Fresh F x.1) (hp : hasF F (parI x.1.2) = true) (h4 : F.nodes.length < 400) (h : ByteArray) :
    setM (entF F N) x.1.1 (mkS x (heightF F (parI x.1.2) + 1)) h = entF (moreF F x.1) (N ++ [x]) h := by
  have hw := more_wf hF hx hp h4
  unfold setM
  by_cases e : h = x.1.1
  · subst e
    rw [if_pos rfl]
    unfold entF
    have hnone : N.find? (fun y => decide (y.1.1 = x.1.1)) = none := by
      have := ent_fresh hn hx
      unfold entF at this
      rwa [Option.map_eq_none_iff] at this
    rw [List.find?_append, hnone]
    simp only [Option.none_or, List.find?_cons, decide_true, Option.map_some]
    rw [more_new hF hw hp]
  · rw [if_neg e]
    unfold entF
    rw [List.find?_append]
    cases hf : N.find? (fun y => decide (y.1.1 = h)) with
    | none =>
      rw [Option.none_or, List.find?_cons, show decide (x.1.1 = h) = false from decide_eq_false fun c => e c.symm]; rfl
    | some y =>
      obtain ⟨hy, hyh⟩ := find_mem hf
      rw [Option.some_or, Option.map_some, Option.map_some, more_old hF hw ((has_iff F h).2 (Or.inr ⟨y.1, hn ▸ List.mem_map.2 ⟨y, hy, rfl⟩, hyh⟩))]
theorem Keeps.upd' {A : Nat → Prop} {c : Nat} {w w' : World} (h : Upd c w w') (hA : ¬ A c) : Keeps A w w' := Keeps.upd h fun _ hb e => hA (e ▸ hb)
end FF
namespace Go.Proofs.Ytphlpgdbngbplaa
open FF JJ CC MM WW BB
section
variable {B : Nat} {w w' : World} {g : Nat} {F : Fo} {rt : ByteArray} {mv ov : Value} {N O : List Iv} {C : Nat → Prop}
end
end Go.Proofs.Ytphlpgdbngbplaa
end
section
open Go Go.RowKit
namespace FF
open WW BB
theorem run_clearK {P : Program} (w : World) (t e ty : TypeId) (z : Value) (ht : P.underlying t = some (.slice e)) (hv : ∀ w, (zeroValue e).run P w = .ok z w) (b o n c m : Nat) (hn : 0 < n) (hm : (Builtin.zeroCells z.cells n).toList.length = m)
    (h1 : ∀ v ∈ (Builtin.zeroCells z.cells n).toList, v.oneCell' = true)
    (hc : ∀ j, j < m → (w.cell? ⟨b, o + j, none⟩).isSome = true) (hf : ∀ j, j < m → w.frozen? ⟨b, o + j, none⟩ = false) :
    (Builtin.clear_ #[t] ty #[.slice (some ⟨b, o, none⟩) n c]).run P w = .ok (.tuple #[]) (w.setCells b o (Builtin.zeroCells z.cells n).toList) := by
  have hst := run_storeCells_cells (P := P) b o (Builtin.zeroCells z.cells n).toList 0 w (by simpa [hm] using hc) (by simpa [hm] using hf) h1
  simp only [Nat.add_zero] at hst
  obtain ⟨k, rfl⟩ : ∃ k, n = k + 1 := ⟨n - 1, by omega⟩
  simp [Builtin.clear_, run_underlying ht, hv, hst]
theorem hold_app {P : Program} {ops : Array Oper} {Q : Exit → Act → World → Prop} {a : Act} {w : World} {rest : List Oper} {o : Oper} {d s : Operand} {t u : TypeId} (_ho : o.op = .call { callee := .builtin .append, args := #[d, s], argTypes := #[t, u] }) (h : Held (wpList P ops Q (o :: rest) a w)) : wpList P ops Q (o :: rest) a w := h
theorem hold_clear {P : Program} {ops : Array Oper} {Q : Exit → Act → World → Prop} {a : Act} {w : World} {rest : List Oper} {o : Oper} {d : Operand} {t : TypeId} (_ho : o.op = .call { callee := .builtin .clear, args := #[d], argTypes := #[t] }) (h : Held (wpList P ops Q (o :: rest) a w)) : wpList P ops Q (o :: rest) a w := h
/-- cells from o on are written: those ahead of o stay -/
theorem cells_past (b : Nat) (t : TypeId) : ∀ (vs : List Value) (o : Nat) (w : World) (cur : Array Value), w.heap[b]? = some (.cells cur t (0, 0)) →
    ∃ cur', (w.setCells b o vs).heap[b]? = some (.cells cur' t (0, 0)) ∧ cur'.size = cur.size ∧ ∀ j, j < o → cur'[j]? = cur[j]?
  | [], _, _, cur, h => ⟨cur, h, rfl, fun _ _ => rfl⟩
  | v :: r, o, w, cur, h => by
    have h1 : (w.setCell ⟨b, o, none⟩ v).heap[b]? = some (.cells (cur.setIfInBounds o v) t (0, 0)) := by
      unfold World.setCell
      simp only [Array.getElem?_modify, if_true, h, Option.map_some]
      rfl
    obtain ⟨cur', k1, k2, k3⟩ := cells_past b t r (o + 1) _ _ h1
    refine ⟨cur', k1, by rw [k2]; simp, fun j hj => ?_⟩
    rw [k3 j (by omega), Array.getElem?_setIfInBounds, if_neg (by omega)]
theorem keepC (b : Nat) : ∀ (vs : List Value) (o : Nat) (w : World), Keep b w (w.setCells b o vs)
  | [], _, w => Keep.refl b w
  | v :: r, o, w => (Upd.set w b o v).keep.trans (keepC b r (o + 1) _)
theorem take_same {a b : Array Value} {n : Nat} (h : ∀ j, j < n → a[j]? = b[j]?) : a.toList.take n = b.toList.take n := by
  apply List.ext_getElem?
  intro j
  by_cases hj : j < n
  · rw [List.getElem?_take_of_lt hj, List.getElem?_take_of_lt hj, Array.getElem?_toList, Array.getElem?_toList]; exact h j hj
  · rw [List.getElem?_take_eq_none (by omega), List.getElem?_take_eq_none (by omega)]
theorem cellsV_take (L : List Iv) (i : Nat) : (cellsV L).take (i * 7) = cellsV (L.take i) := by
  induction L generalizing i with
  | nil => simp [cellsV]
  | cons x r ih =>
    cases i with
    | zero => simp [cellsV]
    | succ i =>
      have hx : (encV x).length = 7 := rfl
      show (encV x ++ cellsV r).take ((i + 1) * 7) = encV x ++ cellsV (r.take i)
      rw [List.take_append, List.take_of_length_le (by rw [hx]; omega), hx, show (i + 1) * 7 - 7 = i * 7 by omega, ih]
theorem cellsV_drop (L : List Iv) (i : Nat) : (cellsV L).drop (i * 7) = cellsV (L.drop i) := by
  induction L generalizing i with
  | nil => simp [cellsV]
  | cons x r ih =>
    cases i with
    | zero => simp
    | succ i =>
      have hx : (encV x).length = 7 := rfl
      show (encV x ++ cellsV r).drop ((i + 1) * 7) = cellsV (r.drop i)
      rw [List.drop_append, List.drop_eq_nil_of_le (by rw [hx]; omega), hx, show (i + 1) * 7 - 7 = i * 7 by omega, ih, List.nil_append]
theorem cellsV_app (L M : List Iv) : cellsV (L ++ M) = cellsV L ++ cellsV M := by unfold cellsV; rw [List.map_append, List.flatten_append]
theorem cellsV_erase (L : List Iv) (i : Nat) : cellsV (L.eraseIdx i) = (cellsV L).take (i * 7) ++ (cellsV L).drop ((i + 1) * 7) := by
  rw [List.eraseIdx_eq_take_drop_succ, cellsV_app, cellsV_take, cellsV_drop]
end FF
namespace Go.Proofs.Ytphlpgdbngbplaa
open FF JJ CC MM WW BB
end Go.Proofs.Ytphlpgdbngbplaa
end
section
open Go Go.RowKit
namespace QU
open FF JJ CC WW BB
section
variable {α : Type}
/-- the cells of things -/
def cellsG (enc : α → List Value) (L : List α) : List Value := (L.map enc).flatten
/-- v is a slice of the things L, in a block that meets A -/
def GRow (k : Nat) (enc : α → List Value) (z : α) (A : Nat → Prop) (w : World) (v : Value) (L : List α) : Prop :=
  ∃ a0 cap, v = .slice a0 L.length cap ∧ (L = [] ∨ ∃ b off, a0 = some ⟨b, off, none⟩ ∧ A b ∧ b < w.heap.size ∧ ∀ i, i < L.length → ∀ j u, (enc (L.getD i z))[j]? = some u → w.cell? ⟨b, off + i * k + j, none⟩ = some u)
theorem GRow.keep {k : Nat} {enc : α → List Value} {z : α} {A A' : Nat → Prop} {w w' : World} {v : Value} {L : List α} (h : GRow k enc z A w v L) (hk : Keeps A' w w') (hA : ∀ b, A b → A' b) : GRow k enc z A w' v L := by
  obtain ⟨a0, cap, rfl, h | ⟨b, off, rfl, ha, hl, hc⟩⟩ := h
  · exact ⟨a0, cap, rfl, .inl h⟩
  · exact ⟨_, cap, rfl, .inr ⟨b, off, rfl, ha, Nat.lt_of_lt_of_le hl hk.b0.size, fun i hi j u hu => (World.cell?_of_block (w := w) (a := ⟨b, off + i * k + j, none⟩) (hk.block b (hA b ha) hl)).trans (hc i hi j u hu)⟩⟩
theorem GRow.later {k : Nat} {enc : α → List Value} {z : α} {A : Nat → Prop} {w w' : World} {v : Value} {L : List α} (h : GRow k enc z A w v L) (hb : Below w.heap.size w w') : GRow k enc z A w' v L :=
  h.keep (A' := fun _ => True) (Keeps.of hb) fun _ _ => trivial
theorem GRow.more {k : Nat} {enc : α → List Value} {z : α} {A A' : Nat → Prop} {w : World} {v : Value} {L : List α} (h : GRow k enc z A w v L) (hA : ∀ b, A b → A' b) : GRow k enc z A' w v L := by
  obtain ⟨a0, cap, rfl, h | ⟨b, off, rfl, ha, hl, hc⟩⟩ := h
  · exact ⟨a0, cap, rfl, .inl h⟩
  · exact ⟨_, cap, rfl, .inr ⟨b, off, rfl, hA b ha, hl, hc⟩⟩
theorem grow_shape {k : Nat} {enc : α → List Value} {z : α} {A : Nat → Prop} {w : World} {v : Value} {L : List α} (h : GRow k enc z A w v L) : ∃ a c, v = .slice a L.length c := by
  obtain ⟨a, c, rfl, _⟩ := h; exact ⟨a, c, rfl⟩
theorem grow_nil (k : Nat) (enc : α → List Value) (z : α) (A : Nat → Prop) (w : World) (a : Option Addr) (c : Nat) : GRow k enc z A w (.slice a 0 c) [] := ⟨a, c, rfl, .inl rfl⟩
theorem grow_none {k : Nat} {enc : α → List Value} {z : α} {A : Nat → Prop} {w : World} {a0 : Option Addr} {n c : Nat} {L : List α} (h : GRow k enc z A w (.slice a0 n c) L) (h0 : a0 = none) : n = 0 := by
  obtain ⟨a1, c1, he, h | ⟨b, off, h1, _⟩⟩ := h
  · injection he with _ e2 _; subst h; exact e2
  · injection he with e1 _ _; rw [h0, h1] at e1; cases e1
theorem cellsG_snoc (enc : α → List Value) (L : List α) (x : α) : cellsG enc (L ++ [x]) = cellsG enc L ++ enc x := by unfold cellsG; rw [List.map_append, List.flatten_append]; simp
theorem cellsG_app (enc : α → List Value) (L M : List α) : cellsG enc (L ++ M) = cellsG enc L ++ cellsG enc M := by unfold cellsG; rw [List.map_append, List.flatten_append]
theorem cellsG_len {k : Nat} {enc : α → List Value} (hk : ∀ x, (enc x).length = k) (L : List α) : (cellsG enc L).length = L.length * k := by
  induction L with
  | nil => simp [cellsG]
  | cons x r ih => show (enc x ++ cellsG enc r).length = _; rw [List.length_append, ih, List.length_cons, hk, Nat.add_mul]; omega
theorem cellsG_at {k : Nat} {enc : α → List Value} (hk : ∀ x, (enc x).length = k) (z : α) : ∀ (L : List α) (i j : Nat) (u : Value), i < L.length → (enc (L.getD i z))[j]? = some u → (cellsG enc L)[i * k + j]? = some u
  | [], i, j, u, h, _ => by simp at h
  | x :: r, 0, j, u, _, hu => by
    show (enc x ++ cellsG enc r)[0 * k + j]? = some u
    have hu' : (enc x)[j]? = some u := hu
    have hj : j < (enc x).length := (List.getElem?_eq_some_iff.1 hu').1
    rw [Nat.zero_mul, Nat.zero_add, List.getElem?_append_left hj]; exact hu'
  | x :: r, i + 1, j, u, h, hu => by
    show (enc x ++ cellsG enc r)[(i + 1) * k + j]? = some u
    rw [show (i + 1) * k + j = k + (i * k + j) by rw [Nat.add_mul]; omega, List.getElem?_append_right (by rw [hk]; omega), hk, Nat.add_sub_cancel_left]
    exact cellsG_at hk z r i j u (by simpa using h) (by simpa [List.getD] using hu)
theorem cellsG_of {k : Nat} {enc : α → List Value} (hk : ∀ x, (enc x).length = k) (z : α) : ∀ (L : List α) (m : Nat) (u : Value), (cellsG enc L)[m]? = some u → ∃ i j, i < L.length ∧ m = i * k + j ∧ (enc (L.getD i z))[j]? = some u
  | [], m, u, h => by simp [cellsG] at h
  | x :: r, m, u, h => by
    have h : (enc x ++ cellsG enc r)[m]? = some u := h
    by_cases hm : m < k
    · rw [List.getElem?_append_left (by rw [hk]; exact hm)] at h
      exact ⟨0, m, Nat.succ_pos _, by omega, h⟩
    · rw [List.getElem?_append_right (by rw [hk]; omega), hk] at h
      obtain ⟨i, j, h1, h2, h3⟩ := cellsG_of hk z r (m - k) u h
      exact ⟨i + 1, j, by rw [List.length_cons]; omega, by rw [Nat.add_mul]; omega, by simpa [List.getD] using h3⟩
/-- the cells of a slice, one behind the other -/
theorem grow_flat {k : Nat} {enc : α → List Value} (hk : ∀ x, (enc x).length = k) {z : α} {A : Nat → Prop} {w : World} {a0 : Option Addr} {n c : Nat} {L : List α} (h : GRow k enc z A w (.slice a0 n c) L) : ∀ a, a0 = some a → ∀ m u, (cellsG enc L)[m]? = some u → w.cell? (a.add m) = some u := by
  intro a ha m u hu
  obtain ⟨a1, c1, he, h | ⟨b, off, h1, _, hl, hc⟩⟩ := h
  · subst h; simp [cellsG] at hu
  · injection he with e1 _ _
    rw [ha, h1] at e1
    injection e1 with e1
    subst e1
    obtain ⟨i, j, hi, rfl, hu2⟩ := cellsG_of hk z L m u hu
    have := hc i hi j u hu2
    rw [show (⟨b, off, none⟩ : Addr).add (i * k + j) = ⟨b, off + i * k + j, none⟩ by unfold Addr.add; split <;> simp_all <;> omega]
    exact this
theorem grow_of_own {k : Nat} {enc : α → List Value} (hk : ∀ x, (enc x).length = k) (z : α) {w : World} {B : Nat} {e : TypeId} {v : Value} {L : List α} (h : w.ownsRow B e k v L.length (cellsG enc L)) : GRow k enc z (fun b => B ≤ b) w v L := by
  rcases h.2 with ⟨rfl, h0⟩ | ⟨g, cap, cur, rfl, hg, hh, hn, hcm, hsz, htk⟩
  · exact ⟨none, 0, by rw [h0], Or.inl (List.eq_nil_of_length_eq_zero h0)⟩
  · have hcell : ∀ j u, j < L.length * k → (cellsG enc L)[j]? = some u → w.cell? ⟨g, j, none⟩ = some u := fun j u hj hu => by
      rw [← htk, List.getElem?_take_of_lt hj, Array.getElem?_toList] at hu
      unfold World.cell?; rw [hh]; simpa using hu
    refine ⟨_, cap, rfl, Or.inr ⟨g, 0, rfl, hg, (Array.getElem?_eq_some_iff.1 hh).1, fun i hil j u hu => ?_⟩⟩
    have hj : j < k := by have := (List.getElem?_eq_some_iff.1 hu).1; rw [hk] at this; exact this
    rw [Nat.zero_add]
    have : (i + 1) * k ≤ L.length * k := Nat.mul_le_mul_right k hil
    rw [Nat.add_mul] at this
    exact hcell _ _ (by omega) (cellsG_at hk z L i j u hil hu)
end
section
variable {P : Program} {ops : Array Oper} {Q : Exit → Act → World → Prop} {a : Act} {w : World} {rest : List Oper} {o : Oper}
/-- so many cells are read, wherever they lie -/
theorem run_load_at {T b m off : Nat} {f : Nat → Value} (hT : (isAgg T).run P w = .ok true w) (hS : (Go.sizeOf T).run P w = .ok m w)
    (hb : ∀ j, j < m → w.cell? ⟨b, off + j, none⟩ = some (f j)) : (loadVar T ⟨b, off, none⟩).run P w = .ok (.agg (row m f)) w := by
  have hl := run_loadCells (P := P) w ⟨b, off, none⟩ m f (fun j hj => by
    have : (⟨b, off, none⟩ : Addr).add j = ⟨b, off + j, none⟩ := by unfold Addr.add; split <;> simp [*]
    rw [this]; exact hb _ hj)
  unfold loadVar
  simp only [Sem.run_bind, hT, Result.andThen_ok, hS, if_true, hl]
  rfl
theorem run_op_load_at {T : TypeId} {ad : Operand} {b off m : Nat} {f : Nat → Value} (ho : o.op = .load T ad) (ha : a.eval ad = .pointer (some ⟨b, off, none⟩))
    (hT : (isAgg T).run P w = .ok true w) (hS : (Go.sizeOf T).run P w = .ok m w) (hb : ∀ j, j < m → w.cell? ⟨b, off + j, none⟩ = some (f j)) :
    (execOp a.eval o).run P w = .ok (.value (.agg (row m f))) w := by
  unfold execOp
  have := run_load_at (P := P) hT hS hb
  simp [ho, Instr.loadAt, Instr.sureAddr, ha, this]
theorem wpl_load_at {T : TypeId} (ad : Operand) (b off m : Nat) (f : Nat → Value) (hg : Region.wanted o (yielded ops a.tmps) = true) (ho : o.op = .load T ad) (ha : a.eval ad = .pointer (some ⟨b, off, none⟩))
    (hT : (isAgg T).run P w = .ok true w) (hS : (Go.sizeOf T).run P w = .ok m w) (hb : ∀ j, j < m → w.cell? ⟨b, off + j, none⟩ = some (f j))
    (hK : wpList P ops Q rest (a.put o.dst (.agg (row m f))) w) : wpList P ops Q (o :: rest) a w := by
  refine wpList_step fun K hK' => ?_
  rw [if_pos hg]
  have := hK' _ _ hK
  unfold Oper.wp
  rw [run_op_load_at ho ha hT hS hb]
  exact this
end
/-- what is laid anew lies there -/
theorem new_at (w : World) (t : TypeId) (vs : List Value) : ∀ j u, vs[j]? = some u → (w.alloc (.cells vs.toArray t)).cell? ((⟨w.heap.size, 0, none⟩ : Addr).add j) = some u := by
  intro j u hj
  rw [show (⟨w.heap.size, 0, none⟩ : Addr).add j = ⟨w.heap.size, j, none⟩ by unfold Addr.add; split <;> simp_all]
  exact cell_new w _ t j u (by simpa using hj)
theorem row_shape {w : World} {B k n : Nat} {e : TypeId} {v : Value} {xs : List Value} (h : w.ownsRow B e k v n xs) : ∃ a c, v = .slice a n c := by
  rcases h.2 with ⟨h1, h2⟩ | ⟨q, cap, cur, h1, _⟩
  · exact ⟨none, 0, by rw [h1, h2]⟩
  · exact ⟨_, _, h1⟩
/-- an append whose run is known -/
theorem wpl_app_run {P : Program} {w w' : World} {ops : Array Oper} {rest : List Oper} {o : Oper} {a : Act} {Q : Exit → Act → World → Prop} {v' : Value} (hgd : o.guard = none) (s x : Operand) (t : TypeId)
    (ho : o.op = .call { callee := .builtin .append, args := #[s, x], argTypes := #[t, t] }) (hr : (Builtin.append_ #[t, t] o.type #[a.eval s, a.eval x]).run P w = .ok v' w') (h : wpList P ops Q rest (a.put o.dst v') w') : wpList P ops Q (o :: rest) a w := by
  refine wpList_plain hgd fun K hK => ?_
  unfold Oper.wp execOp
  simp only [ho, resolve, invoke, builtin, Sem.run_bind, Sem.run_pure, Result.andThen_ok, List.map_toArray, List.map_cons, List.map_nil, hr]
  exact hK _ _ h
theorem heap_set1 {b : Nat} {t : TypeId} {w : World} {cur : Array Value} (h : w.heap[b]? = some (.cells cur t (0, 0))) (i : Nat) (u : Value) : (w.setCell ⟨b, i, none⟩ u).heap[b]? = some (.cells (cur.setIfInBounds i u) t (0, 0)) := by
  unfold World.setCell
  simp only [Array.getElem?_modify, if_true, h, Option.map_some]
  rfl
/-- cells from o on are written -/
theorem cells_put (b : Nat) (t : TypeId) : ∀ (vs : List Value) (o : Nat) (w : World) (cur : Array Value), w.heap[b]? = some (.cells cur t (0, 0)) → o + vs.length ≤ cur.size →
    ∃ cur', (w.setCells b o vs).heap[b]? = some (.cells cur' t (0, 0)) ∧ cur'.size = cur.size ∧ (∀ j, j < o ∨ o + vs.length ≤ j → cur'[j]? = cur[j]?) ∧ ∀ j u, vs[j]? = some u → cur'[o + j]? = some u
  | [], _, _, cur, h, _ => ⟨cur, h, rfl, fun _ _ => rfl, fun j u hu => by simp at hu⟩
  | v :: r, o, w, cur, h, hs => by
    rw [List.length_cons] at hs
    obtain ⟨cur', k1, k2, k3, k4⟩ := cells_put b t r (o + 1) _ _ (heap_set1 h o v) (by simp; omega)
    refine ⟨cur', k1, by rw [k2]; simp, fun j hj => ?_, fun j u hu => ?_⟩
    · rw [List.length_cons] at hj
      rw [k3 j (by omega), Array.getElem?_setIfInBounds, if_neg (by omega)]
    · cases j with
      | zero =>
        have hu : v = u := by simpa using hu
        subst hu
        rw [Nat.add_zero, k3 o (by omega), Array.getElem?_setIfInBounds, if_pos rfl, if_pos (by omega)]
      | succ j =>
        rw [show o + (j + 1) = o + 1 + j by omega]
        exact k4 j u (by simpa using hu)
section
variable {α : Type}
/-- cells o .. of block b: n things D of k cells each, of a row with room for cap -/
structure RowR (k : Nat) (enc : α → List Value) (t : TypeId) (w : World) (b o n cap : Nat) (D : Nat → α) : Prop where
  heap : ∃ cur, w.heap[b]? = some (.cells cur t (0, 0)) ∧ cur.size = o + cap * k ∧ ∀ i, i < n → ∀ j u, (enc (D i))[j]? = some u → cur[o + i * k + j]? = some u
  room : n ≤ cap
variable {k : Nat} {enc : α → List Value} {t : TypeId} {w w' : World} {b o n cap : Nat} {D : Nat → α}
theorem RowR.lt (h : RowR k enc t w b o n cap D) : b < w.heap.size := by
  obtain ⟨cur, hh, _⟩ := h.heap
  exact (Array.getElem?_eq_some_iff.1 hh).1
theorem RowR.get (h : RowR k enc t w b o n cap D) (i : Nat) (hi : i < n) (j : Nat) (u : Value) (hu : (enc (D i))[j]? = some u) : w.cell? ⟨b, o + i * k + j, none⟩ = some u := by
  obtain ⟨cur, hh, _, hc⟩ := h.heap
  unfold World.cell?
  rw [hh]
  simpa using hc i hi j u hu
theorem RowR.frz (h : RowR k enc t w b o n cap D) (i : Nat) : w.frozen? ⟨b, i, none⟩ = false := by
  obtain ⟨cur, hh, _⟩ := h.heap
  unfold World.frozen?; rw [hh]; simp
theorem RowR.on (h : RowR k enc t w b o n cap D) (e : w'.heap[b]? = w.heap[b]?) : RowR k enc t w' b o n cap D := by
  obtain ⟨cur, hh, r⟩ := h.heap
  exact ⟨⟨cur, e.trans hh, r⟩, h.room⟩
theorem RowR.congr (h : RowR k enc t w b o n cap D) (E : Nat → α) (he : ∀ i, i < n → D i = E i) : RowR k enc t w b o n cap E := by
  obtain ⟨cur, hh, hs, hc⟩ := h.heap
  exact ⟨⟨cur, hh, hs, fun i hi => he i hi ▸ hc i hi⟩, h.room⟩
theorem mul_step {i j k : Nat} (h : i < j) : i * k + k ≤ j * k := by
  have : (i + 1) * k ≤ j * k := Nat.mul_le_mul_right k h
  rwa [Nat.add_mul, Nat.one_mul] at this
theorem RowR.set (hk : ∀ x, (enc x).length = k) (h : RowR k enc t w b o n cap D) (i : Nat) (hi : i < n) (r : α) : RowR k enc t (w.setCells b (o + i * k) (enc r)) b o n cap (put D i r) := by
  obtain ⟨cur, hh, hs, hc⟩ := h.heap
  have h1 := mul_step (k := k) (Nat.lt_of_lt_of_le hi h.room)
  obtain ⟨cur', k1, k2, k3, k4⟩ := cells_put b t (enc r) (o + i * k) w cur hh (by rw [hk, hs]; omega)
  refine ⟨⟨cur', k1, by rw [k2, hs], fun m hm j u hu => ?_⟩, h.room⟩
  by_cases e : m = i
  · subst e
    rw [put_same] at hu
    exact k4 j u hu
  · rw [put_other _ _ e] at hu
    have hj : j < k := by have := (List.getElem?_eq_some_iff.1 hu).1; rwa [hk] at this
    rw [k3 _ ?_]
    · exact hc m hm j u hu
    · rw [hk]
      rcases Nat.lt_or_ge m i with g | g
      · have := mul_step (k := k) g; omega
      · have := mul_step (k := k) (show i < m by omega); omega
/-- what lies ahead stays where cells behind it are written -/
theorem RowR.past (hk : ∀ x, (enc x).length = k) (h : RowR k enc t w b o n cap D) (i : Nat) (hi : i ≤ n) (vs : List Value) : RowR k enc t (w.setCells b (o + i * k) vs) b o i cap D := by
  obtain ⟨cur, hh, hs, hc⟩ := h.heap
  obtain ⟨cur', h1, h2, h3⟩ := cells_past b t vs (o + i * k) w cur hh
  refine ⟨⟨cur', h1, by rw [h2, hs], fun m hm j u hu => ?_⟩, Nat.le_trans hi h.room⟩
  have hj : j < k := by have := (List.getElem?_eq_some_iff.1 hu).1; rwa [hk] at this
  have := mul_step (k := k) hm
  exact (h3 _ (by omega)).trans (hc m (by omega) j u hu)
theorem RowR.some (hk : ∀ x, (enc x).length = k) (h : RowR k enc t w b o n cap D) (j : Nat) (hj : j < n * k) : (w.cell? ⟨b, o + j, none⟩).isSome = true ∧ w.frozen? ⟨b, o + j, none⟩ = false := by
  refine ⟨?_, h.frz _⟩
  have k0 : 0 < k := by
    rcases Nat.eq_zero_or_pos k with e | e
    · subst e; omega
    · exact e
  have hm : j % k < k := Nat.mod_lt j k0
  have hd : j / k < n := Nat.div_lt_of_lt_mul (by rw [Nat.mul_comm]; exact hj)
  have hl : j % k < (enc (D (j / k))).length := by rw [hk]; exact hm
  have hj2 : j / k * k + j % k = j := by rw [Nat.mul_comm]; exact Nat.div_add_mod j k
  rw [show o + j = o + j / k * k + j % k by omega, h.get _ hd _ _ (List.getElem?_eq_getElem hl)]
  rfl
/-- a row of one's own, read as such -/
theorem rowr_of_own (hk : ∀ x, (enc x).length = k) (z : α) {B q cap : Nat} {W : List α} (h : w.ownsRow B t k (.slice (some ⟨q, 0, none⟩) W.length cap) W.length (cellsG enc W)) : RowR k enc t w q 0 W.length cap (fun i => W.getD i z) := by
  rcases h.2 with ⟨h0, _⟩ | ⟨g, c, cur, e, _, hh, hn, _, hsz, htk⟩
  · cases h0
  · injection e with e1 _ e3
    injection e1 with e1
    injection e1 with e1 _ _
    subst e1 e3
    refine ⟨⟨cur, hh, by rw [hsz]; omega, fun i hi j u hu => ?_⟩, hn⟩
    have h1 := cellsG_at hk z W i j u hi hu
    have hj : j < k := by have := (List.getElem?_eq_some_iff.1 hu).1; rwa [hk] at this
    have := mul_step (k := k) hi
    rw [← htk, List.getElem?_take_of_lt (by omega)] at h1
    rw [Nat.zero_add]
    simpa using h1
theorem own_of_rowr (hk : ∀ x, (enc x).length = k) (z : α) {B q cap : Nat} {W : List α} (h : RowR k enc t w q 0 W.length cap (fun i => W.getD i z)) (hB : B ≤ q) (hcap : cap ≤ maxLen) : w.ownsRow B t k (.slice (some ⟨q, 0, none⟩) W.length cap) W.length (cellsG enc W) := by
  obtain ⟨cur, hh, hs, hc⟩ := h.heap
  refine ⟨cellsG_len hk W, Or.inr ⟨q, cap, cur, rfl, hB, hh, h.room, hcap, by rw [hs]; omega, ?_⟩⟩
  apply List.ext_getElem?
  intro m
  by_cases hm : m < W.length * k
  · have hl : m < (cellsG enc W).length := by rw [cellsG_len hk]; exact hm
    obtain ⟨i, j, hi, e, hu⟩ := cellsG_of hk z W m _ (List.getElem?_eq_getElem hl)
    have h1 := hc i hi j _ hu
    rw [Nat.zero_add, ← e] at h1
    rw [List.getElem?_take_of_lt hm, Array.getElem?_toList, h1, List.getElem?_eq_getElem hl]
  · rw [List.getElem?_take_eq_none (by omega), List.getElem?_eq_none (by rw [cellsG_len hk]; omega)]
/-- what stays of the first j -/
def delG (W : List α) (p : α → Bool) (j : Nat) : List α := (W.take j).filter fun r => !p r
theorem delG_succ (z : α) (W : List α) (p : α → Bool) (j : Nat) (hj : j < W.length) : delG W p (j + 1) = if p (W.getD j z) = true then delG W p j else delG W p j ++ [W.getD j z] := by
  unfold delG
  rw [List.take_add_one, List.getD_eq_getElem?_getD, List.getElem?_eq_getElem hj, List.filter_append]
  simp only [Option.toList_some, Option.getD_some]
  cases h : p W[j] <;> simp [h]
theorem delG_le (W : List α) (p : α → Bool) (j : Nat) : (delG W p j).length ≤ j := by
  have := List.length_filter_le (fun r => !p r) (W.take j)
  rw [List.length_take] at this
  unfold delG; omega
theorem delG_all (W : List α) (p : α → Bool) : delG W p W.length = W.filter fun r => !p r := by unfold delG; rw [List.take_length]
/-- the row, behind the first j -/
def delF (z : α) (W : List α) (p : α → Bool) (j i : Nat) : α := if i < (delG W p j).length then (delG W p j).getD i z else W.getD i z
theorem delG_skip (z : α) (W : List α) (p : α → Bool) (j : Nat) (hj : j < W.length) (h : p (W.getD j z) = true) : delG W p (j + 1) = delG W p j := by rw [delG_succ z W p j hj, if_pos h]
theorem delF_put (z : α) (W : List α) (p : α → Bool) (j : Nat) (hj : j < W.length) (h : p (W.getD j z) = false) (i : Nat) : put (delF z W p j) (delG W p j).length (W.getD j z) i = delF z W p (j + 1) i := by
  have e : delG W p (j + 1) = delG W p j ++ [W.getD j z] := by rw [delG_succ z W p j hj, if_neg (by rw [h]; decide)]
  show (if i = (delG W p j).length then W.getD j z else delF z W p j i) = delF z W p (j + 1) i
  unfold delF
  rw [e, List.length_append, List.length_singleton]
  by_cases h1 : i = (delG W p j).length
  · subst h1
    rw [if_pos rfl, if_pos (by omega)]
    simp [List.getD]
  · rw [if_neg h1]
    by_cases h2 : i < (delG W p j).length
    · rw [if_pos h2, if_pos (by omega)]
      simp [List.getD, List.getElem?_append_left h2]
    · rw [if_neg h2, if_neg (by omega)]
theorem delG_lt (z : α) (W : List α) (p : α → Bool) (i : Nat) (hi : i < W.length) (h : p (W.getD i z) = true) : ∀ j, i < j → j ≤ W.length → (delG W p j).length < j
  | 0, h0, _ => by omega
  | j + 1, h0, hl => by
    by_cases e : j = i
    · subst e; rw [delG_skip z W p j hi h]; have := delG_le W p j; omega
    · have := delG_lt z W p i hi h j (by omega) (by omega)
      rw [delG_succ z W p j (by omega)]
      split
      · omega
      · rw [List.length_append, List.length_singleton]; omega
theorem delG_none (z : α) (W : List α) (p : α → Bool) (i : Nat) (hi : i ≤ W.length) (h : ∀ j, j < i → p (W.getD j z) = false) : delG W p i = W.take i := by
  unfold delG
  rw [List.filter_eq_self]
  intro r hr
  obtain ⟨j, hj, rfl⟩ := List.getElem_of_mem hr
  rw [List.length_take] at hj
  have := h j (by omega)
  rw [List.getD_eq_getElem?_getD, List.getElem?_eq_getElem (by omega)] at this
  rw [List.getElem_take]
  simpa using this
/-- the first one that goes -/
theorem idxG_first (z : α) (W : List α) (p : α → Bool) : (idxI W p = -1 ∧ (W.filter fun r => !p r) = W) ∨ ∃ i : Nat, idxI W p = (i : Int) ∧ i < W.length ∧ p (W.getD i z) = true ∧ ∀ j, j < i → p (W.getD j z) = false := by
  unfold idxI
  cases h : W.findIdx? p with
  | none =>
    refine Or.inl ⟨rfl, ?_⟩
    have := List.findIdx?_eq_none_iff.1 h
    rw [List.filter_eq_self]
    exact fun r hr => by simp [this r hr]
  | some i =>
    obtain ⟨h1, h2, h3⟩ := List.findIdx?_eq_some_iff_getElem.1 h
    refine Or.inr ⟨i, rfl, h1, ?_, fun j hj => ?_⟩
    · rw [List.getD_eq_getElem?_getD, List.getElem?_eq_getElem h1]; exact h2
    · rw [List.getD_eq_getElem?_getD, List.getElem?_eq_getElem (by omega)]; simpa using h3 j hj
end
end QU
end
section
open Go Go.RowKit
namespace QU
open FF WW BB
/-- a message: its bytes, its cells -/
abbrev Mv := ByteArray × (Nat → Value)
def mv0 : Mv := (⟨#[]⟩, zM)
def encMv (x : Mv) : List Value := (row 21 x.2).toList
theorem encMv_len (x : Mv) : (encMv x).length = 21 := by simp [encMv, row]
theorem encMv_at (x : Mv) {j : Nat} (h : j < 21) : (encMv x)[j]? = some (x.2 j) := by simp [encMv, row, h]
/-- a message's fields, its four slices -/
structure Mg where
  k : Int
  fr : Int
  node : Int
  v : Int
  h : ByteArray
  x : BlockD
  c : CertD
  s : Int × List ByteArray
  r : Int × Int × ByteArray
  ix : Int
  tg : ByteArray
  s9 : Value
  r10 : Value
  s13 : Value
  t15 : Value
/-- a call: its kind, its message (the cells, the fields), its place -/
structure Op17 where
  kind : Nat
  f : Nat → Value
  m : Mg
  i : Int
def mg0 : Mg := ⟨0, 0, 0, 0, ⟨#[]⟩, (((0, 0), ((0, ⟨#[]⟩), [])), []), ((0, ⟨#[]⟩), []), (0, []), (0, 0, ⟨#[]⟩), 0, ⟨#[]⟩, .slice none 0 0, .slice none 0 0, .slice none 0 0, .slice none 0 0⟩
def op170 : Op17 := ⟨0, zM, mg0, 0⟩
def encOp (o : Op17) : List Value := .int .u8 (o.kind : Int) :: ((row 21 o.f).toList ++ [.int .i64 o.i])
def Mg.B (m : Mg) : ByteArray := msgB m.k m.fr m.node m.v m.h m.x m.c m.s m.r m.ix m.tg
def Mg.few (m : Mg) : Bool := fewMsg m.h m.tg m.x m.c m.s m.r
def Mg.right (m : Mg) : Bool := rightMsg m.k m.fr m.node m.v m.h m.x m.c m.s m.r m.ix m.tg
end QU
namespace Go.Proofs.Ytphlpgdbngbplaa
open QU FF WW BB
def MgAt (w : World) (f : Nat → Value) (m : Mg) : Prop := MsgAt w f m.k m.fr m.node m.v m.h m.x m.c m.s m.r m.ix m.tg m.s9 m.r10 m.s13 m.t15
/-- the calls in memory -/
def OpsM (w : World) (v : Value) (l : List Op17) : Prop := GRow 23 encOp op170 (fun _ => True) w v l ∧ ∀ o ∈ l, MgAt w o.f o.m
/-- what fits -/
def MemOps (l : List Op17) : Prop := l.length ≤ 9223372036854775807 ∧ ∀ o ∈ l, o.kind < 256 ∧ MemM o.m.x o.m.c o.m.s ∧ -9223372036854775808 ≤ o.i ∧ o.i ≤ 9223372036854775807
theorem opsM_at {w : World} {a0 : Option Addr} {n cap : Nat} {l : List Op17} (h : OpsM w (.slice a0 n cap) l) (i : Nat) (hi : i < l.length) :
    ∃ b off, a0 = some ⟨b, off, none⟩ ∧ n = l.length ∧ b < w.heap.size ∧ (∀ wx, Below w.heap.size w wx → wx.cell? ⟨b, off + i * 23, none⟩ = some (.int .u8 ((l.getD i op170).kind : Int)) ∧ (∀ j, j < 21 → wx.cell? ⟨b, off + i * 23 + 1 + j, none⟩ = some ((l.getD i op170).f j)) ∧ wx.cell? ⟨b, off + i * 23 + 22, none⟩ = some (.int .i64 (l.getD i op170).i)) ∧ MgAt w (l.getD i op170).f (l.getD i op170).m := by
  obtain ⟨⟨a, c, e, h⟩, hm⟩ := h
  injection e with e1 e2 e3
  subst e1 e2 e3
  rcases h with rfl | ⟨b, off, e, _, hl, hc⟩
  · simp at hi
  · refine ⟨b, off, e, rfl, hl, fun wx hb => ⟨?_, fun j hj => ?_, ?_⟩, hm _ (by rw [List.getD_eq_getElem?_getD, List.getElem?_eq_getElem hi]; exact List.getElem_mem hi)⟩
    · exact (hb.cell (p := ⟨b, off + i * 23, none⟩) hl).trans (hc i hi 0 _ rfl)
    · rw [show off + i * 23 + 1 + j = off + i * 23 + (j + 1) by omega]
      refine (hb.cell (p := ⟨b, off + i * 23 + (j + 1), none⟩) hl).trans (hc i hi (j + 1) _ ?_)
      unfold encOp
      rw [List.getElem?_cons_succ, List.getElem?_append_left (by simp [row]; omega)]
      simp [row, hj]
    · refine (hb.cell (p := ⟨b, off + i * 23 + 22, none⟩) hl).trans (hc i hi 22 _ ?_)
      unfold encOp
      rw [List.getElem?_cons_succ, List.getElem?_append_right (by simp [row])]
      simp [row]
theorem memOps_at {l : List Op17} (h : MemOps l) {i : Nat} (hi : i < l.length) : (l.getD i op170).kind < 256 ∧ MemM (l.getD i op170).m.x (l.getD i op170).m.c (l.getD i op170).m.s ∧ -9223372036854775808 ≤ (l.getD i op170).i ∧ (l.getD i op170).i ≤ 9223372036854775807 := by
  rw [List.getD_eq_getElem?_getD, List.getElem?_eq_getElem hi]; exact h.2 _ (List.getElem_mem hi)
end Go.Proofs.Ytphlpgdbngbplaa
end
section
open Go Go.RowKit
namespace Go.Proofs.Ytphlpgdbngbplaa
open QU FF WW BB
def FewAns17 (L : List Op17) (n : Int) (w : World) (e : Ending) (w' : World) : Prop := ∃ X, e = .returned (.bool X) ∧ (X = true → (L.length : Int) ≤ n ∧ ∀ i, i < L.length → i < 300 → (L.getD i op170).m.few = true) ∧ Below w.heap.size w w'
set_option maxRecDepth 100000 in
set_option maxHeartbeats 8000000 in
theorem few17_any (L : List Op17) (v : Value) (n : Int) (w : World) (hv : OpsM w v L) (hm : MemOps L) :
    Calls Try.prog 7 #[v, .int .i64 n] w (FewAns17 L n w) := by
  have HV := Lib.hid hv
  have HM := Lib.hid hm
  obtain ⟨⟨a0, cap, rfl, _⟩, _⟩ := hv
  have hlm := hm.1
  clear hm
  go_enter Try.func7, Try.ntmps7
  go_wp2_with fail
  go_loopw [5] (fun y wr => ∃ i : Nat, i ≤ L.length ∧ i ≤ 300 ∧ y = .int .i64 (i : Int) ∧ (∀ j, j < i → (L.getD j op170).m.few = true) ∧ Below w.heap.size w wr) (fun y _ => 300 - (intOf y).toNat)
  case atStart => exact ⟨0, Nat.zero_le _, by omega, rfl, fun j hj => absurd hj (Nat.not_lt_zero _), Below.refl _ _⟩
  case round =>
    obtain ⟨i, hi, h300, rfl, hall, hb⟩ := hrel
    have HALL := Lib.hid hall
    have HB := Lib.hid hb
    have HI := Lib.hid (And.intro hi h300)
    have i0 : (0 : Int) ≤ (i : Int) := by omega
    have ib : (i : Int) ≤ 300 := by omega
    clear hall hb hi h300
    by_cases hlt : i < L.length
    · by_cases h9 : i < 300
      · have hlt' : (i : Int) < (L.length : Int) := by omega
        have h9' : (i : Int) < 300 := by omega
        have HLT := Lib.hid (And.intro hlt h9)
        obtain ⟨lb, loff, rfl, _, hlb, hat, hma⟩ := opsM_at HV.out i hlt
        have HMX := Lib.hid (memOps_at HM.out hlt).2.1
        obtain ⟨P, hP⟩ : ∃ P, L.getD i op170 = P := ⟨_, rfl⟩
        have HPP := Lib.hid hP
        rw [hP] at hat hma HMX
        have HAT := Lib.hid (fun (wx : World) (hb : Below w.heap.size w wx) => (hat wx hb).2.1)
        have HMA := Lib.hid hma
        obtain ⟨F, hF⟩ : ∃ F, P.m.few = F := ⟨_, rfl⟩
        have HF := Lib.hid hF
        clear hlt h9 hat hP hF hma hlb
        go_wp2_with (with_reducible refine hold_load (.tmp 19) rfl ?_)
        refine wpl_load_at (.tmp 19) lb (loff + i * 23 + 1) 21 P.f (by rfl) rfl (by rfl) (agg_msg _) (size_msg _) (HAT.out wr HB.out) ?_
        go_wp2_with fail
        refine (fewmsg_is F wr P.f _ _ _ _ _ _ _ _ _ _ _ _ _ _ _ (HMA.out.later HB.out) HMX.out HF.out).mono ?_
        rintro e w2 ⟨rfl, hb2⟩
        have B2 := Lib.hid (HB.out.trans (hb2.mono HB.out.size))
        clear hb2
        cases F with
        | false =>
          go_wp2_with fail
          go_ret
          exact ⟨false, rfl, (fun h => (by cases h)), B2.out⟩
        | true =>
          go_wp2_with fail
          go_roundw
          case rel => exact ⟨i + 1, by have := HLT.out; omega, by have := HLT.out; omega, by go_num, fun j hj => if h : j = i then by subst h; rw [HPP.out]; exact HF.out else HALL.out j (by omega), B2.out⟩
          case measure => have := HLT.out; simp [intOf]; omega
      · have hi2 : i = 300 := by have := HI.out; omega
        have h9' : ¬ (i : Int) < 300 := by omega
        have hlt' : (i : Int) < (L.length : Int) := by omega
        clear hlt h9
        obtain ⟨X, hX⟩ : ∃ X, decide ((L.length : Int) ≤ n) = X := ⟨_, rfl⟩
        have HX := Lib.hid hX
        have HI2 := Lib.hid hi2
        clear hi2
        go_wp2_with fail
        go_ret
        exact ⟨X, rfl, fun h => ⟨of_decide_eq_true (HX.out.trans h), fun j _ hj => HALL.out j (by have := HI2.out; omega)⟩, HB.out⟩
    · have hi2 : i = L.length := by have := HI.out; omega
      have hlt' : ¬ (i : Int) < (L.length : Int) := by omega
      clear hlt
      obtain ⟨X, hX⟩ : ∃ X, decide ((L.length : Int) ≤ n) = X := ⟨_, rfl⟩
      have HX := Lib.hid hX
      have HI2 := Lib.hid hi2
      clear hi2
      go_wp2_with fail
      go_ret
      exact ⟨X, rfl, fun h => ⟨of_decide_eq_true (HX.out.trans h), fun j hj _ => HALL.out j (by have := HI2.out; omega)⟩, HB.out⟩
end Go.Proofs.Ytphlpgdbngbplaa
end
section
open Go Go.RowKit
namespace QU
open RR FF WW BB
/-- three boxes: the queue, the message, the queue to be answered -/
structure PqS (w : World) (g : Nat) (f1 m f3 : Nat → Value) (wr : World) : Prop where
  below : Below w.heap.size w wr
  a : Blk wr g 3 f1
  b : Blk wr (g + 1) 21 m
  c : Blk wr (g + 1 + 1) 3 f3
theorem pq_mk (w : World) (g : Nat) (hg : w.heap.size = g) (x0 x1 x2 : Value) (m : Nat → Value) (T M : TypeId) :
    PqS w g (rowL [x0, x1, x2]) m (rowL [.slice none 0 0, .slice none 0 0, .int .i64 0]) (((w.alloc (.cells #[x0, x1, x2] T)).alloc (.cells (row 21 m) M)).alloc (.cells #[.slice none 0 0, .slice none 0 0, .int .i64 0] T)) := by
  have b1 := (Below.refl w.heap.size w).alloc (Nat.le_refl _) (.cells #[x0, x1, x2] T)
  have b2 := b1.alloc b1.size (.cells (row 21 m) M)
  exact ⟨b2.alloc b2.size _, ((Blk.new' hg.symm (row3_ _ _ _)).alloc _).alloc _, (Blk.new' (by simp; omega) rfl).alloc _, Blk.new' (by simp; omega) (row3_ _ _ _)⟩
theorem PqS.on {w w1 w2 : World} {g : Nat} {f1 m f3 : Nat → Value} (h : PqS w g f1 m f3 w1) (hb : Below w1.heap.size w1 w2) : PqS w g f1 m f3 w2 :=
  ⟨h.below.trans (hb.mono h.below.size), h.a.below hb h.a.lt, h.b.below hb h.b.lt, h.c.below hb h.c.lt⟩
theorem row21_ (m : Nat → Value) : row 21 m = #[m 0, m 1, m 2, m 3, m 4, m 5, m 6, m 7, m 8, m 9, m 10, m 11, m 12, m 13, m 14, m 15, m 16, m 17, m 18, m 19, m 20] := rfl
theorem cellsMv_one {L : List Mv} (h : ∀ x ∈ L, ∀ i, i < 21 → (x.2 i).oneCell' = true) : ∀ u ∈ cellsG encMv L, u.oneCell' = true := by
  intro u hu
  unfold cellsG at hu
  rw [List.mem_flatten] at hu
  obtain ⟨c, hc, hu⟩ := hu
  obtain ⟨x, hx, rfl⟩ := List.mem_map.1 hc
  unfold encMv row at hu
  simp only [List.mem_map, List.mem_range] at hu
  obtain ⟨i, hi, rfl⟩ := hu
  exact h x hx i hi
end QU
namespace Go.Proofs.Ytphlpgdbngbplaa
open QU RR FF WW BB
theorem info_msg17 : (Try.prog.info? 42).map (fun i => (i.zero, i.size, i.bytes)) = some (some (.agg #[.int .i64 0, .int .i64 0, .int .i64 0, .int .i64 0, .string ⟨#[]⟩, .int .i64 0, .int .i64 0, .int .i64 0, .string ⟨#[]⟩, .slice none 0 0, .slice none 0 0, .int .i64 0, .string ⟨#[]⟩, .slice none 0 0, .int .i64 0, .slice none 0 0, .int .i64 0, .int .i64 0, .string ⟨#[]⟩, .int .i64 0, .string ⟨#[]⟩]), 21, 272) := by kernel_rfl
theorem und_msgs17 : Try.prog.underlying 27 = some (.slice 42) := by kernel_rfl
theorem agg_q17 (w : World) : (isAgg 29).run Try.prog w = .ok true w := by kernel_rfl
theorem size_q17 (w : World) : (Go.sizeOf 29).run Try.prog w = .ok 3 w := by kernel_rfl
/-- what Push answers -/
def PushAns (F S : List Mv) (D : Int) (A : Nat → Prop) (m : Nat → Value) (b : ByteArray) (w : World) (e : Ending) (w' : World) : Prop :=
  ∃ v1 v2 F' S' D' n, e = .returned (.tuple #[.agg #[v1, v2, .int .i64 D'], .int .i64 n]) ∧ pushQ ⟨F.map Prod.fst, S.map Prod.fst, D⟩ b = (⟨F'.map Prod.fst, S'.map Prod.fst, D'⟩, n) ∧
    (∀ x ∈ F' ++ S', x ∈ F ++ S ∨ x = (b, m)) ∧ GRow 21 encMv mv0 (fun c => A c ∨ w.heap.size ≤ c) w' v1 F' ∧ GRow 21 encMv mv0 (fun c => A c ∨ w.heap.size ≤ c) w' v2 S' ∧ Below w.heap.size w w'
set_option maxRecDepth 100000 in
set_option maxHeartbeats 32000000 in
theorem rpush17_any (F S : List Mv) (D : Int) (A : Nat → Prop) (a1 a2 : Option Addr) (c1 c2 : Nat) (m : Nat → Value) (b : ByteArray) (d : MsgD) (w : World)
    (hF : GRow 21 encMv mv0 A w (.slice a1 F.length c1) F) (hS : GRow 21 encMv mv0 A w (.slice a2 S.length c2) S) (h1 : ∀ x ∈ F, ∀ i, i < 21 → (x.2 i).oneCell' = true) (h2 : ∀ x ∈ S, ∀ i, i < 21 → (x.2 i).oneCell' = true)
    (hl : F.length ≤ 64 ∧ S.length ≤ 64) (hD : 0 ≤ D ∧ D ≤ 1000000) (hm : MsgOf w m b) (hd : msgRd b = some d) :
    Calls Try.prog 10 #[.agg #[.slice a1 F.length c1, .slice a2 S.length c2, .int .i64 D], .agg (row 21 m)] w (PushAns F S D A m b w) := by
  have HF := Lib.hid hF
  have HS := Lib.hid hS
  have HO1 := Lib.hid h1
  have HO2 := Lib.hid h2
  have HL := Lib.hid hl
  have d0 := hD.1
  have d1 := hD.2
  have HM := Lib.hid hm
  obtain ⟨k, hk⟩ : ∃ k, kindD d = k := ⟨_, rfl⟩
  have HMK := Lib.hid (show m 0 = .int .i64 k by
    obtain ⟨_, d', _, _, _, _, h3, h4⟩ := hm
    rw [hd] at h3
    injection h3 with h3
    subst h3
    rw [h4.y0, ← hk]; rfl)
  obtain ⟨B, hB⟩ : ∃ B, clientD d = B := ⟨_, rfl⟩
  have HB := Lib.hid (show (decide (k = 4) || decide (k = 5)) = B by rw [← hB, ← hk]; rfl)
  have HPQ := Lib.hid (show pushQ ⟨F.map Prod.fst, S.map Prod.fst, D⟩ b = if B then (if 64 ≤ S.length then (⟨F.map Prod.fst, S.map Prod.fst, D + 1⟩, 7) else (⟨F.map Prod.fst, S.map Prod.fst ++ [b], D⟩, 0)) else (if 64 ≤ F.length then (⟨F.map Prod.fst, S.map Prod.fst, D + 1⟩, 7) else (⟨F.map Prod.fst ++ [b], S.map Prod.fst, D⟩, 0)) by
    unfold pushQ; rw [hd]; dsimp only; rw [hB, List.length_map, List.length_map])
  have l1 := hl.1
  have l2 := hl.2
  clear hF hS h1 h2 hl hD hm hd hk hB
  have X0 := Lib.hid (pq_mk w w.heap.size rfl (.slice a1 F.length c1) (.slice a2 S.length c2) (.int .i64 D) m 29 42)
  go_enter Try.func10, Try.ntmps10
  go_wp2_with (with_reducible refine hold_load (.tmp 3) rfl ?_)
  obtain ⟨g, hg⟩ : ∃ g, w.heap.size = g := ⟨_, rfl⟩
  have HG := Lib.hid hg
  obtain ⟨w0, hw0⟩ : ∃ w0, ((w.alloc (.cells #[.slice a1 F.length c1, .slice a2 S.length c2, .int .i64 D] 29)).alloc (.cells (row 21 m) 42)).alloc (.cells #[.slice none 0 0, .slice none 0 0, .int .i64 0] 29) = w0 := ⟨_, rfl⟩
  rw [hw0, hg] at X0
  rw [hw0]
  simp only [hg]
  clear hw0 hg
  refine wpl_load (.tmp 3) (g + 1) 0 21 21 m rfl rfl (by rfl) (agg_msg _) (size_msg _) X0.out.b.cells (by omega) ?_
  simp only [Nat.zero_add]
  go_wp2_with fail
  refine (HM.out.later X0.out.below).right.mono ?_
  rintro e w1 ⟨rfl, hb1⟩
  have X1 := Lib.hid (X0.out.on hb1)
  clear hb1
  go_upto_region 3 with fail
  have c0 := X1.out.b.get 0 (by omega)
  rw [HMK.out] at c0
  go_cut [6] from 11 to 18 (fun s wx => s = .bool B ∧ wx = w1)
  case first =>
    by_cases h4 : k = 4
    · have e4 : (k == 4) = true := by rw [beq_iff_eq]; exact h4
      have HBT := Lib.hid (show B = true by rw [← HB.out]; simp [h4])
      clear h4
      go_wp2_with fail
      go_meet
      exact ⟨by rw [HBT.out], rfl⟩
    · have e4 : (k == 4) = false := by rw [beq_eq_false_iff_ne]; exact h4
      obtain ⟨E, hE⟩ : ∃ E, (k == 5) = E := ⟨_, rfl⟩
      have HBT := Lib.hid (show B = E by rw [← HB.out, ← hE, decide_eq_false h4, Bool.false_or]; by_cases h5 : k = 5 <;> simp [h5])
      clear h4
      go_wp2_with fail
      go_meet
      exact ⟨by rw [HBT.out], rfl⟩
  case rest =>
  obtain ⟨rfl, rfl⟩ := hcut
  clear c0
  cases B with
  | true =>
    by_cases hf : 64 ≤ S.length
    · have HNF := Lib.hid hf
      have e64 : ((S.length : Int) == 64) = true := by rw [beq_iff_eq]; omega
      clear hf
      obtain ⟨q0, q1, q2⟩ := cells3 X1.out.a
      have f1 := X1.out.a.frz 2
      go_upto_region 6 with fail
      clear q0 q1 q2 f1
      have U9 := Lib.hid (Upd.set wc g 2 (.int .i64 (D + 1)))
      have A9 := Lib.hid (show Blk (wc.setCell ⟨g, 2, none⟩ (.int .i64 (D + 1))) g 3 (rowL [.slice a1 F.length c1, .slice a2 S.length c2, .int .i64 (D + 1)]) from (X1.out.a.set 2 _).congr _ fun j hj => by
        match j, hj with
        | 0, _ => rfl
        | 1, _ => rfl
        | 2, _ => rfl)
      have C9 := Lib.hid (X1.out.c.upd U9.out (by omega))
      obtain ⟨w9, hw9⟩ : ∃ w9, wc.setCell ⟨g, 2, none⟩ (.int .i64 (D + 1)) = w9 := ⟨_, rfl⟩
      rw [hw9] at A9 C9 U9 ⊢
      clear hw9
      go_wp2_with (with_reducible refine hold_load (.tmp 2) rfl ?_)
      refine wpl_load (.tmp 2) g 0 3 3 _ rfl rfl (by rfl) (agg_q17 _) (size_q17 _) A9.out.cells (by omega) ?_
      simp only [Nat.zero_add]
      go_wp2_with (with_reducible refine hold_store (.tmp 4) (.tmp 40) rfl ?_)
      refine wpl_store (.tmp 4) (.tmp 40) (g + 1 + 1) 0 3 3 _ (rowL [.slice a1 F.length c1, .slice a2 S.length c2, .int .i64 (D + 1)]) rfl rfl (by rfl) (by rfl) (size_q17 _) C9.out (by omega) (fun i hi => by
        match i, hi with
        | 0, _ => rfl
        | 1, _ => rfl
        | 2, _ => rfl) ?_
      intro w10 h10
      have C10 := Lib.hid (h10.1.congr (rowL [.slice a1 F.length c1, .slice a2 S.length c2, .int .i64 (D + 1)]) fun i hi => by rw [if_pos ⟨Nat.zero_le _, by omega⟩]; rfl)
      have U10 := Lib.hid h10.2
      clear h10
      go_wp2_with fail
      have BF := X1.out.below.trans ((U9.out.below (by rw [HG.out]; exact Nat.le_refl _)).trans (U10.out.below (by have := HG.out; omega)))
      refine bodyPost_ret (v := .tuple #[.agg (row 3 (rowL [.slice a1 F.length c1, .slice a2 S.length c2, .int .i64 (D + 1)])), .int .i64 7]) (results_row2 (b := g + 1 + 1) (N := 3) (m := 3) Try.results10 (by simp) (by simp) (agg_q17 _) (size_q17 _) C10.out.cells (Nat.le_refl _)) rfl ?_
      exact ⟨_, _, F, S, D + 1, 7, rfl, by rw [HPQ.out]; first | rw [if_pos rfl, if_pos HNF.out] | rw [if_pos trivial, if_pos HNF.out], fun x hx => .inl hx, (HF.out.later BF).more fun _ h => Or.inl h, (HS.out.later BF).more fun _ h => Or.inl h, BF⟩
    · have HNF := Lib.hid hf
      have e64 : ((S.length : Int) == 64) = false := by rw [beq_eq_false_iff_ne]; omega
      clear hf
      obtain ⟨q0, q1, q2⟩ := cells3 X1.out.a
      go_upto_region 8 with fail
      clear q0 q1 q2 e64
      have HS4 := Lib.hid (HS.out.later X1.out.below)
      refine twoE_abs 8 [1, 2, 4] 0 3 5 42 45 47 [(false, 6), (true, 7), (false, 8)] _ _ _ 42 21 S.length (cellsG encMv S) [m 0, m 1, m 2, m 3, m 4, m 5, m 6, m 7, m 8, m 9, m 10, m 11, m 12, m 13, m 14, m 15, m 16, m 17, m 18, m 19, m 20] (by kernel_rfl) (by kernel_rfl) (fun _ _ d _ _ h => by cases d <;> exact h) rfl rfl rfl ⟨rfl, rfl, rfl⟩ ⟨rfl, rfl, rfl⟩ ⟨by decide, by decide, by decide⟩ fun w4 hs4 => ?_
      have X4 := Lib.hid (X1.out.on (hs4.below _))
      have Y4 := Lib.hid (hs4.below wc.heap.size)
      clear hs4
      obtain ⟨ti, i1, i2, i3, i4⟩ := info_parts info_msg17
      iterate 2 (refine pre_run _ ?_ rfl rfl ?_ ?_; rotate_left; (focus (intro w' hS; obtain ⟨q0, q1, q2⟩ := cells3 (X4.out.on hS).a; go_simp; exact rfl)); simp only [Act.put, List.setIfInBounds_toArray, List.set_cons_zero, List.set_cons_succ, List.getElem_toArray, List.getElem_cons_zero, List.getElem_cons_succ])
      refine pre_run _ (.agg #[m 0, m 1, m 2, m 3, m 4, m 5, m 6, m 7, m 8, m 9, m 10, m 11, m 12, m 13, m 14, m 15, m 16, m 17, m 18, m 19, m 20]) rfl rfl (fun w' hS => run_op_load_at (ad := .tmp 3) (b := g + 1) (off := 0) (m := 21) (f := m) rfl (by rfl) (agg_msg _) (size_msg _) (fun j hj => by rw [Nat.zero_add]; exact (X4.out.on hS).b.get j hj)) ?_
      simp only [Act.put, List.setIfInBounds_toArray, List.set_cons_zero, List.set_cons_succ, List.getElem_toArray, List.getElem_cons_zero, List.getElem_cons_succ]
      refine pre_end ⟨?_, ?_, ?_, ?_⟩
      · rintro a' (rfl | ⟨x, rfl⟩) w' <;> go_simp
      · rintro a' (rfl | ⟨x, rfl⟩ | ⟨x, z, rfl⟩) w' hb <;> go_simp
      · rintro b' a' ha w' hb hown
        have hrow := HS4.out.later (Y4.out.trans (hb.mono Y4.out.size))
        obtain ⟨v', w'', hr, ho, hgr, hob⟩ := run_append_arg0 (P := Try.prog) w4.heap.size 27 27 42 ti _ 21 272 und_msgs17 i1 i2 i3 i4 rfl (by decide) b' hown a2 S.length c2 (cellsG encMv S) (cellsG_len encMv_len S) (grow_none hrow) (grow_flat encMv_len hrow) (cellsMv_one HO2.out) (by have := HL.out; unfold maxLen; omega) (by have := HL.out; omega) hb.size
        refine ⟨v', w'', ?_, ho, hgr, hob⟩
        rcases ha with rfl | ⟨x, rfl⟩ | ⟨x, rfl⟩
        all_goals exact JJ.run_op_append _ _ _ rfl _ _ rfl rfl hr
      · intro b' v' b7 w' hT
        have HTW := Lib.hid hT
        clear hT
        simp only [Act.put, List.setIfInBounds_toArray, List.set_cons_zero, List.set_cons_succ]
        obtain ⟨u8, w8, hr8, ho8, hg8, _⟩ := run_append_own (P := Try.prog) w' w4.heap.size 27 27 42 ti _ 21 272 und_msgs17 i1 i2 i3 i4 rfl (by decide) v' S.length (cellsG encMv S) HTW.out.row ⟨b7, 0, none⟩ 1 1 [m 0, m 1, m 2, m 3, m 4, m 5, m 6, m 7, m 8, m 9, m 10, m 11, m 12, m 13, m 14, m 15, m 16, m 17, m 18, m 19, m 20] rfl (fun j u hj => by rw [Addr.add_lit, Nat.zero_add]; exact HTW.out.cell j u hj) (fun u hu => by
          have hu : u ∈ cellsG encMv [(b, m)] := by unfold cellsG; simpa [encMv, row21_] using hu
          exact cellsMv_one (fun x hx i hi => by rw [List.mem_singleton.1 hx]; exact HM.out.1 i hi) u hu) (by have := HL.out; unfold maxLen; omega) (by have := HL.out; omega) HTW.out.below.size
        obtain ⟨ua, uc, rfl⟩ : ∃ ua uc, u8 = .slice ua (S.length + 1) uc := by
          rcases ho8.2 with ⟨_, h0⟩ | ⟨q, cp, cur, rfl, _⟩
          · omega
          · exact ⟨_, _, rfl⟩
        have O8 := Lib.hid (show w8.ownsRow w4.heap.size 42 21 (.slice ua (S.length + 1) uc) (S ++ [(b, m)]).length (cellsG encMv (S ++ [(b, m)])) by
          rw [cellsG_snoc, List.length_append]; exact ho8)
        have B8 := Lib.hid (HTW.out.below.grown hg8 HTW.out.below.size (fun k hk => (HTW.out.row.lt k hk).1))
        have X8 := Lib.hid (X4.out.on B8.out)
        refine pe_value (w' := w8) _ _ rfl rfl (JJ.run_op_append _ _ _ rfl _ _ rfl rfl hr8) B8.out ?_
        clear hr8 ho8 hg8
        simp only [Act.put, List.setIfInBounds_toArray, List.set_cons_zero, List.set_cons_succ, List.getElem_toArray, List.getElem_cons_zero, List.getElem_cons_succ]
        iterate 1 (refine pe_run _ ?_ rfl rfl ?_ ?_; rotate_left; (focus (intro w' hS; go_simp; exact rfl)); simp only [Act.put, List.setIfInBounds_toArray, List.set_cons_zero, List.set_cons_succ, List.getElem_toArray, List.getElem_cons_zero, List.getElem_cons_succ])
        refine pe_last _ rfl ?_
        simp only [List.getElem_toArray, List.getElem_cons_zero, List.getElem_cons_succ]
        obtain ⟨q0, q1, q2⟩ := cells3 X8.out.a
        have f1 := X8.out.a.frz 1
        go_upto_region 10 with fail
        clear q0 q1 q2 f1
        have U9 := Lib.hid (Upd.set w8 g 1 (.slice ua (S.length + 1) uc))
        have A9 := Lib.hid (show Blk (w8.setCell ⟨g, 1, none⟩ (.slice ua (S.length + 1) uc)) g 3 (rowL [.slice a1 F.length c1, .slice ua (S.length + 1) uc, .int .i64 D]) from (X8.out.a.set 1 _).congr _ fun j hj => by
          match j, hj with
          | 0, _ => rfl
          | 1, _ => rfl
          | 2, _ => rfl)
        have C9 := Lib.hid (X8.out.c.upd U9.out (by omega))
        obtain ⟨w9, hw9⟩ : ∃ w9, w8.setCell ⟨g, 1, none⟩ (.slice ua (S.length + 1) uc) = w9 := ⟨_, rfl⟩
        rw [hw9] at A9 C9 U9 ⊢
        clear hw9
        go_wp2_with (with_reducible refine hold_load (.tmp 2) rfl ?_)
        refine wpl_load (.tmp 2) g 0 3 3 _ rfl rfl (by rfl) (agg_q17 _) (size_q17 _) A9.out.cells (by omega) ?_
        simp only [Nat.zero_add]
        go_wp2_with (with_reducible refine hold_store (.tmp 4) (.tmp 58) rfl ?_)
        refine wpl_store (.tmp 4) (.tmp 58) (g + 1 + 1) 0 3 3 _ (rowL [.slice a1 F.length c1, .slice ua (S.length + 1) uc, .int .i64 D]) rfl rfl (by rfl) (by rfl) (size_q17 _) C9.out (by omega) (fun i hi => by
          match i, hi with
          | 0, _ => rfl
          | 1, _ => rfl
          | 2, _ => rfl) ?_
        intro w10 h10
        have C10 := Lib.hid (h10.1.congr (rowL [.slice a1 F.length c1, .slice ua (S.length + 1) uc, .int .i64 D]) fun i hi => by rw [if_pos ⟨Nat.zero_le _, by omega⟩]; rfl)
        have U10 := Lib.hid h10.2
        clear h10
        go_wp2_with fail
        have BF := X8.out.below.trans ((U9.out.below (by rw [HG.out]; exact Nat.le_refl _)).trans (U10.out.below (by have := HG.out; omega)))
        refine bodyPost_ret (v := .tuple #[.agg (row 3 (rowL [.slice a1 F.length c1, .slice ua (S.length + 1) uc, .int .i64 D])), .int .i64 0]) (results_row2 (b := g + 1 + 1) (N := 3) (m := 3) Try.results10 (by simp) (by simp) (agg_q17 _) (size_q17 _) C10.out.cells (Nat.le_refl _)) rfl ?_
        have HLO : w.heap.size ≤ w4.heap.size := X4.out.below.size
        have HROW : GRow 21 encMv mv0 (fun c => A c ∨ w.heap.size ≤ c) w10 (.slice ua (S.length + 1) uc) (S ++ [(b, m)]) := by
          refine (grow_of_own encMv_len mv0 (row_keep O8.out fun c hc => ?_)).more fun c hc => Or.inr (by omega)
          have h4 := (O8.out.lt c hc).1
          have hc4 : g + 1 + 1 < w4.heap.size := X4.out.c.lt
          rw [U10.out.block c (by omega), U9.out.block c (by omega)]
        exact ⟨_, _, F, S ++ [(b, m)], D, 0, rfl, by rw [HPQ.out]; (first | rw [if_pos rfl, if_neg HNF.out, List.map_append] | rw [if_pos trivial, if_neg HNF.out, List.map_append]); rfl, fun x hx => by
          rcases List.mem_append.1 hx with h | h
          · exact .inl (List.mem_append_left _ h)
          · rcases List.mem_append.1 h with h | h
            · exact .inl (List.mem_append_right _ h)
            · exact .inr (List.mem_singleton.1 h), (HF.out.later BF).more fun _ h => Or.inl h, HROW, BF⟩
  | false =>
    by_cases hf : 64 ≤ F.length
    · have HNF := Lib.hid hf
      have e64 : ((F.length : Int) == 64) = true := by rw [beq_iff_eq]; omega
      clear hf
      obtain ⟨q0, q1, q2⟩ := cells3 X1.out.a
      have f1 := X1.out.a.frz 2
      go_upto_region 6 with fail
      clear q0 q1 q2 f1
      have U9 := Lib.hid (Upd.set wc g 2 (.int .i64 (D + 1)))
      have A9 := Lib.hid (show Blk (wc.setCell ⟨g, 2, none⟩ (.int .i64 (D + 1))) g 3 (rowL [.slice a1 F.length c1, .slice a2 S.length c2, .int .i64 (D + 1)]) from (X1.out.a.set 2 _).congr _ fun j hj => by
        match j, hj with
        | 0, _ => rfl
        | 1, _ => rfl
        | 2, _ => rfl)
      have C9 := Lib.hid (X1.out.c.upd U9.out (by omega))
      obtain ⟨w9, hw9⟩ : ∃ w9, wc.setCell ⟨g, 2, none⟩ (.int .i64 (D + 1)) = w9 := ⟨_, rfl⟩
      rw [hw9] at A9 C9 U9 ⊢
      clear hw9
      go_wp2_with (with_reducible refine hold_load (.tmp 2) rfl ?_)
      refine wpl_load (.tmp 2) g 0 3 3 _ rfl rfl (by rfl) (agg_q17 _) (size_q17 _) A9.out.cells (by omega) ?_
      simp only [Nat.zero_add]
      go_wp2_with (with_reducible refine hold_store (.tmp 4) (.tmp 40) rfl ?_)
      refine wpl_store (.tmp 4) (.tmp 40) (g + 1 + 1) 0 3 3 _ (rowL [.slice a1 F.length c1, .slice a2 S.length c2, .int .i64 (D + 1)]) rfl rfl (by rfl) (by rfl) (size_q17 _) C9.out (by omega) (fun i hi => by
        match i, hi with
        | 0, _ => rfl
        | 1, _ => rfl
        | 2, _ => rfl) ?_
      intro w10 h10
      have C10 := Lib.hid (h10.1.congr (rowL [.slice a1 F.length c1, .slice a2 S.length c2, .int .i64 (D + 1)]) fun i hi => by rw [if_pos ⟨Nat.zero_le _, by omega⟩]; rfl)
      have U10 := Lib.hid h10.2
      clear h10
      go_wp2_with fail
      have BF := X1.out.below.trans ((U9.out.below (by rw [HG.out]; exact Nat.le_refl _)).trans (U10.out.below (by have := HG.out; omega)))
      refine bodyPost_ret (v := .tuple #[.agg (row 3 (rowL [.slice a1 F.length c1, .slice a2 S.length c2, .int .i64 (D + 1)])), .int .i64 7]) (results_row2 (b := g + 1 + 1) (N := 3) (m := 3) Try.results10 (by simp) (by simp) (agg_q17 _) (size_q17 _) C10.out.cells (Nat.le_refl _)) rfl ?_
      exact ⟨_, _, F, S, D + 1, 7, rfl, by rw [HPQ.out, if_neg (by simp), if_pos HNF.out], fun x hx => .inl hx, (HF.out.later BF).more fun _ h => Or.inl h, (HS.out.later BF).more fun _ h => Or.inl h, BF⟩
    · have HNF := Lib.hid hf
      have e64 : ((F.length : Int) == 64) = false := by rw [beq_eq_false_iff_ne]; omega
      clear hf
      obtain ⟨q0, q1, q2⟩ := cells3 X1.out.a
      go_upto_region 9 with fail
      clear q0 q1 q2 e64
      have HS4 := Lib.hid (HF.out.later X1.out.below)
      refine twoE_abs 8 [1, 2, 4] 0 3 5 50 53 55 [(false, 6), (true, 7), (false, 8)] _ _ _ 42 21 F.length (cellsG encMv F) [m 0, m 1, m 2, m 3, m 4, m 5, m 6, m 7, m 8, m 9, m 10, m 11, m 12, m 13, m 14, m 15, m 16, m 17, m 18, m 19, m 20] (by kernel_rfl) (by kernel_rfl) (fun _ _ d _ _ h => by cases d <;> exact h) rfl rfl rfl ⟨rfl, rfl, rfl⟩ ⟨rfl, rfl, rfl⟩ ⟨by decide, by decide, by decide⟩ fun w4 hs4 => ?_
      have X4 := Lib.hid (X1.out.on (hs4.below _))
      have Y4 := Lib.hid (hs4.below wc.heap.size)
      clear hs4
      obtain ⟨ti, i1, i2, i3, i4⟩ := info_parts info_msg17
      iterate 2 (refine pre_run _ ?_ rfl rfl ?_ ?_; rotate_left; (focus (intro w' hS; obtain ⟨q0, q1, q2⟩ := cells3 (X4.out.on hS).a; go_simp; exact rfl)); simp only [Act.put, List.setIfInBounds_toArray, List.set_cons_zero, List.set_cons_succ, List.getElem_toArray, List.getElem_cons_zero, List.getElem_cons_succ])
      refine pre_run _ (.agg #[m 0, m 1, m 2, m 3, m 4, m 5, m 6, m 7, m 8, m 9, m 10, m 11, m 12, m 13, m 14, m 15, m 16, m 17, m 18, m 19, m 20]) rfl rfl (fun w' hS => run_op_load_at (ad := .tmp 3) (b := g + 1) (off := 0) (m := 21) (f := m) rfl (by rfl) (agg_msg _) (size_msg _) (fun j hj => by rw [Nat.zero_add]; exact (X4.out.on hS).b.get j hj)) ?_
      simp only [Act.put, List.setIfInBounds_toArray, List.set_cons_zero, List.set_cons_succ, List.getElem_toArray, List.getElem_cons_zero, List.getElem_cons_succ]
      refine pre_end ⟨?_, ?_, ?_, ?_⟩
      · rintro a' (rfl | ⟨x, rfl⟩) w' <;> go_simp
      · rintro a' (rfl | ⟨x, rfl⟩ | ⟨x, z, rfl⟩) w' hb <;> go_simp
      · rintro b' a' ha w' hb hown
        have hrow := HS4.out.later (Y4.out.trans (hb.mono Y4.out.size))
        obtain ⟨v', w'', hr, ho, hgr, hob⟩ := run_append_arg0 (P := Try.prog) w4.heap.size 27 27 42 ti _ 21 272 und_msgs17 i1 i2 i3 i4 rfl (by decide) b' hown a1 F.length c1 (cellsG encMv F) (cellsG_len encMv_len F) (grow_none hrow) (grow_flat encMv_len hrow) (cellsMv_one HO1.out) (by have := HL.out; unfold maxLen; omega) (by have := HL.out; omega) hb.size
        refine ⟨v', w'', ?_, ho, hgr, hob⟩
        rcases ha with rfl | ⟨x, rfl⟩ | ⟨x, rfl⟩
        all_goals exact JJ.run_op_append _ _ _ rfl _ _ rfl rfl hr
      · intro b' v' b7 w' hT
        have HTW := Lib.hid hT
        clear hT
        simp only [Act.put, List.setIfInBounds_toArray, List.set_cons_zero, List.set_cons_succ]
        obtain ⟨u8, w8, hr8, ho8, hg8, _⟩ := run_append_own (P := Try.prog) w' w4.heap.size 27 27 42 ti _ 21 272 und_msgs17 i1 i2 i3 i4 rfl (by decide) v' F.length (cellsG encMv F) HTW.out.row ⟨b7, 0, none⟩ 1 1 [m 0, m 1, m 2, m 3, m 4, m 5, m 6, m 7, m 8, m 9, m 10, m 11, m 12, m 13, m 14, m 15, m 16, m 17, m 18, m 19, m 20] rfl (fun j u hj => by rw [Addr.add_lit, Nat.zero_add]; exact HTW.out.cell j u hj) (fun u hu => by
          have hu : u ∈ cellsG encMv [(b, m)] := by unfold cellsG; simpa [encMv, row21_] using hu
          exact cellsMv_one (fun x hx i hi => by rw [List.mem_singleton.1 hx]; exact HM.out.1 i hi) u hu) (by have := HL.out; unfold maxLen; omega) (by have := HL.out; omega) HTW.out.below.size
        obtain ⟨ua, uc, rfl⟩ : ∃ ua uc, u8 = .slice ua (F.length + 1) uc := by
          rcases ho8.2 with ⟨_, h0⟩ | ⟨q, cp, cur, rfl, _⟩
          · omega
          · exact ⟨_, _, rfl⟩
        have O8 := Lib.hid (show w8.ownsRow w4.heap.size 42 21 (.slice ua (F.length + 1) uc) (F ++ [(b, m)]).length (cellsG encMv (F ++ [(b, m)])) by
          rw [cellsG_snoc, List.length_append]; exact ho8)
        have B8 := Lib.hid (HTW.out.below.grown hg8 HTW.out.below.size (fun k hk => (HTW.out.row.lt k hk).1))
        have X8 := Lib.hid (X4.out.on B8.out)
        refine pe_value (w' := w8) _ _ rfl rfl (JJ.run_op_append _ _ _ rfl _ _ rfl rfl hr8) B8.out ?_
        clear hr8 ho8 hg8
        simp only [Act.put, List.setIfInBounds_toArray, List.set_cons_zero, List.set_cons_succ, List.getElem_toArray, List.getElem_cons_zero, List.getElem_cons_succ]
        iterate 1 (refine pe_run _ ?_ rfl rfl ?_ ?_; rotate_left; (focus (intro w' hS; go_simp; exact rfl)); simp only [Act.put, List.setIfInBounds_toArray, List.set_cons_zero, List.set_cons_succ, List.getElem_toArray, List.getElem_cons_zero, List.getElem_cons_succ])
        refine pe_last _ rfl ?_
        simp only [List.getElem_toArray, List.getElem_cons_zero, List.getElem_cons_succ]
        obtain ⟨q0, q1, q2⟩ := cells3 X8.out.a
        have f1 := X8.out.a.frz 0
        go_upto_region 10 with fail
        clear q0 q1 q2 f1
        have U9 := Lib.hid (Upd.set w8 g 0 (.slice ua (F.length + 1) uc))
        have A9 := Lib.hid (show Blk (w8.setCell ⟨g, 0, none⟩ (.slice ua (F.length + 1) uc)) g 3 (rowL [.slice ua (F.length + 1) uc, .slice a2 S.length c2, .int .i64 D]) from (X8.out.a.set 0 _).congr _ fun j hj => by
          match j, hj with
          | 0, _ => rfl
          | 1, _ => rfl
          | 2, _ => rfl)
        have C9 := Lib.hid (X8.out.c.upd U9.out (by omega))
        obtain ⟨w9, hw9⟩ : ∃ w9, w8.setCell ⟨g, 0, none⟩ (.slice ua (F.length + 1) uc) = w9 := ⟨_, rfl⟩
        rw [hw9] at A9 C9 U9 ⊢
        clear hw9
        go_wp2_with (with_reducible refine hold_load (.tmp 2) rfl ?_)
        refine wpl_load (.tmp 2) g 0 3 3 _ rfl rfl (by rfl) (agg_q17 _) (size_q17 _) A9.out.cells (by omega) ?_
        simp only [Nat.zero_add]
        go_wp2_with (with_reducible refine hold_store (.tmp 4) (.tmp 58) rfl ?_)
        refine wpl_store (.tmp 4) (.tmp 58) (g + 1 + 1) 0 3 3 _ (rowL [.slice ua (F.length + 1) uc, .slice a2 S.length c2, .int .i64 D]) rfl rfl (by rfl) (by rfl) (size_q17 _) C9.out (by omega) (fun i hi => by
          match i, hi with
          | 0, _ => rfl
          | 1, _ => rfl
          | 2, _ => rfl) ?_
        intro w10 h10
        have C10 := Lib.hid (h10.1.congr (rowL [.slice ua (F.length + 1) uc, .slice a2 S.length c2, .int .i64 D]) fun i hi => by rw [if_pos ⟨Nat.zero_le _, by omega⟩]; rfl)
        have U10 := Lib.hid h10.2
        clear h10
        go_wp2_with fail
        have BF := X8.out.below.trans ((U9.out.below (by rw [HG.out]; exact Nat.le_refl _)).trans (U10.out.below (by have := HG.out; omega)))
        refine bodyPost_ret (v := .tuple #[.agg (row 3 (rowL [.slice ua (F.length + 1) uc, .slice a2 S.length c2, .int .i64 D])), .int .i64 0]) (results_row2 (b := g + 1 + 1) (N := 3) (m := 3) Try.results10 (by simp) (by simp) (agg_q17 _) (size_q17 _) C10.out.cells (Nat.le_refl _)) rfl ?_
        have HLO : w.heap.size ≤ w4.heap.size := X4.out.below.size
        have HROW : GRow 21 encMv mv0 (fun c => A c ∨ w.heap.size ≤ c) w10 (.slice ua (F.length + 1) uc) (F ++ [(b, m)]) := by
          refine (grow_of_own encMv_len mv0 (row_keep O8.out fun c hc => ?_)).more fun c hc => Or.inr (by omega)
          have h4 := (O8.out.lt c hc).1
          have hc4 : g + 1 + 1 < w4.heap.size := X4.out.c.lt
          rw [U10.out.block c (by omega), U9.out.block c (by omega)]
        exact ⟨_, _, F ++ [(b, m)], S, D, 0, rfl, by rw [HPQ.out, if_neg (by simp), if_neg HNF.out, List.map_append]; rfl, fun x hx => by
          rcases List.mem_append.1 hx with h | h
          · rcases List.mem_append.1 h with h | h
            · exact .inl (List.mem_append_left _ h)
            · exact .inr (List.mem_singleton.1 h)
          · exact .inl (List.mem_append_right _ h), HROW, (HS.out.later BF).more fun _ h => Or.inl h, BF⟩
end Go.Proofs.Ytphlpgdbngbplaa
end
section
open Go Go.RowKit
namespace QU
section
variable {α : Type}
theorem range_getD (z : α) (L : List α) : (List.range L.length).map (fun j => L.getD j z) = L := by
  apply List.ext_getElem
  · simp
  · intro i h1 h2
    simp [List.getD_eq_getElem?_getD, List.getElem?_eq_getElem h2]
theorem range_erase (z : α) : ∀ (L : List α) (ix : Nat), ((List.range L.length).filter fun j => decide (j ≠ ix)).map (fun j => L.getD j z) = L.eraseIdx ix
  | [], ix => by simp
  | a :: L, 0 => by
    rw [List.length_cons, List.range_succ_eq_map, List.filter_cons_of_neg (by simp), List.filter_map, List.map_map]
    rw [List.filter_eq_self.2 (fun j _ => by simp)]
    exact range_getD z L
  | a :: L, ix + 1 => by
    rw [List.length_cons, List.range_succ_eq_map, List.filter_cons_of_pos (by simp), List.filter_map, List.map_cons, List.map_map, List.eraseIdx_cons_succ]
    congr 1
    rw [← range_erase z L ix]
    rw [List.filter_congr (q := fun j => decide (j ≠ ix)) (fun j _ => by simp)]
    apply List.map_congr_left
    intro j _
    simp [List.getD]
/-- of the first k: those of the first lane, but for ix; those of the second one -/
def keepP (z : α) (all : List α) (ix f k : Nat) : List α := ((List.range k).filter fun j => decide (j ≠ ix) && decide (j < f)).map fun j => all.getD j z
def keepS (z : α) (all : List α) (ix f k : Nat) : List α := ((List.range k).filter fun j => decide (j ≠ ix) && !decide (j < f)).map fun j => all.getD j z
theorem keepP_zero (z : α) (all : List α) (ix f : Nat) : keepP z all ix f 0 = [] := rfl
theorem keepS_zero (z : α) (all : List α) (ix f : Nat) : keepS z all ix f 0 = [] := rfl
theorem keepP_yes (z : α) (all : List α) {ix f k : Nat} (h1 : k ≠ ix) (h2 : k < f) : keepP z all ix f (k + 1) = keepP z all ix f k ++ [all.getD k z] := by
  unfold keepP; rw [List.range_succ, List.filter_append, List.map_append]; simp [h1, h2]
theorem keepP_no (z : α) (all : List α) {ix f k : Nat} (h : ¬ (k ≠ ix ∧ k < f)) : keepP z all ix f (k + 1) = keepP z all ix f k := by
  unfold keepP; rw [List.range_succ, List.filter_append, List.map_append, List.filter_cons_of_neg (by simp; omega)]; simp
theorem keepS_yes (z : α) (all : List α) {ix f k : Nat} (h1 : k ≠ ix) (h2 : ¬ k < f) : keepS z all ix f (k + 1) = keepS z all ix f k ++ [all.getD k z] := by
  unfold keepS; rw [List.range_succ, List.filter_append, List.map_append]; simp [h1, h2]
theorem keepS_no (z : α) (all : List α) {ix f k : Nat} (h : ¬ (k ≠ ix ∧ ¬ k < f)) : keepS z all ix f (k + 1) = keepS z all ix f k := by
  unfold keepS; rw [List.range_succ, List.filter_append, List.map_append, List.filter_cons_of_neg (by simp; omega)]; simp
theorem keepP_len (z : α) (all : List α) (ix f : Nat) : ∀ k, (keepP z all ix f k).length ≤ k
  | 0 => Nat.le_refl _
  | k + 1 => by
    have := keepP_len z all ix f k
    by_cases h : k ≠ ix ∧ k < f
    · rw [keepP_yes z all h.1 h.2, List.length_append]; simp; omega
    · rw [keepP_no z all h]; omega
theorem keepS_len (z : α) (all : List α) (ix f : Nat) : ∀ k, (keepS z all ix f k).length ≤ k
  | 0 => Nat.le_refl _
  | k + 1 => by
    have := keepS_len z all ix f k
    by_cases h : k ≠ ix ∧ ¬ k < f
    · rw [keepS_yes z all h.1 h.2, List.length_append]; simp; omega
    · rw [keepS_no z all h]; omega
theorem mem_keepP {z : α} {all : List α} {ix f k : Nat} (hk : k ≤ all.length) {x : α} (h : x ∈ keepP z all ix f k) : x ∈ all := by
  unfold keepP at h
  obtain ⟨j, hj, rfl⟩ := List.mem_map.1 h
  have := List.mem_range.1 (List.mem_filter.1 hj).1
  rw [List.getD_eq_getElem?_getD, List.getElem?_eq_getElem (by omega)]
  exact List.getElem_mem _
theorem mem_keepS {z : α} {all : List α} {ix f k : Nat} (hk : k ≤ all.length) {x : α} (h : x ∈ keepS z all ix f k) : x ∈ all := by
  unfold keepS at h
  obtain ⟨j, hj, rfl⟩ := List.mem_map.1 h
  have := List.mem_range.1 (List.mem_filter.1 hj).1
  rw [List.getD_eq_getElem?_getD, List.getElem?_eq_getElem (by omega)]
  exact List.getElem_mem _
theorem keepP_end (z : α) (F S : List α) (ix : Nat) : keepP z (F ++ S) ix F.length (F.length + S.length) = F.eraseIdx ix := by
  unfold keepP
  rw [List.range_add, List.filter_append, List.map_append]
  rw [show ((List.range S.length).map (F.length + ·)).filter (fun j => decide (j ≠ ix) && decide (j < F.length)) = [] by
    rw [List.filter_eq_nil_iff]
    intro j hj
    obtain ⟨i, _, rfl⟩ := List.mem_map.1 hj
    simp]
  rw [List.map_nil, List.append_nil, ← range_erase z F ix]
  rw [List.filter_congr (q := fun j => decide (j ≠ ix)) (fun j hj => by have := List.mem_range.1 hj; simp [this])]
  apply List.map_congr_left
  intro j hj
  have := List.mem_range.1 (List.mem_filter.1 hj).1
  rw [List.getD_eq_getElem?_getD, List.getElem?_append_left this, List.getD_eq_getElem?_getD]
theorem keepS_end (z : α) (F S : List α) (ix : Nat) : keepS z (F ++ S) ix F.length (F.length + S.length) = if ix < F.length then S else S.eraseIdx (ix - F.length) := by
  unfold keepS
  rw [List.range_add, List.filter_append, List.map_append]
  rw [show (List.range F.length).filter (fun j => decide (j ≠ ix) && !decide (j < F.length)) = [] by
    rw [List.filter_eq_nil_iff]
    intro j hj
    have := List.mem_range.1 hj
    simp [this]]
  rw [List.map_nil, List.nil_append, List.filter_map, List.map_map]
  have hg : ∀ j, (F ++ S).getD (F.length + j) z = S.getD j z := fun j => by
    rw [List.getD_eq_getElem?_getD, List.getElem?_append_right (by omega), Nat.add_sub_cancel_left, List.getD_eq_getElem?_getD]
  by_cases h : ix < F.length
  · rw [if_pos h, List.filter_eq_self.2 (fun j _ => by simp; omega)]
    exact (List.map_congr_left fun j _ => hg j).trans (range_getD z S)
  · rw [if_neg h, ← range_erase z S (ix - F.length)]
    rw [List.filter_congr (q := fun j => decide (j ≠ ix - F.length)) (fun j _ => by
      show (decide (F.length + j ≠ ix) && !decide (F.length + j < F.length)) = _
      rw [Bool.eq_iff_iff]; simp; omega)]
    exact List.map_congr_left fun j _ => hg j
end
theorem map_erase {α β : Type} (f : α → β) : ∀ (L : List α) (i : Nat), (L.map f).eraseIdx i = (L.eraseIdx i).map f
  | [], _ => rfl
  | _ :: _, 0 => rfl
  | a :: L, i + 1 => by rw [List.map_cons, List.eraseIdx_cons_succ, List.eraseIdx_cons_succ, List.map_cons, map_erase f L i]
/-- what is popped of two lanes, by their bytes -/
theorem pop_keep (F S : List Mv) (D i : Int) :
    popQ ⟨F.map Prod.fst, S.map Prod.fst, D⟩ i = ⟨(keepP mv0 (F ++ S) (i % ((F.length + S.length : Nat) : Int)).toNat F.length (F.length + S.length)).map Prod.fst, (keepS mv0 (F ++ S) (i % ((F.length + S.length : Nat) : Int)).toNat F.length (F.length + S.length)).map Prod.fst, D⟩ := by
  have hx : ixQ ⟨F.map Prod.fst, S.map Prod.fst, D⟩ i = (i % ((F.length + S.length : Nat) : Int)).toNat := by unfold ixQ allQ; simp
  unfold popQ
  rw [hx, keepP_end, keepS_end]
  obtain ⟨ix, he⟩ : ∃ ix, (i % ((F.length + S.length : Nat) : Int)).toNat = ix := ⟨_, rfl⟩
  rw [he]
  by_cases h : ix < F.length
  · rw [if_pos (by show ix < (F.map Prod.fst).length; rw [List.length_map]; exact h), if_pos h, map_erase]
  · rw [if_neg (by show ¬ ix < (F.map Prod.fst).length; rw [List.length_map]; exact h), if_neg h, List.eraseIdx_of_length_le (show F.length ≤ ix by omega), ← map_erase, List.length_map]
end QU
end
section
open Go Go.RowKit
namespace QU
open RR FF WW BB
theorem results_row23 {P : Program} {w : World} {fn : Func} {p p2 q T T2 b N m b2 N2 m2 : Nat} {f f2 : Nat → Value} {v : Value} {tmps : Array Value} (h : fn.results = #[.cell p T, .cell p2 T2, .tmp q]) (hp : tmps.getD p undef = .pointer (some ⟨b, 0, none⟩)) (hp2 : tmps.getD p2 undef = .pointer (some ⟨b2, 0, none⟩)) (hq : tmps.getD q undef = v)
    (hT : (isAgg T).run P w = .ok true w) (hS : (Go.sizeOf T).run P w = .ok m w) (hb : Cells w b N f) (hN : m ≤ N) (hT2 : (isAgg T2).run P w = .ok true w) (hS2 : (Go.sizeOf T2).run P w = .ok m2 w) (hb2 : Cells w b2 N2 f2) (hN2 : m2 ≤ N2) : (results fn tmps).run P w = .ok (.tuple #[.agg (row m f), .agg (row m2 f2), v]) w := by
  have h1 := run_load_row (P := P) (off := 0) hT hS hb (by omega)
  have h2 := run_load_row (P := P) (off := 0) hT2 hS2 hb2 (by omega)
  simp only [Nat.zero_add] at h1 h2
  have hp' : tmps[p]?.getD undef = .pointer (some ⟨b, 0, none⟩) := by simpa using hp
  have hp2' : tmps[p2]?.getD undef = .pointer (some ⟨b2, 0, none⟩) := by simpa using hp2
  have hq' : tmps[q]?.getD undef = v := by simpa using hq
  unfold results
  simp [h, hp', hp2', hq', asAddr, h1, h2]
/-- a store of a whole struct in a plan -/
theorem pl_storeQ {P : Program} {ops : Array Oper} {S : World → Prop} {Q : Exit → Act → World → Prop} {i : Nat} {r : List (Bool × Nat)} {a : Act} {w : World} {T : TypeId} {ad x : Operand} {b m : Nat} {f g : Nat → Value} (o : Oper) (ho : ops[i]? = some o) (hg : o.guard = none) (hop : o.op = .store T ad x)
    (ha : a.eval ad = .pointer (some ⟨b, 0, none⟩)) (hx : a.eval x = .agg (row m g)) (hS : (Go.sizeOf T).run P w = .ok m w) (hb : Blk w b m f) (h1 : ∀ i, i < m → (g i).oneCell' = true)
    (hK : ∀ w', Blk w' b m g → Upd b w w' → S w' ∧ wpPlan P ops Q S r (a.put o.dst undef) w') : wpPlan P ops Q S ((false, i) :: r) a w := by
  obtain ⟨w', hr, hm1, hm2⟩ := run_op_store (P := P) hop ha hx hS hb (by omega) h1
  have hB : Blk w' b m g := hm1.congr _ fun i hi => by rw [if_pos ⟨Nat.zero_le _, by omega⟩]; rfl
  exact pl_store o ho hg hr (hK w' hB hm2).1 (hK w' hB hm2).2
/-- three boxes: the queue, the queue to be answered, the message to be answered -/
structure PpS (w : World) (g : Nat) (f1 f3 f2 : Nat → Value) (wr : World) : Prop where
  below : Below w.heap.size w wr
  a : Blk wr g 3 f1
  b : Blk wr (g + 1) 3 f3
  c : Blk wr (g + 1 + 1) 21 f2
theorem pp_mk (w : World) (g : Nat) (hg : w.heap.size = g) (x0 x1 x2 : Value) (T M : TypeId) :
    PpS w g (rowL [x0, x1, x2]) (rowL [.slice none 0 0, .slice none 0 0, .int .i64 0]) zM (((w.alloc (.cells #[x0, x1, x2] T)).alloc (.cells #[.slice none 0 0, .slice none 0 0, .int .i64 0] T)).alloc (.cells #[.int .i64 0, .int .i64 0, .int .i64 0, .int .i64 0, .string ⟨#[]⟩, .int .i64 0, .int .i64 0, .int .i64 0, .string ⟨#[]⟩, .slice none 0 0, .slice none 0 0, .int .i64 0, .string ⟨#[]⟩, .slice none 0 0, .int .i64 0, .slice none 0 0, .int .i64 0, .int .i64 0, .string ⟨#[]⟩, .int .i64 0, .string ⟨#[]⟩] M)) := by
  have b1 := (Below.refl w.heap.size w).alloc (Nat.le_refl _) (.cells #[x0, x1, x2] T)
  have b2 := b1.alloc b1.size (.cells #[.slice none 0 0, .slice none 0 0, .int .i64 0] T)
  exact ⟨b2.alloc b2.size _, ((Blk.new' hg.symm (row3_ _ _ _)).alloc _).alloc _, (Blk.new' (by simp; omega) (row3_ _ _ _)).alloc _, Blk.new' (by simp; omega) zM_row⟩
theorem PpS.on {w w1 w2 : World} {g : Nat} {f1 f3 f2 : Nat → Value} (h : PpS w g f1 f3 f2 w1) (hb : Below w1.heap.size w1 w2) : PpS w g f1 f3 f2 w2 :=
  ⟨h.below.trans (hb.mono h.below.size), h.a.below hb h.a.lt, h.b.below hb h.b.lt, h.c.below hb h.c.lt⟩
/-- 'append(append([]T{}, v1...), v2...)', of whatever things -/
theorem two_rowsG {α : Type} {k : Nat} {enc : α → List Value} (hk : ∀ x, (enc x).length = k) (hk0 : 0 < k) {d0 : α} {P : Program} {w : World} {t ty e : TypeId} {i : TypeInfo} {z : Value} {bytes : Nat} (ht : P.underlying t = some (.slice e)) (hi : P.info? e = some i) (hz : i.zero = some z) (hsize : i.size = k) (hby : i.bytes = bytes) (hzs : z.cells.size = k)
    {A1 A2 : Nat → Prop} {a1 a2 : Option Addr} {n1 n2 c1 c2 : Nat} {B1 B2 : List α} (h1 : GRow k enc d0 A1 w (.slice a1 n1 c1) B1) (h2 : GRow k enc d0 A2 w (.slice a2 n2 c2) B2) (o1 : ∀ u ∈ cellsG enc B1, u.oneCell' = true) (o2 : ∀ u ∈ cellsG enc B2, u.oneCell' = true) (hl : B1.length + B2.length ≤ 10000) (hb : bytes ≤ 1000) :
    ∃ a3 c3 w2 a4 c4 w3, (Builtin.append_ #[t, t] ty #[.slice (some ⟨w.heap.size, 0, none⟩) 0 0, .slice a1 n1 c1]).run P (w.alloc (.cells #[] e)) = .ok (.slice a3 B1.length c3) w2 ∧
      (Builtin.append_ #[t, t] ty #[.slice a3 B1.length c3, .slice a2 n2 c2]).run P w2 = .ok (.slice a4 (B1.length + B2.length) c4) w3 ∧
      Below w.heap.size w w2 ∧ Below w.heap.size w w3 ∧ w3.ownsRow w.heap.size e k (.slice a4 (B1.length + B2.length) c4) (B1 ++ B2).length (cellsG enc (B1 ++ B2)) := by
  have W1 : Below w.heap.size w (w.alloc (.cells #[] e)) := (Below.refl _ _).alloc (Nat.le_refl _) _
  have e1 : n1 = B1.length := by obtain ⟨a, c, h, _⟩ := h1; injection h
  have e2 : n2 = B2.length := by obtain ⟨a, c, h, _⟩ := h2; injection h
  subst e1 e2
  have hm : B1.length * bytes ≤ 10000 * 1000 := Nat.mul_le_mul (by omega) hb
  have hm2 : (B1.length + B2.length) * bytes ≤ 10000 * 1000 := Nat.mul_le_mul hl hb
  have hrow0 : (w.alloc (.cells #[] e)).ownsRow w.heap.size e k (.slice (some ⟨w.heap.size, 0, none⟩) 0 0) 0 [] := World.ownsRow_made w #[] 0 (Nat.le_refl _) (Nat.zero_le _) (by simp)
  obtain ⟨v2, w2, hr2, ho2, hg2, _⟩ := run_append_arg0 (P := P) (w := w.alloc (.cells #[] e)) w.heap.size t ty e i z k bytes ht hi hz hsize hby hzs hk0 w.heap.size hrow0 a1 B1.length c1 (cellsG enc B1) (cellsG_len hk B1) (grow_none h1) (grow_flat hk (h1.later W1)) o1 (by unfold maxLen; omega) (by omega) (by simp)
  have shp : ∀ {w : World} {base n k : Nat} {e : TypeId} {v : Value} {xs : List Value}, w.ownsRow base e k v n xs → ∃ a c, v = .slice a n c := fun {w base n k e v xs} h => by
    rcases h.2 with ⟨rfl, h0⟩ | ⟨g, cap, cur, rfl, _⟩
    · subst h0; exact ⟨none, 0, rfl⟩
    · exact ⟨_, _, rfl⟩
  obtain ⟨a3, c3, rfl⟩ := shp ho2
  have W2 : Below w.heap.size w w2 := W1.grown hg2 (by simp) (fun j e => by cases e; exact Nat.le_refl _)
  have hx : ∃ v' w', (Builtin.append_ #[t, t] ty #[.slice a3 B1.length c3, .slice a2 B2.length c2]).run P w2 = .ok v' w' ∧ w'.ownsRow w.heap.size e k v' (B1.length + B2.length) (cellsG enc B1 ++ cellsG enc B2) ∧ w2.grownBy w' (Value.slice a3 B1.length c3).ownBlock := by
    rcases ha : a2 with _ | a
    · have hj : B2.length = 0 := grow_none h2 ha
      have hB : B2 = [] := List.eq_nil_of_length_eq_zero hj
      rw [hB]
      exact ⟨_, w2, run_append_none_any (P := P) (w := w2) w.heap.size t ty e i k ht hi _ B1.length (cellsG enc B1) ho2 c2, by simpa [cellsG] using ho2, ⟨rfl, rfl, rfl, Nat.le_refl _, fun _ _ _ => rfl⟩⟩
    · obtain ⟨v', w', hr, ho, hg, _⟩ := run_append_own (P := P) w2 w.heap.size t ty e i z k bytes ht hi hz hsize hby hzs hk0 _ B1.length (cellsG enc B1) ho2 a B2.length c2 (cellsG enc B2) (cellsG_len hk B2) (fun j u hu => grow_flat hk (h2.later W2) a ha j u hu) o2 (by unfold maxLen; omega) (by omega) W2.size
      exact ⟨v', w', hr, ho, hg⟩
  obtain ⟨v3, w3, hr3, ho3, hg3⟩ := hx
  obtain ⟨a4, c4, rfl⟩ := shp ho3
  refine ⟨a3, c3, w2, a4, c4, w3, hr2, hr3, W2, W2.grown hg3 W2.size (fun j e => (ho2.lt j e).1), ?_⟩
  rw [List.length_append, cellsG_app]
  exact ho3
end QU
end
