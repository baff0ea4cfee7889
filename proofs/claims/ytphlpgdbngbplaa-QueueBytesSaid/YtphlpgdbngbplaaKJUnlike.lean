/-
  The walk of what keeps of requests the first ones of each client and number.
-/
import Derived.Test.YtphlpgdbngbplaaKJMath
import Derived.Test.YtphlpgdbngbplaaKWFewB
import Derived.Test.YtphlpgdbngbplaaKWAppR
import Derived.Test.YtphlpgdbngbplaaKLNum
import Derived.Maps.OwnOps
import Derived.Maps.OwnSet
import Derived.Maps.Ext
import Derived.DeepKeys4
import Derived.Laws.AppendOwn
open Go Go.RowKit
namespace JJ
open BB WW Go.Maps
theorem getD_mem' {α : Type} (l : List α) (d : α) (i : Nat) (h : i < l.length) : l.getD i d ∈ l := by
  rw [List.getD_eq_getElem?_getD, List.getElem?_eq_getElem h]; exact List.getElem_mem h
/-- numbers of 64 bits -/
def In64 (x : Int × Int) : Prop := (-9223372036854775808 ≤ x.1 ∧ x.1 ≤ 9223372036854775807) ∧ -9223372036854775808 ≤ x.2 ∧ x.2 ≤ 9223372036854775807
theorem wf64 {x : Int} (h : -9223372036854775808 ≤ x ∧ x ≤ 9223372036854775807) : (Lit.int .i64 x).wf = true := by
  simp [Lit.wf, IntKind.min, IntKind.max, IntKind.signed, IntKind.bits]; omega
/-- how a client and a number are spelled as a key -/
def keyQ (x : Int × Int) : Lit := .string (keyBytes [.int .i64 x.1, .int .i64 x.2])
/-- D is the set of ks -/
structure SetIs (D : DataW Unit) (ks : List (Int × Int)) : Prop where
  tidy : Tidy D
  has : ∀ x, In64 x → Maps.has D (keyQ x) = decide (x ∈ ks)
theorem SetIs.empty : SetIs (.map []) [] := ⟨tidy_empty, fun _ _ => rfl⟩
/-- the cells of requests -/
def cellsR (l : List Rq) : List Value := (l.map fun r => [.int .i64 r.1, .int .i64 r.2.1, .string r.2.2]).flatten
theorem cellsR_snoc (l : List Rq) (r : Rq) : cellsR (l ++ [r]) = cellsR l ++ [.int .i64 r.1, .int .i64 r.2.1, .string r.2.2] := by
  unfold cellsR; rw [List.map_append, List.flatten_append]; simp
theorem cellsR_len (l : List Rq) : (cellsR l).length = l.length * 3 := by
  induction l with
  | nil => rfl
  | cons x r ih => show ([_, _, _] ++ cellsR r).length = _; rw [List.length_append, ih, List.length_cons]; simp; omega
theorem cellsR_at : ∀ (l : List Rq) (i : Nat), i < l.length → (cellsR l)[i * 3]? = some (.int .i64 (l.getD i r0).1) ∧ (cellsR l)[i * 3 + 1]? = some (.int .i64 (l.getD i r0).2.1) ∧ (cellsR l)[i * 3 + 2]? = some (.string (l.getD i r0).2.2)
  | [], i, h => by simp at h
  | x :: r, 0, _ => ⟨rfl, rfl, rfl⟩
  | x :: r, i + 1, h => by
    have ih := cellsR_at r i (by simpa using h)
    have e : ∀ j, (cellsR (x :: r))[(i + 1) * 3 + j]? = (cellsR r)[i * 3 + j]? := fun j => by
      show ([Value.int .i64 x.1, .int .i64 x.2.1, .string x.2.2] ++ cellsR r)[(i + 1) * 3 + j]? = _
      rw [show (i + 1) * 3 + j = 3 + (i * 3 + j) by omega, List.getElem?_append_right (by simp)]
      simp
    refine ⟨?_, ?_, ?_⟩
    · rw [show (i + 1) * 3 = (i + 1) * 3 + 0 from rfl, e 0]; simpa [List.getD] using ih.1
    · rw [e 1]; simpa [List.getD] using ih.2.1
    · rw [e 2]; simpa [List.getD] using ih.2.2
theorem reqs_of_own {w : World} {B : Nat} {e : TypeId} {v : Value} {l : List Rq} (h : w.ownsRow B e 3 v l.length (cellsR l)) : ReqsAt w v l := by
  rcases h.2 with ⟨rfl, h0⟩ | ⟨g, cap, cur, rfl, hg, hh, hn, hcm, hsz, htk⟩
  · exact ⟨none, 0, by rw [h0], Or.inl (List.eq_nil_of_length_eq_zero h0)⟩
  · have hcell : ∀ j u, j < l.length * 3 → (cellsR l)[j]? = some u → w.cell? ⟨g, j, none⟩ = some u := fun j u hj hu => by
      rw [← htk, List.getElem?_take_of_lt hj, Array.getElem?_toList] at hu
      unfold World.cell?; rw [hh]; simpa using hu
    refine ⟨_, cap, rfl, Or.inr ⟨g, 0, rfl, (Array.getElem?_eq_some_iff.1 hh).1, fun i hi => ?_⟩⟩
    obtain ⟨h1, h2, h3⟩ := cellsR_at l i hi
    simp only [Nat.zero_add]
    exact ⟨hcell _ _ (by omega) h1, hcell _ _ (by omega) h2, hcell _ _ (by omega) h3⟩
theorem cells3_new (w : World) (c q : Int) (s : ByteArray) (t : TypeId) : ∀ j u, [Value.int .i64 c, .int .i64 q, .string s][j]? = some u → (w.alloc (.cells #[.int .i64 c, .int .i64 q, .string s] t)).cell? ((⟨w.heap.size, 0, none⟩ : Addr).add j) = some u := by
  intro j u hj
  match j, hj with
  | 0, hj => simp at hj; subst hj; rw [Addr.add_lit]; exact cell_new w _ t 0 _ rfl
  | 1, hj => simp at hj; subst hj; rw [Addr.add_lit]; exact cell_new w _ t 1 _ rfl
  | 2, hj => simp at hj; subst hj; rw [Addr.add_lit]; exact cell_new w _ t 2 _ rfl
  | j + 3, hj => simp at hj
theorem cells3_one (c q : Int) (s : ByteArray) : ∀ u ∈ [Value.int .i64 c, .int .i64 q, .string s], u.oneCell' = true := by
  intro u hu
  simp only [List.mem_cons, List.not_mem_nil, or_false] at hu
  rcases hu with rfl | rfl | rfl <;> rfl
theorem sz_le {a b c d : Nat} (h1 : a ≤ b) (h2 : b ≤ c) (h3 : c ≤ d) : a ≤ d := Nat.le_trans h1 (Nat.le_trans h2 h3)
theorem sz_alloc {w : World} {a : Nat} (h : a ≤ w.heap.size) (o : Obj) : a ≤ (w.alloc o).heap.size := by rw [World.size_alloc]; omega
end JJ
namespace Go.Proofs.Ytphlpgdbngbplaa
open JJ BB WW Go.Maps Go.WideMaps
theorem laidOutJ : laidOutB Try.prog = true := by kernel_rfl
theorem und_reqs : Try.prog.underlying 33 = some (.slice 40) := by kernel_rfl
theorem info_req : (Try.prog.info? 40).map (fun i => (i.zero, i.size, i.bytes)) = some (some (.agg #[.int .i64 0, .int .i64 0, .string ⟨#[]⟩]), 3, 32) := by kernel_rfl
theorem cells_int6 : Try.prog.cellsOf 3 = 1 := by kernel_rfl
theorem map_heap {w w' : World} {k b n : Nat} {D : DataW Unit} (h : w.ownsMap Try.prog k unitElem b n D) (e : w'.heap[b]? = w.heap[b]?) : w'.ownsMap Try.prog k unitElem b n D := by
  obtain ⟨es, clock, hb, r⟩ := h
  exact ⟨es, clock, e.trans hb, r⟩
end Go.Proofs.Ytphlpgdbngbplaa
