/-
  How many are enough: the code's Faults, Quorum, Weak, Leader.
-/
import Derived.Test.YtphlpgdbngbplaaKLOpen
import Derived.BigQuiet
import Derived.WalkSmall
import Derived.Test.YtphlpgdbngbplaaKJMath
section
open Go Go.RowKit
namespace WW
open BB
/-- the faults that are borne -/
def faultsI (n : Int) : Int := if n < 1 then 0 else (n - 1) / 3
/-- those that are from 0 below n, each once, as they come -/
def onceStep (n : Int) (out : List Int) (x : Int) : List Int := if 0 ≤ x ∧ x < n ∧ x ∉ out then out ++ [x] else out
def onceL (l : List Int) (n : Int) : List Int := l.foldl (onceStep n) []
theorem once_snoc (l : List Int) (n : Int) (i : Nat) (h : i < l.length) : onceL (l.take (i + 1)) n = onceStep n (onceL (l.take i) n) (l.getD i 0) := by
  unfold onceL
  rw [List.take_succ_eq_append_getElem h, List.foldl_append]
  simp [List.getD, List.getElem?_eq_getElem h]
theorem step_len (n : Int) (out : List Int) (x : Int) : (onceStep n out x).length ≤ out.length + 1 := by
  unfold onceStep; split <;> simp
theorem once_len (l : List Int) (n : Int) : ∀ i, i ≤ l.length → (onceL (l.take i) n).length ≤ i := by
  intro i
  induction i with
  | zero => intro _; simp [onceL]
  | succ i ih =>
    intro h
    rw [once_snoc l n i (by omega)]
    have := step_len n (onceL (l.take i) n) (l.getD i 0)
    have := ih (by omega)
    omega
theorem ints_own {e : TypeId} {w : World} {base : Nat} {v : Value} {k : Nat} {l : List Int} (h : w.ownsRow base e 1 v k (l.map (Value.int .i64))) : IntsAt w v l := by
  have hk : l.length = k := by have := h.1; simpa using this
  rcases h.2 with ⟨rfl, h0⟩ | ⟨g, cap, cur, rfl, hg, hh, hn, hcm, hsz, htk⟩
  · have : l = [] := List.eq_nil_of_length_eq_zero (by omega)
    subst this
    exact ⟨none, 0, rfl, by simp, Or.inl rfl⟩
  · have hlt : g < w.heap.size := by
      rcases Nat.lt_or_ge g w.heap.size with h | h
      · exact h
      · rw [Array.getElem?_eq_none h] at hh; cases hh
    have hcm' : cap ≤ 9223372036854775807 := hcm
    subst hk
    refine ⟨some ⟨g, 0, none⟩, cap, rfl, by omega, Or.inr ⟨g, 0, rfl, hlt, fun i hi => ?_⟩⟩
    have h6 := congrArg (·[i]?) htk
    simp only [Nat.mul_one, List.getElem?_take, if_pos hi, Array.getElem?_toList] at h6
    unfold World.cell?
    rw [hh, Nat.zero_add]
    show cur[i]? = _
    rw [h6, List.getElem?_map, List.getElem?_eq_getElem hi]
    simp [List.getD, List.getElem?_eq_getElem hi]
theorem row_keep {w w' : World} {e : TypeId} {lo k m : Nat} {sv : Value} {xs : List Value} (h : w.ownsRow lo e k sv m xs) (hk : ∀ c, sv.ownBlock = some c → w'.heap[c]? = w.heap[c]?) : w'.ownsRow lo e k sv m xs := by
  obtain ⟨h1, h2 | ⟨g, cap, cur, hv, hb, hc, rest⟩⟩ := h
  · exact ⟨h1, Or.inl h2⟩
  · subst hv
    exact ⟨h1, Or.inr ⟨g, cap, cur, rfl, hb, (hk g rfl).trans hc, rest⟩⟩
/-- where the loop of Once stands -/
structure OnceAt (w : World) (e : TypeId) (l : List Int) (n : Int) (i : Nat) (v : Value) (wr : World) : Prop where
  below : Below w.heap.size w wr
  own : wr.ownsRow w.heap.size e 1 v (onceL (l.take i) n).length ((onceL (l.take i) n).map (Value.int .i64))
/-- how many are above x, how many are x -/
def aboveI (l : List Int) (x : Int) : Nat := l.countP (fun y => decide (x < y))
def likeI (l : List Int) (x : Int) : Nat := l.countP (fun y => decide (y = x))
/-- is x the k-th greatest? -/
def topOk (l : List Int) (k x : Int) : Bool := decide ((aboveI l x : Int) < k ∧ k ≤ (aboveI l x : Int) + (likeI l x : Int))
def topI (l : List Int) (k : Int) : Int := (l.find? (topOk l k)).getD 0
theorem above_snoc (l : List Int) (x : Int) (j : Nat) (h : j < l.length) : aboveI (l.take (j + 1)) x = aboveI (l.take j) x + if x < l.getD j 0 then 1 else 0 := by
  unfold aboveI
  rw [List.take_succ_eq_append_getElem h, List.countP_append]
  simp [List.getD, List.getElem?_eq_getElem h, List.countP_cons]
theorem like_snoc (l : List Int) (x : Int) (j : Nat) (h : j < l.length) : likeI (l.take (j + 1)) x = likeI (l.take j) x + if l.getD j 0 = x then 1 else 0 := by
  unfold likeI
  rw [List.take_succ_eq_append_getElem h, List.countP_append]
  simp [List.getD, List.getElem?_eq_getElem h, List.countP_cons]
theorem above_le (l : List Int) (x : Int) (j : Nat) : aboveI (l.take j) x ≤ l.length := by
  have := List.countP_le_length (p := fun y => decide (x < y)) (l := l.take j)
  rw [List.length_take] at this
  unfold aboveI; omega
theorem like_le (l : List Int) (x : Int) (j : Nat) : likeI (l.take j) x ≤ l.length := by
  have := List.countP_le_length (p := fun y => decide (y = x)) (l := l.take j)
  rw [List.length_take] at this
  unfold likeI; omega
theorem top_found (l : List Int) (k : Int) (i : Nat) (h : i < l.length) (hno : ∀ y ∈ l.take i, topOk l k y = false) (hy : topOk l k (l.getD i 0) = true) : topI l k = l.getD i 0 := by
  have h1 : l = l.take i ++ l.getD i 0 :: l.drop (i + 1) := by
    rw [List.getD_eq_getElem?_getD, List.getElem?_eq_getElem h]
    simp
  have h2 : List.find? (topOk l k) (l.take i) = none := by
    rw [List.find?_eq_none]; intro x hx; simp [hno x hx]
  have h3 : List.find? (topOk l k) l = some (l.getD i 0) := by
    conv => lhs; rw [h1]
    rw [List.find?_append, ← h1, h2, List.find?_cons_of_pos hy]; rfl
  rw [topI, h3]; rfl
theorem top_none (l : List Int) (k : Int) (hno : ∀ y ∈ l, topOk l k y = false) : topI l k = 0 := by
  have : l.find? (topOk l k) = none := by rw [List.find?_eq_none]; intro x hx; simp [hno x hx]
  rw [topI, this]; rfl
theorem below_drewI {B : Nat} {a w : World} (h : Below B a w) (n : Nat) : Below B a (w.drewN n) := h.trans ⟨rfl, rfl, rfl, Nat.le_refl _, fun _ _ => rfl⟩
end WW
namespace Go.Proofs.Ytphlpgdbngbplaa
open WW BB
theorem info_int : (Try.prog.info? 3).map (fun i => (i.zero, i.size, i.bytes)) = some (some (.int .i64 0), 1, 8) := by kernel_rfl
end Go.Proofs.Ytphlpgdbngbplaa
end
section
open Go Go.RowKit
namespace CC
open WW BB
theorem ba_toList {a b : ByteArray} (h : a.toList = b.toList) : a = b := by
  rw [ByteArray.toList_eq, ByteArray.toList_eq] at h
  cases a; cases b; congr 1; exact Array.toList_inj.1 h
theorem list_ne_at {α : Type} {l m : List α} {d : α} {i : Nat} (h : l.getD i d ≠ m.getD i d) : l ≠ m := by rintro rfl; exact h rfl
theorem list_eq_at {α : Type} {l m : List α} {d : α} (hl : l.length = m.length) (h : ∀ i, i < l.length → l.getD i d = m.getD i d) : l = m := by
  apply List.ext_getElem hl
  intro i h1 h2
  have := h i h1
  simpa [List.getD, List.getElem?_eq_getElem h1, List.getElem?_eq_getElem h2] using this
end CC
namespace Go.Proofs.Ytphlpgdbngbplaa
open CC WW BB
end Go.Proofs.Ytphlpgdbngbplaa
end
section
open Go Go.RowKit
namespace WW
def quorumI (n : Int) : Int := (if n < 1 then 1 else n) - faultsI n
def leaderI (v n : Int) : Int := if v < 0 ∨ n < 1 then 0 else v % n
theorem faultsI_le (n : Int) : 0 ≤ faultsI n ∧ faultsI n ≤ 3074457345618258603 ∨ 9223372036854775807 < n := by unfold faultsI; split <;> omega
theorem wf_i64 {n : Int} (h : (Lit.int .i64 n).wf = true) : -9223372036854775808 ≤ n ∧ n ≤ 9223372036854775807 := by
  simp [Lit.wf, IntKind.min, IntKind.max, IntKind.signed, IntKind.bits] at h
  omega
end WW
namespace Go.Proofs.Ytphlpgdbngbplaa
open WW BB
end Go.Proofs.Ytphlpgdbngbplaa
end
