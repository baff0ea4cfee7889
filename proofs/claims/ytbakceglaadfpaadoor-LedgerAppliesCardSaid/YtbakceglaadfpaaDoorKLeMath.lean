/-
  A ledger: entries, indexes, digests: lists alone (layer 13). No walk is here.
-/
import Derived.Test.YtbakceglaadfpaaDoorKJBox
import Derived.Test.YtbakceglaadfpaaDoorKEText
import Derived.Test.YtbakceglaadfpaaDoorKWReqLaw
open Go Go.RowKit
namespace LE
open JJ CC WW BB
/-- where a client's number is first; -1 -/
def ixR (l : List Rq) (k : Int × Int) : Int := match l.findIdx? (fun r => decide (keyR r = k)) with | some i => (i : Int) | none => -1
theorem ix_hit {l : List Rq} {k : Int × Int} (i : Nat) (hi : i < l.length) (hn : ∀ j, j < i → keyR (l.getD j r0) ≠ k) (he : keyR (l.getD i r0) = k) : ixR l k = (i : Int) := by
  unfold ixR
  rw [List.findIdx?_eq_some_iff_getElem.2 ⟨hi, by
    rw [List.getD_eq_getElem?_getD, List.getElem?_eq_getElem hi] at he
    exact decide_eq_true he, fun j hj => by
    have h := hn j hj
    rw [List.getD_eq_getElem?_getD, List.getElem?_eq_getElem (Nat.lt_trans hj hi)] at h
    simpa using h⟩]
theorem ix_none {l : List Rq} {k : Int × Int} (hn : ∀ j, j < l.length → keyR (l.getD j r0) ≠ k) : ixR l k = -1 := by
  unfold ixR
  rw [List.findIdx?_eq_none_iff.2 fun x hx => ?_]
  obtain ⟨j, hj, rfl⟩ := List.getElem_of_mem hx
  have h := hn j hj
  rw [List.getD_eq_getElem?_getD, List.getElem?_eq_getElem hj] at h
  simpa using h
theorem ix_bound (l : List Rq) (k : Int × Int) : -1 ≤ ixR l k ∧ ixR l k < l.length := by
  unfold ixR
  split
  · rename_i i hi
    have := (List.findIdx?_eq_some_iff_getElem.1 hi).1
    omega
  · omega
theorem ix_neg (l : List Rq) (k : Int × Int) : ixR l k < 0 ↔ k ∉ l.map keyR := by
  unfold ixR
  cases h : l.findIdx? (fun r => decide (keyR r = k)) with
  | some i =>
    obtain ⟨h1, h2, _⟩ := List.findIdx?_eq_some_iff_getElem.1 h
    refine ⟨fun hx => ?_, fun hx => absurd (List.mem_map.2 ⟨_, List.getElem_mem h1, of_decide_eq_true h2⟩) hx⟩
    have hx : (i : Int) < 0 := hx
    omega
  | none =>
    have hn := List.findIdx?_eq_none_iff.1 h
    refine ⟨fun _ hx => ?_, fun _ => by show (-1 : Int) < 0; omega⟩
    obtain ⟨r, hr, he⟩ := List.mem_map.1 hx
    have := hn r hr
    simp [he] at this
/-- what is behind stays where it is -/
theorem ix_app {l : List Rq} {k : Int × Int} (m : List Rq) (h : 0 ≤ ixR l k) : ixR (l ++ m) k = ixR l k := by
  unfold ixR at h ⊢
  cases hx : l.findIdx? (fun r => decide (keyR r = k)) with
  | none => rw [hx] at h; exact absurd h (by show ¬ (0 : Int) ≤ -1; omega)
  | some i => rw [List.findIdx?_append, hx]; rfl
theorem ix_new {l : List Rq} {r : Rq} (h : ixR l (keyR r) < 0) : ixR (l ++ [r]) (keyR r) = (l.length : Int) := by
  have hn := (ix_neg _ _).1 h
  refine ix_hit l.length (by simp) (fun j hj => ?_) (by simp)
  rw [List.getD_eq_getElem?_getD, List.getElem?_append_left hj, List.getElem?_eq_getElem hj]
  intro he
  exact hn (List.mem_map.2 ⟨_, List.getElem_mem hj, he⟩)
/-- one request is applied: the entries, its index -/
def stepL (E : List Rq) (r : Rq) : List Rq × Int := if 0 ≤ ixR E (keyR r) then (E, ixR E (keyR r)) else (E ++ [r], (E.length : Int))
/-- a batch is applied -/
def appE (E b : List Rq) : List Rq := b.foldl (fun E r => (stepL E r).1) E
def appI : List Rq → List Rq → List Int
  | _, [] => []
  | E, r :: b => (stepL E r).2 :: appI (stepL E r).1 b
theorem appE_nil (E : List Rq) : appE E [] = E := rfl
theorem appE_cons (E : List Rq) (r : Rq) (b : List Rq) : appE E (r :: b) = appE (stepL E r).1 b := rfl
theorem appE_app (E a b : List Rq) : appE E (a ++ b) = appE (appE E a) b := by unfold appE; rw [List.foldl_append]
theorem appI_len : ∀ (b E : List Rq), (appI E b).length = b.length
  | [], _ => rfl
  | r :: b, E => by show ((stepL E r).2 :: appI _ b).length = _; rw [List.length_cons, appI_len b, List.length_cons]
/-- a step lets a beginning be -/
theorem step_ext (E : List Rq) (r : Rq) : ∃ m, (stepL E r).1 = E ++ m ∧ m.length ≤ 1 := by
  unfold stepL
  split
  · exact ⟨[], (List.append_nil _).symm, Nat.zero_le _⟩
  · exact ⟨[r], rfl, Nat.le_refl _⟩
theorem app_ext : ∀ (b E : List Rq), ∃ m, appE E b = E ++ m ∧ m.length ≤ b.length
  | [], E => ⟨[], (List.append_nil _).symm, Nat.le_refl _⟩
  | r :: b, E => by
    obtain ⟨m1, h1, k1⟩ := step_ext E r
    obtain ⟨m2, h2, k2⟩ := app_ext b (stepL E r).1
    refine ⟨m1 ++ m2, ?_, by rw [List.length_append, List.length_cons]; omega⟩
    rw [appE_cons, h2, h1, List.append_assoc]
theorem step_ix (E : List Rq) (r : Rq) : (stepL E r).2 = ixR (stepL E r).1 (keyR r) ∧ 0 ≤ (stepL E r).2 := by
  unfold stepL
  split
  · rename_i h; exact ⟨rfl, h⟩
  · rename_i h; exact ⟨(ix_new (by omega)).symm, by show (0 : Int) ≤ (E.length : Int); omega⟩
/-- each index that is told is where it is in whatever comes of it -/
theorem app_ix : ∀ (b E m : List Rq) (k : Nat), k < b.length → (appI E b).getD k 0 = ixR (appE E b ++ m) (keyR (b.getD k r0))
  | [], _, _, k, h => absurd h (Nat.not_lt_zero k)
  | r :: b, E, m, 0, _ => by
    show (stepL E r).2 = ixR (appE (stepL E r).1 b ++ m) (keyR r)
    obtain ⟨m2, h2, _⟩ := app_ext b (stepL E r).1
    obtain ⟨h3, h4⟩ := step_ix E r
    rw [h2, List.append_assoc, ix_app _ (by rw [← h3]; exact h4), ← h3]
  | r :: b, E, m, k + 1, h => by
    show (appI (stepL E r).1 b).getD k 0 = ixR (appE (stepL E r).1 b ++ m) (keyR (b.getD k r0))
    exact app_ix b (stepL E r).1 m k (by simpa using h)
/-- all that is there already changes nothing -/
theorem app_known : ∀ (b E : List Rq), (∀ r ∈ b, 0 ≤ ixR E (keyR r)) → appE E b = E ∧ ∀ k, k < b.length → (appI E b).getD k 0 = ixR E (keyR (b.getD k r0))
  | [], E, _ => ⟨rfl, fun k h => absurd h (Nat.not_lt_zero k)⟩
  | r :: b, E, h => by
    have hr := h r (by simp)
    have hs : stepL E r = (E, ixR E (keyR r)) := by unfold stepL; rw [if_pos hr]
    obtain ⟨h1, h2⟩ := app_known b E fun x hx => h x (by simp [hx])
    refine ⟨by rw [appE_cons, hs]; exact h1, fun k hk => ?_⟩
    cases k with
    | zero => show (stepL E r).2 = _; rw [hs]; rfl
    | succ k => show (appI (stepL E r).1 b).getD k 0 = _; rw [hs]; exact h2 k (by simpa using hk)
theorem app_has : ∀ (b E : List Rq) (r : Rq), r ∈ b → 0 ≤ ixR (appE E b) (keyR r)
  | [], _, _, h => by cases h
  | a :: b, E, r, h => by
    rw [appE_cons]
    rcases List.mem_cons.1 h with rfl | h
    · obtain ⟨m2, h2, _⟩ := app_ext b (stepL E r).1
      obtain ⟨h3, h4⟩ := step_ix E r
      rw [h2, ix_app _ (by rw [← h3]; exact h4), ← h3]; exact h4
    · exact app_has b _ r h
/-- the digest behind entries -/
def digE (E : List Rq) : ByteArray := E.foldl (fun h r => dg ((⟨#[69]⟩ : ByteArray) ++ h ++ reqB r.1 r.2.1 r.2.2)) (dg ⟨#[108, 101, 100, 103, 101, 114]⟩)
theorem digE_snoc (E : List Rq) (r : Rq) : digE (E ++ [r]) = dg ((⟨#[69]⟩ : ByteArray) ++ digE E ++ reqB r.1 r.2.1 r.2.2) := by unfold digE; rw [List.foldl_append]; rfl
theorem digE_take {E : List Rq} {i : Nat} (h : i < E.length) : digE (E.take (i + 1)) = dg ((⟨#[69]⟩ : ByteArray) ++ digE (E.take i) ++ reqB (E.getD i r0).1 (E.getD i r0).2.1 (E.getD i r0).2.2) := by
  rw [List.take_add_one, List.getElem?_eq_getElem h, List.getD_eq_getElem?_getD, List.getElem?_eq_getElem h]
  exact digE_snoc _ _
end LE
