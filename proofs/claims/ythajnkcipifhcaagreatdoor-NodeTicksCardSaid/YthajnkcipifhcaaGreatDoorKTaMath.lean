/-
  A tally of votes: lists alone (layer 14). No walk is here.
-/
import Derived.Test.YthajnkcipifhcaaGreatDoorKERefS
import Derived.Test.YthajnkcipifhcaaGreatDoorKJDig
import Derived.Test.YthajnkcipifhcaaGreatDoorKLNum
import Derived.Test.YthajnkcipifhcaaGreatDoorKRState
import Derived.Test.YthajnkcipifhcaaGreatDoorKECopied
import Derived.Test.YthajnkcipifhcaaGreatDoorKERow
open Go Go.RowKit
namespace TA
open CC MM WW BB
/-- a vote: its view, its block, its signature -/
abbrev Vt := Int × ByteArray × Int × List ByteArray
structure Ta where
  seed : ByteArray
  node : Int
  n : Int
  under : Int
  votes : List Vt
def newT (s : ByteArray) (d n : Int) : Ta := ⟨s, d, n, 0, []⟩
def ofV (v : Int) (k : ByteArray) (x : Vt) : Bool := decide (x.1 = v ∧ x.2.1 = k)
def cntL (L : List Vt) (v : Int) (k : ByteArray) : Nat := (L.filter (ofV v k)).length
def hadL (L : List Vt) (v f : Int) : Bool := L.any fun x => decide (x.1 = v ∧ x.2.2.1 = f)
/-- the signatures of a view and a block -/
def sigsT (L : List Vt) (v : Int) (k : ByteArray) : List (Int × List ByteArray) := (L.filter (ofV v k)).map fun x => (x.2.2.1, x.2.2.2)
/-- may it be a vote, whatever there is? -/
def mayT (T : Ta) (x : Vt) : Bool := decide (1 ≤ x.1 ∧ x.1 ≤ 1000000 ∧ T.under < x.1 ∧ x.2.1.size = 32) && holdsB T.seed T.node T.n (textB x.1 x.2.1) x.2.2.1 x.2.2.2
def okT (T : Ta) (x : Vt) : Bool := mayT T x && (decide ((T.votes.length : Int) < 4 * T.n) && !hadL T.votes x.1 x.2.2.1)
def addT (T : Ta) (x : Vt) : Ta := if okT T x = true then { T with votes := T.votes ++ [x] } else T
def toldT (T : Ta) (x : Vt) : Bool := okT T x && decide ((cntL (addT T x).votes x.1 x.2.1 : Int) = quorumI T.n)
def belowT (T : Ta) (v : Int) : Ta := { T with under := max T.under v, votes := T.votes.filter fun x => decide (max T.under v < x.1) }
/-- two votes of one node in one view -/
def twin (x y : Vt) : Prop := x.1 = y.1 ∧ x.2.2.1 = y.2.2.1
structure InvTa (T : Ta) : Prop where
  each : ∀ x ∈ T.votes, mayT T x = true
  once : T.votes.Pairwise fun x y => ¬ twin x y
  len : T.votes ≠ [] → (T.votes.length : Int) ≤ 4 * T.n
theorem inv_newT (s : ByteArray) (d n : Int) : InvTa (newT s d n) := ⟨fun _ h => by simp [newT] at h, List.Pairwise.nil, fun h => by simp [newT] at h⟩
theorem may_of {T : Ta} {x : Vt} (h : mayT T x = true) : (1 ≤ x.1 ∧ x.1 ≤ 1000000 ∧ T.under < x.1 ∧ x.2.1.size = 32) ∧ holdsB T.seed T.node T.n (textB x.1 x.2.1) x.2.2.1 x.2.2.2 = true := by
  unfold mayT at h
  rw [Bool.and_eq_true, decide_eq_true_eq] at h
  exact h
theorem holds_of {s : ByteArray} {d n : Int} {t : ByteArray} {f : Int} {ts : List ByteArray} (h : holdsB s d n t f ts = true) : amongB d n = true ∧ amongB f n = true ∧ shapedB ts n = true := by
  unfold holdsB at h
  simp only [Bool.and_eq_true] at h
  exact ⟨h.1, h.2.1, h.2.2.1⟩
theorem may_n {T : Ta} {x : Vt} (h : mayT T x = true) : 1 ≤ T.n ∧ T.n ≤ 7 ∧ 0 ≤ x.2.2.1 ∧ x.2.2.1 < T.n := among_of (holds_of (may_of h).2).2.1
theorem InvTa.nodes {T : Ta} (h : InvTa T) (h0 : T.votes ≠ []) : 1 ≤ T.n ∧ T.n ≤ 7 := by
  obtain ⟨x, hx⟩ := List.exists_mem_of_ne_nil _ h0
  have := may_n (h.each x hx)
  exact ⟨this.1, this.2.1⟩
theorem InvTa.few {T : Ta} (h : InvTa T) : T.votes.length ≤ 28 := by
  by_cases h0 : T.votes = []
  · rw [h0]; simp
  · have h1 := h.len h0
    have h2 := h.nodes h0
    omega
theorem add_same (T : Ta) (x : Vt) : (addT T x).seed = T.seed ∧ (addT T x).node = T.node ∧ (addT T x).n = T.n ∧ (addT T x).under = T.under := by
  unfold addT; split <;> exact ⟨rfl, rfl, rfl, rfl⟩
theorem add_no {T : Ta} {x : Vt} (h : okT T x = false) : addT T x = T := by unfold addT; rw [h, if_neg (by decide)]
theorem add_yes {T : Ta} {x : Vt} (h : okT T x = true) : addT T x = { T with votes := T.votes ++ [x] } := by unfold addT; rw [h, if_pos rfl]
theorem ok_of {T : Ta} {x : Vt} (h : okT T x = true) : mayT T x = true ∧ (T.votes.length : Int) < 4 * T.n ∧ hadL T.votes x.1 x.2.2.1 = false := by
  unfold okT at h
  rw [Bool.and_eq_true, Bool.and_eq_true, decide_eq_true_eq, Bool.not_eq_true'] at h
  exact h
theorem InvTa.add {T : Ta} (h : InvTa T) (x : Vt) : InvTa (addT T x) := by
  cases ho : okT T x with
  | false => rw [add_no ho]; exact h
  | true =>
    rw [add_yes ho]
    obtain ⟨h1, h2, h3⟩ := ok_of ho
    refine ⟨fun y hy => ?_, ?_, fun _ => ?_⟩
    · rcases List.mem_append.1 hy with hy | hy
      · exact h.each y hy
      · rw [List.mem_singleton.1 hy]; exact h1
    · rw [List.pairwise_append]
      refine ⟨h.once, List.pairwise_singleton _ _, fun y hy z hz ht => ?_⟩
      rw [List.mem_singleton.1 hz] at ht
      have : hadL T.votes x.1 x.2.2.1 = true := by
        unfold hadL
        rw [List.any_eq_true]
        exact ⟨y, hy, decide_eq_true ht⟩
      rw [this] at h3; cases h3
    · show ((T.votes ++ [x]).length : Int) ≤ 4 * T.n
      rw [List.length_append, List.length_singleton]; omega
theorem InvTa.below {T : Ta} (h : InvTa T) (v : Int) : InvTa (belowT T v) := by
  refine ⟨fun y hy => ?_, h.once.sublist List.filter_sublist, fun h0 => ?_⟩
  · obtain ⟨h1, h2⟩ := List.mem_filter.1 hy
    have h2 : max T.under v < y.1 := of_decide_eq_true h2
    obtain ⟨⟨k1, k2, k3, k4⟩, k5⟩ := may_of (h.each y h1)
    unfold mayT
    rw [Bool.and_eq_true, decide_eq_true_eq]
    exact ⟨⟨k1, k2, h2, k4⟩, k5⟩
  · have h1 : T.votes ≠ [] := by
      intro e
      apply h0
      unfold belowT
      rw [e]; rfl
    have h2 := h.len h1
    have h3 : (belowT T v).votes.length ≤ T.votes.length := List.length_filter_le _ _
    show ((belowT T v).votes.length : Int) ≤ 4 * T.n
    omega
/-- the signatures of one view and block: they hold, each node's once -/
theorem InvTa.sigs {T : Ta} (h : InvTa T) (v : Int) (k : ByteArray) : (∀ p ∈ sigsT T.votes v k, holdsB T.seed T.node T.n (textB v k) p.1 p.2 = true) ∧ ((sigsT T.votes v k).map fun p => p.1).Nodup := by
  unfold sigsT
  constructor
  · intro p hp
    obtain ⟨x, hx, rfl⟩ := List.mem_map.1 hp
    obtain ⟨h1, h2⟩ := List.mem_filter.1 hx
    obtain ⟨h3, h4⟩ := of_decide_eq_true h2
    have := (may_of (h.each x h1)).2
    rw [h3, h4] at this
    exact this
  · rw [List.map_map]
    show List.Pairwise _ _
    rw [List.pairwise_map]
    have h1 : (T.votes.filter (ofV v k)).Pairwise fun x y => ¬ twin x y := h.once.sublist List.filter_sublist
    refine h1.imp_of_mem fun {x y} hx hy hn e => hn ⟨?_, e⟩
    have h2 := (of_decide_eq_true (List.mem_filter.1 hx).2).1
    have h3 := (of_decide_eq_true (List.mem_filter.1 hy).2).1
    rw [h2, h3]
theorem sigsT_len (L : List Vt) (v : Int) (k : ByteArray) : (sigsT L v k).length = cntL L v k := by unfold sigsT cntL; rw [List.length_map]
/-- votes of two blocks in one view are together no more than the nodes -/
theorem InvTa.two {T : Ta} (h : InvTa T) (v : Int) (k k' : ByteArray) (hk : k ≠ k') (h1 : 1 ≤ T.n) : (cntL T.votes v k : Int) + cntL T.votes v k' ≤ T.n := by
  have hn : (((sigsT T.votes v k).map fun p => p.1) ++ ((sigsT T.votes v k').map fun p => p.1)).Nodup := by
    rw [List.nodup_append]
    refine ⟨(h.sigs v k).2, (h.sigs v k').2, fun a ha b hb e => ?_⟩
    subst e
    obtain ⟨p, hp, rfl⟩ := List.mem_map.1 ha
    obtain ⟨q, hq, e⟩ := List.mem_map.1 hb
    obtain ⟨x, hx, rfl⟩ := List.mem_map.1 hp
    obtain ⟨y, hy, rfl⟩ := List.mem_map.1 hq
    obtain ⟨hx1, hx2⟩ := List.mem_filter.1 hx
    obtain ⟨hy1, hy2⟩ := List.mem_filter.1 hy
    obtain ⟨hx3, hx4⟩ := of_decide_eq_true hx2
    obtain ⟨hy3, hy4⟩ := of_decide_eq_true hy2
    have hxy : x ≠ y := fun e => hk (by rw [← hx4, ← hy4, e])
    obtain ⟨i, hi, rfl⟩ := List.getElem_of_mem hx1
    obtain ⟨j, hj, rfl⟩ := List.getElem_of_mem hy1
    have hij : i ≠ j := fun e => hxy (by subst e; rfl)
    have hp := List.pairwise_iff_getElem.1 h.once
    rcases Nat.lt_or_ge i j with hl | hl
    · exact hp i j hi hj hl ⟨by rw [hx3, hy3], e.symm⟩
    · exact hp j i hj hi (by omega) ⟨by rw [hx3, hy3], e⟩
  have := List.Nodup.length_le_of_subset (l₂ := (List.range T.n.toNat).map fun (k : Nat) => (k : Int)) hn fun u hu => by
    have key : ∀ kk, u ∈ (sigsT T.votes v kk).map (fun p => p.1) → u ∈ (List.range T.n.toNat).map fun (k : Nat) => (k : Int) := fun kk hu => by
      obtain ⟨p, hp, rfl⟩ := List.mem_map.1 hu
      have := among_of (holds_of ((h.sigs v kk).1 p hp)).2.1
      exact List.mem_map.2 ⟨p.1.toNat, List.mem_range.2 (by omega), by omega⟩
    rcases List.mem_append.1 hu with hu | hu
    · exact key k hu
    · exact key k' hu
  rw [List.length_append, List.length_map, List.length_map, List.length_map, List.length_range, sigsT_len, sigsT_len] at this
  omega
theorem quorum_half {n : Int} (h : 1 ≤ n) : n < 2 * quorumI n := by
  unfold quorumI faultsI
  rw [if_neg (by omega), if_neg (by omega)]; omega
/-- views of which a certificate was told -/
def ToldV (T : Ta) (V : List Int) : Prop := ∀ u ∈ V, u ≤ T.under ∨ ∃ k, quorumI T.n ≤ (cntL T.votes u k : Int)
theorem cntL_snoc (L : List Vt) (x : Vt) (v : Int) (k : ByteArray) : cntL (L ++ [x]) v k = cntL L v k + if ofV v k x = true then 1 else 0 := by
  unfold cntL
  rw [List.filter_append, List.length_append]
  cases h : ofV v k x <;> simp [h]
theorem ToldV.add {T : Ta} {V : List Int} (h : ToldV T V) (x : Vt) : ToldV (addT T x) V := by
  cases ho : okT T x with
  | false => rw [add_no ho]; exact h
  | true =>
    rw [add_yes ho]
    intro u hu
    rcases h u hu with h1 | ⟨k, h1⟩
    · exact .inl h1
    · refine .inr ⟨k, ?_⟩
      show quorumI T.n ≤ ((cntL (T.votes ++ [x]) u k : Nat) : Int)
      rw [cntL_snoc]; push_cast; split <;> omega
theorem ToldV.below {T : Ta} {V : List Int} (h : ToldV T V) (v : Int) : ToldV (belowT T v) V := by
  intro u hu
  show u ≤ max T.under v ∨ _
  by_cases hle : u ≤ max T.under v
  · exact .inl hle
  · rcases h u hu with h1 | ⟨k, h1⟩
    · omega
    · refine .inr ⟨k, ?_⟩
      show quorumI T.n ≤ ((cntL (T.votes.filter fun x => decide (max T.under v < x.1)) u k : Nat) : Int)
      have e : cntL (T.votes.filter fun x => decide (max T.under v < x.1)) u k = cntL T.votes u k := by
        unfold cntL
        rw [List.filter_filter]
        congr 1
        refine List.filter_congr fun x _ => ?_
        cases hx : ofV u k x with
        | false => rfl
        | true =>
          have := (of_decide_eq_true hx).1
          rw [Bool.true_and]
          exact decide_eq_true (by omega)
      rw [e]; exact h1
/-- a view is told once -/
theorem ToldV.new {T : Ta} {V : List Int} (h : ToldV T V) (hi : InvTa T) {x : Vt} (ht : toldT T x = true) : x.1 ∉ V ∧ ToldV (addT T x) (V ++ [x.1]) := by
  unfold toldT at ht
  rw [Bool.and_eq_true, decide_eq_true_eq] at ht
  obtain ⟨ho, hq⟩ := ht
  obtain ⟨hm, _, _⟩ := ok_of ho
  obtain ⟨⟨_, _, hu, _⟩, _⟩ := may_of hm
  have hn := may_n hm
  have hadd := h.add x
  refine ⟨fun hx => ?_, fun u hu2 => ?_⟩
  · rcases h x.1 hx with h1 | ⟨k, h1⟩
    · omega
    · have hi' := hi.add x
      rw [add_yes ho] at hq hi'
      have hq : ((cntL (T.votes ++ [x]) x.1 x.2.1 : Nat) : Int) = quorumI T.n := hq
      rw [cntL_snoc, if_pos (show ofV x.1 x.2.1 x = true from decide_eq_true ⟨rfl, rfl⟩)] at hq
      by_cases hk : k = x.2.1
      · subst hk; push_cast at hq; omega
      · have h2 := hi'.two x.1 k x.2.1 hk hn.1
        have h2 : ((cntL (T.votes ++ [x]) x.1 k : Nat) : Int) + (cntL (T.votes ++ [x]) x.1 x.2.1 : Nat) ≤ T.n := h2
        rw [cntL_snoc, cntL_snoc, if_neg (show ¬ ofV x.1 k x = true from fun h => hk (of_decide_eq_true h).2.symm), if_pos (show ofV x.1 x.2.1 x = true from decide_eq_true ⟨rfl, rfl⟩)] at h2
        have := quorum_half hn.1
        push_cast at hq h2
        omega
  · rcases List.mem_append.1 hu2 with hu2 | hu2
    · exact hadd u hu2
    · rw [List.mem_singleton.1 hu2]
      refine .inr ⟨x.2.1, ?_⟩
      rw [(add_same T x).2.2.1, hq]
      exact Int.le_refl _
end TA
