/-
  The certificate of nodes' votes: it is right; all of its signatures hold; it holds just if they are a quorum. No walk is here.
-/
import Derived.Test.YtegkhhegapnkpaaGreatDoorKERefS
import Derived.Test.YtegkhhegapnkpaaGreatDoorKJDig
import Derived.Test.YtegkhhegapnkpaaGreatDoorKLLawC
import Derived.Test.YtegkhhegapnkpaaGreatDoorKWCutR
import Derived.Test.YtegkhhegapnkpaaGreatDoorKEMkMath
open Go Go.RowKit
namespace CC
open MM WW BB
/-- a node's vote -/
def voteB (s : ByteArray) (n : Nat) (t : ByteArray) (k : Nat) : Int × List ByteArray := ((k : Int), tagsTo s (k : Int) t n)
theorem tags_get (s : ByteArray) (f : Int) (t : ByteArray) (n i : Nat) (h : i < n) : (tagsTo s f t n).getD i ⟨#[]⟩ = tagB s f (i : Int) t := by
  unfold tagsTo; simp [List.getD, h]
theorem tags_16 (s : ByteArray) (f : Int) (t : ByteArray) (n : Nat) : ∀ x ∈ tagsTo s f t n, x.size = 16 := by
  intro x hx
  unfold tagsTo at hx
  obtain ⟨j, _, rfl⟩ := List.mem_map.1 hx
  exact tagB_size _ _ _ _
theorem rises_of {l : List (Int × List ByteArray)} (h : l.Pairwise (fun p q => p.1 < q.1)) : ∀ n, n ≤ l.length → risesTo l n = true
  | 0, _ => rfl
  | n + 1, hn => by
    show (risesTo l n && (decide (n = 0) || decide ((l.getD (n - 1) (0, [])).1 < (l.getD n (0, [])).1))) = true
    rw [rises_of h n (by omega), Bool.true_and, Bool.or_eq_true, decide_eq_true_eq, decide_eq_true_eq]
    by_cases h0 : n = 0
    · exact Or.inl h0
    · refine Or.inr ?_
      have := (List.pairwise_iff_getElem.1 h) (n - 1) n (by omega) (by omega) (by omega)
      simpa [List.getD, List.getElem?_eq_getElem (show n - 1 < l.length by omega), List.getElem?_eq_getElem (show n < l.length by omega)] using this
theorem once_mem (n : Int) : ∀ (l out : List Int) (u : Int), u ∈ l.foldl (onceStep n) out ↔ u ∈ out ∨ (u ∈ l ∧ 0 ≤ u ∧ u < n)
  | [], out, u => by simp
  | a :: l, out, u => by
    show u ∈ l.foldl (onceStep n) (onceStep n out a) ↔ _
    rw [once_mem n l (onceStep n out a) u]
    unfold onceStep
    split
    · rename_i h
      rw [List.mem_append, List.mem_singleton, List.mem_cons]
      constructor
      · rintro ((h1 | rfl) | h1)
        · exact Or.inl h1
        · exact Or.inr ⟨Or.inl rfl, h.1, h.2.1⟩
        · exact Or.inr ⟨Or.inr h1.1, h1.2⟩
      · rintro (h1 | ⟨rfl | h1, h2⟩)
        · exact Or.inl (Or.inl h1)
        · exact Or.inl (Or.inr rfl)
        · exact Or.inr ⟨h1, h2⟩
    · rename_i h
      rw [List.mem_cons]
      constructor
      · rintro (h1 | h1)
        · exact Or.inl h1
        · exact Or.inr ⟨Or.inr h1.1, h1.2⟩
      · rintro (h1 | ⟨rfl | h1, h2⟩)
        · exact Or.inl h1
        · refine Or.inl (Classical.byContradiction fun hn => h ⟨h2.1, h2.2, hn⟩)
        · exact Or.inr ⟨h1, h2⟩
section
variable {s T : ByteArray} {n : Nat} {ks : List Nat} {L : List Sg} {v : Int} {K : ByteArray}
theorem votes_in (hL : L.map bare = ks.map (voteB s n T)) : ∀ p ∈ (mkL L).map bare, ∃ k ∈ ks, p = voteB s n T k := by
  intro p hp
  obtain ⟨x, hx, rfl⟩ := List.mem_map.1 hp
  have : bare x ∈ L.map bare := List.mem_map_of_mem (mk_sub' L x hx)
  rw [hL] at this
  obtain ⟨k, hk, he⟩ := List.mem_map.1 this
  exact ⟨k, hk, he.symm⟩
theorem votes_fst (hL : L.map bare = ks.map (voteB s n T)) (u : Int) : u ∈ ((mkL L).map bare).map (fun p => p.1) ↔ u ∈ ks.map (fun (k : Nat) => (k : Int)) := by
  constructor
  · intro h
    obtain ⟨p, hp, rfl⟩ := List.mem_map.1 h
    obtain ⟨k, hk, rfl⟩ := votes_in hL p hp
    exact List.mem_map_of_mem hk
  · intro h
    obtain ⟨k, hk, rfl⟩ := List.mem_map.1 h
    obtain ⟨i, hi, rfl⟩ := List.getElem_of_mem hk
    have hlen : L.length = ks.length := by have := congrArg List.length hL; simpa using this
    have he : ((L.map bare).getD i (0, [])).1 = (ks[i] : Int) := by
      rw [hL]; simp [List.getD, List.getElem?_eq_getElem hi, voteB]
    obtain ⟨j, h1, h2, h3⟩ := first_ex (L.map bare) _ i (by rw [List.length_map]; omega) he
    rw [← h2]
    exact List.mem_map_of_mem (mk_has' L j (by omega) h3)
theorem votes_len (hL : L.map bare = ks.map (voteB s n T)) (hk : ∀ k ∈ ks, k < n) : ((mkL L).map bare).length = (onceL (ks.map fun (k : Nat) => (k : Int)) (n : Int)).length := by
  have hn2 : (((mkL L).map bare).map fun p => p.1).Nodup := by
    apply nodup_of_lt
    rw [List.pairwise_map]
    exact mk_pair L
  have := ((List.perm_ext_iff_of_nodup hn2 (once_nodup (ks.map fun (k : Nat) => (k : Int)) (n : Int))).2 fun u => by
    rw [votes_fst hL u]
    show _ ↔ u ∈ (ks.map fun (k : Nat) => (k : Int)).foldl (onceStep n) []
    rw [once_mem]
    constructor
    · intro h
      refine Or.inr ⟨h, ?_⟩
      obtain ⟨k, hk', rfl⟩ := List.mem_map.1 h
      have := hk k hk'
      omega
    · rintro (h | h)
      · cases h
      · exact h.1).length_eq
  rw [List.length_map] at this
  exact this
theorem votes_right (hL : L.map bare = ks.map (voteB s n T)) (hk : ∀ k ∈ ks, k < n) (hn : n ≤ 7) (hv : 0 ≤ v ∧ v ≤ 1000000) (hK : K.size = 32) : rightCert v K ((mkL L).map bare) = true := by
  have hlen : ((mkL L).map bare).length ≤ 7 := by
    have hn2 : (((mkL L).map bare).map fun p => p.1).Nodup := by
      apply nodup_of_lt
      rw [List.pairwise_map]
      exact mk_pair L
    have := List.Nodup.length_le_of_subset (l₂ := (List.range n).map fun (k : Nat) => (k : Int)) hn2 fun u hu => by
      rw [votes_fst hL] at hu
      obtain ⟨k, hk', rfl⟩ := List.mem_map.1 hu
      exact List.mem_map.2 ⟨k, List.mem_range.2 (hk k hk'), rfl⟩
    rw [List.length_map, List.length_map, List.length_map, List.length_range] at this
    rw [List.length_map]
    omega
  unfold rightCert
  rw [Bool.and_eq_true, okTo_iff]
  refine ⟨by simp [hv.1, hv.2, hK]; simpa using hlen, fun i hi => ?_, rises_of (mk_pair L) _ (Nat.le_refl _)⟩
  obtain ⟨k, hk', he⟩ := votes_in hL _ (getD_mem' ((mkL L).map bare) (0, []) i hi)
  rw [he]
  unfold rightSig
  simp only [Bool.and_eq_true, decide_eq_true_eq, List.all_eq_true]
  refine ⟨fun x hx => tags_16 _ _ _ _ x (List.mem_of_mem_take hx), ⟨⟨?_, ?_⟩, ?_⟩⟩
  · show (0 : Int) ≤ (k : Int); omega
  · show (k : Int) < 7; have := hk k hk'; omega
  · show (tagsTo s (k : Int) T n).length ≤ 7; rw [tags_len]; exact hn
theorem votes_good (hL : L.map bare = ks.map (voteB s n (textB v K))) (hk : ∀ k ∈ ks, k < n) (hn : 1 ≤ n ∧ n ≤ 7) (hv : 0 ≤ v ∧ v ≤ 1000000) (hK : K.size = 32) (i : Nat) (hi : i < n) :
    goodL s (i : Int) (n : Int) v K ((mkL L).map bare) = ((mkL L).map bare).map fun p => p.1 := by
  unfold goodL
  rw [if_pos (votes_right hL hk hn.2 hv hK)]
  unfold goodTo
  rw [List.take_length, List.filter_eq_self.2 fun p hp => ?_]
  obtain ⟨k, hk', rfl⟩ := votes_in hL p hp
  have hkn := hk k hk'
  unfold holdsB
  have h1 : amongB (i : Int) (n : Int) = true := among_mk (by omega) (by omega) (by omega) (by omega)
  have h2 : amongB (voteB s n (textB v K) k).1 (n : Int) = true := among_mk (by omega) (by omega) (by show (0 : Int) ≤ (k : Int); omega) (by show (k : Int) < _; omega)
  have h3 : shapedB (voteB s n (textB v K) k).2 (n : Int) = true := by
    unfold shapedB
    rw [Bool.and_eq_true, decide_eq_true_eq, List.all_eq_true]
    refine ⟨by show ((tagsTo s (k : Int) (textB v K) n).length : Int) = _; rw [tags_len], fun x hx => ?_⟩
    have := tags_16 _ _ _ _ x hx
    simpa using this
  rw [h1, h2, h3, Bool.true_and, Bool.true_and, Bool.true_and, beq_iff_eq]
  show ((tagsTo s (k : Int) (textB v K) n).getD (i : Int).toNat ⟨#[]⟩).toList = _
  rw [Int.toNat_natCast, tags_get _ _ _ _ _ hi]
  rfl
/-- it holds for each node just if they are a quorum -/
theorem votes_holds (hL : L.map bare = ks.map (voteB s n (textB v K))) (hk : ∀ k ∈ ks, k < n) (hn : 1 ≤ n ∧ n ≤ 7) (hv : 1 ≤ v ∧ v ≤ 1000000) (hK : K.size = 32) (i : Nat) (hi : i < n) :
    certHolds s (i : Int) (n : Int) v K ((mkL L).map bare) = decide (quorumI (n : Int) ≤ ((onceL (ks.map fun (k : Nat) => (k : Int)) (n : Int)).length : Int)) := by
  unfold certHolds
  rw [if_neg (by omega), votes_good hL hk hn ⟨by omega, hv.2⟩ hK i hi, List.length_map, votes_len hL hk]
/-- of no votes, in the view 0, it is another one -/
theorem votes_other (hL : L.map bare = ks.map (voteB s n T)) (h0 : ks ≠ []) (d m : Int) : certHolds s d m 0 K ((mkL L).map bare) = false := by
  unfold certHolds
  rw [if_pos rfl, decide_eq_false_iff_not]
  rintro ⟨_, h⟩
  match ks, h0 with
  | k :: r, _ =>
    have := (votes_fst hL (k : Int)).2 (by simp)
    rw [h] at this
    cases this
end
end CC
