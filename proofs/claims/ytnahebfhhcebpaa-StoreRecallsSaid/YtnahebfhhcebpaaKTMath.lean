/-
  What a memory remembers, by the chapter's words, over lists (layer 10). No walk is here.
-/
import Derived.Test.YtnahebfhhcebpaaKSRunM
import Derived.Test.YtnahebfhhcebpaaKWLawB
import Derived.Test.YtnahebfhhcebpaaKRBytes
open Go Go.RowKit
namespace TT
open SS RR WW BB FF
abbrev StT := Int × Int
/-- of both views the greater one -/
def upS (a b : StT) : StT := (max a.1 b.1, max a.2 b.2)
def rightS (s : StT) : Prop := 0 ≤ s.1 ∧ s.1 ≤ 1000000 ∧ 0 ≤ s.2 ∧ s.2 ≤ 1000000
instance (s : StT) : Decidable (rightS s) := by unfold rightS; infer_instance
def leS (a b : StT) : Prop := a.1 ≤ b.1 ∧ a.2 ≤ b.2
theorem leS.refl (a : StT) : leS a a := ⟨Int.le_refl _, Int.le_refl _⟩
theorem leS.trans {a b c : StT} (h : leS a b) (k : leS b c) : leS a c := ⟨Int.le_trans h.1 k.1, Int.le_trans h.2 k.2⟩
theorem le_up (a b : StT) : leS a (upS a b) := ⟨by show a.1 ≤ max a.1 b.1; omega, by show a.2 ≤ max a.2 b.2; omega⟩
theorem up_self (a : StT) : upS a a = a := by unfold upS; ext <;> simp
/-- a state's record, and a block's -/
def rcS (s : StT) : ByteArray := (⟨#[83]⟩ : ByteArray) ++ bytesS s.1 s.2
def rcB (b : BlockD) : ByteArray := (⟨#[66]⟩ : ByteArray) ++ blockD b
/-- what a record is -/
def oneD (r : ByteArray) : Option (StT ⊕ BlockD) :=
  if r.size = 9 ∧ r.data.toList.getD 0 0 = 83 then (readS (r.extract 1 r.size)).map .inl
  else if 1 < r.size ∧ r.data.toList.getD 0 0 = 66 then (blockRd (r.extract 1 r.size)).map .inr else none
abbrev MemT := StT × List BlockD
def stepR (a : MemT) : StT ⊕ BlockD → MemT
  | .inl s => (upS a.1 s, a.2)
  | .inr b => (a.1, a.2 ++ [b])
/-- what records remember, behind what is remembered -/
def recallL : List ByteArray → MemT → MemT
  | [], a => a
  | r :: l, a => match oneD r with
    | none => a
    | some x => recallL l (stepR a x)
theorem recall_cons {r : ByteArray} {x : StT ⊕ BlockD} (h : oneD r = some x) (l : List ByteArray) (a : MemT) : recallL (r :: l) a = recallL l (stepR a x) := by
  show (match oneD r with | none => a | some x => recallL l (stepR a x)) = _
  rw [h]
theorem recall_stop {r : ByteArray} (h : oneD r = none) (l : List ByteArray) (a : MemT) : recallL (r :: l) a = a := by
  show (match oneD r with | none => a | some x => recallL l (stepR a x)) = _
  rw [h]
def GoodL (l : List ByteArray) : Prop := ∀ r ∈ l, (oneD r).isSome = true
theorem GoodL.append {l m : List ByteArray} (h : GoodL l) (k : GoodL m) : GoodL (l ++ m) := fun r hr => (List.mem_append.1 hr).elim (h r) (k r)
theorem GoodL.take {l : List ByteArray} (h : GoodL l) (j : Nat) : GoodL (l.take j) := fun r hr => h r (List.mem_of_mem_take hr)
theorem recall_append : ∀ (l m : List ByteArray) (a : MemT), GoodL l → recallL (l ++ m) a = recallL m (recallL l a)
  | [], _, _, _ => rfl
  | r :: l, m, a, h => by
    obtain ⟨x, hx⟩ := Option.isSome_iff_exists.1 (h r (by simp))
    rw [List.cons_append, recall_cons hx, recall_cons hx]
    exact recall_append l m _ fun r hr => h r (by simp [hr])
theorem recall_mono : ∀ (l : List ByteArray) (a : MemT), leS a.1 (recallL l a).1 ∧ a.2 <+: (recallL l a).2
  | [], a => ⟨leS.refl _, List.prefix_rfl⟩
  | r :: l, a => by
    cases hx : oneD r with
    | none => rw [recall_stop hx]; exact ⟨leS.refl _, List.prefix_rfl⟩
    | some x =>
      rw [recall_cons hx]
      obtain ⟨h1, h2⟩ := recall_mono l (stepR a x)
      cases x with
      | inl s => exact ⟨(le_up _ _).trans h1, h2⟩
      | inr b => exact ⟨h1, (List.prefix_append _ _).trans h2⟩
theorem ext_tail (c : UInt8) (b : ByteArray) : ((⟨#[c]⟩ : ByteArray) ++ b).extract 1 ((⟨#[c]⟩ : ByteArray) ++ b).size = b := by
  apply ba_ext
  have hl := ba_list ((⟨#[c]⟩ : ByteArray) ++ b)
  rw [ext_list]
  rw [app_list] at hl ⊢
  show ((c :: b.data.toList).drop 1).take _ = _
  rw [List.drop_succ_cons, List.drop_zero]
  refine List.take_of_length_le ?_
  have : ((⟨#[c]⟩ : ByteArray) ++ b).size = 1 + b.size := by rw [ByteArray.size_append]; rfl
  rw [this, ba_list]; omega
theorem one_head (c : UInt8) (b : ByteArray) : ((⟨#[c]⟩ : ByteArray) ++ b).data.toList.getD 0 0 = c := by rw [app_list]; rfl
theorem one_size (c : UInt8) (b : ByteArray) : ((⟨#[c]⟩ : ByteArray) ++ b).size = 1 + b.size := by rw [ByteArray.size_append]; rfl
theorem one_S {s : StT} (h : rightS s) : oneD (rcS s) = some (.inl s) := by
  have hz := bytes_size s.1 s.2
  unfold oneD rcS
  rw [if_pos ⟨by rw [one_size, hz], one_head _ _⟩, ext_tail, read_bytes h]
  rfl
theorem one_B {b : BlockD} (h : blockOk b) (h0 : 0 < (blockD b).size) : oneD (rcB b) = some (.inr b) := by
  unfold oneD rcB
  rw [if_neg (fun c => by have := c.2; rw [one_head] at this; exact absurd this (by decide)), if_pos ⟨by rw [one_size]; omega, one_head _ _⟩, ext_tail, blockRd_put h]
  rfl
theorem right_flat {v : Int} {k : ByteArray} {l : List (Int × List ByteArray)} (h : rightCert v k l = true) : (flat (sigsB l)).length ≤ 1400 ∧ k.size = 32 := by
  unfold rightCert at h
  simp only [Bool.and_eq_true, decide_eq_true_eq] at h
  obtain ⟨⟨⟨⟨h1, h2⟩, h3⟩, h4⟩, h5⟩ := h
  rw [okTo_iff] at h5
  have := flat_le 200 (sigsB l) (fun x hx => by
    unfold sigsB at hx
    obtain ⟨p, hp, rfl⟩ := List.mem_map.1 hx
    show (num p.1 ++ listB p.2).size ≤ 200
    rw [ByteArray.size_append, flat_size, num_size]
    have hq := (all_getD (p := fun p => rightSig p.1 p.2 = true)).1 h5.1 p hp
    unfold rightSig at hq
    simp only [Bool.and_eq_true, decide_eq_true_eq, List.all_eq_true] at hq
    obtain ⟨a, _, b⟩ := hq
    rw [List.take_of_length_le (by omega)] at a
    have := flat_le 16 p.2 (fun x hx => by have := a x hx; omega)
    omega)
  have e : (sigsB l).length = l.length := by unfold sigsB; rw [List.length_map]
  exact ⟨by omega, h3⟩
/-- a block's bytes are few -/
theorem block_few {b : BlockD} (h : blockOk b) : 0 < (blockD b).size ∧ (blockD b).size ≤ 3800 := by
  unfold blockOk rightBlock at h
  simp only [Bool.and_eq_true, decide_eq_true_eq, List.all_eq_true] at h
  obtain ⟨⟨_, _, _, _, h5, _, h7⟩, h8⟩ := h
  obtain ⟨f1, f2⟩ := right_flat h5
  have f3 := flat_le 72 (reqsB b.2) (fun x hx => by
    unfold reqsB at hx
    obtain ⟨p, hp, rfl⟩ := List.mem_map.1 hx
    have h4 := (h8 p hp).2.2.2.2
    rw [reqB_size]; omega)
  have e : (reqsB b.2).length = b.2.length := by unfold reqsB; rw [List.length_map]
  have hz : (blockD b).size = 4 + 4 + (8 + b.1.2.1.2.size + (flat (sigsB b.1.2.2)).length) + (4 + (flat (reqsB b.2)).length) := by
    unfold blockD blockB
    simp only [ByteArray.size_append, num_size, certB_size, flat_size]
  omega
/-- what a save appends -/
def recsOf (st x : StT) (l : List BlockD) : List ByteArray := l.map rcB ++ (if x = st then [] else [rcS x])
theorem recs_good {st x : StT} {l : List BlockD} (hx : rightS x) (hl : ∀ b ∈ l, blockOk b) : GoodL (recsOf st x l) := by
  intro r hr
  unfold recsOf at hr
  rcases List.mem_append.1 hr with h | h
  · obtain ⟨b, hb, rfl⟩ := List.mem_map.1 h
    rw [one_B (hl b hb) (block_few (hl b hb)).1]; rfl
  · split at h
    · cases h
    · rw [List.mem_singleton.1 h, one_S hx]; rfl
theorem recall_blocks : ∀ (l : List BlockD) (a : MemT), (∀ b ∈ l, blockOk b) → recallL (l.map rcB) a = (a.1, a.2 ++ l)
  | [], a, _ => by show a = (a.1, a.2 ++ []); rw [List.append_nil]
  | b :: l, a, h => by
    have hb := h b (by simp)
    rw [List.map_cons, recall_cons (one_B hb (block_few hb).1), recall_blocks l _ fun x hx => h x (by simp [hx])]
    show (a.1, (a.2 ++ [b]) ++ l) = _
    rw [List.append_assoc]; rfl
/-- what a save's records remember -/
theorem recall_recs {st x : StT} {l : List BlockD} (bl : List BlockD) (hx : rightS x) (hl : ∀ b ∈ l, blockOk b) : recallL (recsOf st x l) (st, bl) = (upS st x, bl ++ l) := by
  unfold recsOf
  rw [recall_append _ _ _ (fun r hr => by obtain ⟨b, hb, rfl⟩ := List.mem_map.1 hr; rw [one_B (hl b hb) (block_few (hl b hb)).1]; rfl), recall_blocks l _ hl]
  by_cases h : x = st
  · rw [if_pos h, h, up_self]; rfl
  · rw [if_neg h, recall_cons (one_S hx)]; rfl
theorem recs_fit {st x : StT} {l : List BlockD} (hl : ∀ b ∈ l, blockOk b) : ∀ r ∈ recsOf st x l, fitR r := by
  intro r hr
  unfold recsOf at hr
  rcases List.mem_append.1 hr with h | h
  · obtain ⟨b, hb, rfl⟩ := List.mem_map.1 h
    have := block_few (hl b hb)
    unfold fitR rcB
    rw [one_size]; omega
  · split at h
    · cases h
    · rw [List.mem_singleton.1 h]
      unfold fitR rcS
      rw [one_size, bytes_size]; omega
/-- appends one behind the other, up to the first error -/
def appL : Lg → List ByteArray → Lg × Int
  | s, [] => (s, 0)
  | s, r :: l => if (appendL s r).2 = 0 then appL (appendL s r).1 l else appendL s r
/-- what a save does to the log -/
def putL (s : Lg) (rs : List ByteArray) : Lg × Int := if rs = [] then (s, 0) else if (appL s rs).2 = 0 then syncL (appL s rs).1 else appL s rs
/-- an append of a record that fits -/
theorem app_fit {s : Lg} {all : List ByteArray} {n : Nat} {r : ByteArray} (h : InvS s all n) (hr : fitR r) (hg : s.gone = false) :
    ((appendL s r).2 = 0 ∧ InvS (appendL s r).1 (all ++ [r]) n ∧ (appendL s r).1.gone = false ∧ (s.fuse = -1 → (appendL s r).1.fuse = -1)) ∨ ((appendL s r).2 = 8 ∧ InvS (appendL s r).1 all n ∧ s.fuse = 0) := by
  have hb : ¬ (r.size = 0 ∨ 4000 < r.size) := by unfold fitR at hr; omega
  obtain ⟨b1, b2, b3⟩ := burn_same s
  unfold appendL
  rw [if_neg (by rw [hg]; decide), if_neg hb]
  by_cases hf : s.fuse = 0
  · rw [if_pos hf]; exact .inr ⟨rfl, h.same rfl rfl, hf⟩
  · rw [if_neg hf]
    obtain ⟨h1, h2, h3, h4⟩ := h
    refine .inl ⟨rfl, ⟨?_, ?_, ?_, ?_⟩, ?_, fun hm => ?_⟩
    · show (burnL s).safe ++ (s.wait ++ txt r) = _
      rw [b1, ← ByteArray.append_assoc, h1, enc_append, txt_enc hr]
      show _ = encL all ++ (encR r ++ ⟨#[]⟩)
      rw [SS.app_nil]
    · show (burnL s).safe = _
      rw [b1, h2, List.take_append_of_le_length h3]
    · rw [List.length_append]; omega
    · intro r' hr'
      rcases List.mem_append.1 hr' with h' | h'
      · exact h4 r' h'
      · rw [List.mem_singleton.1 h']; exact hr
    · show (burnL s).gone = false
      rw [b3, hg]
    · show (burnL s).fuse = -1
      unfold burnL
      rw [if_neg (by omega), hm]
theorem app_all : ∀ (rs : List ByteArray) (s : Lg) (all : List ByteArray) (n : Nat), InvS s all n → (∀ r ∈ rs, fitR r) → s.gone = false →
    ((appL s rs).2 = 0 ∧ InvS (appL s rs).1 (all ++ rs) n ∧ (appL s rs).1.gone = false ∧ (s.fuse = -1 → (appL s rs).1.fuse = -1)) ∨ ((appL s rs).2 = 8 ∧ s.fuse ≠ -1 ∧ ∃ k, k ≤ rs.length ∧ InvS (appL s rs).1 (all ++ rs.take k) n)
  | [], s, all, n, h, _, hg => .inl ⟨rfl, by rw [List.append_nil]; exact h, hg, fun h => h⟩
  | r :: l, s, all, n, h, hf, hg => by
    show ((if (appendL s r).2 = 0 then appL (appendL s r).1 l else appendL s r).2 = 0 ∧ _) ∨ _
    rcases app_fit h (hf r (by simp)) hg with ⟨e, h1, h2, h3⟩ | ⟨e, h1, h2⟩
    · have hd : appL s (r :: l) = appL (appendL s r).1 l := by show (if _ then _ else _) = _; rw [if_pos e]
      rw [hd, if_pos e]
      rcases app_all l _ _ n h1 (fun x hx => hf x (by simp [hx])) h2 with ⟨a1, a2, a3, a4⟩ | ⟨a1, a2, k, a3, a4⟩
      · refine .inl ⟨a1, ?_, a3, fun hm => a4 (h3 hm)⟩
        rw [List.append_assoc] at a2; exact a2
      · refine .inr ⟨a1, fun hm => a2 (h3 hm), k + 1, by simp; omega, ?_⟩
        rw [List.append_assoc] at a4
        rw [List.take_succ_cons]; exact a4
    · have hd : appL s (r :: l) = appendL s r := by show (if _ then _ else _) = _; rw [if_neg (by rw [e]; decide)]
      rw [hd, if_neg (by rw [e]; decide)]
      exact .inr ⟨e, by omega, 0, Nat.zero_le _, by rw [List.take_zero, List.append_nil]; exact h1⟩
/-- behind a save's records, all that was there being synced -/
theorem put_inv {s : Lg} {all rs : List ByteArray} (h : InvS s all all.length) (hf : ∀ r ∈ rs, fitR r) (hg : s.gone = false) :
    ((putL s rs).2 = 0 ∧ InvS (putL s rs).1 (all ++ rs) (all ++ rs).length ∧ (putL s rs).1.gone = false ∧ (s.fuse = -1 → (putL s rs).1.fuse = -1)) ∨ ((putL s rs).2 = 8 ∧ s.fuse ≠ -1 ∧ ∃ k, k ≤ rs.length ∧ InvS (putL s rs).1 (all ++ rs.take k) all.length) := by
  unfold putL
  by_cases h0 : rs = []
  · rw [if_pos h0, h0, List.append_nil]; exact .inl ⟨rfl, h, hg, fun h => h⟩
  rw [if_neg h0]
  rcases app_all rs s all _ h hf hg with ⟨e, h1, h2, h3⟩ | ⟨e, h1, k, hk, h2⟩
  · rw [if_pos e]
    obtain ⟨s1, hs1⟩ : ∃ s1, (appL s rs).1 = s1 := ⟨_, rfl⟩
    rw [hs1] at h1 h2 h3 ⊢
    obtain ⟨b1, b2, b3⟩ := burn_same s1
    unfold syncL
    rw [if_neg (by rw [h2]; decide)]
    by_cases hz : s1.fuse = 0
    · rw [if_pos hz]
      refine .inr ⟨rfl, fun hm => by have := h3 hm; omega, rs.length, Nat.le_refl _, ?_⟩
      rw [List.take_length]
      exact h1.same rfl rfl
    · rw [if_neg hz]
      obtain ⟨i1, i2, i3, i4⟩ := h1
      refine .inl ⟨rfl, ⟨?_, ?_, Nat.le_refl _, i4⟩, ?_, fun hm => ?_⟩
      · show (s1.safe ++ s1.wait) ++ (⟨#[]⟩ : ByteArray) = _
        rw [SS.app_nil, i1]
      · show s1.safe ++ s1.wait = _
        rw [List.take_length, i1]
      · show (burnL s1).gone = false
        rw [b3, h2]
      · show (burnL s1).fuse = -1
        have := h3 hm
        unfold burnL
        rw [if_neg (by omega), this]
  · rw [if_neg (by rw [e]; decide)]
    exact .inr ⟨e, h1, k, hk, h2⟩
theorem sz_one {A B : Nat} (n : Nat) (h1 : B ≤ A + 4004) : B ≤ A + 4004 * (n + 1) := Nat.le_trans h1 (Nat.add_le_add_left (by rw [Nat.mul_succ]; exact Nat.le_add_left _ _) A)
theorem sz_step {A B C n : Nat} (h1 : B ≤ A + 4004) (h2 : C ≤ B + 4004 * n) : C ≤ A + 4004 * (n + 1) := Nat.le_trans h2 (Nat.le_trans (Nat.add_le_add_right h1 _) (by rw [Nat.mul_succ, Nat.add_assoc, Nat.add_comm 4004]; exact Nat.le_refl _))
theorem sz_last {A B C n : Nat} (h1 : B ≤ A + 4004 * n) (h2 : C ≤ B + 4004) : C ≤ A + 4004 * (n + 1) := Nat.le_trans h2 (by rw [Nat.mul_succ, ← Nat.add_assoc]; exact Nat.add_le_add_right h1 4004)
theorem sz_more {A C n : Nat} (h2 : C ≤ A + 4004 * n) : C ≤ A + 4004 * (n + 1) := Nat.le_trans h2 (by rw [Nat.mul_succ, ← Nat.add_assoc]; exact Nat.le_add_right _ _)
theorem appL_size : ∀ (rs : List ByteArray) (s : Lg), sizeL (appL s rs).1 ≤ sizeL s + 4004 * rs.length
  | [], s => Nat.le_add_right _ _
  | r :: l, s => by
    have h1 : sizeL (appendL s r).1 ≤ sizeL s + 4004 := do_size s 0 r 0
    have h2 := appL_size l (appendL s r).1
    show sizeL (if (appendL s r).2 = 0 then appL (appendL s r).1 l else appendL s r).1 ≤ sizeL s + 4004 * (l.length + 1)
    by_cases h0 : (appendL s r).2 = 0
    · rw [if_pos h0]; exact sz_step h1 h2
    · rw [if_neg h0]; exact sz_one _ h1
theorem syncL_size (s : Lg) : sizeL (syncL s).1 ≤ sizeL s + 4004 := do_size s 1 ⟨#[]⟩ 0
theorem putL_size (s : Lg) (rs : List ByteArray) : sizeL (putL s rs).1 ≤ sizeL s + 4004 * (rs.length + 1) := by
  have h := appL_size rs s
  have h2 := syncL_size (appL s rs).1
  unfold putL
  by_cases h0 : rs = []
  · rw [if_pos h0]
    exact Nat.le_add_right _ _
  · rw [if_neg h0]
    by_cases h1 : (appL s rs).2 = 0
    · rw [if_pos h1]; exact sz_last h h2
    · rw [if_neg h1]; exact sz_more h
theorem ok_zero : (0 : Int) ≤ 9223372036854775807 := by omega
set_option maxRecDepth 100000 in
theorem appL_ok : ∀ (rs : List ByteArray) (s : Lg), OkL s → OkL (appL s rs).1
  | [], _, h => h
  | r :: l, s, h => by
    have h1 : OkL (appendL s r).1 := ok_do h 0 r (n := 0) ok_zero
    show OkL (if (appendL s r).2 = 0 then appL (appendL s r).1 l else appendL s r).1
    split
    · exact appL_ok l _ h1
    · exact h1
set_option maxRecDepth 100000 in
theorem putL_ok {s : Lg} (h : OkL s) (rs : List ByteArray) : OkL (putL s rs).1 := by
  have h1 := appL_ok rs s h
  unfold putL
  split
  · exact h
  · split
    · exact ok_do h1 1 ⟨#[]⟩ (n := 0) ok_zero
    · exact h1
end TT
