/-
  What a memory remembers, by the chapter's words, over lists (layer 10). No walk is here.
-/
import Derived.Test.YthajnkcipifhcaaGreatDoorKSRunM
import Derived.Test.YthajnkcipifhcaaGreatDoorKWMsgLaw
import Derived.Test.YthajnkcipifhcaaGreatDoorKZMath
open Go Go.RowKit
namespace TT
open SS RR WW BB FF
abbrev StT := Int × Int
/-- of both views the greater one -/
def upS (a b : StT) : StT := (max a.1 b.1, max a.2 b.2)
def rightS (s : StT) : Prop := 0 ≤ s.1 ∧ s.1 ≤ 1000000 ∧ 0 ≤ s.2 ∧ s.2 ≤ 1000000
instance (s : StT) : Decidable (rightS s) := by unfold rightS; infer_instance
def leS (a b : StT) : Prop := a.1 ≤ b.1 ∧ a.2 ≤ b.2
theorem leS.refl (a : StT) : leS a a := ⟨Int.le_refl _, Int.le_refl _⟩
theorem leS.trans {a b c : StT} (h : leS a b) (k : leS b c) : leS a c := ⟨Int.le_trans h.1 k.1, Int.le_trans h.2 k.2⟩
/-- a state's record, and a block's -/
def rcS (s : StT) : ByteArray := (⟨#[83]⟩ : ByteArray) ++ bytesS s.1 s.2
def rcB (b : BlockD) : ByteArray := (⟨#[66]⟩ : ByteArray) ++ blockD b
/-- what a record is -/
def oneD (r : ByteArray) : Option (StT ⊕ BlockD) :=
  if r.size = 9 ∧ r.data.toList.getD 0 0 = 83 then (readS (r.extract 1 r.size)).map .inl
  else if 1 < r.size ∧ r.data.toList.getD 0 0 = 66 then (blockRd (r.extract 1 r.size)).map .inr else none
abbrev MemT := StT × List BlockD
def stepR (a : MemT) : StT ⊕ BlockD → MemT
  | .inl s => (upS a.1 s, a.2)
  | .inr b => (a.1, a.2 ++ [b])
/-- what records remember, behind what is remembered -/
def recallL : List ByteArray → MemT → MemT
  | [], a => a
  | r :: l, a => match oneD r with
    | none => a
    | some x => recallL l (stepR a x)
theorem recall_cons {r : ByteArray} {x : StT ⊕ BlockD} (h : oneD r = some x) (l : List ByteArray) (a : MemT) : recallL (r :: l) a = recallL l (stepR a x) := by
  show (match oneD r with | none => a | some x => recallL l (stepR a x)) = _
  rw [h]
theorem recall_stop {r : ByteArray} (h : oneD r = none) (l : List ByteArray) (a : MemT) : recallL (r :: l) a = a := by
  show (match oneD r with | none => a | some x => recallL l (stepR a x)) = _
  rw [h]
def GoodL (l : List ByteArray) : Prop := ∀ r ∈ l, (oneD r).isSome = true
theorem GoodL.append {l m : List ByteArray} (h : GoodL l) (k : GoodL m) : GoodL (l ++ m) := fun r hr => (List.mem_append.1 hr).elim (h r) (k r)
theorem GoodL.take {l : List ByteArray} (h : GoodL l) (j : Nat) : GoodL (l.take j) := fun r hr => h r (List.mem_of_mem_take hr)
theorem recall_append : ∀ (l m : List ByteArray) (a : MemT), GoodL l → recallL (l ++ m) a = recallL m (recallL l a)
  | [], _, _, _ => rfl
  | r :: l, m, a, h => by
    obtain ⟨x, hx⟩ := Option.isSome_iff_exists.1 (h r (by simp))
    rw [List.cons_append, recall_cons hx, recall_cons hx]
    exact recall_append l m _ fun r hr => h r (by simp [hr])
theorem ext_tail (c : UInt8) (b : ByteArray) : ((⟨#[c]⟩ : ByteArray) ++ b).extract 1 ((⟨#[c]⟩ : ByteArray) ++ b).size = b := by
  apply ba_ext
  have hl := ba_list ((⟨#[c]⟩ : ByteArray) ++ b)
  rw [ext_list]
  rw [app_list] at hl ⊢
  show ((c :: b.data.toList).drop 1).take _ = _
  rw [List.drop_succ_cons, List.drop_zero]
  refine List.take_of_length_le ?_
  have : ((⟨#[c]⟩ : ByteArray) ++ b).size = 1 + b.size := by rw [ByteArray.size_append]; rfl
  rw [this, ba_list]; omega
theorem one_head (c : UInt8) (b : ByteArray) : ((⟨#[c]⟩ : ByteArray) ++ b).data.toList.getD 0 0 = c := by rw [app_list]; rfl
theorem one_size (c : UInt8) (b : ByteArray) : ((⟨#[c]⟩ : ByteArray) ++ b).size = 1 + b.size := by rw [ByteArray.size_append]; rfl
theorem one_B {b : BlockD} (h : blockOk b) (h0 : 0 < (blockD b).size) : oneD (rcB b) = some (.inr b) := by
  unfold oneD rcB
  rw [if_neg (fun c => by have := c.2; rw [one_head] at this; exact absurd this (by decide)), if_pos ⟨by rw [one_size]; omega, one_head _ _⟩, ext_tail, blockRd_put h]
  rfl
theorem right_flat {v : Int} {k : ByteArray} {l : List (Int × List ByteArray)} (h : rightCert v k l = true) : (flat (sigsB l)).length ≤ 1400 ∧ k.size = 32 := by
  unfold rightCert at h
  simp only [Bool.and_eq_true, decide_eq_true_eq] at h
  obtain ⟨⟨⟨⟨h1, h2⟩, h3⟩, h4⟩, h5⟩ := h
  rw [okTo_iff] at h5
  have := flat_le 200 (sigsB l) (fun x hx => by
    unfold sigsB at hx
    obtain ⟨p, hp, rfl⟩ := List.mem_map.1 hx
    show (num p.1 ++ listB p.2).size ≤ 200
    rw [ByteArray.size_append, flat_size, num_size]
    have hq := (all_getD (p := fun p => rightSig p.1 p.2 = true)).1 h5.1 p hp
    unfold rightSig at hq
    simp only [Bool.and_eq_true, decide_eq_true_eq, List.all_eq_true] at hq
    obtain ⟨a, _, b⟩ := hq
    rw [List.take_of_length_le (by omega)] at a
    have := flat_le 16 p.2 (fun x hx => by have := a x hx; omega)
    omega)
  have e : (sigsB l).length = l.length := by unfold sigsB; rw [List.length_map]
  exact ⟨by omega, h3⟩
/-- a block's bytes are few -/
theorem block_few {b : BlockD} (h : blockOk b) : 0 < (blockD b).size ∧ (blockD b).size ≤ 3800 := by
  unfold blockOk rightBlock at h
  simp only [Bool.and_eq_true, decide_eq_true_eq, List.all_eq_true] at h
  obtain ⟨⟨_, _, _, _, h5, _, h7⟩, h8⟩ := h
  obtain ⟨f1, f2⟩ := right_flat h5
  have f3 := flat_le 72 (reqsB b.2) (fun x hx => by
    unfold reqsB at hx
    obtain ⟨p, hp, rfl⟩ := List.mem_map.1 hx
    have h4 := (h8 p hp).2.2.2.2
    rw [reqB_size]; omega)
  have e : (reqsB b.2).length = b.2.length := by unfold reqsB; rw [List.length_map]
  have hz : (blockD b).size = 4 + 4 + (8 + b.1.2.1.2.size + (flat (sigsB b.1.2.2)).length) + (4 + (flat (reqsB b.2)).length) := by
    unfold blockD blockB
    simp only [ByteArray.size_append, num_size, certB_size, flat_size]
  omega
/-- what a save appends -/
def recsOf (st x : StT) (l : List BlockD) : List ByteArray := l.map rcB ++ (if x = st then [] else [rcS x])
theorem recall_blocks : ∀ (l : List BlockD) (a : MemT), (∀ b ∈ l, blockOk b) → recallL (l.map rcB) a = (a.1, a.2 ++ l)
  | [], a, _ => by show a = (a.1, a.2 ++ []); rw [List.append_nil]
  | b :: l, a, h => by
    have hb := h b (by simp)
    rw [List.map_cons, recall_cons (one_B hb (block_few hb).1), recall_blocks l _ fun x hx => h x (by simp [hx])]
    show (a.1, (a.2 ++ [b]) ++ l) = _
    rw [List.append_assoc]; rfl
theorem recs_fit {st x : StT} {l : List BlockD} (hl : ∀ b ∈ l, blockOk b) : ∀ r ∈ recsOf st x l, fitR r := by
  intro r hr
  unfold recsOf at hr
  rcases List.mem_append.1 hr with h | h
  · obtain ⟨b, hb, rfl⟩ := List.mem_map.1 h
    have := block_few (hl b hb)
    unfold fitR rcB
    rw [one_size]; omega
  · split at h
    · cases h
    · rw [List.mem_singleton.1 h]
      unfold fitR rcS
      rw [one_size, bytes_size]; omega
/-- appends one behind the other, up to the first error -/
def appL : Lg → List ByteArray → Lg × Int
  | s, [] => (s, 0)
  | s, r :: l => if (appendL s r).2 = 0 then appL (appendL s r).1 l else appendL s r
/-- what a save does to the log -/
def putL (s : Lg) (rs : List ByteArray) : Lg × Int := if rs = [] then (s, 0) else if (appL s rs).2 = 0 then syncL (appL s rs).1 else appL s rs
end TT
