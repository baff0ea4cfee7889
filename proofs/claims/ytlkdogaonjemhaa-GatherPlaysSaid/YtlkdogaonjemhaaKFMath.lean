/-
  A forest of blocks, by the chapter's words, over lists (layer 7). No walk is here.
-/
import Derived.Test.YtlkdogaonjemhaaKWRight
import Derived.Test.YtlkdogaonjemhaaKWords
import Derived.OrdersHeld
import Derived.Test.YtlkdogaonjemhaaKWReqLaw
import Derived.Test.YtlkdogaonjemhaaKWBlock
section
open Go Go.RowKit
namespace WW
open BB
/-- the first i signatures are right, and rise -/
def okTo (l : List (Int × List ByteArray)) : Nat → Bool
  | 0 => true
  | i + 1 => okTo l i && (rightSig (l.getD i (0, [])).1 (l.getD i (0, [])).2 && (decide (i = 0) || decide ((l.getD (i - 1) (0, [])).1 < (l.getD i (0, [])).1)))
theorem okTo_mono (l : List (Int × List ByteArray)) (i j : Nat) (h : i ≤ j) (hf : okTo l i = false) : okTo l j = false := by
  induction j with
  | zero => obtain rfl : i = 0 := by omega
            exact hf
  | succ j ih =>
    by_cases e : i = j + 1
    · subst e; exact hf
    · show (okTo l j && _) = false
      rw [ih (by omega), Bool.false_and]
/-- a right certificate -/
def rightCert (v : Int) (k : ByteArray) (l : List (Int × List ByteArray)) : Bool := (decide (0 ≤ v) && decide (v ≤ 1000000) && decide (k.size = 32) && decide (l.length ≤ 7)) && okTo l l.length
/-- the certificate's first fields are wrong, by the first thing that is -/
def BadC (v : Int) (k : ByteArray) (n : Nat) : Prop := v < 0 ∨ 0 ≤ v ∧ ((1000000 : Int) < v ∨ v ≤ 1000000 ∧ (((k.size : Int) != 32) = true ∨ ((k.size : Int) != 32) = false ∧ (7 : Int) < (n : Int)))
theorem cells3 {w w1 : World} {p0 p1 p2 : Nat × Nat} {v0 v1 v2 : Value} (h : w.cell? ⟨p0.1, p0.2, none⟩ = some v0 ∧ w.cell? ⟨p1.1, p1.2, none⟩ = some v1 ∧ w.cell? ⟨p2.1, p2.2, none⟩ = some v2) (hb : Below w.heap.size w w1) :
    w1.cell? ⟨p0.1, p0.2, none⟩ = some v0 ∧ w1.cell? ⟨p1.1, p1.2, none⟩ = some v1 ∧ w1.cell? ⟨p2.1, p2.2, none⟩ = some v2 :=
  ⟨(hb.cell (p := ⟨p0.1, p0.2, none⟩) (World.block_lt_of_cell? w _ h.1)).trans h.1, (hb.cell (p := ⟨p1.1, p1.2, none⟩) (World.block_lt_of_cell? w _ h.2.1)).trans h.2.1, (hb.cell (p := ⟨p2.1, p2.2, none⟩) (World.block_lt_of_cell? w _ h.2.2)).trans h.2.2⟩
end WW
namespace Go.Proofs.Ytlkdogaonjemhaa
open WW BB
end Go.Proofs.Ytlkdogaonjemhaa
end
section
open Go Go.RowKit
namespace WW
open BB
instance (c q : Int) (s : ByteArray) : Decidable (rightR c q s) := by unfold rightR; infer_instance
/-- a right block -/
def rightBlock (v p cv : Int) (k : ByteArray) (l : List (Int × List ByteArray)) (m : List (Int × Int × ByteArray)) : Bool :=
  (decide (1 ≤ v) && (decide (v ≤ 1000000) && (decide (0 ≤ p) && (decide (p ≤ 6) && (rightCert cv k l && (decide (cv < v) && decide (m.length ≤ 3))))))) && m.all (fun r => decide (rightR r.1 r.2.1 r.2.2))
/-- the block's first fields are wrong, by the first thing that is -/
def BadB (v p : Int) : Prop := v < 1 ∨ 1 ≤ v ∧ ((1000000 : Int) < v ∨ v ≤ 1000000 ∧ (p < 0 ∨ 0 ≤ p ∧ 6 < p))
end WW
namespace Go.Proofs.Ytlkdogaonjemhaa
open WW BB
end Go.Proofs.Ytlkdogaonjemhaa
end
section
open Go Go.RowKit
namespace WW
open BB
/-- what cuts off a thing reads just what is written of right ones -/
structure Codec {α : Type} (Sp : ByteArray → Option (ByteArray × α)) (enc : α → ByteArray) (ok : α → Prop) : Prop where
  put : ∀ a r, ok a → Sp (enc a ++ r) = some (r, a)
  sound : ∀ b r a, Sp b = some (r, a) → b = enc a ++ r ∧ ok a
section
variable {α β : Type} {A : ByteArray → Option (ByteArray × α)} {B : ByteArray → Option (ByteArray × β)} {ea : α → ByteArray} {eb : β → ByteArray} {oa : α → Prop} {ob : β → Prop}
theorem Codec.inj (h : Codec A ea oa) {x y : α} (hx : oa x) (hy : oa y) (he : ea x = ea y) : x = y := by
  have h1 := h.put x ⟨#[]⟩ hx
  have h2 := h.put y ⟨#[]⟩ hy
  rw [he, h2] at h1
  simp only [Option.some.injEq, Prod.mk.injEq] at h1
  exact h1.2.symm
theorem Codec.size (h : Codec A ea oa) {b r : ByteArray} {a : α} (hb : A b = some (r, a)) : r.size ≤ b.size := by
  obtain ⟨e, _⟩ := h.sound b r a hb
  rw [e, ByteArray.size_append]; omega
/-- one behind the other -/
def seqSp (A : ByteArray → Option (ByteArray × α)) (B : ByteArray → Option (ByteArray × β)) (b : ByteArray) : Option (ByteArray × (α × β)) :=
  match A b with
  | none => none
  | some (r, x) => match B r with
    | none => none
    | some (r', y) => some (r', (x, y))
theorem seq_some {b r r' : ByteArray} {x : α} {y : β} (h1 : A b = some (r, x)) (h2 : B r = some (r', y)) : seqSp A B b = some (r', (x, y)) := by
  unfold seqSp; rw [h1]; dsimp only; rw [h2]
theorem seq_none1 {b : ByteArray} (h1 : A b = none) : seqSp A B b = none := by unfold seqSp; rw [h1]
theorem seq_none2 {b r : ByteArray} {x : α} (h1 : A b = some (r, x)) (h2 : B r = none) : seqSp A B b = none := by unfold seqSp; rw [h1]; dsimp only; rw [h2]
theorem seq_inv {b r' : ByteArray} {x : α} {y : β} (h : seqSp A B b = some (r', (x, y))) : ∃ r, A b = some (r, x) ∧ B r = some (r', y) := by
  unfold seqSp at h
  rcases h1 : A b with _ | ⟨r, x1⟩
  · rw [h1] at h; cases h
  rw [h1] at h
  dsimp only at h
  rcases h2 : B r with _ | ⟨r2, y2⟩
  · rw [h2] at h; cases h
  rw [h2] at h
  simp only [Option.some.injEq, Prod.mk.injEq] at h
  obtain ⟨rfl, rfl, rfl⟩ := h
  exact ⟨r, rfl, h2⟩
theorem Codec.seq (ha : Codec A ea oa) (hb : Codec B eb ob) : Codec (seqSp A B) (fun p => ea p.1 ++ eb p.2) (fun p => oa p.1 ∧ ob p.2) where
  put := fun ⟨x, y⟩ r ⟨h1, h2⟩ => by
    refine seq_some (r := eb y ++ r) ?_ (hb.put y r h2)
    show A (ea x ++ eb y ++ r) = _
    rw [ByteArray.append_assoc]; exact ha.put x _ h1
  sound := fun b r ⟨x, y⟩ h => by
    obtain ⟨r1, h1, h2⟩ := seq_inv h
    obtain ⟨e1, o1⟩ := ha.sound _ _ _ h1
    obtain ⟨e2, o2⟩ := hb.sound _ _ _ h2
    exact ⟨by show b = ea x ++ eb y ++ r; rw [e1, e2, ByteArray.append_assoc], o1, o2⟩
/-- what holds of it, too -/
def filtSp (A : ByteArray → Option (ByteArray × α)) (p : α → Bool) (b : ByteArray) : Option (ByteArray × α) :=
  match A b with
  | none => none
  | some (r, x) => if p x then some (r, x) else none
theorem filt_some {p : α → Bool} {b r : ByteArray} {x : α} (h1 : A b = some (r, x)) : filtSp A p b = if p x = true then some (r, x) else none := by unfold filtSp; rw [h1]
theorem filt_none {p : α → Bool} {b : ByteArray} (h1 : A b = none) : filtSp A p b = none := by unfold filtSp; rw [h1]
theorem filt_inv {p : α → Bool} {b r : ByteArray} {x : α} (h : filtSp A p b = some (r, x)) : A b = some (r, x) ∧ p x = true := by
  unfold filtSp at h
  rcases h1 : A b with _ | ⟨r1, x1⟩
  · rw [h1] at h; cases h
  rw [h1] at h
  dsimp only at h
  split at h
  · rename_i hp
    simp only [Option.some.injEq, Prod.mk.injEq] at h
    obtain ⟨rfl, rfl⟩ := h
    exact ⟨rfl, hp⟩
  · cases h
theorem Codec.filt (ha : Codec A ea oa) (p : α → Bool) : Codec (filtSp A p) ea (fun x => oa x ∧ p x = true) where
  put := fun x r ⟨h1, h2⟩ => by rw [filt_some (ha.put x r h1), if_pos h2]
  sound := fun b r x h => by
    obtain ⟨h1, h2⟩ := filt_inv h
    obtain ⟨e, o⟩ := ha.sound _ _ _ h1
    exact ⟨e, o, h2⟩
/-- what is read is told by another thing -/
def mapSp (g : α → β) (A : ByteArray → Option (ByteArray × α)) (b : ByteArray) : Option (ByteArray × β) :=
  match A b with
  | none => none
  | some (r, x) => some (r, g x)
theorem map_some {g : α → β} {b r : ByteArray} {x : α} (h : A b = some (r, x)) : mapSp g A b = some (r, g x) := by unfold mapSp; rw [h]
theorem map_none {g : α → β} {b : ByteArray} (h : A b = none) : mapSp g A b = none := by unfold mapSp; rw [h]
theorem map_inv {g : α → β} {b r : ByteArray} {y : β} (h : mapSp g A b = some (r, y)) : ∃ x, A b = some (r, x) ∧ y = g x := by
  unfold mapSp at h
  rcases h1 : A b with _ | ⟨r1, x1⟩
  · rw [h1] at h; cases h
  rw [h1] at h
  simp only [Option.some.injEq, Prod.mk.injEq] at h
  obtain ⟨rfl, rfl⟩ := h
  exact ⟨x1, rfl, rfl⟩
theorem Codec.map (ha : Codec A ea oa) (g : α → β) (eb : β → ByteArray) (ob : β → Prop) (he : ∀ x, oa x → eb (g x) = ea x) (ho : ∀ x, oa x → ob (g x)) (hs : ∀ y, ob y → ∃ x, oa x ∧ g x = y) : Codec (mapSp g A) eb ob where
  put := fun y r h => by
    obtain ⟨x, hx, rfl⟩ := hs y h
    rw [he x hx]; exact map_some (ha.put x r hx)
  sound := fun b r y h => by
    obtain ⟨x, h1, rfl⟩ := map_inv h
    obtain ⟨e, o⟩ := ha.sound _ _ _ h1
    exact ⟨by rw [he x o]; exact e, ho x o⟩
/-- n of them -/
def repSp (A : ByteArray → Option (ByteArray × α)) : Nat → ByteArray → Option (ByteArray × List α)
  | 0, b => some (b, [])
  | n + 1, b => match A b with
    | none => none
    | some (r, x) => match repSp A n r with
      | none => none
      | some (r', l) => some (r', x :: l)
def catB (xs : List ByteArray) : ByteArray := ⟨(flat xs).toArray⟩
theorem catB_cons (x : ByteArray) (xs : List ByteArray) : catB (x :: xs) = x ++ catB xs := by
  apply ba_ext; rw [ByteArray.data_append, Array.toList_append]; simp [catB, flat]
theorem listB_cat (xs : List ByteArray) : listB xs = be4 xs.length ++ catB xs := by
  apply ba_ext; rw [ByteArray.data_append, Array.toList_append]; simp [catB, listB, listL]
theorem Codec.rep (ha : Codec A ea oa) : ∀ n, Codec (repSp A n) (fun l => catB (l.map ea)) (fun l => l.length = n ∧ ∀ x ∈ l, oa x)
  | 0 => ⟨fun l r h => by
      obtain ⟨h, _⟩ := h
      rw [List.length_eq_zero_iff] at h
      subst h
      show some (catB [] ++ r, []) = _
      rw [show catB [] ++ r = r from ba_ext (by rw [ByteArray.data_append, Array.toList_append]; simp [catB, flat])],
    fun b r l h => by
      have h : some (b, ([] : List α)) = some (r, l) := h
      simp only [Option.some.injEq, Prod.mk.injEq] at h
      obtain ⟨rfl, rfl⟩ := h
      exact ⟨by apply ba_ext; rw [ByteArray.data_append, Array.toList_append]; simp [catB, flat], rfl, by simp⟩⟩
  | n + 1 => ⟨fun l r h => by
      obtain ⟨hn, ho⟩ := h
      match l, hn with
      | x :: l, hn =>
        have ih := (Codec.rep ha n).put l r ⟨by simpa using hn, fun y hy => ho y (List.mem_cons_of_mem _ hy)⟩
        have h1 := ha.put x (catB (l.map ea) ++ r) (ho x (List.mem_cons_self ..))
        rw [List.map_cons, catB_cons, ByteArray.append_assoc]
        unfold repSp
        rw [h1]
        dsimp only
        rw [ih],
    fun b r l h => by
      unfold repSp at h
      rcases h1 : A b with _ | ⟨r1, x⟩
      · rw [h1] at h; cases h
      rw [h1] at h
      dsimp only at h
      rcases h2 : repSp A n r1 with _ | ⟨r2, l2⟩
      · rw [h2] at h; cases h
      rw [h2] at h
      simp only [Option.some.injEq, Prod.mk.injEq] at h
      obtain ⟨rfl, rfl⟩ := h
      obtain ⟨e1, o1⟩ := ha.sound _ _ _ h1
      obtain ⟨e2, o2, o3⟩ := (Codec.rep ha n).sound _ _ _ h2
      refine ⟨by rw [List.map_cons, catB_cons, ByteArray.append_assoc, e1, e2], by simp [o2], fun y hy => ?_⟩
      rcases List.mem_cons.1 hy with rfl | hy
      · exact o1
      · exact o3 y hy⟩
/-- how many there are, and each of them -/
def countSp (most : Int) (A : ByteArray → Option (ByteArray × α)) (b : ByteArray) : Option (ByteArray × List α) :=
  match numSp 0 most b with
  | none => none
  | some (r, N) => repSp A N r
theorem count_some {most : Int} {b r : ByteArray} {N : Nat} (h : numSp 0 most b = some (r, N)) : countSp most A b = repSp A N r := by unfold countSp; rw [h]
theorem count_none {most : Int} {b : ByteArray} (h : numSp 0 most b = none) : countSp most A b = none := by unfold countSp; rw [h]
theorem Codec.count (ha : Codec A ea oa) (most : Nat) (hm : most ≤ 2147483647) : Codec (countSp (most : Int) A) (fun l => listB (l.map ea)) (fun l => l.length ≤ most ∧ ∀ x ∈ l, oa x) where
  put := fun l r ⟨h1, h2⟩ => by
    rw [listB_cat, ByteArray.append_assoc, List.length_map]
    have e : numSp 0 (most : Int) (be4 l.length ++ (catB (l.map ea) ++ r)) = some (catB (l.map ea) ++ r, l.length) := by rw [numSp_put _ _ _ (by omega), if_neg (by omega)]
    rw [count_some e]
    exact (ha.rep l.length).put l r ⟨rfl, h2⟩
  sound := fun b r l h => by
    unfold countSp at h
    rcases h1 : numSp 0 (most : Int) b with _ | ⟨r1, N⟩
    · rw [h1] at h; cases h
    rw [h1] at h
    dsimp only at h
    obtain ⟨e1, _, e3⟩ := numSp_sound h1
    obtain ⟨e2, o2, o3⟩ := (ha.rep N).sound _ _ _ h
    refine ⟨?_, by omega, o3⟩
    rw [listB_cat, List.length_map, o2, ByteArray.append_assoc, e1, e2]
end
theorem codec_num0 (lo hi : Int) (h1 : hi ≤ 2147483647) : Codec (numSp lo hi) be4 (fun n => lo ≤ (n : Int) ∧ (n : Int) ≤ hi) where
  put := fun n r h => by rw [numSp_put _ _ _ (by omega), if_neg (by omega)]
  sound := fun b r n h => by
    obtain ⟨e, h1, h2⟩ := numSp_sound h
    exact ⟨e, h1, h2⟩
/-- a number -/
def numI (lo hi : Int) : ByteArray → Option (ByteArray × Int) := mapSp (fun n : Nat => (n : Int)) (numSp lo hi)
theorem codec_num (lo hi : Int) (h0 : 0 ≤ lo) (h1 : hi ≤ 2147483647) : Codec (numI lo hi) num (fun n => lo ≤ n ∧ n ≤ hi) :=
  (codec_num0 lo hi h1).map _ num _ (fun x h => num_nat x (by omega)) (fun x h => h) (fun y h => ⟨y.toNat, by omega, by omega⟩)
theorem codec_bytes (n : Nat) : Codec (bytesSp n) (fun s => s) (fun s => s.size = n) where
  put := fun s r h => by subst h; exact bytesSp_put s r
  sound := fun b r s h => bytesSp_sound h
/-- a request -/
def reqI : ByteArray → Option (ByteArray × (Int × Int × ByteArray)) := mapSp (fun d : Nat × Nat × ByteArray => ((d.1 : Int), (d.2.1 : Int), d.2.2)) reqSp
theorem codec_req : Codec reqI (fun r => reqB r.1 r.2.1 r.2.2) (fun r => rightR r.1 r.2.1 r.2.2) :=
  Codec.map (A := reqSp) (ea := fun d => reqB (d.1 : Int) (d.2.1 : Int) d.2.2) (oa := fun d => rightR d.1 d.2.1 d.2.2)
    ⟨fun ⟨c, q, s⟩ r h => reqSp_put c q s r h, fun b r ⟨c, q, s⟩ h => reqSp_sound h⟩ _ _ _ (fun _ _ => rfl) (fun _ h => h) (fun ⟨c, q, s⟩ h => by
      obtain ⟨h0, h1, h2, h3, h4⟩ := (show rightR c q s from h)
      refine ⟨(c.toNat, q.toNat, s), ?_, ?_⟩
      · show rightR ((c.toNat : Nat) : Int) ((q.toNat : Nat) : Int) s
        unfold rightR; omega
      · show (((c.toNat : Nat) : Int), ((q.toNat : Nat) : Int), s) = _
        rw [show ((c.toNat : Nat) : Int) = c by omega, show ((q.toNat : Nat) : Int) = q by omega])
/-- a signature -/
def sigI : ByteArray → Option (ByteArray × (Int × List ByteArray)) := seqSp (numI 0 6) (countSp 7 (bytesSp 16))
theorem codec_sig : Codec sigI (fun p => sigB p.1 p.2) (fun p => rightSig p.1 p.2 = true) := by
  have h := (codec_num 0 6 (by omega) (by omega)).seq ((codec_bytes 16).count 7 (by omega))
  refine ⟨fun p r hp => ?_, fun b r p hp => ?_⟩
  · have h1 : (0 ≤ p.1 ∧ p.1 ≤ 6) ∧ p.2.length ≤ 7 ∧ ∀ x ∈ p.2, x.size = 16 := by
      unfold rightSig at hp
      simp only [Bool.and_eq_true, decide_eq_true_eq, List.all_eq_true] at hp
      obtain ⟨h1, ⟨h2, h3⟩, h4⟩ := hp
      rw [List.take_of_length_le (by omega)] at h1
      exact ⟨⟨h2, by omega⟩, h4, h1⟩
    have := h.put p r h1
    rw [show num p.1 ++ listB (p.2.map fun s => s) = sigB p.1 p.2 by rw [List.map_id']; rfl] at this
    exact this
  · obtain ⟨e, ⟨h2, h3⟩, h4, h1⟩ := h.sound b r p hp
    rw [show num p.1 ++ listB (p.2.map fun s => s) = sigB p.1 p.2 by rw [List.map_id']; rfl] at e
    refine ⟨e, ?_⟩
    unfold rightSig
    simp only [Bool.and_eq_true, decide_eq_true_eq, List.all_eq_true]
    refine ⟨?_, ⟨h2, by omega⟩, h4⟩
    rw [List.take_of_length_le (by omega)]
    exact h1
/-- each is of a greater node than the one ahead -/
def risesTo (l : List (Int × List ByteArray)) : Nat → Bool
  | 0 => true
  | i + 1 => risesTo l i && (decide (i = 0) || decide ((l.getD (i - 1) (0, [])).1 < (l.getD i (0, [])).1))
def rises (l : List (Int × List ByteArray)) : Bool := risesTo l l.length
theorem okTo_iff (l : List (Int × List ByteArray)) (n : Nat) : okTo l n = true ↔ (∀ i, i < n → rightSig (l.getD i (0, [])).1 (l.getD i (0, [])).2 = true) ∧ risesTo l n = true := by
  induction n with
  | zero => exact ⟨fun _ => ⟨fun i hi => by omega, rfl⟩, fun _ => rfl⟩
  | succ n ih =>
    show (okTo l n && (_ && _)) = true ↔ _ ∧ (risesTo l n && _) = true
    rw [Bool.and_eq_true, Bool.and_eq_true, Bool.and_eq_true, ih]
    constructor
    · rintro ⟨⟨h1, h2⟩, h3, h4⟩
      refine ⟨fun i hi => ?_, h2, h4⟩
      by_cases e : i = n
      · subst e; exact h3
      · exact h1 i (by omega)
    · rintro ⟨h1, h2, h4⟩
      exact ⟨⟨fun i hi => h1 i (by omega), h2⟩, h1 n (by omega), h4⟩
theorem all_getD {l : List (Int × List ByteArray)} {p : Int × List ByteArray → Prop} : (∀ i, i < l.length → p (l.getD i (0, []))) ↔ ∀ x ∈ l, p x := by
  constructor
  · intro h x hx
    obtain ⟨i, hi, rfl⟩ := List.mem_iff_getElem.1 hx
    have := h i hi
    rwa [List.getD_eq_getElem?_getD, List.getElem?_eq_getElem hi] at this
  · intro h i hi
    rw [List.getD_eq_getElem?_getD, List.getElem?_eq_getElem hi]
    exact h _ (List.getElem_mem hi)
abbrev CertD := (Int × ByteArray) × List (Int × List ByteArray)
abbrev BlockD := ((Int × Int) × CertD) × List (Int × Int × ByteArray)
def certD (c : CertD) : ByteArray := certB c.1.1 c.1.2 c.2
def certOk (c : CertD) : Prop := rightCert c.1.1 c.1.2 c.2 = true
/-- a certificate -/
def certI : ByteArray → Option (ByteArray × CertD) := filtSp (seqSp (seqSp (numI 0 1000000) (bytesSp 32)) (countSp 7 sigI)) (fun c => rises c.2)
theorem codec_cert : Codec certI certD certOk := by
  have h := (((codec_num 0 1000000 (by omega) (by omega)).seq (codec_bytes 32)).seq (codec_sig.count 7 (by omega))).filt (fun c => rises c.2)
  refine ⟨fun c r hc => ?_, fun b r c hc => ?_⟩
  · unfold certOk rightCert at hc
    simp only [Bool.and_eq_true, decide_eq_true_eq] at hc
    obtain ⟨⟨⟨⟨h1, h2⟩, h3⟩, h4⟩, h5⟩ := hc
    rw [okTo_iff] at h5
    exact h.put c r ⟨⟨⟨⟨h1, h2⟩, h3⟩, h4, all_getD.1 h5.1⟩, h5.2⟩
  · obtain ⟨e, ⟨⟨⟨h1, h2⟩, h3⟩, h4, h5⟩, h6⟩ := h.sound b r c hc
    refine ⟨e, ?_⟩
    unfold certOk rightCert
    simp only [Bool.and_eq_true, decide_eq_true_eq]
    exact ⟨⟨⟨⟨h1, h2⟩, h3⟩, h4⟩, (okTo_iff _ _).2 ⟨all_getD.2 h5, h6⟩⟩
def blockD (x : BlockD) : ByteArray := blockB x.1.1.1 x.1.1.2 x.1.2.1.1 x.1.2.1.2 x.1.2.2 x.2
def blockOk (x : BlockD) : Prop := rightBlock x.1.1.1 x.1.1.2 x.1.2.1.1 x.1.2.1.2 x.1.2.2 x.2 = true
/-- a block -/
def blockI : ByteArray → Option (ByteArray × BlockD) := seqSp (filtSp (seqSp (seqSp (numI 1 1000000) (numI 0 6)) certI) (fun x => decide (x.2.1.1 < x.1.1))) (countSp 3 reqI)
theorem codec_block : Codec blockI blockD blockOk := by
  have h := ((((codec_num 1 1000000 (by omega) (by omega)).seq (codec_num 0 6 (by omega) (by omega))).seq codec_cert).filt (fun x => decide (x.2.1.1 < x.1.1))).seq (codec_req.count 3 (by omega))
  refine ⟨fun x r hc => ?_, fun b r x hc => ?_⟩
  · unfold blockOk rightBlock at hc
    simp only [Bool.and_eq_true, decide_eq_true_eq, List.all_eq_true] at hc
    obtain ⟨⟨h1, h2, h3, h4, h5, h6, h7⟩, h8⟩ := hc
    exact h.put x r ⟨⟨⟨⟨⟨h1, h2⟩, h3, h4⟩, h5⟩, by simpa using h6⟩, h7, h8⟩
  · obtain ⟨e, ⟨⟨⟨⟨h1, h2⟩, h3, h4⟩, h5⟩, h6⟩, h7, h8⟩ := h.sound b r x hc
    refine ⟨e, ?_⟩
    unfold blockOk rightBlock
    simp only [Bool.and_eq_true, decide_eq_true_eq, List.all_eq_true]
    exact ⟨⟨h1, h2, h3, h4, h5, by simpa using h6, h7⟩, h8⟩
end WW
end
section
open Go Go.RowKit
namespace FF
open WW BB
/-- a block with its digest -/
abbrev It := ByteArray × BlockD
def i0 : It := (⟨#[]⟩, (((0, 0), ((0, ⟨#[]⟩), [])), []))
def viewI (b : BlockD) : Int := b.1.1.1
def propI (b : BlockD) : Int := b.1.1.2
def jvI (b : BlockD) : Int := b.1.2.1.1
def parI (b : BlockD) : ByteArray := b.1.2.1.2
def sigsI (b : BlockD) : List (Int × List ByteArray) := b.1.2.2
structure Fo where
  root : ByteArray
  height : Int
  nodes : List It
  orph : List It
/-- where a digest is; -1 -/
def atI (l : List It) (h : ByteArray) : Int :=
  match l.findIdx? (fun x => decide (x.1 = h)) with
  | some i => (i : Int)
  | none => -1
theorem at_hit {l : List It} {h : ByteArray} (i : Nat) (hi : i < l.length) (hn : ∀ j, j < i → (l.getD j i0).1 ≠ h) (he : (l.getD i i0).1 = h) : atI l h = (i : Int) := by
  unfold atI
  rw [List.findIdx?_eq_some_iff_getElem.2 ⟨hi, by simpa [List.getD, List.getElem?_eq_getElem hi] using he, fun j hj => by
    have := hn j hj
    simpa [List.getD, List.getElem?_eq_getElem (show j < l.length by omega)] using this⟩]
theorem at_none {l : List It} {h : ByteArray} (hn : ∀ j, j < l.length → (l.getD j i0).1 ≠ h) : atI l h = -1 := by
  unfold atI
  rw [List.findIdx?_eq_none_iff.2 fun x hx => ?_]
  obtain ⟨j, hj, rfl⟩ := List.getElem_of_mem hx
  have := hn j hj
  simpa [List.getD, List.getElem?_eq_getElem hj] using this
theorem at_bound (l : List It) (h : ByteArray) : -1 ≤ atI l h ∧ atI l h < l.length := by
  unfold atI
  split
  · rename_i i hi
    have := (List.findIdx?_eq_some_iff_getElem.1 hi).1
    omega
  · omega
/-- is it there? -/
def hasF (f : Fo) (h : ByteArray) : Bool := decide (h = f.root) || decide (0 ≤ atI f.nodes h)
/-- a block that has its parent there -/
def badF (f : Fo) (b : BlockD) : Prop := 0 ≤ atI f.nodes (parI b) ∧ (viewI b ≤ viewI (f.nodes.getD (atI f.nodes (parI b)).toNat i0).2 ∨ viewI b ≤ jvI b ∨ jvI b ≠ viewI (f.nodes.getD (atI f.nodes (parI b)).toNat i0).2)
instance (f : Fo) (b : BlockD) : Decidable (badF f b) := by unfold badF; infer_instance
def standF (f : Fo) (x : It) : Fo × Int :=
  if badF f x.2 then (f, 5) else if 400 ≤ f.nodes.length then (f, 7) else ({ f with nodes := f.nodes ++ [x] }, 0)
/-- the first orphan whose parent is there -/
def readyF (f : Fo) : Option Nat := f.orph.findIdx? fun x => hasF f (parI x.2)
/-- orphans whose parents are there, at most so many -/
def adoptF : Nat → Fo → Fo
  | 0, f => f
  | m + 1, f =>
    match readyF f with
    | none => f
    | some i => adoptF m (standF { f with orph := f.orph.eraseIdx i } (f.orph.getD i i0)).1
def putF (f : Fo) (x : It) : Fo × Int :=
  if hasF f x.1 = true ∨ 0 ≤ atI f.orph x.1 then (f, 6)
  else if hasF f (parI x.2) = false then (if 8 ≤ f.orph.length then (f, 7) else ({ f with orph := f.orph ++ [x] }, 0))
  else if (standF f x).2 ≠ 0 then (f, (standF f x).2) else (adoptF 10 (standF f x).1, 0)
/-- ancestors, itself first, down to the root -/
def upF (f : Fo) : Nat → ByteArray → List ByteArray → List ByteArray
  | 0, _, _ => []
  | k + 1, h, out =>
    if hasF f h = false then [] else if h = f.root then out ++ [h] else upF f k (parI (f.nodes.getD (atI f.nodes h).toNat i0).2) (out ++ [h])
def ancF (f : Fo) (h : ByteArray) : List ByteArray := upF f (f.nodes.length + 1) h []
/-- the way from behind a block to another one -/
def pathF (f : Fo) (a b : ByteArray) : Option (List ByteArray) :=
  match (ancF f b).findIdx? (fun x => decide (x = a)) with
  | some i => some ((ancF f b).take i).reverse
  | none => none
def heightF (f : Fo) (h : ByteArray) : Int := if (ancF f h).length = 0 then -1 else f.height + (ancF f h).length - 1
def pruneF (f : Fo) (h : ByteArray) : Fo × Int :=
  if hasF f h = false then (f, 10) else (⟨h, heightF f h, f.nodes.filter (fun x => (pathF f h x.1).isSome && decide (x.1 ≠ h)), []⟩, 0)
/-- what orphans want -/
def missStep (o : List It) (out : List ByteArray) (x : It) : List ByteArray := if 0 ≤ atI o (parI x.2) ∨ out.any (fun y => decide (y = parI x.2)) = true then out else out ++ [parI x.2]
def missF (f : Fo) : List ByteArray := f.orph.foldl (missStep f.orph) []
end FF
end
