/-
  Cuts whose things hold memory of their own: what a cell holds is told by a relation; cuts in order, lists of what is true of them. No program is named here.
-/
import Derived.Test.YtegkhhegapnkpaaDoorKWReqLaw
import Derived.Test.YtegkhhegapnkpaaDoorKWFewB
import Derived.Test.YtegkhhegapnkpaaDoorKWords
import Derived.OrdersHeld
section
open Go Go.RowKit
namespace WW
open BB
/-- what cuts off a thing reads just what is written of right ones -/
structure Codec {α : Type} (Sp : ByteArray → Option (ByteArray × α)) (enc : α → ByteArray) (ok : α → Prop) : Prop where
  put : ∀ a r, ok a → Sp (enc a ++ r) = some (r, a)
  sound : ∀ b r a, Sp b = some (r, a) → b = enc a ++ r ∧ ok a
section
variable {α β : Type} {A : ByteArray → Option (ByteArray × α)} {B : ByteArray → Option (ByteArray × β)} {ea : α → ByteArray} {eb : β → ByteArray} {oa : α → Prop} {ob : β → Prop}
theorem Codec.inj (h : Codec A ea oa) {x y : α} (hx : oa x) (hy : oa y) (he : ea x = ea y) : x = y := by
  have h1 := h.put x ⟨#[]⟩ hx
  have h2 := h.put y ⟨#[]⟩ hy
  rw [he, h2] at h1
  simp only [Option.some.injEq, Prod.mk.injEq] at h1
  exact h1.2.symm
theorem Codec.size (h : Codec A ea oa) {b r : ByteArray} {a : α} (hb : A b = some (r, a)) : r.size ≤ b.size := by
  obtain ⟨e, _⟩ := h.sound b r a hb
  rw [e, ByteArray.size_append]; omega
/-- what is read is told by another thing -/
def mapSp (g : α → β) (A : ByteArray → Option (ByteArray × α)) (b : ByteArray) : Option (ByteArray × β) :=
  match A b with
  | none => none
  | some (r, x) => some (r, g x)
theorem map_some {g : α → β} {b r : ByteArray} {x : α} (h : A b = some (r, x)) : mapSp g A b = some (r, g x) := by unfold mapSp; rw [h]
theorem map_none {g : α → β} {b : ByteArray} (h : A b = none) : mapSp g A b = none := by unfold mapSp; rw [h]
theorem map_inv {g : α → β} {b r : ByteArray} {y : β} (h : mapSp g A b = some (r, y)) : ∃ x, A b = some (r, x) ∧ y = g x := by
  unfold mapSp at h
  rcases h1 : A b with _ | ⟨r1, x1⟩
  · rw [h1] at h; cases h
  rw [h1] at h
  simp only [Option.some.injEq, Prod.mk.injEq] at h
  obtain ⟨rfl, rfl⟩ := h
  exact ⟨x1, rfl, rfl⟩
theorem Codec.map (ha : Codec A ea oa) (g : α → β) (eb : β → ByteArray) (ob : β → Prop) (he : ∀ x, oa x → eb (g x) = ea x) (ho : ∀ x, oa x → ob (g x)) (hs : ∀ y, ob y → ∃ x, oa x ∧ g x = y) : Codec (mapSp g A) eb ob where
  put := fun y r h => by
    obtain ⟨x, hx, rfl⟩ := hs y h
    rw [he x hx]; exact map_some (ha.put x r hx)
  sound := fun b r y h => by
    obtain ⟨x, h1, rfl⟩ := map_inv h
    obtain ⟨e, o⟩ := ha.sound _ _ _ h1
    exact ⟨by rw [he x o]; exact e, ho x o⟩
def catB (xs : List ByteArray) : ByteArray := ⟨(flat xs).toArray⟩
theorem listB_cat (xs : List ByteArray) : listB xs = be4 xs.length ++ catB xs := by
  apply ba_ext; rw [ByteArray.data_append, Array.toList_append]; simp [catB, listB, listL]
end
abbrev CertD := (Int × ByteArray) × List (Int × List ByteArray)
abbrev BlockD := ((Int × Int) × CertD) × List (Int × Int × ByteArray)
end WW
end
section
open Go Go.RowKit
namespace FF
open WW BB
/-- a block with its digest -/
abbrev It := ByteArray × BlockD
def i0 : It := (⟨#[]⟩, (((0, 0), ((0, ⟨#[]⟩), [])), []))
def viewI (b : BlockD) : Int := b.1.1.1
def propI (b : BlockD) : Int := b.1.1.2
def jvI (b : BlockD) : Int := b.1.2.1.1
def parI (b : BlockD) : ByteArray := b.1.2.1.2
def sigsI (b : BlockD) : List (Int × List ByteArray) := b.1.2.2
structure Fo where
  root : ByteArray
  height : Int
  nodes : List It
  orph : List It
/-- where a digest is; -1 -/
def atI (l : List It) (h : ByteArray) : Int :=
  match l.findIdx? (fun x => decide (x.1 = h)) with
  | some i => (i : Int)
  | none => -1
theorem at_hit {l : List It} {h : ByteArray} (i : Nat) (hi : i < l.length) (hn : ∀ j, j < i → (l.getD j i0).1 ≠ h) (he : (l.getD i i0).1 = h) : atI l h = (i : Int) := by
  unfold atI
  rw [List.findIdx?_eq_some_iff_getElem.2 ⟨hi, by simpa [List.getD, List.getElem?_eq_getElem hi] using he, fun j hj => by
    have := hn j hj
    simpa [List.getD, List.getElem?_eq_getElem (show j < l.length by omega)] using this⟩]
theorem at_none {l : List It} {h : ByteArray} (hn : ∀ j, j < l.length → (l.getD j i0).1 ≠ h) : atI l h = -1 := by
  unfold atI
  rw [List.findIdx?_eq_none_iff.2 fun x hx => ?_]
  obtain ⟨j, hj, rfl⟩ := List.getElem_of_mem hx
  have := hn j hj
  simpa [List.getD, List.getElem?_eq_getElem hj] using this
theorem at_bound (l : List It) (h : ByteArray) : -1 ≤ atI l h ∧ atI l h < l.length := by
  unfold atI
  split
  · rename_i i hi
    have := (List.findIdx?_eq_some_iff_getElem.1 hi).1
    omega
  · omega
/-- is it there? -/
def hasF (f : Fo) (h : ByteArray) : Bool := decide (h = f.root) || decide (0 ≤ atI f.nodes h)
/-- a block that has its parent there -/
def badF (f : Fo) (b : BlockD) : Prop := 0 ≤ atI f.nodes (parI b) ∧ (viewI b ≤ viewI (f.nodes.getD (atI f.nodes (parI b)).toNat i0).2 ∨ viewI b ≤ jvI b ∨ jvI b ≠ viewI (f.nodes.getD (atI f.nodes (parI b)).toNat i0).2)
instance (f : Fo) (b : BlockD) : Decidable (badF f b) := by unfold badF; infer_instance
def standF (f : Fo) (x : It) : Fo × Int :=
  if badF f x.2 then (f, 5) else if 400 ≤ f.nodes.length then (f, 7) else ({ f with nodes := f.nodes ++ [x] }, 0)
/-- the first orphan whose parent is there -/
def readyF (f : Fo) : Option Nat := f.orph.findIdx? fun x => hasF f (parI x.2)
/-- orphans whose parents are there, at most so many -/
def adoptF : Nat → Fo → Fo
  | 0, f => f
  | m + 1, f =>
    match readyF f with
    | none => f
    | some i => adoptF m (standF { f with orph := f.orph.eraseIdx i } (f.orph.getD i i0)).1
def putF (f : Fo) (x : It) : Fo × Int :=
  if hasF f x.1 = true ∨ 0 ≤ atI f.orph x.1 then (f, 6)
  else if hasF f (parI x.2) = false then (if 8 ≤ f.orph.length then (f, 7) else ({ f with orph := f.orph ++ [x] }, 0))
  else if (standF f x).2 ≠ 0 then (f, (standF f x).2) else (adoptF 10 (standF f x).1, 0)
/-- ancestors, itself first, down to the root -/
def upF (f : Fo) : Nat → ByteArray → List ByteArray → List ByteArray
  | 0, _, _ => []
  | k + 1, h, out =>
    if hasF f h = false then [] else if h = f.root then out ++ [h] else upF f k (parI (f.nodes.getD (atI f.nodes h).toNat i0).2) (out ++ [h])
def ancF (f : Fo) (h : ByteArray) : List ByteArray := upF f (f.nodes.length + 1) h []
/-- the way from behind a block to another one -/
def pathF (f : Fo) (a b : ByteArray) : Option (List ByteArray) :=
  match (ancF f b).findIdx? (fun x => decide (x = a)) with
  | some i => some ((ancF f b).take i).reverse
  | none => none
def heightF (f : Fo) (h : ByteArray) : Int := if (ancF f h).length = 0 then -1 else f.height + (ancF f h).length - 1
def pruneF (f : Fo) (h : ByteArray) : Fo × Int :=
  if hasF f h = false then (f, 10) else (⟨h, heightF f h, f.nodes.filter (fun x => (pathF f h x.1).isSome && decide (x.1 ≠ h)), []⟩, 0)
/-- what orphans want -/
def missStep (o : List It) (out : List ByteArray) (x : It) : List ByteArray := if 0 ≤ atI o (parI x.2) ∨ out.any (fun y => decide (y = parI x.2)) = true then out else out ++ [parI x.2]
def missF (f : Fo) : List ByteArray := f.orph.foldl (missStep f.orph) []
end FF
end
section
open Go Go.RowKit
namespace FF
open WW BB
/-- each node's parent is the root, or was there ahead of it -/
inductive Grown (r : ByteArray) : List It → Prop
  | nil : Grown r []
  | snoc (l : List It) (x : It) : Grown r l → (parI x.2 = r ∨ ∃ y ∈ l, y.1 = parI x.2) → Grown r (l ++ [x])
structure WF (F : Fo) : Prop where
  root32 : F.root.size = 32
  d32 : ∀ x ∈ F.nodes ++ F.orph, x.1.size = 32
  ne : ∀ x ∈ F.nodes ++ F.orph, x.1 ≠ F.root
  apart : ((F.nodes ++ F.orph).map Prod.fst).Nodup
  up : Grown F.root F.nodes
  n400 : F.nodes.length ≤ 400
  o8 : F.orph.length ≤ 8
inductive Anc (F : Fo) : ByteArray → List ByteArray → Prop
  | root : Anc F F.root [F.root]
  | step (x : It) (l : List ByteArray) : x ∈ F.nodes → Anc F (parI x.2) l → Anc F x.1 (x.1 :: l)
theorem at_mem (l : List It) (h : ByteArray) : 0 ≤ atI l h ↔ ∃ x ∈ l, x.1 = h := by
  unfold atI
  split
  · rename_i i hi
    have := List.findIdx?_eq_some_iff_getElem.1 hi
    obtain ⟨hl, hx, _⟩ := this
    exact ⟨fun _ => ⟨l[i], List.getElem_mem hl, by simpa using hx⟩, fun _ => by omega⟩
  · rename_i hi
    refine ⟨fun h => by omega, fun ⟨x, hx, e⟩ => ?_⟩
    have := List.findIdx?_eq_none_iff.1 hi x hx
    simp [e] at this
theorem has_iff (F : Fo) (h : ByteArray) : hasF F h = true ↔ h = F.root ∨ ∃ x ∈ F.nodes, x.1 = h := by
  unfold hasF; rw [Bool.or_eq_true, decide_eq_true_iff, decide_eq_true_iff, at_mem]
theorem nodup_inj {l : List It} (h : (l.map Prod.fst).Nodup) {x y : It} (hx : x ∈ l) (hy : y ∈ l) (e : x.1 = y.1) : x = y := by
  induction l with
  | nil => cases hx
  | cons z r ih =>
    rw [List.map_cons, List.nodup_cons] at h
    rcases List.mem_cons.1 hx with e1 | hx
    · rcases List.mem_cons.1 hy with e2 | hy
      · rw [e1, e2]
      · exact absurd (List.mem_map.2 ⟨y, hy, by rw [← e, e1]⟩) h.1
    · rcases List.mem_cons.1 hy with e2 | hy
      · exact absurd (List.mem_map.2 ⟨x, hx, by rw [e, e2]⟩) h.1
      · exact ih h.2 hx hy
theorem WF.nodup {F : Fo} (h : WF F) : (F.nodes.map Prod.fst).Nodup := by
  have := h.apart; rw [List.map_append, List.nodup_append] at this; exact this.1
theorem at_node {l : List It} (h : (l.map Prod.fst).Nodup) {x : It} (hx : x ∈ l) : l.getD (atI l x.1).toNat i0 = x := by
  have h0 := (at_mem l x.1).2 ⟨x, hx, rfl⟩
  unfold atI at h0 ⊢
  split at h0
  · rename_i i hi
    obtain ⟨hl, hx2, _⟩ := List.findIdx?_eq_some_iff_getElem.1 hi
    show l.getD (Int.toNat (i : Int)) i0 = x
    rw [Int.toNat_natCast, List.getD_eq_getElem?_getD, List.getElem?_eq_getElem hl]
    exact nodup_inj h (List.getElem_mem hl) hx (by simpa using hx2)
  · omega
theorem Anc.has {F : Fo} {h : ByteArray} {l : List ByteArray} (a : Anc F h l) : hasF F h = true := by
  rw [has_iff]
  cases a with
  | root => exact Or.inl rfl
  | step x l hx _ => exact Or.inr ⟨x, hx, rfl⟩
theorem Anc.ne {F : Fo} {h : ByteArray} {l : List ByteArray} (a : Anc F h l) : 0 < l.length := by cases a <;> simp
theorem anc_up {F : Fo} (hF : WF F) {h : ByteArray} {l : List ByteArray} (a : Anc F h l) : ∀ (k : Nat) (out : List ByteArray), l.length ≤ k → upF F k h out = out ++ l := by
  induction a with
  | root =>
    intro k out hk
    obtain ⟨k, rfl⟩ : ∃ j, k = j + 1 := ⟨k - 1, by simp at hk; omega⟩
    unfold upF
    rw [if_neg (by rw [Anc.root.has]; simp), if_pos rfl]
  | step x l hx a ih =>
    intro k out hk
    obtain ⟨k, rfl⟩ : ∃ j, k = j + 1 := ⟨k - 1, by simp at hk; omega⟩
    unfold upF
    rw [if_neg (by rw [(Anc.step x l hx a).has]; simp), if_neg (hF.ne x (List.mem_append_left _ hx)), at_node hF.nodup hx, ih k _ (by simpa using hk)]
    simp
theorem anc_uniq {F : Fo} (hF : WF F) {h : ByteArray} {l l' : List ByteArray} (a : Anc F h l) (b : Anc F h l') : l = l' := by
  have h1 := anc_up hF a (l.length + l'.length) [] (by omega)
  have h2 := anc_up hF b (l.length + l'.length) [] (by omega)
  rw [h1] at h2
  simpa using h2
theorem grown_anc {F : Fo} {m : List It} (g : Grown F.root m) (hm : ∀ x ∈ m, x ∈ F.nodes) : ∀ x ∈ m, ∃ l, Anc F x.1 l ∧ l.length ≤ m.length + 1 := by
  induction g with
  | nil => intro x hx; cases hx
  | snoc m y g hp ih =>
    have ih := ih fun x hx => hm x (List.mem_append_left _ hx)
    intro x hx
    rcases List.mem_append.1 hx with hx | hx
    · obtain ⟨l, h1, h2⟩ := ih x hx
      exact ⟨l, h1, by simp; omega⟩
    · obtain rfl : x = y := by simpa using hx
      have hin := hm x (by simp)
      rcases hp with hp | ⟨z, hz, hp⟩
      · exact ⟨_, Anc.step x _ hin (hp ▸ Anc.root), by simp⟩
      · obtain ⟨l, h1, h2⟩ := ih z hz
        exact ⟨_, Anc.step x l hin (hp ▸ h1), by simp; omega⟩
theorem has_anc {F : Fo} (hF : WF F) {h : ByteArray} (hh : hasF F h = true) : ∃ l, Anc F h l ∧ l.length ≤ F.nodes.length + 1 := by
  rcases (has_iff F h).1 hh with rfl | ⟨x, hx, rfl⟩
  · exact ⟨_, Anc.root, by simp⟩
  · exact grown_anc hF.up (fun _ h => h) x hx
theorem anc_is {F : Fo} (hF : WF F) {h : ByteArray} {l : List ByteArray} (a : Anc F h l) : ancF F h = l := by
  obtain ⟨l', b, hl⟩ := has_anc hF a.has
  rw [anc_uniq hF a b]
  unfold ancF
  simpa using anc_up hF b (F.nodes.length + 1) [] hl
theorem anc_not {F : Fo} {h : ByteArray} (hh : hasF F h = false) : ancF F h = [] := by
  unfold ancF upF; rw [if_pos hh]
theorem anc_of {F : Fo} (hF : WF F) {h : ByteArray} (hh : hasF F h = true) : Anc F h (ancF F h) := by
  obtain ⟨l, a, _⟩ := has_anc hF hh
  rw [anc_is hF a]; exact a
theorem height_is {F : Fo} (hF : WF F) {h : ByteArray} {l : List ByteArray} (a : Anc F h l) : heightF F h = F.height + l.length - 1 := by
  unfold heightF; rw [anc_is hF a, if_neg (by have := a.ne; omega)]
theorem height_not {F : Fo} {h : ByteArray} (hh : hasF F h = false) : heightF F h = -1 := by
  unfold heightF; rw [anc_not hh]; rfl
theorem height_root {F : Fo} (hF : WF F) : heightF F F.root = F.height := by
  rw [height_is hF Anc.root]; simp
/-- what stands behind x has come -/
def moreF (F : Fo) (x : It) : Fo := { F with nodes := F.nodes ++ [x] }
theorem Anc.more {F : Fo} {x : It} {h : ByteArray} {l : List ByteArray} (a : Anc F h l) : Anc (moreF F x) h l := by
  induction a with
  | root => exact Anc.root (F := moreF F x)
  | step y l hy _ ih => exact Anc.step (F := moreF F x) y l (List.mem_append_left _ hy) ih
/-- a block that may come: with a digest that nothing has -/
def Fresh (F : Fo) (x : It) : Prop := x.1.size = 32 ∧ x.1 ≠ F.root ∧ ∀ y ∈ F.nodes ++ F.orph, y.1 ≠ x.1
theorem more_wf {F : Fo} (hF : WF F) {x : It} (hx : Fresh F x) (hp : hasF F (parI x.2) = true) (hn : F.nodes.length < 400) : WF (moreF F x) := by
  obtain ⟨h1, h2, h3⟩ := hx
  have hm : ∀ y ∈ (moreF F x).nodes ++ (moreF F x).orph, y ∈ F.nodes ++ F.orph ∨ y = x := by
    intro y hy
    simp only [moreF, List.mem_append, List.mem_singleton] at hy ⊢
    rcases hy with (hy | hy) | hy
    · exact Or.inl (Or.inl hy)
    · exact Or.inr hy
    · exact Or.inl (Or.inr hy)
  refine ⟨hF.root32, fun y hy => ?_, fun y hy => ?_, ?_, ?_, by simp [moreF]; omega, hF.o8⟩
  · rcases hm y hy with h | rfl
    · exact hF.d32 y h
    · exact h1
  · rcases hm y hy with h | rfl
    · exact hF.ne y h
    · exact h2
  · have := hF.apart
    simp only [moreF, List.map_append, List.map_cons, List.append_assoc, List.singleton_append] at this ⊢
    rw [List.nodup_append] at this ⊢
    obtain ⟨k1, k2, k3⟩ := this
    refine ⟨k1, List.nodup_cons.2 ⟨fun hm => ?_, k2⟩, fun a ha b hb => ?_⟩
    · obtain ⟨y, hy, e⟩ := List.mem_map.1 hm
      exact h3 y (List.mem_append_right _ hy) e
    · rcases List.mem_cons.1 hb with rfl | hb
      · obtain ⟨y, hy, rfl⟩ := List.mem_map.1 ha
        exact h3 y (List.mem_append_left _ hy)
      · exact k3 a ha b hb
  · refine Grown.snoc F.nodes x hF.up ?_
    rcases (has_iff F _).1 hp with h | ⟨y, hy, e⟩
    · exact Or.inl h
    · exact Or.inr ⟨y, hy, e⟩
theorem more_old {F : Fo} (hF : WF F) {x : It} (hw : WF (moreF F x)) {h : ByteArray} (hh : hasF F h = true) : heightF (moreF F x) h = heightF F h := by
  rw [height_is hw (anc_of hF hh).more, height_is hF (anc_of hF hh)]; rfl
theorem more_new {F : Fo} (hF : WF F) {x : It} (hw : WF (moreF F x)) (hp : hasF F (parI x.2) = true) : heightF (moreF F x) x.1 = heightF F (parI x.2) + 1 := by
  rw [height_is hw (Anc.step (F := moreF F x) x _ (by simp [moreF]) (anc_of hF hp).more), height_is hF (anc_of hF hp)]
  simp [moreF]; omega
/-- fewer orphans -/
theorem less_wf {F : Fo} (hF : WF F) {o : List It} (ho : o.Sublist F.orph) : WF { F with orph := o } := by
  have hs : (F.nodes ++ o).Sublist (F.nodes ++ F.orph) := (List.Sublist.refl _).append ho
  exact ⟨hF.root32, fun x hx => hF.d32 x (hs.subset hx), fun x hx => hF.ne x (hs.subset hx), (hs.map Prod.fst).nodup hF.apart, hF.up, hF.n400, Nat.le_trans ho.length_le hF.o8⟩
theorem getD_at {α : Type} {l : List α} {i : Nat} {d : α} (h : i < l.length) : l.getD i d = l[i] := by
  rw [List.getD_eq_getElem?_getD, List.getElem?_eq_getElem h]; rfl
theorem erase_fresh {F : Fo} (hF : WF F) {i : Nat} (hi : i < F.orph.length) : Fresh { F with orph := F.orph.eraseIdx i } (F.orph.getD i i0) := by
  rw [getD_at hi]
  have hm : F.orph[i] ∈ F.nodes ++ F.orph := List.mem_append_right _ (List.getElem_mem hi)
  refine ⟨hF.d32 _ hm, hF.ne _ hm, fun y hy e => ?_⟩
  have ha := hF.apart
  rw [List.map_append, List.nodup_append] at ha
  obtain ⟨k1, k2, k3⟩ := ha
  rcases List.mem_append.1 hy with hy | hy
  · exact k3 y.1 (List.mem_map.2 ⟨y, hy, rfl⟩) _ (List.mem_map.2 ⟨_, List.getElem_mem hi, rfl⟩) e
  · rw [List.mem_eraseIdx_iff_getElem] at hy
    obtain ⟨j, hj, hne, rfl⟩ := hy
    have hP := List.pairwise_iff_getElem.1 k2
    rcases Nat.lt_or_gt_of_ne hne with hlt | hlt
    · exact hP j i (by simpa using hj) (by simpa using hi) hlt (by simpa using e)
    · exact hP i j (by simpa using hi) (by simpa using hj) hlt (by simpa using e.symm)
theorem stand_wf {F : Fo} (hF : WF F) {x : It} (hx : Fresh F x) (hp : hasF F (parI x.2) = true) : WF (standF F x).1 := by
  unfold standF
  split
  · exact hF
  · split
    · exact hF
    · exact more_wf hF hx hp (by omega)
theorem gready_some {F : Fo} {i : Nat} (h : readyF F = some i) : ∃ hi : i < F.orph.length, hasF F (parI (F.orph[i]).2) = true ∧ ∀ j (hj : j < i), hasF F (parI (F.orph[j]'(by omega)).2) = false := by
  unfold readyF at h
  obtain ⟨h1, h2, h3⟩ := List.findIdx?_eq_some_iff_getElem.1 h
  exact ⟨h1, h2, fun j hj => by simpa using h3 j hj⟩
/-- one orphan is put in, or dropped -/
def stepF (F : Fo) (i : Nat) : Fo := (standF { F with orph := F.orph.eraseIdx i } (F.orph.getD i i0)).1
theorem has_orph (F : Fo) (o : List It) (h : ByteArray) : hasF { F with orph := o } h = hasF F h := rfl
theorem step_wf {F : Fo} (hF : WF F) {i : Nat} (h : readyF F = some i) : WF (stepF F i) := by
  obtain ⟨hi, hp, _⟩ := gready_some h
  exact stand_wf (less_wf hF (List.eraseIdx_sublist _ _)) (erase_fresh hF hi) (by rw [has_orph, getD_at hi]; exact hp)
theorem stand_orph' (F : Fo) (x : It) : (standF F x).1.orph = F.orph := by
  unfold standF; split
  · rfl
  · split <;> rfl
theorem gstep_len {F : Fo} {i : Nat} (h : readyF F = some i) : (stepF F i).orph.length + 1 = F.orph.length := by
  obtain ⟨hi, _⟩ := gready_some h
  unfold stepF
  rw [stand_orph']
  show (F.orph.eraseIdx i).length + 1 = _
  rw [List.length_eraseIdx_of_lt hi]; omega
theorem adopt_none {F : Fo} (h : readyF F = none) : ∀ m, adoptF m F = F
  | 0 => rfl
  | m + 1 => by unfold adoptF; rw [h]
theorem adopt_some {F : Fo} {i : Nat} (h : readyF F = some i) {m : Nat} (hm : F.orph.length ≤ m) : adoptF m F = adoptF (m - 1) (stepF F i) := by
  obtain ⟨hi, _⟩ := gready_some h
  obtain ⟨m, rfl⟩ : ∃ j, m = j + 1 := ⟨m - 1, by omega⟩
  show adoptF (m + 1) F = adoptF m (stepF F i)
  rw [adoptF, h]; rfl
theorem adopt_wf : ∀ (m : Nat) (F : Fo), WF F → WF (adoptF m F)
  | 0, F, h => h
  | m + 1, F, h => by
    unfold adoptF
    split
    · exact h
    · rename_i i hi
      exact adopt_wf m _ (step_wf h hi)
theorem fresh_of {F : Fo} {x : It} (h : x.1.size = 32) (hh : hasF F x.1 = false) (ho : ¬ 0 ≤ atI F.orph x.1) : Fresh F x := by
  have hh' : ¬ (x.1 = F.root ∨ ∃ y ∈ F.nodes, y.1 = x.1) := fun c => by rw [(has_iff F x.1).2 c] at hh; cases hh
  refine ⟨h, fun e => hh' (Or.inl e), fun y hy e => ?_⟩
  rcases List.mem_append.1 hy with hy | hy
  · exact hh' (Or.inr ⟨y, hy, e⟩)
  · exact ho ((at_mem _ _).2 ⟨y, hy, e⟩)
theorem orph_wf {F : Fo} (hF : WF F) {x : It} (hx : Fresh F x) (h8 : F.orph.length < 8) : WF { F with orph := F.orph ++ [x] } := by
  obtain ⟨h1, h2, h3⟩ := hx
  have hm : ∀ y ∈ F.nodes ++ (F.orph ++ [x]), y ∈ F.nodes ++ F.orph ∨ y = x := by
    intro y hy
    rw [← List.append_assoc, List.mem_append, List.mem_singleton] at hy
    exact hy
  refine ⟨hF.root32, fun y hy => ?_, fun y hy => ?_, ?_, hF.up, hF.n400, by simp; omega⟩
  · rcases hm y hy with h | rfl
    · exact hF.d32 y h
    · exact h1
  · rcases hm y hy with h | rfl
    · exact hF.ne y h
    · exact h2
  · show ((F.nodes ++ (F.orph ++ [x])).map Prod.fst).Nodup
    rw [← List.append_assoc, List.map_append, List.nodup_append]
    refine ⟨hF.apart, by simp, fun a ha b hb => ?_⟩
    obtain rfl : b = x.1 := by simpa using hb
    obtain ⟨y, hy, rfl⟩ := List.mem_map.1 ha
    exact h3 y hy
theorem put_wf {F : Fo} (hF : WF F) {x : It} (h : x.1.size = 32) : WF (putF F x).1 := by
  unfold putF
  split
  · exact hF
  · rename_i hk
    have hfr : Fresh F x := fresh_of h (by cases hc : hasF F x.1 with | true => exact absurd (Or.inl hc) hk | false => rfl) (fun c => hk (Or.inr c))
    split
    · split
      · exact hF
      · exact orph_wf hF hfr (by omega)
    · rename_i hp
      split
      · exact hF
      · exact adopt_wf _ _ (stand_wf hF hfr (by simpa using hp))
theorem new_wf (r : ByteArray) (h : r.size = 32) : WF ⟨r, 0, [], []⟩ := ⟨h, by simp, by simp, by simp, Grown.nil, by simp, by simp⟩
/-- the forest behind a pruning -/
def cutF (F : Fo) (h : ByteArray) : Fo := ⟨h, heightF F h, F.nodes.filter (fun x => (pathF F h x.1).isSome && decide (x.1 ≠ h)), []⟩
theorem path_some (F : Fo) (a b : ByteArray) : (pathF F a b).isSome = (ancF F b).any (fun x => decide (x = a)) := by
  unfold pathF
  cases h : (ancF F b).findIdx? (fun x => decide (x = a)) with
  | none =>
    have := List.findIdx?_eq_none_iff.1 h
    symm
    rw [Option.isSome_none, List.any_eq_false]
    exact fun x hx => by simp [this x hx]
  | some i =>
    obtain ⟨h1, h2, _⟩ := List.findIdx?_eq_some_iff_getElem.1 h
    symm
    rw [Option.isSome_some, List.any_eq_true]
    exact ⟨_, List.getElem_mem h1, h2⟩
theorem cut_mem (F : Fo) (h : ByteArray) (x : It) : x ∈ (cutF F h).nodes ↔ x ∈ F.nodes ∧ h ∈ ancF F x.1 ∧ x.1 ≠ h := by
  show x ∈ F.nodes.filter _ ↔ _
  rw [List.mem_filter, Bool.and_eq_true, path_some, List.any_eq_true]
  refine and_congr Iff.rfl (and_congr ⟨fun ⟨y, hy, e⟩ => ?_, fun hm => ⟨h, hm, by simp⟩⟩ (by simp))
  have : y = h := by simpa using e
  exact this ▸ hy
theorem cut_wf {F : Fo} (hF : WF F) {h : ByteArray} (hh : hasF F h = true) : WF (cutF F h) := by
  have h32 : h.size = 32 := by
    rcases (has_iff F h).1 hh with rfl | ⟨x, hx, rfl⟩
    · exact hF.root32
    · exact hF.d32 x (List.mem_append_left _ hx)
  have hsub : (cutF F h).nodes.Sublist F.nodes := List.filter_sublist
  refine ⟨h32, fun x hx => ?_, fun x hx => ?_, ?_, ?_, Nat.le_trans hsub.length_le hF.n400, Nat.zero_le _⟩
  · rw [show (cutF F h).orph = [] from rfl, List.append_nil] at hx
    exact hF.d32 x (List.mem_append_left _ (hsub.subset hx))
  · rw [show (cutF F h).orph = [] from rfl, List.append_nil] at hx
    exact ((cut_mem F h x).1 hx).2.2
  · rw [show (cutF F h).orph = [] from rfl, List.append_nil]
    exact (hsub.map Prod.fst).nodup hF.nodup
  · have key : ∀ m, Grown F.root m → (∀ x ∈ m, x ∈ F.nodes) → Grown h (m.filter (fun x => (pathF F h x.1).isSome && decide (x.1 ≠ h))) := by
      intro m g
      induction g with
      | nil => exact fun _ => Grown.nil
      | snoc m x g hp ih =>
        intro hm
        have ih := ih fun y hy => hm y (List.mem_append_left _ hy)
        rw [List.filter_append]
        by_cases hx : ((pathF F h x.1).isSome && decide (x.1 ≠ h)) = true
        · rw [show List.filter (fun x => (pathF F h x.1).isSome && decide (x.1 ≠ h)) [x] = [x] from List.filter_eq_self.2 (fun y hy => by rw [show y = x by simpa using hy]; exact hx)]
          refine Grown.snoc _ x ih ?_
          have hin : x ∈ F.nodes := hm x (by simp)
          obtain ⟨_, hanc, hne⟩ := (cut_mem F h x).1 (List.mem_filter.2 ⟨hin, hx⟩)
          have hpar : hasF F (parI x.2) = true := by
            rw [has_iff]
            rcases hp with hp | ⟨y, hy, hp⟩
            · exact Or.inl hp
            · exact Or.inr ⟨y, hm y (List.mem_append_left _ hy), hp⟩
          rw [anc_is hF (Anc.step x _ hin (anc_of hF hpar))] at hanc
          have hanc : h ∈ ancF F (parI x.2) := (List.mem_cons.1 hanc).resolve_left fun e => hne e.symm
          by_cases hph : parI x.2 = h
          · exact Or.inl hph
          · right
            rcases hp with hp | ⟨y, hy, hp⟩
            · rw [hp, anc_is hF Anc.root] at hanc
              have e : h = F.root := by simpa using hanc
              exact absurd (hp.trans e.symm) hph
            · have hc : y ∈ (cutF F h).nodes := (cut_mem F h y).2 ⟨hm y (List.mem_append_left _ hy), hp ▸ hanc, fun e => hph (hp ▸ e)⟩
              exact ⟨y, List.mem_filter.2 ⟨hy, (List.mem_filter.1 hc).2⟩, hp⟩
        · rw [show List.filter (fun x => (pathF F h x.1).isSome && decide (x.1 ≠ h)) [x] = [] from List.filter_eq_nil_iff.2 (fun y hy => by rw [show y = x by simpa using hy]; exact hx)]
          rw [List.append_nil]; exact ih
    exact key F.nodes hF.up fun _ h => h
theorem cut_anc {F : Fo} (hF : WF F) {h y : ByteArray} {l : List ByteArray} (a : Anc F y l) (hm : h ∈ l) : ∃ l1 l2, l = l1 ++ h :: l2 ∧ Anc (cutF F h) y (l1 ++ [h]) ∧ Anc F h (h :: l2) := by
  induction a with
  | root =>
    obtain rfl : h = F.root := by simpa using hm
    exact ⟨[], [], rfl, Anc.root (F := cutF F F.root), Anc.root⟩
  | step x l hx a ih =>
    by_cases e : x.1 = h
    · subst e
      exact ⟨[], l, rfl, Anc.root (F := cutF F x.1), Anc.step x l hx a⟩
    · obtain ⟨l1, l2, h1, h2, h3⟩ := ih ((List.mem_cons.1 hm).resolve_left fun e' => e e'.symm)
      refine ⟨x.1 :: l1, l2, by rw [h1]; rfl, Anc.step (F := cutF F h) x _ ((cut_mem F h x).2 ⟨hx, ?_, e⟩) h2, h3⟩
      rw [anc_is hF (Anc.step x l hx a)]; exact hm
theorem cut_height {F : Fo} (hF : WF F) {h : ByteArray} (hh : hasF F h = true) {x : It} (hx : x ∈ (cutF F h).nodes) : heightF (cutF F h) x.1 = heightF F x.1 := by
  obtain ⟨h1, h2, _⟩ := (cut_mem F h x).1 hx
  have ha := anc_of hF ((has_iff F x.1).2 (Or.inr ⟨x, h1, rfl⟩))
  obtain ⟨l1, l2, e, a1, a2⟩ := cut_anc hF ha h2
  rw [height_is (cut_wf hF hh) a1, height_is hF ha, e]
  show heightF F h + _ - 1 = _
  rw [height_is hF a2]
  simp; omega
end FF
end
section
open Go Go.RowKit
namespace WW
open BB
/-- what was read, in block t's cells: d, in this world, in blocks from lo below hi; the cells were f, and are f' -/
abbrev RelT (δ : Type) := δ → World → Nat → Nat → (Nat → Value) → (Nat → Value) → Prop
structure SoundR {δ : Type} (R : RelT δ) : Prop where
  keep : ∀ {d w w' lo hi f f'}, R d w lo hi f f' → (∀ k, lo ≤ k → k < hi → w'.heap[k]? = w.heap[k]?) → R d w' lo hi f f'
  wide : ∀ {d w lo hi lo' hi' f f'}, R d w lo hi f f' → lo' ≤ lo → hi ≤ hi' → R d w lo' hi' f f'
section
variable {P : Program} {t n : Nat} {v : Value} {W : World} {α β δ : Type} {A : ByteArray → Option (ByteArray × α)} {B : ByteArray → Option (ByteArray × β)} {Sp : ByteArray → Option (ByteArray × δ)} {R : RelT δ} {R1 : RelT α} {R2 : RelT β} {Pre Pre2 : (Nat → Value) → Prop} {f : Nat → Value} {w : World}
def EffR (t n : Nat) (w : World) (f : Nat → Value) (R : RelT δ) (x : Option (ByteArray × δ)) (ok : Bool) (r : ByteArray) (w' : World) : Prop :=
  match x with
  | none => ok = false ∧ ∃ f', Keep t w w' ∧ Blk w' t n f'
  | some (r', d) => ok = true ∧ r = r' ∧ ∃ f', Keep t w w' ∧ Blk w' t n f' ∧ R d w' w.heap.size w'.heap.size f f'
/-- v cuts off what Sp says, and puts it into block t, by R -/
def CutR (P : Program) (t n : Nat) (v : Value) (W : World) (Pre : (Nat → Value) → Prop) (Sp : ByteArray → Option (ByteArray × δ)) (R : RelT δ) : Prop :=
  ∀ f b w, b.size ≤ 1000000 → Keep t W w → Blk w t n f → Pre f → Cut P v b w (EffR t n w f R (Sp b))
theorem CutR.later {W' : World} (h : CutR P t n v W Pre Sp R) (hk : Keep t W W') : CutR P t n v W' Pre Sp R := fun f b w hb hw ht hp => h f b w hb (hk.trans hw) ht hp
theorem CutR.map {g : α → β} (h : CutR P t n v W Pre A R1) (hR : ∀ d w lo hi f f', R1 d w lo hi f f' → R2 (g d) w lo hi f f') : CutR P t n v W Pre (mapSp g A) R2 := fun f b w hb hk ht hp =>
  (h f b w hb hk ht hp).mono fun ok r w' he => by
    unfold EffR at he ⊢
    rcases hA : A b with _ | ⟨r', d⟩
    · rw [hA] at he; rw [map_none hA]; exact he
    · rw [hA] at he; rw [map_some hA]
      obtain ⟨h1, h2, f', h3, h4, h5⟩ := he
      exact ⟨h1, h2, f', h3, h4, hR _ _ _ _ _ _ h5⟩
/-- the elements of a list that was read: each by R, in the row that sv owns -/
structure ElemsR (e : TypeId) (k : Nat) (z : Nat → Value) (R : RelT δ) (w : World) (lo hi : Nat) (sv : Value) (l : List δ) (xs : List Value) : Prop where
  row : w.ownsRow lo e k sv l.length xs
  top : ∀ c, sv.ownBlock = some c → c < hi
  each : ∀ (i : Nat) (d : δ), l[i]? = some d → ∃ (lo1 hi1 : Nat) (g : Nat → Value), lo ≤ lo1 ∧ hi1 ≤ hi ∧ R d w lo1 hi1 z g ∧ (∀ j : Nat, j < k → xs[i * k + j]? = some (g j)) ∧ ∀ c, sv.ownBlock = some c → c < lo1 ∨ hi1 ≤ c
theorem owns_keep {w' : World} {e : TypeId} {lo k m : Nat} {sv : Value} {xs : List Value} (h : w.ownsRow lo e k sv m xs) (hk : ∀ c, sv.ownBlock = some c → w'.heap[c]? = w.heap[c]?) : w'.ownsRow lo e k sv m xs := by
  obtain ⟨h1, h2 | ⟨g, cap, cur, hv, hb, hc, rest⟩⟩ := h
  · exact ⟨h1, Or.inl h2⟩
  · subst hv
    exact ⟨h1, Or.inr ⟨g, cap, cur, rfl, hb, (hk g rfl).trans hc, rest⟩⟩
theorem owns_lo {e : TypeId} {lo lo' k m : Nat} {sv : Value} {xs : List Value} (h : w.ownsRow lo e k sv m xs) (hl : lo' ≤ lo) : w.ownsRow lo' e k sv m xs := by
  obtain ⟨h1, h2 | ⟨g, cap, cur, hv, hb, rest⟩⟩ := h
  · exact ⟨h1, Or.inl h2⟩
  · exact ⟨h1, Or.inr ⟨g, cap, cur, hv, by omega, rest⟩⟩
theorem owns_ge {e : TypeId} {lo k m : Nat} {sv : Value} {xs : List Value} (h : w.ownsRow lo e k sv m xs) : ∀ c, sv.ownBlock = some c → lo ≤ c := by
  obtain ⟨h1, ⟨rfl, _⟩ | ⟨g, cap, cur, rfl, hb, rest⟩⟩ := h
  · intro c hc; cases hc
  · intro c hc
    have : g = c := by simpa [Value.ownBlock] using hc
    omega
theorem ElemsR.keep {w' : World} {e : TypeId} {k lo hi : Nat} {z : Nat → Value} {sv : Value} {l : List δ} {xs : List Value} (h : ElemsR e k z R w lo hi sv l xs) (hR : SoundR R) (hk : ∀ c, lo ≤ c → c < hi → w'.heap[c]? = w.heap[c]?) : ElemsR e k z R w' lo hi sv l xs := by
  refine ⟨owns_keep h.row fun c hc => hk c (owns_ge h.row c hc) (h.top c hc), h.top, fun i d hd => ?_⟩
  obtain ⟨lo1, hi1, g, h1, h2, h3, h4, h5⟩ := h.each i d hd
  exact ⟨lo1, hi1, g, h1, h2, hR.keep h3 fun c a b => hk c (by omega) (by omega), h4, h5⟩
theorem ElemsR.wide {e : TypeId} {k lo hi lo' hi' : Nat} {z : Nat → Value} {sv : Value} {l : List δ} {xs : List Value} (h : ElemsR e k z R w lo hi sv l xs) (hl : lo' ≤ lo) (hh : hi ≤ hi') : ElemsR e k z R w lo' hi' sv l xs := by
  refine ⟨owns_lo h.row hl, fun c hc => Nat.lt_of_lt_of_le (h.top c hc) hh, fun i d hd => ?_⟩
  obtain ⟨lo1, hi1, g, h1, h2, h3, h4, h5⟩ := h.each i d hd
  exact ⟨lo1, hi1, g, by omega, by omega, h3, h4, h5⟩
end
end WW
end
