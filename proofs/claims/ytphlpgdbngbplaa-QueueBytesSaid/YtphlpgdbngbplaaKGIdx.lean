/-
  The walks of slices.Index, Contains (strings), IndexFunc, ContainsFunc (orphans), and of what tells whether a digest is an orphan's.
-/
import Derived.Test.YtphlpgdbngbplaaKGMap
import Derived.Test.YtphlpgdbngbplaaKFAdopt
import Derived.Test.YtphlpgdbngbplaaKJDig
import Derived.Test.YtphlpgdbngbplaaKMSign
import Derived.Test.YtphlpgdbngbplaaKJMath
section
open Go Go.RowKit
namespace FF
open WW BB MM
/-- a block of a size that is looked at -/
def SmallI (b : BlockD) : Prop := (parI b).size ≤ 1000 ∧ SmallS (sigsI b) ∧ SmallR b.2
theorem Keeps.grown {A : Nat → Prop} {w w' : World} {row : Option Nat} (h : w.grownBy w' row) (hA : ∀ b, row = some b → ¬ A b) : Keeps A w w' :=
  ⟨⟨h.os, h.tape, h.output, h.size, fun k hk => absurd hk (Nat.not_lt_zero k)⟩, fun c hb hl => h.block c hl fun e => hA c e.symm hb⟩
theorem Keeps.alloc {A : Nat → Prop} {w w' : World} (h : Keeps A w w') (o : Obj) : Keeps A w (w'.alloc o) := h.trans (Keeps.of ((Below.refl _ _).alloc (Nat.le_refl _) o))
theorem ba_full {b : ByteArray} (h : 0 < b.size) : b.toList.isEmpty = false := by
  cases hz : b.toList.isEmpty with
  | false => rfl
  | true =>
    rw [List.isEmpty_iff] at hz
    rw [CC.ba_toList (a := b) (b := ⟨#[]⟩) (hz.trans (by simp))] at h
    cases h
end FF
namespace Go.Proofs.Ytphlpgdbngbplaa
open FF JJ CC MM WW BB
section
variable {B : Nat} {w w' : World} {g : Nat} {F : Fo} {rt : ByteArray} {mv ov : Value} {N O : List Iv} {C : Nat → Prop}
/-- the forest's own blocks -/
def MineB (g : Nat) (mv ov : Value) (C : Nat → Prop) (b : Nat) : Prop := b = g ∨ mapBlk mv = some b ∨ ov.ownBlock = some b ∨ C b
end
/-- an entry, taken apart -/
theorem sv_parts (s : Sv) : ∃ v p j k a1 n1 c1 a2 n2 c2 t, s = ((v, p, j, k), (a1, n1, c1), (a2, n2, c2), t) := by
  obtain ⟨⟨v, p, j, k⟩, ⟨a1, n1, c1⟩, ⟨a2, n2, c2⟩, t⟩ := s
  exact ⟨v, p, j, k, a1, n1, c1, a2, n2, c2, t, rfl⟩
end Go.Proofs.Ytphlpgdbngbplaa
end
section
open Go Go.RowKit
namespace FF
open WW BB
/-- where the first one is; -1 -/
def idxI {α : Type} (l : List α) (p : α → Bool) : Int :=
  match l.findIdx? p with
  | some i => (i : Int)
  | none => -1
theorem idx_hit {α : Type} {l : List α} {p : α → Bool} (i : Nat) (hi : i < l.length) (hn : ∀ j (hj : j < i), p (l[j]'(by omega)) = false) (he : p l[i] = true) : idxI l p = (i : Int) := by
  unfold idxI
  rw [List.findIdx?_eq_some_iff_getElem.2 ⟨hi, he, fun j hj => by simpa using hn j hj⟩]
theorem idx_none {α : Type} {l : List α} {p : α → Bool} (hn : ∀ j (hj : j < l.length), p l[j] = false) : idxI l p = -1 := by
  unfold idxI
  rw [List.findIdx?_eq_none_iff.2 fun x hx => ?_]
  obtain ⟨j, hj, rfl⟩ := List.getElem_of_mem hx
  exact hn j hj
theorem idx_bound {α : Type} (l : List α) (p : α → Bool) : -1 ≤ idxI l p ∧ idxI l p < l.length := by
  unfold idxI
  split
  · rename_i i hi
    have := (List.findIdx?_eq_some_iff_getElem.1 hi).1
    omega
  · omega
theorem idx_any {α : Type} (l : List α) (p : α → Bool) : decide (0 ≤ idxI l p) = l.any p := by
  unfold idxI
  cases h : l.findIdx? p with
  | none =>
    have := List.findIdx?_eq_none_iff.1 h
    symm
    simp only [List.any_eq_false, show decide ((0 : Int) ≤ -1) = false from rfl]
    exact fun x hx => by simp [this x hx]
  | some i =>
    obtain ⟨h1, h2, _⟩ := List.findIdx?_eq_some_iff_getElem.1 h
    symm
    rw [show decide ((0 : Int) ≤ (i : Int)) = true by simp, List.any_eq_true]
    exact ⟨_, List.getElem_mem h1, h2⟩
theorem idx_map {α β : Type} (l : List α) (f : α → β) (p : β → Bool) : idxI (l.map f) p = idxI l (fun x => p (f x)) := by
  unfold idxI; rw [List.findIdx?_map]; rfl
theorem idx_at (l : List It) (h : ByteArray) : idxI l (fun x => decide (x.1 = h)) = atI l h := rfl
end FF
namespace Go.Proofs.Ytphlpgdbngbplaa
open FF JJ CC MM WW BB
end Go.Proofs.Ytphlpgdbngbplaa
end
