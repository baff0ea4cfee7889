/-
  The code's forest in memory: the struct's block, the map, the orphans' row, and what the copies lie in.
-/
import Derived.Test.YtlpnggdghmccjaaKGMap
import Derived.Test.YtlpnggdghmccjaaKFAdopt
import Derived.Test.YtlpnggdghmccjaaKJDig
import Derived.Test.YtlpnggdghmccjaaKMSign
open Go Go.RowKit
namespace FF
open WW BB MM
/-- a block of a size that is looked at -/
def SmallI (b : BlockD) : Prop := (parI b).size ≤ 1000 ∧ SmallS (sigsI b) ∧ SmallR b.2
theorem Keeps.grown {A : Nat → Prop} {w w' : World} {row : Option Nat} (h : w.grownBy w' row) (hA : ∀ b, row = some b → ¬ A b) : Keeps A w w' :=
  ⟨⟨h.os, h.tape, h.output, h.size, fun k hk => absurd hk (Nat.not_lt_zero k)⟩, fun c hb hl => h.block c hl fun e => hA c e.symm hb⟩
theorem Keeps.alloc {A : Nat → Prop} {w w' : World} (h : Keeps A w w') (o : Obj) : Keeps A w (w'.alloc o) := h.trans (Keeps.of ((Below.refl _ _).alloc (Nat.le_refl _) o))
theorem ba_full {b : ByteArray} (h : 0 < b.size) : b.toList.isEmpty = false := by
  cases hz : b.toList.isEmpty with
  | false => rfl
  | true =>
    rw [List.isEmpty_iff] at hz
    rw [CC.ba_toList (a := b) (b := ⟨#[]⟩) (hz.trans (by simp))] at h
    cases h
end FF
namespace Go.Proofs.Ytlpnggdghmccjaa
open FF JJ CC MM WW BB
section
variable {B : Nat} {w w' : World} {g : Nat} {F : Fo} {rt : ByteArray} {mv ov : Value} {N O : List Iv} {C : Nat → Prop}
/-- the forest's own blocks -/
def MineB (g : Nat) (mv ov : Value) (C : Nat → Prop) (b : Nat) : Prop := b = g ∨ mapBlk mv = some b ∨ ov.ownBlock = some b ∨ C b
end
/-- an entry, taken apart -/
theorem sv_parts (s : Sv) : ∃ v p j k a1 n1 c1 a2 n2 c2 t, s = ((v, p, j, k), (a1, n1, c1), (a2, n2, c2), t) := by
  obtain ⟨⟨v, p, j, k⟩, ⟨a1, n1, c1⟩, ⟨a2, n2, c2⟩, t⟩ := s
  exact ⟨v, p, j, k, a1, n1, c1, a2, n2, c2, t, rfl⟩
end Go.Proofs.Ytlpnggdghmccjaa
