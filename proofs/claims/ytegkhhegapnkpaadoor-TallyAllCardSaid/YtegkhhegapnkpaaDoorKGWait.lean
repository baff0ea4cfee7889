/-
  The walks of what tells whether a digest is an orphan's, and of what looks for an orphan whose parent is there.
-/
import Derived.Test.YtegkhhegapnkpaaDoorKGMap
import Derived.Test.YtegkhhegapnkpaaDoorKFAdopt
import Derived.Test.YtegkhhegapnkpaaDoorKGMath
import Derived.Deep.RegionHeld3
import Derived.Deep.CutRange
import Derived.Test.YtegkhhegapnkpaaDoorKEHolds
import Derived.Test.YtegkhhegapnkpaaDoorKMLawS
import Derived.Test.YtegkhhegapnkpaaDoorKCallsW
section
open Go Go.RowKit
namespace FF
open WW BB MM
/-- a block of a size that is looked at -/
def SmallI (b : BlockD) : Prop := (parI b).size ≤ 1000 ∧ SmallS (sigsI b) ∧ SmallR b.2
theorem Keeps.grown {A : Nat → Prop} {w w' : World} {row : Option Nat} (h : w.grownBy w' row) (hA : ∀ b, row = some b → ¬ A b) : Keeps A w w' :=
  ⟨⟨h.os, h.tape, h.output, h.size, fun k hk => absurd hk (Nat.not_lt_zero k)⟩, fun c hb hl => h.block c hl fun e => hA c e.symm hb⟩
theorem Keeps.alloc {A : Nat → Prop} {w w' : World} (h : Keeps A w w') (o : Obj) : Keeps A w (w'.alloc o) := h.trans (Keeps.of ((Below.refl _ _).alloc (Nat.le_refl _) o))
end FF
namespace Go.Proofs.YtegkhhegapnkpaaDoor
open FF JJ CC MM WW BB
/-- the code's forest in block g, all that it writes from block B on: it is F -/
structure CFs (B : Nat) (w : World) (g : Nat) (F : Fo) (rt : ByteArray) (mv ov : Value) (N O : List Iv) (C : Nat → Prop) : Prop where
  wf : WF F
  blk : TBlk 128 w g 4 (rowL [.string rt, .int .i64 F.height, mv, ov])
  root : (rt = ⟨#[]⟩ ∧ F.root = firstD) ∨ rt = F.root
  nodes : N.map Prod.fst = F.nodes
  orph : O.map Prod.fst = F.orph
  map : MapAt Tryd.prog 9 w mv (entF F N) F.nodes.length
  mB : ∀ b, mapBlk mv = some b → B ≤ b
  row : w.ownsRow B 131 7 ov O.length (cellsV O)
  inn : Dep C w (fun w' => ∀ x ∈ N ++ O, InnV w' x)
  gB : B ≤ g
  cB : ∀ b, C b → B ≤ b
  cg : ¬ C g
  cm : ∀ b, mapBlk mv = some b → ¬ C b
  co : ∀ b, ov.ownBlock = some b → ¬ C b
  cl : ∀ b, C b → b < w.heap.size
  small : ∀ x ∈ N ++ O, SmallI x.1.2
section
variable {B : Nat} {w w' : World} {g : Nat} {F : Fo} {rt : ByteArray} {mv ov : Value} {N O : List Iv} {C : Nat → Prop}
/-- the forest's own blocks -/
def MineB (g : Nat) (mv ov : Value) (C : Nat → Prop) (b : Nat) : Prop := b = g ∨ mapBlk mv = some b ∨ ov.ownBlock = some b ∨ C b
theorem CFs.keep (h : CFs B w g F rt mv ov N O C) (hk : Keeps (MineB g mv ov C) w w') : CFs B w' g F rt mv ov N O C :=
  ⟨h.wf, (hk.block g (Or.inl rfl) h.blk.lt).trans h.blk, h.root, h.nodes, h.orph, h.map.keep fun b hb => hk.block b (Or.inr (Or.inl hb)) (h.map.lt b hb), h.mB,
   row_keep h.row fun c hc => hk.block c (Or.inr (Or.inr (Or.inl hc))) (h.row.lt c hc).2, h.inn.on (hk.sub fun _ hb _ => Or.inr (Or.inr (Or.inr hb))), h.gB, h.cB, h.cg, h.cm, h.co, fun b hb => Nat.lt_of_lt_of_le (h.cl b hb) hk.b0.size, h.small⟩
theorem CFs.on (h : CFs B w g F rt mv ov N O C) (hb : Below w.heap.size w w') : CFs B w' g F rt mv ov N O C := h.keep (Keeps.of hb)
theorem CFs.ownL (h : CFs B w g F rt mv ov N O C) : ∀ b, MineB g mv ov C b → b < w.heap.size := by
  rintro b (rfl | hb | hb | hb)
  · exact h.blk.lt
  · exact h.map.lt b hb
  · exact (h.row.lt b hb).2
  · exact h.cl b hb
theorem CFs.lenO (h : CFs B w g F rt mv ov N O C) : O.length = F.orph.length := by rw [← h.orph, List.length_map]
/-- the map's block is no struct's block -/
theorem CFs.gm (h : CFs B w g F rt mv ov N O C) : mapBlk mv ≠ some g := h.map.nomap h.blk
theorem CFs.mo (h : CFs B w g F rt mv ov N O C) : ∀ b, ov.ownBlock = some b → mapBlk mv ≠ some b := by
  intro b hb
  rcases h.row.2 with ⟨h1, _⟩ | ⟨q, cap, cur, h1, _, hh, _⟩
  · rw [h1] at hb; cases hb
  · rw [h1] at hb
    obtain rfl : q = b := by simpa [Value.ownBlock] using hb
    exact h.map.nomap hh
theorem CFs.c0 (h : CFs B w g F rt mv ov N O C) : w.cell? ⟨g, 0, none⟩ = some (.string rt) := h.blk.blk.get 0 (by omega)
theorem CFs.c1 (h : CFs B w g F rt mv ov N O C) : w.cell? ⟨g, 1, none⟩ = some (.int .i64 F.height) := h.blk.blk.get 1 (by omega)
theorem CFs.c2 (h : CFs B w g F rt mv ov N O C) : w.cell? ⟨g, 2, none⟩ = some mv := h.blk.blk.get 2 (by omega)
theorem CFs.c3 (h : CFs B w g F rt mv ov N O C) : w.cell? ⟨g, 3, none⟩ = some ov := h.blk.blk.get 3 (by omega)
end
end Go.Proofs.YtegkhhegapnkpaaDoor
end
section
open Go Go.RowKit
namespace FF
open WW BB
/-- where the first one is; -1 -/
def idxI {α : Type} (l : List α) (p : α → Bool) : Int :=
  match l.findIdx? p with
  | some i => (i : Int)
  | none => -1
theorem idx_hit {α : Type} {l : List α} {p : α → Bool} (i : Nat) (hi : i < l.length) (hn : ∀ j (hj : j < i), p (l[j]'(by omega)) = false) (he : p l[i] = true) : idxI l p = (i : Int) := by
  unfold idxI
  rw [List.findIdx?_eq_some_iff_getElem.2 ⟨hi, he, fun j hj => by simpa using hn j hj⟩]
theorem idx_none {α : Type} {l : List α} {p : α → Bool} (hn : ∀ j (hj : j < l.length), p l[j] = false) : idxI l p = -1 := by
  unfold idxI
  rw [List.findIdx?_eq_none_iff.2 fun x hx => ?_]
  obtain ⟨j, hj, rfl⟩ := List.getElem_of_mem hx
  exact hn j hj
theorem idx_any {α : Type} (l : List α) (p : α → Bool) : decide (0 ≤ idxI l p) = l.any p := by
  unfold idxI
  cases h : l.findIdx? p with
  | none =>
    have := List.findIdx?_eq_none_iff.1 h
    symm
    simp only [List.any_eq_false, show decide ((0 : Int) ≤ -1) = false from rfl]
    exact fun x hx => by simp [this x hx]
  | some i =>
    obtain ⟨h1, h2, _⟩ := List.findIdx?_eq_some_iff_getElem.1 h
    symm
    rw [show decide ((0 : Int) ≤ (i : Int)) = true by simp, List.any_eq_true]
    exact ⟨_, List.getElem_mem h1, h2⟩
end FF
namespace Go.Proofs.YtegkhhegapnkpaaDoor
open FF JJ CC MM WW BB
end Go.Proofs.YtegkhhegapnkpaaDoor
end
section
open Go Go.RowKit
namespace FF
open WW BB
end FF
namespace Go.Proofs.YtegkhhegapnkpaaDoor
open FF JJ CC MM WW BB
section
variable {B : Nat} {w w' : World} {g : Nat} {F : Fo} {rt : ByteArray} {mv ov : Value} {N O : List Iv} {C : Nat → Prop}
theorem CFs.o8 (h : CFs B w g F rt mv ov N O C) : O.length ≤ 8 := by rw [h.lenO]; exact h.wf.o8
end
end Go.Proofs.YtegkhhegapnkpaaDoor
end
