/-
  The walks of what a request's number is, of what tells whether one may have a number, and of closures that tell whether a list has it; a function's value called with what is bound to it.
-/
import Derived.Test.YthajnkcipifhcaaGreatDoorKGMap
import Derived.Test.YthajnkcipifhcaaGreatDoorKZRow
import Derived.Test.YthajnkcipifhcaaGreatDoorKJDig
import Derived.Test.YthajnkcipifhcaaGreatDoorKMSign
import Derived.Test.YthajnkcipifhcaaGreatDoorKCallsW
import Derived.Test.YthajnkcipifhcaaGreatDoorKZMath
import Derived.Test.YthajnkcipifhcaaGreatDoorKWFew
section
open Go Go.RowKit
namespace FF
open WW BB MM
/-- a block of a size that is looked at -/
def SmallI (b : BlockD) : Prop := (parI b).size ≤ 1000 ∧ SmallS (sigsI b) ∧ SmallR b.2
theorem Keeps.grown {A : Nat → Prop} {w w' : World} {row : Option Nat} (h : w.grownBy w' row) (hA : ∀ b, row = some b → ¬ A b) : Keeps A w w' :=
  ⟨⟨h.os, h.tape, h.output, h.size, fun k hk => absurd hk (Nat.not_lt_zero k)⟩, fun c hb hl => h.block c hl fun e => hA c e.symm hb⟩
theorem Keeps.alloc {A : Nat → Prop} {w w' : World} (h : Keeps A w w') (o : Obj) : Keeps A w (w'.alloc o) := h.trans (Keeps.of ((Below.refl _ _).alloc (Nat.le_refl _) o))
theorem ba_full {b : ByteArray} (h : 0 < b.size) : b.toList.isEmpty = false := by
  cases hz : b.toList.isEmpty with
  | false => rfl
  | true =>
    rw [List.isEmpty_iff] at hz
    rw [CC.ba_toList (a := b) (b := ⟨#[]⟩) (hz.trans (by simp))] at h
    cases h
end FF
namespace Go.Proofs.YthajnkcipifhcaaGreatDoor
open FF JJ CC MM WW BB
/-- the code's forest in block g, all that it writes from block B on: it is F -/
structure CFs (B : Nat) (w : World) (g : Nat) (F : Fo) (rt : ByteArray) (mv ov : Value) (N O : List Iv) (C : Nat → Prop) : Prop where
  wf : WF F
  blk : TBlk 85 w g 4 (rowL [.string rt, .int .i64 F.height, mv, ov])
  root : (rt = ⟨#[]⟩ ∧ F.root = firstD) ∨ rt = F.root
  nodes : N.map Prod.fst = F.nodes
  orph : O.map Prod.fst = F.orph
  map : MapAt Tryz.prog 9 w mv (entF F N) F.nodes.length
  mB : ∀ b, mapBlk mv = some b → B ≤ b
  row : w.ownsRow B 168 7 ov O.length (cellsV O)
  inn : Dep C w (fun w' => ∀ x ∈ N ++ O, InnV w' x)
  gB : B ≤ g
  cB : ∀ b, C b → B ≤ b
  cg : ¬ C g
  cm : ∀ b, mapBlk mv = some b → ¬ C b
  co : ∀ b, ov.ownBlock = some b → ¬ C b
  cl : ∀ b, C b → b < w.heap.size
  small : ∀ x ∈ N ++ O, SmallI x.1.2
section
variable {B : Nat} {w w' : World} {g : Nat} {F : Fo} {rt : ByteArray} {mv ov : Value} {N O : List Iv} {C : Nat → Prop}
/-- the forest's own blocks -/
def MineB (g : Nat) (mv ov : Value) (C : Nat → Prop) (b : Nat) : Prop := b = g ∨ mapBlk mv = some b ∨ ov.ownBlock = some b ∨ C b
theorem CFs.keep (h : CFs B w g F rt mv ov N O C) (hk : Keeps (MineB g mv ov C) w w') : CFs B w' g F rt mv ov N O C :=
  ⟨h.wf, (hk.block g (Or.inl rfl) h.blk.lt).trans h.blk, h.root, h.nodes, h.orph, h.map.keep fun b hb => hk.block b (Or.inr (Or.inl hb)) (h.map.lt b hb), h.mB,
   row_keep h.row fun c hc => hk.block c (Or.inr (Or.inr (Or.inl hc))) (h.row.lt c hc).2, h.inn.on (hk.sub fun _ hb _ => Or.inr (Or.inr (Or.inr hb))), h.gB, h.cB, h.cg, h.cm, h.co, fun b hb => Nat.lt_of_lt_of_le (h.cl b hb) hk.b0.size, h.small⟩
theorem CFs.on (h : CFs B w g F rt mv ov N O C) (hb : Below w.heap.size w w') : CFs B w' g F rt mv ov N O C := h.keep (Keeps.of hb)
theorem CFs.ownL (h : CFs B w g F rt mv ov N O C) : ∀ b, MineB g mv ov C b → b < w.heap.size := by
  rintro b (rfl | hb | hb | hb)
  · exact h.blk.lt
  · exact h.map.lt b hb
  · exact (h.row.lt b hb).2
  · exact h.cl b hb
theorem CFs.lenO (h : CFs B w g F rt mv ov N O C) : O.length = F.orph.length := by rw [← h.orph, List.length_map]
/-- the map's block is no struct's block -/
theorem CFs.gm (h : CFs B w g F rt mv ov N O C) : mapBlk mv ≠ some g := h.map.nomap h.blk
theorem CFs.go (h : CFs B w g F rt mv ov N O C) : ov.ownBlock ≠ some g := by
  intro e
  rcases h.row.2 with ⟨h1, _⟩ | ⟨q, cap, cur, h1, _, hh, _⟩
  · rw [h1] at e; cases e
  · rw [h1] at e
    obtain rfl : q = g := by simpa [Value.ownBlock] using e
    have := h.blk
    unfold TBlk at this
    rw [hh] at this
    injection this with this
    injection this with _ h2 _
    exact absurd h2 (by decide)
theorem CFs.mo (h : CFs B w g F rt mv ov N O C) : ∀ b, ov.ownBlock = some b → mapBlk mv ≠ some b := by
  intro b hb
  rcases h.row.2 with ⟨h1, _⟩ | ⟨q, cap, cur, h1, _, hh, _⟩
  · rw [h1] at hb; cases hb
  · rw [h1] at hb
    obtain rfl : q = b := by simpa [Value.ownBlock] using hb
    exact h.map.nomap hh
theorem CFs.c0 (h : CFs B w g F rt mv ov N O C) : w.cell? ⟨g, 0, none⟩ = some (.string rt) := h.blk.blk.get 0 (by omega)
theorem CFs.c1 (h : CFs B w g F rt mv ov N O C) : w.cell? ⟨g, 1, none⟩ = some (.int .i64 F.height) := h.blk.blk.get 1 (by omega)
theorem CFs.c2 (h : CFs B w g F rt mv ov N O C) : w.cell? ⟨g, 2, none⟩ = some mv := h.blk.blk.get 2 (by omega)
theorem CFs.c3 (h : CFs B w g F rt mv ov N O C) : w.cell? ⟨g, 3, none⟩ = some ov := h.blk.blk.get 3 (by omega)
end
theorem tabs_keeps {A : Nat → Prop} {w w' : World} (h : Tabs w) (hk : Keeps A w w') (hA : ∀ b, NoTab b ∨ A b) : Tabs w' := by
  have t : ∀ b, ¬ NoTab b → b < w.heap.size → w'.heap[b]? = w.heap[b]? := fun b hb hl => hk.block b ((hA b).resolve_left hb) hl
  have e1 := t 0 (fun h => h.1 rfl) h.l1
  have e2 := t 1 (fun h => h.2.1 rfl) h.l2
  have e3 := t 2 (fun h => h.2.2 rfl) h.l3
  exact ⟨fun i hi => (World.cell?_of_block (w := w) (a := ⟨_, i, none⟩) e1).trans (h.iv i hi), fun i hi => (World.cell?_of_block (w := w) (a := ⟨_, i, none⟩) e2).trans (h.sg i hi), fun i hi => (World.cell?_of_block (w := w) (a := ⟨_, i, none⟩) e3).trans (h.pl i hi),
    Nat.lt_of_lt_of_le h.l1 hk.b0.size, Nat.lt_of_lt_of_le h.l2 hk.b0.size, Nat.lt_of_lt_of_le h.l3 hk.b0.size⟩
end Go.Proofs.YthajnkcipifhcaaGreatDoor
end
section
open Go Go.RowKit
namespace FF
open WW BB
/-- where the first one is; -1 -/
def idxI {α : Type} (l : List α) (p : α → Bool) : Int :=
  match l.findIdx? p with
  | some i => (i : Int)
  | none => -1
theorem idx_hit {α : Type} {l : List α} {p : α → Bool} (i : Nat) (hi : i < l.length) (hn : ∀ j (hj : j < i), p (l[j]'(by omega)) = false) (he : p l[i] = true) : idxI l p = (i : Int) := by
  unfold idxI
  rw [List.findIdx?_eq_some_iff_getElem.2 ⟨hi, he, fun j hj => by simpa using hn j hj⟩]
theorem idx_none {α : Type} {l : List α} {p : α → Bool} (hn : ∀ j (hj : j < l.length), p l[j] = false) : idxI l p = -1 := by
  unfold idxI
  rw [List.findIdx?_eq_none_iff.2 fun x hx => ?_]
  obtain ⟨j, hj, rfl⟩ := List.getElem_of_mem hx
  exact hn j hj
end FF
namespace Go.Proofs.YthajnkcipifhcaaGreatDoor
open FF JJ CC MM WW BB
end Go.Proofs.YthajnkcipifhcaaGreatDoor
end
section
open Go Go.RowKit
namespace FF
open WW BB
end FF
namespace Go.Proofs.YthajnkcipifhcaaGreatDoor
open FF JJ CC MM WW BB
section
variable {B : Nat} {w w' : World} {g : Nat} {F : Fo} {rt : ByteArray} {mv ov : Value} {N O : List Iv} {C : Nat → Prop}
theorem CFs.o8 (h : CFs B w g F rt mv ov N O C) : O.length ≤ 8 := by rw [h.lenO]; exact h.wf.o8
end
end Go.Proofs.YthajnkcipifhcaaGreatDoor
end
section
open Go Go.RowKit
namespace ZZ
open FF JJ WW BB
/-- may a request have this number? -/
def possK (k : Int × Int) : Bool := decide (0 ≤ k.1 ∧ k.1 < 4 ∧ 1 ≤ k.2 ∧ k.2 ≤ 2147483647)
end ZZ
namespace Go.Proofs.YthajnkcipifhcaaGreatDoor
open ZZ FF JJ WW BB RR
end Go.Proofs.YthajnkcipifhcaaGreatDoor
end
