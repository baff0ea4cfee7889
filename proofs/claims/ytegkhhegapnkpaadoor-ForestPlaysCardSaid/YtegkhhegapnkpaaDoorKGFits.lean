/-
  The walks of what keeps a block from coming in.
-/
import Derived.Test.YtegkhhegapnkpaaDoorKGMap
import Derived.Test.YtegkhhegapnkpaaDoorKFNew
import Derived.Test.YtegkhhegapnkpaaDoorKJFirst
import Derived.Test.YtegkhhegapnkpaaDoorKMSign
import Derived.Test.YtegkhhegapnkpaaDoorKJBox
import Derived.Test.YtegkhhegapnkpaaDoorKPlanE
import Derived.Test.YtegkhhegapnkpaaDoorKPlanG
import Derived.Test.YtegkhhegapnkpaaDoorKFPutB
section
open Go Go.RowKit
namespace FF
open WW BB MM
/-- a block of a size that is looked at -/
def SmallI (b : BlockD) : Prop := (parI b).size ≤ 1000 ∧ SmallS (sigsI b) ∧ SmallR b.2
theorem Keeps.grown {A : Nat → Prop} {w w' : World} {row : Option Nat} (h : w.grownBy w' row) (hA : ∀ b, row = some b → ¬ A b) : Keeps A w w' :=
  ⟨⟨h.os, h.tape, h.output, h.size, fun k hk => absurd hk (Nat.not_lt_zero k)⟩, fun c hb hl => h.block c hl fun e => hA c e.symm hb⟩
theorem Keeps.alloc {A : Nat → Prop} {w w' : World} (h : Keeps A w w') (o : Obj) : Keeps A w (w'.alloc o) := h.trans (Keeps.of ((Below.refl _ _).alloc (Nat.le_refl _) o))
theorem ba_full {b : ByteArray} (h : 0 < b.size) : b.toList.isEmpty = false := by
  cases hz : b.toList.isEmpty with
  | false => rfl
  | true =>
    rw [List.isEmpty_iff] at hz
    rw [CC.ba_toList (a := b) (b := ⟨#[]⟩) (hz.trans (by simp))] at h
    cases h
end FF
namespace Go.Proofs.YtegkhhegapnkpaaDoor
open FF JJ CC MM WW BB
/-- the code's forest in block g, all that it writes from block B on: it is F -/
structure CFs (B : Nat) (w : World) (g : Nat) (F : Fo) (rt : ByteArray) (mv ov : Value) (N O : List Iv) (C : Nat → Prop) : Prop where
  wf : WF F
  blk : TBlk 128 w g 4 (rowL [.string rt, .int .i64 F.height, mv, ov])
  root : (rt = ⟨#[]⟩ ∧ F.root = firstD) ∨ rt = F.root
  nodes : N.map Prod.fst = F.nodes
  orph : O.map Prod.fst = F.orph
  map : MapAt Tryd.prog 9 w mv (entF F N) F.nodes.length
  mB : ∀ b, mapBlk mv = some b → B ≤ b
  row : w.ownsRow B 131 7 ov O.length (cellsV O)
  inn : Dep C w (fun w' => ∀ x ∈ N ++ O, InnV w' x)
  gB : B ≤ g
  cB : ∀ b, C b → B ≤ b
  cg : ¬ C g
  cm : ∀ b, mapBlk mv = some b → ¬ C b
  co : ∀ b, ov.ownBlock = some b → ¬ C b
  cl : ∀ b, C b → b < w.heap.size
  small : ∀ x ∈ N ++ O, SmallI x.1.2
section
variable {B : Nat} {w w' : World} {g : Nat} {F : Fo} {rt : ByteArray} {mv ov : Value} {N O : List Iv} {C : Nat → Prop}
/-- the forest's own blocks -/
def MineB (g : Nat) (mv ov : Value) (C : Nat → Prop) (b : Nat) : Prop := b = g ∨ mapBlk mv = some b ∨ ov.ownBlock = some b ∨ C b
theorem CFs.keep (h : CFs B w g F rt mv ov N O C) (hk : Keeps (MineB g mv ov C) w w') : CFs B w' g F rt mv ov N O C :=
  ⟨h.wf, (hk.block g (Or.inl rfl) h.blk.lt).trans h.blk, h.root, h.nodes, h.orph, h.map.keep fun b hb => hk.block b (Or.inr (Or.inl hb)) (h.map.lt b hb), h.mB,
   row_keep h.row fun c hc => hk.block c (Or.inr (Or.inr (Or.inl hc))) (h.row.lt c hc).2, h.inn.on (hk.sub fun _ hb _ => Or.inr (Or.inr (Or.inr hb))), h.gB, h.cB, h.cg, h.cm, h.co, fun b hb => Nat.lt_of_lt_of_le (h.cl b hb) hk.b0.size, h.small⟩
theorem CFs.on (h : CFs B w g F rt mv ov N O C) (hb : Below w.heap.size w w') : CFs B w' g F rt mv ov N O C := h.keep (Keeps.of hb)
theorem CFs.ownB (h : CFs B w g F rt mv ov N O C) : ∀ b, MineB g mv ov C b → B ≤ b := by
  rintro b (rfl | hb | hb | hb)
  · exact h.gB
  · exact h.mB b hb
  · exact (h.row.lt b hb).1
  · exact h.cB b hb
theorem CFs.ownL (h : CFs B w g F rt mv ov N O C) : ∀ b, MineB g mv ov C b → b < w.heap.size := by
  rintro b (rfl | hb | hb | hb)
  · exact h.blk.lt
  · exact h.map.lt b hb
  · exact (h.row.lt b hb).2
  · exact h.cl b hb
theorem CFs.lenO (h : CFs B w g F rt mv ov N O C) : O.length = F.orph.length := by rw [← h.orph, List.length_map]
/-- the map's block is no struct's block -/
theorem CFs.gm (h : CFs B w g F rt mv ov N O C) : mapBlk mv ≠ some g := h.map.nomap h.blk
theorem CFs.go (h : CFs B w g F rt mv ov N O C) : ov.ownBlock ≠ some g := by
  intro e
  rcases h.row.2 with ⟨h1, _⟩ | ⟨q, cap, cur, h1, _, hh, _⟩
  · rw [h1] at e; cases e
  · rw [h1] at e
    obtain rfl : q = g := by simpa [Value.ownBlock] using e
    have := h.blk
    unfold TBlk at this
    rw [hh] at this
    injection this with this
    injection this with _ h2 _
    exact absurd h2 (by decide)
theorem CFs.mo (h : CFs B w g F rt mv ov N O C) : ∀ b, ov.ownBlock = some b → mapBlk mv ≠ some b := by
  intro b hb
  rcases h.row.2 with ⟨h1, _⟩ | ⟨q, cap, cur, h1, _, hh, _⟩
  · rw [h1] at hb; cases hb
  · rw [h1] at hb
    obtain rfl : q = b := by simpa [Value.ownBlock] using hb
    exact h.map.nomap hh
theorem CFs.c0 (h : CFs B w g F rt mv ov N O C) : w.cell? ⟨g, 0, none⟩ = some (.string rt) := h.blk.blk.get 0 (by omega)
theorem CFs.c1 (h : CFs B w g F rt mv ov N O C) : w.cell? ⟨g, 1, none⟩ = some (.int .i64 F.height) := h.blk.blk.get 1 (by omega)
theorem CFs.c2 (h : CFs B w g F rt mv ov N O C) : w.cell? ⟨g, 2, none⟩ = some mv := h.blk.blk.get 2 (by omega)
theorem CFs.c3 (h : CFs B w g F rt mv ov N O C) : w.cell? ⟨g, 3, none⟩ = some ov := h.blk.blk.get 3 (by omega)
theorem CFs.innN (h : CFs B w g F rt mv ov N O C) : ∀ x ∈ N ++ O, InnV w x := h.inn.now
theorem CFs.shapeM (h : CFs B w g F rt mv ov N O C) : ∃ p, mv = .map p := by
  rcases h.map with ⟨h, _⟩ | ⟨b, D, h, _⟩
  · exact ⟨_, h⟩
  · exact ⟨_, h⟩
theorem CFs.shapeO (h : CFs B w g F rt mv ov N O C) : ∃ a c, ov = .slice a O.length c := by
  rcases h.row.2 with ⟨h1, h2⟩ | ⟨q, cap, cur, h1, _⟩
  · exact ⟨none, 0, by rw [h1, h2]⟩
  · exact ⟨_, _, h1⟩
end
theorem tabs_keeps {A : Nat → Prop} {w w' : World} (h : Tabs w) (hk : Keeps A w w') (hA : ∀ b, NoTab b ∨ A b) : Tabs w' := by
  have t : ∀ b, ¬ NoTab b → b < w.heap.size → w'.heap[b]? = w.heap[b]? := fun b hb hl => hk.block b ((hA b).resolve_left hb) hl
  have e1 := t 0 (fun h => h.1 rfl) h.l1
  have e2 := t 1 (fun h => h.2.1 rfl) h.l2
  have e3 := t 2 (fun h => h.2.2 rfl) h.l3
  exact ⟨fun i hi => (World.cell?_of_block (w := w) (a := ⟨_, i, none⟩) e1).trans (h.iv i hi), fun i hi => (World.cell?_of_block (w := w) (a := ⟨_, i, none⟩) e2).trans (h.sg i hi), fun i hi => (World.cell?_of_block (w := w) (a := ⟨_, i, none⟩) e3).trans (h.pl i hi),
    Nat.lt_of_lt_of_le h.l1 hk.b0.size, Nat.lt_of_lt_of_le h.l2 hk.b0.size, Nat.lt_of_lt_of_le h.l3 hk.b0.size⟩
theorem zero_sv (w : World) : (zeroValue 135).run Tryd.prog w = .ok (encE zE) w := by kernel_rfl
/-- an entry, taken apart -/
theorem sv_parts (s : Sv) : ∃ v p j k a1 n1 c1 a2 n2 c2 t, s = ((v, p, j, k), (a1, n1, c1), (a2, n2, c2), t) := by
  obtain ⟨⟨v, p, j, k⟩, ⟨a1, n1, c1⟩, ⟨a2, n2, c2⟩, t⟩ := s
  exact ⟨v, p, j, k, a1, n1, c1, a2, n2, c2, t, rfl⟩
set_option maxRecDepth 100000 in
set_option maxHeartbeats 1000000 in
theorem gtop_any {B : Nat} {w : World} {g : Nat} {F : Fo} {rt : ByteArray} {mv ov : Value} {N O : List Iv} {C : Nat → Prop} (h : CFs B w g F rt mv ov N O C) (hT : Tabs w) :
    Calls Tryd.prog 85 #[.pointer (some ⟨g, 0, none⟩)] w fun e w' => e = .returned (.string F.root) ∧ Below w.heap.size w w' := by
  have c0 := h.c0
  have HT := Lib.hid hT
  rcases h.root with ⟨h1, h2⟩ | h1
  · rw [h2]
    have t1 : rt.toList.isEmpty = true := by rw [h1]; simp
    clear h hT h1 h2
    go_enter Tryd.func85, Tryd.ntmps85
    go_wp2_with fail
    refine (bfirst_any w HT.out).mono ?_
    rintro e w2 ⟨rfl, hb2⟩
    go_wp2_with fail
    go_ret
    exact ⟨rfl, hb2⟩
  · have t1 : rt.toList.isEmpty = false := ba_full (by rw [h1, h.wf.root32]; omega)
    rw [← h1]
    clear h hT h1
    go_enter Tryd.func85, Tryd.ntmps85
    go_wp2_with fail
    go_ret
    exact ⟨rfl, Below.refl _ _⟩
end Go.Proofs.YtegkhhegapnkpaaDoor
end
section
open Go Go.RowKit
namespace FF
theorem has_eq (F : Fo) (h : ByteArray) : hasF F h = (decide (0 ≤ atI F.nodes h) || decide (h = F.root)) := by unfold hasF; rw [Bool.or_comm]
end FF
namespace Go.Proofs.YtegkhhegapnkpaaDoor
open FF JJ CC MM WW BB
set_option maxRecDepth 100000 in
set_option maxHeartbeats 4000000 in
theorem ghas_any {B : Nat} {w : World} {g : Nat} {F : Fo} {rt : ByteArray} {mv ov : Value} {N O : List Iv} {C : Nat → Prop} (hC : CFs B w g F rt mv ov N O C) (hT : Tabs w) (h : ByteArray) (hs : h.size ≤ 1000000) :
    Calls Tryd.prog 25 #[.pointer (some ⟨g, 0, none⟩), .string h] w fun e w' => e = .returned (.bool (hasF F h)) ∧ Below w.heap.size w w' := by
  have HC := Lib.hid hC
  have HT := Lib.hid hT
  have HS := Lib.hid (show h.size ≤ maxLen by unfold maxLen; omega)
  have c2 := hC.c2
  obtain ⟨mp, rfl⟩ := hC.shapeM
  obtain ⟨v, p, j, k, a1, n1, k1, a2, n2, k2, t, hx⟩ := sv_parts ((entF F N h).getD zE)
  have HX := Lib.hid hx
  obtain ⟨bb, hb⟩ : ∃ bb, (entF F N h).isSome = bb := ⟨_, rfl⟩
  have HB := Lib.hid hb
  have HMA := Lib.hid hC.map
  have HE := Lib.hid (ent_some hC.nodes h)
  have b1 := Lib.hid ((Below.refl w.heap.size w).alloc (Nat.le_refl _) (.cells #[.int .i64 v, .int .i64 p, .int .i64 j, .string k, .slice a1 n1 k1, .slice a2 n2 k2, .int .i64 t] 135))
  clear hC hT hs hx hb
  go_enter Tryd.func25, Tryd.ntmps25
  cases bb
  · go_wp2_with (at_lookup; refine wpl_look_ok _ _ h v p j k a1 n1 k1 a2 n2 k2 t false HX.out HB.out rfl rfl (by kernel_rfl) (by kernel_rfl) zero_sv HMA.out rfl rfl HS.out ?_)
    refine (gtop_any (HC.out.on b1.out) (tabs_on HT.out b1.out)).mono ?_
    rintro e w2 ⟨rfl, hb2⟩
    have B2 := Lib.hid (b1.out.trans (hb2.mono b1.out.size))
    clear hb2
    by_cases he : h = F.root
    · have t1 : (h.toList == F.root.toList) = true := by rw [he]; simp
      have HH := Lib.hid he
      clear he
      go_wp2_with fail
      go_ret
      refine ⟨?_, B2.out⟩
      rw [has_eq, ← HE.out, HB.out, HH.out]; simp
    · have t1 := ba_beq he
      have HH := Lib.hid he
      clear he
      go_wp2_with fail
      go_ret
      refine ⟨?_, B2.out⟩
      rw [has_eq, ← HE.out, HB.out, decide_eq_false HH.out]; rfl
  · go_wp2_with (at_lookup; refine wpl_look_ok _ _ h v p j k a1 n1 k1 a2 n2 k2 t true HX.out HB.out rfl rfl (by kernel_rfl) (by kernel_rfl) zero_sv HMA.out rfl rfl HS.out ?_)
    go_ret
    refine ⟨?_, b1.out⟩
    rw [has_eq, ← HE.out, HB.out]; rfl
theorem ghas_is {B : Nat} {w : World} {g : Nat} {F : Fo} {rt : ByteArray} {mv ov : Value} {N O : List Iv} {C : Nat → Prop} (hC : CFs B w g F rt mv ov N O C) (hT : Tabs w) (h : ByteArray) (b : Bool) (hb : hasF F h = b) (hs : h.size ≤ 1000000) :
    Calls Tryd.prog 25 #[.pointer (some ⟨g, 0, none⟩), .string h] w fun e w' => e = .returned (.bool b) ∧ Below w.heap.size w w' := hb ▸ ghas_any hC hT h hs
set_option maxRecDepth 100000 in
set_option maxHeartbeats 4000000 in
theorem gheight_any {B : Nat} {w : World} {g : Nat} {F : Fo} {rt : ByteArray} {mv ov : Value} {N O : List Iv} {C : Nat → Prop} (hC : CFs B w g F rt mv ov N O C) (hT : Tabs w) (h : ByteArray) (hs : h.size ≤ 1000000) :
    Calls Tryd.prog 37 #[.pointer (some ⟨g, 0, none⟩), .string h] w fun e w' => e = .returned (.int .i64 (heightF F h)) ∧ Below w.heap.size w w' := by
  have HC := Lib.hid hC
  have HT := Lib.hid hT
  have HS := Lib.hid (show h.size ≤ maxLen by unfold maxLen; omega)
  have c2 := hC.c2
  obtain ⟨mp, rfl⟩ := hC.shapeM
  obtain ⟨v, p, j, k, a1, n1, k1, a2, n2, k2, t, hx⟩ := sv_parts ((entF F N h).getD zE)
  have HX := Lib.hid hx
  obtain ⟨bb, hb⟩ : ∃ bb, (entF F N h).isSome = bb := ⟨_, rfl⟩
  have HB := Lib.hid hb
  have HMA := Lib.hid hC.map
  have HE := Lib.hid (ent_some hC.nodes h)
  have b1 := Lib.hid ((Below.refl w.heap.size w).alloc (Nat.le_refl _) (.cells #[.int .i64 v, .int .i64 p, .int .i64 j, .string k, .slice a1 n1 k1, .slice a2 n2 k2, .int .i64 t] 135))
  clear hC hT hs hx hb
  go_enter Tryd.func37, Tryd.ntmps37
  cases bb
  · go_wp2_with (at_lookup; refine wpl_look_ok _ _ h v p j k a1 n1 k1 a2 n2 k2 t false HX.out HB.out rfl rfl (by kernel_rfl) (by kernel_rfl) zero_sv HMA.out rfl rfl HS.out ?_)
    refine (gtop_any (HC.out.on b1.out) (tabs_on HT.out b1.out)).mono ?_
    rintro e w2 ⟨rfl, hb2⟩
    have B2 := Lib.hid (b1.out.trans (hb2.mono b1.out.size))
    have c1 := ((HC.out.on b1.out).on hb2).c1
    clear hb2
    by_cases he : h = F.root
    · have t1 : (h.toList == F.root.toList) = true := by rw [he]; simp
      have HH := Lib.hid he
      clear he
      go_wp2_with fail
      go_ret
      refine ⟨?_, B2.out⟩
      rw [HH.out, height_root HC.out.wf]
      rfl
    · have t1 := ba_beq he
      have HH := Lib.hid he
      clear he
      go_wp2_with fail
      go_ret
      refine ⟨?_, B2.out⟩
      rw [height_not (by rw [has_eq, ← HE.out, HB.out, decide_eq_false HH.out]; rfl)]
      rfl
  · go_wp2_with (at_lookup; refine wpl_look_ok _ _ h v p j k a1 n1 k1 a2 n2 k2 t true HX.out HB.out rfl rfl (by kernel_rfl) (by kernel_rfl) zero_sv HMA.out rfl rfl HS.out ?_)
    go_ret
    refine ⟨?_, b1.out⟩
    obtain ⟨s, hs⟩ := Option.isSome_iff_exists.1 HB.out
    obtain ⟨x, _, _, hm⟩ := ent_of hs
    have := HX.out
    rw [hs, hm] at this
    rw [show heightF F h = t from congrArg (fun s : Sv => s.2.2.2) this]
    rfl
theorem gheight_get {B : Nat} {w : World} {g : Nat} {F : Fo} {rt : ByteArray} {mv ov : Value} {N O : List Iv} {C : Nat → Prop} (hC : CFs B w g F rt mv ov N O C) (hT : Tabs w) (h : ByteArray) (x : Int) (hx : heightF F h = x) (hs : h.size ≤ 1000000) :
    Calls Tryd.prog 37 #[.pointer (some ⟨g, 0, none⟩), .string h] w fun e w' => e = .returned (.int .i64 x) ∧ Below w.heap.size w w' := hx ▸ gheight_any hC hT h hs
set_option maxRecDepth 100000 in
set_option maxHeartbeats 4000000 in
theorem glen_any {B : Nat} {w : World} {g : Nat} {F : Fo} {rt : ByteArray} {mv ov : Value} {N O : List Iv} {C : Nat → Prop} (hC : CFs B w g F rt mv ov N O C) :
    Calls Tryd.prog 23 #[.pointer (some ⟨g, 0, none⟩)] w fun e w' => e = .returned (.int .i64 (F.nodes.length : Int)) ∧ w' = w := by
  have c2 := hC.c2
  obtain ⟨mp, rfl⟩ := hC.shapeM
  have HMA := Lib.hid hC.map
  clear hC
  go_enter Tryd.func23, Tryd.ntmps23
  go_wp2_with (at_len; refine wpl_len (t := 125) (e := 135) _ rfl rfl (by kernel_rfl) HMA.out rfl ?_)
  go_ret
  exact ⟨rfl, rfl⟩
set_option maxRecDepth 100000 in
set_option maxHeartbeats 4000000 in
theorem gfull_any {B : Nat} {w : World} {g : Nat} {F : Fo} {rt : ByteArray} {mv ov : Value} {N O : List Iv} {C : Nat → Prop} (hC : CFs B w g F rt mv ov N O C) (b : Bool) :
    Calls Tryd.prog 129 #[.pointer (some ⟨g, 0, none⟩), .bool b] w fun e w' => e = .returned (.bool (if b then decide (400 ≤ F.nodes.length) else decide (8 ≤ F.orph.length))) ∧ w' = w := by
  have c2 := hC.c2
  have c3 := hC.c3
  obtain ⟨mp, rfl⟩ := hC.shapeM
  obtain ⟨oa, oc, rfl⟩ := hC.shapeO
  have HMA := Lib.hid hC.map
  have HLO := Lib.hid hC.lenO
  clear hC
  go_enter Tryd.func129, Tryd.ntmps129
  cases b
  · go_wp2_with fail
    go_ret
    refine ⟨?_, rfl⟩
    have e : (8 ≤ (O.length : Int)) ↔ 8 ≤ F.orph.length := by have := HLO.out; omega
    simp [e]
  · go_wp2_with (at_len; refine wpl_len (t := 125) (e := 135) _ rfl rfl (by kernel_rfl) HMA.out rfl ?_)
    go_ret
    refine ⟨?_, rfl⟩
    have e : (400 ≤ (F.nodes.length : Int)) ↔ 400 ≤ F.nodes.length := by omega
    simp [e]
theorem gfull_is {B : Nat} {w : World} {g : Nat} {F : Fo} {rt : ByteArray} {mv ov : Value} {N O : List Iv} {C : Nat → Prop} (hC : CFs B w g F rt mv ov N O C) (b X : Bool) (hX : cond b (decide (400 ≤ F.nodes.length)) (decide (8 ≤ F.orph.length)) = X) :
    Calls Tryd.prog 129 #[.pointer (some ⟨g, 0, none⟩), .bool b] w fun e w' => e = .returned (.bool X) ∧ w' = w := by
  have h := gfull_any hC b
  rw [show (if b = true then decide (400 ≤ F.nodes.length) else decide (8 ≤ F.orph.length)) = X by rw [← hX]; cases b <;> rfl] at h
  exact h
end Go.Proofs.YtegkhhegapnkpaaDoor
end
section
open Go Go.RowKit
namespace FF
open WW BB
/-- where the first one is; -1 -/
def idxI {α : Type} (l : List α) (p : α → Bool) : Int :=
  match l.findIdx? p with
  | some i => (i : Int)
  | none => -1
theorem idx_hit {α : Type} {l : List α} {p : α → Bool} (i : Nat) (hi : i < l.length) (hn : ∀ j (hj : j < i), p (l[j]'(by omega)) = false) (he : p l[i] = true) : idxI l p = (i : Int) := by
  unfold idxI
  rw [List.findIdx?_eq_some_iff_getElem.2 ⟨hi, he, fun j hj => by simpa using hn j hj⟩]
theorem idx_none {α : Type} {l : List α} {p : α → Bool} (hn : ∀ j (hj : j < l.length), p l[j] = false) : idxI l p = -1 := by
  unfold idxI
  rw [List.findIdx?_eq_none_iff.2 fun x hx => ?_]
  obtain ⟨j, hj, rfl⟩ := List.getElem_of_mem hx
  exact hn j hj
theorem idx_any {α : Type} (l : List α) (p : α → Bool) : decide (0 ≤ idxI l p) = l.any p := by
  unfold idxI
  cases h : l.findIdx? p with
  | none =>
    have := List.findIdx?_eq_none_iff.1 h
    symm
    simp only [List.any_eq_false, show decide ((0 : Int) ≤ -1) = false from rfl]
    exact fun x hx => by simp [this x hx]
  | some i =>
    obtain ⟨h1, h2, _⟩ := List.findIdx?_eq_some_iff_getElem.1 h
    symm
    rw [show decide ((0 : Int) ≤ (i : Int)) = true by simp, List.any_eq_true]
    exact ⟨_, List.getElem_mem h1, h2⟩
theorem idx_map {α β : Type} (l : List α) (f : α → β) (p : β → Bool) : idxI (l.map f) p = idxI l (fun x => p (f x)) := by
  unfold idxI; rw [List.findIdx?_map]; rfl
theorem idx_at (l : List It) (h : ByteArray) : idxI l (fun x => decide (x.1 = h)) = atI l h := rfl
end FF
namespace Go.Proofs.YtegkhhegapnkpaaDoor
open FF JJ CC MM WW BB
set_option maxRecDepth 100000 in
set_option maxHeartbeats 4000000 in
theorem gsidx_any (l : List ByteArray) (v : Value) (x : ByteArray) (w : World) (hv : StrsAt w v l) (hl : l.length ≤ 1000) :
    Calls Tryd.prog 134 #[v, .string x] w fun e w' => e = .returned (.int .i64 (idxI l (fun y => decide (y = x)))) ∧ w' = w := by
  have HL := Lib.hid hl
  obtain ⟨a0, cap, rfl, hx⟩ := hv
  have HX := Lib.hid hx
  obtain ⟨X, hX⟩ : ∃ X, idxI l (fun y => decide (y = x)) = X := ⟨_, rfl⟩
  have HTX := Lib.hid hX
  rw [hX]
  clear hl hx hX
  go_enter Tryd.func134, Tryd.ntmps134
  go_wp2_with fail
  go_loopw [8] (fun y wr => ∃ i : Nat, i ≤ l.length ∧ y = .int .i64 (i : Int) ∧ (∀ j, j < i → l.getD j ⟨#[]⟩ ≠ x) ∧ w = wr) (fun y _ => l.length - (intOf y).toNat)
  case atStart => exact ⟨0, Nat.zero_le _, rfl, fun j hj => absurd hj (Nat.not_lt_zero _), rfl⟩
  case round =>
    obtain ⟨i, hi, rfl, hall, rfl⟩ := hrel
    have HALL := Lib.hid hall
    have i0 : (0 : Int) ≤ (i : Int) := by omega
    have ib : (i : Int) ≤ 1000 := by have := HL.out; omega
    clear hall
    by_cases hlt : i < l.length
    · have hlt' : (i : Int) < (l.length : Int) := by omega
      have HLT := Lib.hid hlt
      obtain ⟨b, off, rfl, hbw, hcell⟩ : ∃ b off, a0 = some ⟨b, off, none⟩ ∧ b < w.heap.size ∧ _ := by
        rcases HX.out with h | h
        · subst h; simp at hlt
        · exact h
      have q0 := hcell i hlt
      obtain ⟨y, hy⟩ : ∃ y, l.getD i ⟨#[]⟩ = y := ⟨_, rfl⟩
      have HY := Lib.hid hy
      rw [hy] at q0
      clear hi hlt hbw hcell hy
      by_cases he : y = x
      · subst he
        have t1 : (y.toList == y.toList) = true := by simp
        go_wp2_with fail
        go_ret
        refine ⟨?_, rfl⟩
        rw [← HTX.out, idx_hit i HLT.out (fun j hj => by rw [← getD_at (d := ⟨#[]⟩)]; exact decide_eq_false (HALL.out j hj)) (by rw [← getD_at (d := ⟨#[]⟩) HLT.out]; exact decide_eq_true HY.out)]
        rfl
      · have t1 := ba_beq (fun e => he e.symm)
        have HE := Lib.hid he
        clear he
        go_wp2_with fail
        go_roundw
        case rel => exact ⟨i + 1, by have := HLT.out; omega, by go_num, fun j hj => if h : j = i then by subst h; rw [HY.out]; exact HE.out else HALL.out j (by omega), trivial⟩
        case measure => have := HLT.out; simp [intOf]; omega
    · obtain rfl : i = l.length := by omega
      have hlt' : ¬ (l.length : Int) < (l.length : Int) := by omega
      clear hi hlt
      go_wp2_with fail
      go_ret
      refine ⟨?_, rfl⟩
      rw [← HTX.out, idx_none (fun j hj => by rw [← getD_at (d := ⟨#[]⟩)]; exact decide_eq_false (HALL.out j hj))]
      rfl
set_option maxRecDepth 100000 in
set_option maxHeartbeats 4000000 in
theorem gshas_any (l : List ByteArray) (v : Value) (x : ByteArray) (b : Bool) (hb : l.any (fun y => decide (y = x)) = b) (w : World) (hv : StrsAt w v l) (hl : l.length ≤ 1000) :
    Calls Tryd.prog 84 #[v, .string x] w fun e w' => e = .returned (.bool b) ∧ w' = w := by
  have HV := Lib.hid hv
  have HL := Lib.hid hl
  have HB := Lib.hid hb
  obtain ⟨a0, cap, rfl, _⟩ := hv
  clear hl hb
  go_enter Tryd.func84, Tryd.ntmps84
  go_wp2_with fail
  refine (gsidx_any l _ x w HV.out HL.out).mono ?_
  rintro e w2 ⟨rfl, rfl⟩
  go_wp2_with fail
  go_ret
  refine ⟨?_, rfl⟩
  rw [← HB.out, ← idx_any]
  rfl
set_option maxRecDepth 100000 in
set_option maxHeartbeats 4000000 in
theorem gifun_any (O : List Iv) (v : Value) (kv : Nat) (ev : Array Value) (p : Iv → Bool) (w : World) (hv : IvAt w v O) (hl : O.length ≤ 1000)
    (hp : ∀ i (_ : i < O.length) (wr : World), Below w.heap.size w wr → CallsV Tryd.prog (.func (.func kv) #[] ev) #[.agg (encV (O.getD i v0)).toArray] wr fun e w' => e = .returned (.bool (p (O.getD i v0))) ∧ Below wr.heap.size wr w') :
    Calls Tryd.prog 131 #[v, .func (.func kv) #[] ev] w fun e w' => e = .returned (.int .i64 (idxI O p)) ∧ Below w.heap.size w w' := by
  have HV := Lib.hid hv
  have HL := Lib.hid hl
  have HP := Lib.hid hp
  obtain ⟨a0, cap, rfl, hx⟩ := hv
  have HX := Lib.hid hx
  obtain ⟨X, hX⟩ : ∃ X, idxI O p = X := ⟨_, rfl⟩
  have HTX := Lib.hid hX
  rw [hX]
  clear hl hx hX hp
  go_enter Tryd.func131, Tryd.ntmps131
  go_wp2_with fail
  go_loopw [8] (fun y wr => ∃ i : Nat, i ≤ O.length ∧ y = .int .i64 (i : Int) ∧ (∀ j, j < i → p (O.getD j v0) = false) ∧ Below w.heap.size w wr) (fun y _ => O.length - (intOf y).toNat)
  case atStart => exact ⟨0, Nat.zero_le _, rfl, fun j hj => absurd hj (Nat.not_lt_zero _), Below.refl _ _⟩
  case round =>
    obtain ⟨i, hi, rfl, hall, hbr⟩ := hrel
    have HALL := Lib.hid hall
    have HBR := Lib.hid hbr
    have i0 : (0 : Int) ≤ (i : Int) := by omega
    have ib : (i : Int) ≤ 1000 := by have := HL.out; omega
    clear hall
    by_cases hlt : i < O.length
    · have hlt' : (i : Int) < (O.length : Int) := by omega
      have HLT := Lib.hid hlt
      obtain ⟨b, off, rfl, hbw, hcell⟩ : ∃ b off, a0 = some ⟨b, off, none⟩ ∧ b < w.heap.size ∧ _ := by
        rcases HX.out with h | h
        · subst h; simp at hlt
        · exact h
      obtain ⟨q0, q1, q2, q3, q4, q5, q6⟩ := iv_cells hbr hbw hcell i hlt
      have HI := Lib.hid ((hcell i hlt).2)
      obtain ⟨y, hy⟩ : ∃ y, O.getD i v0 = y := ⟨_, rfl⟩
      have HY := Lib.hid hy
      have HQ := Lib.hid (HP.out i hlt)
      rw [hy] at q0 q1 q2 q3 q4 q5 q6 HI HQ
      obtain ⟨⟨dg, bd⟩, s5, s6⟩ := y
      obtain ⟨e5, n5, h5⟩ := sl_of_sigs HI.out.1
      obtain ⟨e6, n6, h6⟩ := sl_of_reqs HI.out.2
      replace h5 : s5 = .slice e5 (sigsI bd).length n5 := h5
      replace h6 : s6 = .slice e6 bd.2.length n6 := h6
      subst h5 h6
      clear hi hlt hbw hcell hy hbr
      go_wp2_with (with_reducible refine hold_callv rfl rfl ?_)
      refine wpl_callv (v := .func (.func kv) #[] ev) (args := #[.agg (encV ((dg, bd), .slice e5 (sigsI bd).length n5, .slice e6 bd.2.length n6)).toArray]) _ rfl rfl rfl (by simp [Act.eval]; rfl) (HQ.out wr HBR.out) (fun e w' h => ⟨_, h.1⟩) ?_
      rintro u w3 ⟨hu, hb3⟩
      injection hu with hu
      subst hu
      have HB3 := Lib.hid (HBR.out.trans (hb3.mono HBR.out.size))
      clear hb3 HQ
      rcases hpp : p ((dg, bd), .slice e5 (sigsI bd).length n5, .slice e6 bd.2.length n6) with _ | _
      · have HPP := Lib.hid hpp
        clear hpp
        go_wp2_with fail
        go_roundw
        case rel => exact ⟨i + 1, by have := HLT.out; omega, by go_num, fun j hj => if h : j = i then by subst h; rw [HY.out]; exact HPP.out else HALL.out j (by omega), HB3.out⟩
        case measure => have := HLT.out; simp [intOf]; omega
      · have HPP := Lib.hid hpp
        clear hpp
        go_wp2_with fail
        go_ret
        refine ⟨?_, HB3.out⟩
        rw [← HTX.out, idx_hit i HLT.out (fun j hj => by rw [← getD_at (d := v0)]; exact HALL.out j hj) (by rw [← getD_at (d := v0) HLT.out, HY.out]; exact HPP.out)]
        rfl
    · obtain rfl : i = O.length := by omega
      have hlt' : ¬ (O.length : Int) < (O.length : Int) := by omega
      clear hi hlt
      go_wp2_with fail
      go_ret
      refine ⟨?_, HBR.out⟩
      rw [← HTX.out, idx_none (fun j hj => by rw [← getD_at (d := v0)]; exact HALL.out j hj)]
      rfl
end Go.Proofs.YtegkhhegapnkpaaDoor
end
section
open Go Go.RowKit
namespace FF
open WW BB
theorem iv_of_row {B : Nat} {e : TypeId} {w : World} {v : Value} {L : List Iv} (h : w.ownsRow B e 7 v L.length (cellsV L)) (hi : ∀ x ∈ L, InnV w x) : IvAt w v L := iv_of_own h hi
theorem box7 (w : World) (x : Iv) (t : TypeId) : ∀ j u, (encV x)[j]? = some u → (w.alloc (.cells (encV x).toArray t)).cell? ⟨w.heap.size, j, none⟩ = some u := fun j u h => cell_new w _ t j u (by simpa using h)
end FF
namespace Go.Proofs.YtegkhhegapnkpaaDoor
open FF JJ CC MM WW BB
section
variable {B : Nat} {w w' : World} {g : Nat} {F : Fo} {rt : ByteArray} {mv ov : Value} {N O : List Iv} {C : Nat → Prop}
theorem CFs.ivO (h : CFs B w g F rt mv ov N O C) : IvAt w ov O := iv_of_row h.row fun x hx => h.innN x (List.mem_append_right _ hx)
theorem CFs.o8 (h : CFs B w g F rt mv ov N O C) : O.length ≤ 8 := by rw [h.lenO]; exact h.wf.o8
end
theorem own_waits : Own Tryd.prog 127 := ⟨_, Tryd.func127, by kernel_rfl, by kernel_rfl⟩
theorem own_adopt : Own Tryd.prog 132 := ⟨_, Tryd.func132, by kernel_rfl, by kernel_rfl⟩
set_option maxRecDepth 100000 in
set_option maxHeartbeats 4000000 in
theorem waits1_any (d : ByteArray) (v p j : Int) (k : ByteArray) (a1 : Option Addr) (n1 k1 : Nat) (a2 : Option Addr) (n2 k2 : Nat) (q : Nat) (h : ByteArray) (w : World) (hc : w.cell? ⟨q, 0, none⟩ = some (.string h)) (hq : q < w.heap.size) :
    Calls Tryd.prog 127 #[.agg #[.string d, .int .i64 v, .int .i64 p, .int .i64 j, .string k, .slice a1 n1 k1, .slice a2 n2 k2], .pointer (some ⟨q, 0, none⟩)] w fun e w' => e = .returned (.bool (decide (d = h))) ∧ Below w.heap.size w w' := by
  have b1 := Lib.hid ((Below.refl w.heap.size w).alloc (Nat.le_refl _) (.cells #[.string d, .int .i64 v, .int .i64 p, .int .i64 j, .string k, .slice a1 n1 k1, .slice a2 n2 k2] 131))
  have c1 : (w.alloc (.cells #[.string d, .int .i64 v, .int .i64 p, .int .i64 j, .string k, .slice a1 n1 k1, .slice a2 n2 k2] 131)).cell? ⟨q, 0, none⟩ = some (.string h) := (b1.out.cell (p := ⟨q, 0, none⟩) hq).trans hc
  clear hc
  go_enter Tryd.func127, Tryd.ntmps127
  by_cases he : d = h
  · have t1 : (d.toList == h.toList) = true := by rw [he]; simp
    have HE := Lib.hid he
    clear he
    go_wp2_with fail
    go_ret
    refine ⟨?_, b1.out⟩
    rw [decide_eq_true HE.out]; rfl
  · have t1 := ba_beq he
    have HE := Lib.hid he
    clear he
    go_wp2_with fail
    go_ret
    refine ⟨?_, b1.out⟩
    rw [decide_eq_false HE.out]; rfl
set_option maxRecDepth 100000 in
set_option maxHeartbeats 4000000 in
theorem gcfun_any (O : List Iv) (v : Value) (kv : Nat) (ev : Array Value) (p : Iv → Bool) (b : Bool) (hb : O.any p = b) (w : World) (hv : IvAt w v O) (hl : O.length ≤ 1000)
    (hp : ∀ i (_ : i < O.length) (wr : World), Below w.heap.size w wr → CallsV Tryd.prog (.func (.func kv) #[] ev) #[.agg (encV (O.getD i v0)).toArray] wr fun e w' => e = .returned (.bool (p (O.getD i v0))) ∧ Below wr.heap.size wr w') :
    Calls Tryd.prog 126 #[v, .func (.func kv) #[] ev] w fun e w' => e = .returned (.bool b) ∧ Below w.heap.size w w' := by
  have HV := Lib.hid hv
  have HL := Lib.hid hl
  have HP := Lib.hid hp
  have HB := Lib.hid hb
  obtain ⟨a0, cap, rfl, _⟩ := hv
  clear hl hb hp
  go_enter Tryd.func126, Tryd.ntmps126
  go_wp2_with fail
  refine (gifun_any O _ kv ev p w HV.out HL.out HP.out).mono ?_
  rintro e w2 ⟨rfl, hb2⟩
  go_wp2_with fail
  go_ret
  refine ⟨?_, hb2⟩
  rw [← HB.out, ← idx_any]; rfl
set_option maxRecDepth 100000 in
set_option maxHeartbeats 4000000 in
theorem gwaits_any {B : Nat} {w : World} {g : Nat} {F : Fo} {rt : ByteArray} {mv ov : Value} {N O : List Iv} {C : Nat → Prop} (hC : CFs B w g F rt mv ov N O C) (h : ByteArray) (b : Bool) (hb : decide (0 ≤ atI F.orph h) = b) :
    Calls Tryd.prog 78 #[.pointer (some ⟨g, 0, none⟩), .string h] w fun e w' => e = .returned (.bool b) ∧ Below w.heap.size w w' := by
  have b1 := Lib.hid ((Below.refl w.heap.size w).alloc (Nat.le_refl _) (.cells #[.string h] 9))
  have q1 := Lib.hid (cell_new w #[.string h] 9 0 _ rfl)
  have HC1 := Lib.hid (hC.on b1.out)
  have hZ := Lib.hid (show w.heap.size < (w.alloc (.cells #[.string h] 9)).heap.size by simp)
  have c3 := HC1.out.c3
  have HB := Lib.hid (show O.any (fun x => decide (x.1.1 = h)) = b by
    rw [← hb, ← idx_any, ← idx_at, ← hC.orph, idx_map])
  obtain ⟨oa, oc, rfl⟩ := hC.shapeO
  clear hC hb
  go_enter Tryd.func78, Tryd.ntmps78
  go_wp2_with fail
  refine (gcfun_any O _ 127 #[.pointer (some ⟨w.heap.size, 0, none⟩)] (fun x => decide (x.1.1 = h)) b HB.out _ HC1.out.ivO (by have := HC1.out.o8; omega) (fun i hi wr hbr => ?_)).mono ?_
  · obtain ⟨s1, s2⟩ : isSl (O.getD i v0).2.1 ∧ isSl (O.getD i v0).2.2 := by
      have hin := HC1.out.innN (O.getD i v0) (List.mem_append_right _ (by rw [getD_at hi]; exact List.getElem_mem hi))
      obtain ⟨x1, x2, x3⟩ := sl_of_sigs hin.1
      obtain ⟨y1, y2, y3⟩ := sl_of_reqs hin.2
      exact ⟨⟨_, _, _, x3⟩, ⟨_, _, _, y3⟩⟩
    obtain ⟨y, hy⟩ : ∃ y, O.getD i v0 = y := ⟨_, rfl⟩
    rw [hy] at s1 s2 ⊢
    obtain ⟨⟨d, bd⟩, e1, e2⟩ := y
    obtain ⟨x1, x2, x3, rfl⟩ : isSl e1 := s1
    obtain ⟨y1, y2, y3, rfl⟩ : isSl e2 := s2
    exact ⟨_, _, rfl, own_waits, waits1_any d _ _ _ _ x1 x2 x3 y1 y2 y3 w.heap.size h wr ((hbr.cell (p := ⟨w.heap.size, 0, none⟩) hZ.out).trans q1.out) (Nat.lt_of_lt_of_le hZ.out hbr.size)⟩
  · rintro e w2 ⟨rfl, hb2⟩
    go_wp2_with fail
    go_ret
    exact ⟨rfl, b1.out.trans (hb2.mono b1.out.size)⟩
end Go.Proofs.YtegkhhegapnkpaaDoor
end
section
open Go Go.RowKit
namespace Go.Proofs.YtegkhhegapnkpaaDoor
open FF JJ CC MM WW BB
set_option maxRecDepth 100000 in
set_option maxHeartbeats 4000000 in
theorem adopt1_any {B : Nat} {w : World} {g : Nat} {F : Fo} {rt : ByteArray} {mv ov : Value} {N O : List Iv} {C : Nat → Prop} (hC : CFs B w g F rt mv ov N O C) (hT : Tabs w) (d : ByteArray) (v p j : Int) (k : ByteArray) (hk : k.size ≤ 1000000) (a1 : Option Addr) (n1 k1 : Nat) (a2 : Option Addr) (n2 k2 : Nat) (q : Nat)
    (hc : w.cell? ⟨q, 0, none⟩ = some (.pointer (some ⟨g, 0, none⟩))) (hq : q < w.heap.size) :
    Calls Tryd.prog 132 #[.agg #[.string d, .int .i64 v, .int .i64 p, .int .i64 j, .string k, .slice a1 n1 k1, .slice a2 n2 k2], .pointer (some ⟨q, 0, none⟩)] w fun e w' => e = .returned (.bool (hasF F k)) ∧ Below w.heap.size w w' := by
  obtain ⟨X, hX⟩ : ∃ X, hasF F k = X := ⟨_, rfl⟩
  have HX := Lib.hid hX
  rw [hX]
  have b1 := Lib.hid ((Below.refl w.heap.size w).alloc (Nat.le_refl _) (.cells #[.string d, .int .i64 v, .int .i64 p, .int .i64 j, .string k, .slice a1 n1 k1, .slice a2 n2 k2] 131))
  have hz : (w.alloc (.cells #[.string d, .int .i64 v, .int .i64 p, .int .i64 j, .string k, .slice a1 n1 k1, .slice a2 n2 k2] 131)).heap.size = w.heap.size + 1 := by simp
  have HL := Lib.hid (box7 w ((d, (((v, p), ((j, k), [])), [])), .slice a1 n1 k1, .slice a2 n2 k2) 131)
  have hK := Lib.hid hk
  have HC := Lib.hid hC
  have HT := Lib.hid hT
  have HQ := Lib.hid hq
  have HCC := Lib.hid hc
  clear hC hT hk hq hX hc
  go_enter Tryd.func132, Tryd.ntmps132
  go_wp2_with fail
  obtain ⟨y, hy⟩ : ∃ y, w.heap.size = y := ⟨_, rfl⟩
  obtain ⟨w1, hw1⟩ : ∃ w1, w.alloc (.cells #[.string d, .int .i64 v, .int .i64 p, .int .i64 j, .string k, .slice a1 n1 k1, .slice a2 n2 k2] 131) = w1 := ⟨_, rfl⟩
  replace HL : Hid (∀ j' u, (encV ((d, (((v, p), ((j, k), [])), [])), .slice a1 n1 k1, .slice a2 n2 k2))[j']? = some u → w1.cell? ⟨w.heap.size, j', none⟩ = some u) := by rw [← hw1]; exact HL
  rw [hw1] at b1 hz ⊢
  rw [hy] at HL hz ⊢
  have HY := Lib.hid hy
  have HZ := Lib.hid hz
  clear hw1 hy hz
  have HS := Lib.hid (fun (wx : World) (hb : Below w1.heap.size w1 wx) => show wx.cell? ⟨y, 0, none⟩ = some (.string d) ∧ wx.cell? ⟨y, 1, none⟩ = some (.int .i64 v) ∧ wx.cell? ⟨y, 2, none⟩ = some (.int .i64 p) ∧ wx.cell? ⟨y, 3, none⟩ = some (.int .i64 j) ∧ wx.cell? ⟨y, 4, none⟩ = some (.string k) ∧ wx.cell? ⟨y, 5, none⟩ = some (.slice a1 n1 k1) ∧ wx.cell? ⟨y, 6, none⟩ = some (.slice a2 n2 k2) ∧ wx.cell? ⟨q, 0, none⟩ = some (.pointer (some ⟨g, 0, none⟩)) from by
    have hl : y < w1.heap.size := by rw [HZ.out]; omega
    have k : ∀ i u, (encV ((d, (((v, p), ((j, k), [])), [])), .slice a1 n1 k1, .slice a2 n2 k2))[i]? = some u → wx.cell? ⟨y, i, none⟩ = some u := fun i u hu => (hb.cell (p := ⟨y, i, none⟩) hl).trans (HL.out i u hu)
    refine ⟨k 0 _ rfl, k 1 _ rfl, k 2 _ rfl, k 3 _ rfl, k 4 _ rfl, k 5 _ rfl, k 6 _ rfl, ?_⟩
    exact ((b1.out.trans (hb.mono b1.out.size)).cell (p := ⟨q, 0, none⟩) HQ.out).trans HCC.out)
  refine plan_abs (fun wx => Below w1.heap.size w1 wx) [(true, 0), (true, 1), (true, 2), (false, 3), (false, 4), (true, 5)] (by kernel_rfl) (by kernel_rfl) (fun _ _ d _ _ h => by cases d <;> exact h) fun w5 hs5 => ⟨hs5.below _, ?_⟩
  have X5 := Lib.hid (show Below w1.heap.size w1 w5 from hs5.below _)
  clear hs5
  iterate 3 (refine pl_run _ ?_ rfl rfl ?_ ?_; rotate_left; (focus (intro w' hS; obtain ⟨p0, p1, p2, p3, p4, p5, p6, p7⟩ := HS.out w' hS; go_simp; exact rfl)); simp only [Act.put, List.setIfInBounds_toArray, List.set_cons_zero, List.set_cons_succ, List.getElem_toArray, List.getElem_cons_zero, List.getElem_cons_succ])
  refine pl_call1 _ rfl rfl (by go_simp) (parent_any v p j k a1 a2 n1 k1 n2 k2 w5) (fun w' hb => X5.out.trans (hb.mono X5.out.size)) fun w6 hb6 => ?_
  have X6 := Lib.hid (X5.out.trans (hb6.mono X5.out.size))
  clear hb6
  simp only [Act.put, List.setIfInBounds_toArray, List.set_cons_zero, List.set_cons_succ, List.getElem_toArray, List.getElem_cons_zero, List.getElem_cons_succ]
  have Y6 := Lib.hid (b1.out.trans (X6.out.mono b1.out.size))
  refine pl_call1 _ rfl rfl (by go_simp) (ghas_is (HC.out.on Y6.out) (tabs_on HT.out Y6.out) k X HX.out hK.out) (fun w' hb => X6.out.trans (hb.mono X6.out.size)) fun w7 hb7 => ?_
  have Y7 := Lib.hid (Y6.out.trans (hb7.mono Y6.out.size))
  have X7 := Lib.hid (X6.out.trans (hb7.mono X6.out.size))
  clear hb7
  simp only [Act.put, List.setIfInBounds_toArray, List.set_cons_zero, List.set_cons_succ, List.getElem_toArray, List.getElem_cons_zero, List.getElem_cons_succ]
  iterate 1 (refine pl_run _ ?_ rfl rfl ?_ ?_; rotate_left; (focus (intro w' hS; go_simp; exact rfl)); simp only [Act.put, List.setIfInBounds_toArray, List.set_cons_zero, List.set_cons_succ, List.getElem_toArray, List.getElem_cons_zero, List.getElem_cons_succ])
  refine pl_end ?_
  go_wp2_with fail
  go_ret
  exact ⟨rfl, HY.out ▸ Y7.out⟩
end Go.Proofs.YtegkhhegapnkpaaDoor
end
section
open Go Go.RowKit
namespace BB
section
variable {P : Program} {ops : Array Oper} {S : World → Prop} {Q : Exit → Act → World → Prop} {t : Nat}
/-- one that yields nothing: a store -/
theorem pe_skip {i : Nat} {r : List (Bool × Nat)} {a : Act} {w w' : World} (o : Oper) (ho : ops[i]? = some o) (hg : o.guard = none) (h : (execOp a.eval o).run P w = .ok .skip w') (hS : S w') (hK : wpPlanE P ops Q S t r (a.put o.dst undef) w') : wpPlanE P ops Q S t ((false, i) :: r) a w := by
  show wpOp P ops Q i _ a w
  unfold wpOp; simp only [ho, Region.wanted, hg, if_true]
  left; unfold Oper.wp; rw [h]; exact ⟨fun _ => hS, hK⟩
end
end BB
namespace FF
open WW BB
/-- what keeps a block from coming in -/
def fitsF (F : Fo) (b : BlockD) : Int :=
  if badF F b then 5 else if hasF F (parI b) = true then (if 400 ≤ F.nodes.length then 7 else 0) else if 8 ≤ F.orph.length then 7 else 0
section
variable {P : Program} {k e t : TypeId} {mv : Value} {f : ByteArray → Option Sv} {n : Nat}
theorem exec_look {o : Oper} {ρ : Operand → Value} (m x : Operand) (s : ByteArray) (v p j : Int) (kb : ByteArray) (a1 : Option Addr) (n1 c1 : Nat) (a2 : Option Addr) (n2 c2 : Nat) (ht' : Int) (bb : Bool) (hf : (f s).getD zE = ((v, p, j, kb), (a1, n1, c1), (a2, n2, c2), ht')) (hb : (f s).isSome = bb)
    (hop : o.op = Op.lookup t m x true) (hk : P.underlying k = some .string) (ht : P.underlying t = some (.map k e)) (hz : ∀ w, (zeroValue e).run P w = .ok (encE zE) w) (w : World) (h : MapAt P k w mv f n)
    (hm : ρ m = mv) (hx : ρ x = .string s) (hs : s.size ≤ maxLen) : (execOp ρ o).run P w = .ok (.value (.tuple #[.agg #[.int .i64 v, .int .i64 p, .int .i64 j, .string kb, .slice a1 n1 c1, .slice a2 n2 c2, .int .i64 ht'], .bool bb])) w := by
  unfold execOp
  simp only [hop, hm, hx, Sem.run_bind, h.look true hk ht (hz w) hs, Result.andThen_ok, Sem.run_pure, if_true, hf, hb]
  rfl
end
/-- the node that stands at a digest -/
theorem ent_node {F : Fo} (hF : WF F) {N : List Iv} (hn : N.map Prod.fst = F.nodes) {h : ByteArray} {v p j : Int} {k : ByteArray} {a1 : Option Addr} {n1 c1 : Nat} {a2 : Option Addr} {n2 c2 : Nat} {t : Int}
    (hb : (entF F N h).isSome = true) (hx : (entF F N h).getD zE = ((v, p, j, k), (a1, n1, c1), (a2, n2, c2), t)) :
    0 ≤ atI F.nodes h ∧ viewI (F.nodes.getD (atI F.nodes h).toNat i0).2 = v ∧ parI (F.nodes.getD (atI F.nodes h).toNat i0).2 = k ∧ t = heightF F h ∧
      ∃ x ∈ N, x.1.1 = h ∧ x.1 = F.nodes.getD (atI F.nodes h).toNat i0 ∧ viewI x.1.2 = v ∧ propI x.1.2 = p ∧ jvI x.1.2 = j ∧ parI x.1.2 = k ∧ slT x.2.1 = (a1, n1, c1) ∧ slT x.2.2 = (a2, n2, c2) := by
  obtain ⟨s, hs⟩ := Option.isSome_iff_exists.1 hb
  obtain ⟨x, hxN, rfl, hm⟩ := ent_of hs
  rw [hs, hm] at hx
  have h0 : 0 ≤ atI F.nodes x.1.1 := (at_mem _ _).2 ⟨x.1, hn ▸ List.mem_map.2 ⟨x, hxN, rfl⟩, rfl⟩
  have hnode : F.nodes.getD (atI F.nodes x.1.1).toNat i0 = x.1 := at_node hF.nodup (hn ▸ List.mem_map.2 ⟨x, hxN, rfl⟩)
  unfold mkS at hx
  simp only [Option.getD_some, Prod.mk.injEq] at hx
  obtain ⟨⟨e1, e2, e3, e4⟩, e5, e6, e7⟩ := hx
  refine ⟨h0, by rw [hnode]; exact e1, by rw [hnode]; exact e4, e7.symm, x, hxN, rfl, hnode.symm, e1, e2, e3, e4, e5, e6⟩
end FF
namespace Go.Proofs.YtegkhhegapnkpaaDoor
open FF JJ CC MM WW BB
set_option maxRecDepth 100000 in
set_option maxHeartbeats 4000000 in
theorem gfollows_any (v p j : Int) (k : ByteArray) (a1 : Option Addr) (n1 c1 : Nat) (a2 : Option Addr) (n2 c2 : Nat) (v' p' j' : Int) (k' : ByteArray) (a1' : Option Addr) (n1' c1' : Nat) (a2' : Option Addr) (n2' c2' : Nat) (X : Bool) (hX : (decide (v' < v) && (decide (j < v) && decide (j = v'))) = X) (w : World) :
    Calls Tryd.prog 128 #[.agg #[.int .i64 v, .int .i64 p, .int .i64 j, .string k, .slice a1 n1 c1, .slice a2 n2 c2], .agg #[.int .i64 v', .int .i64 p', .int .i64 j', .string k', .slice a1' n1' c1', .slice a2' n2' c2']] w
      fun e w' => e = .returned (.bool X) ∧ Below w.heap.size w w' := by
  have HX := Lib.hid hX
  clear hX
  have b1 := (Below.refl w.heap.size w).alloc (Nat.le_refl _) (.cells #[.int .i64 v, .int .i64 p, .int .i64 j, .string k, .slice a1 n1 c1, .slice a2 n2 c2] 29)
  have b2 := Lib.hid (b1.alloc b1.size (.cells #[.int .i64 v', .int .i64 p', .int .i64 j', .string k', .slice a1' n1' c1', .slice a2' n2' c2'] 29))
  clear b1
  go_enter Tryd.func128, Tryd.ntmps128
  by_cases h1 : v' < v
  · have H1 := Lib.hid h1
    have t1 : decide (v' < v) = true := decide_eq_true h1
    by_cases h2 : j < v
    · have H2 := Lib.hid h2
      have t2 : decide (j < v) = true := decide_eq_true h2
      by_cases h3 : j = v'
      · have H3 := Lib.hid h3
        have t3 : (j == v') = true := by simpa using h3
        clear h3
        go_wp2_with fail
        go_ret
        refine ⟨?_, b2.out⟩
        rw [← HX.out, decide_eq_true H1.out, decide_eq_true H2.out, decide_eq_true H3.out]; rfl
      · have H3 := Lib.hid h3
        have t3 : (j == v') = false := by simpa using h3
        clear h3
        go_wp2_with fail
        go_ret
        refine ⟨?_, b2.out⟩
        rw [← HX.out, decide_eq_true H1.out, decide_eq_true H2.out, decide_eq_false H3.out]; rfl
    · have H2 := Lib.hid h2
      have t2 : decide (j < v) = false := decide_eq_false h2
      go_wp2_with fail
      go_ret
      refine ⟨?_, b2.out⟩
      rw [← HX.out, decide_eq_true H1.out, decide_eq_false (Int.not_lt.2 H2.out)]; rfl
  · have H1 := Lib.hid h1
    have t1 : decide (v' < v) = false := decide_eq_false h1
    go_wp2_with fail
    go_ret
    refine ⟨?_, b2.out⟩
    rw [← HX.out, decide_eq_false (Int.not_lt.2 H1.out)]; rfl
set_option maxRecDepth 100000 in
set_option maxHeartbeats 8000000 in
theorem gfits_any {B : Nat} {w : World} {g : Nat} {F : Fo} {rt : ByteArray} {mv ov : Value} {N O : List Iv} {C : Nat → Prop} (hC : CFs B w g F rt mv ov N O C) (hT : Tabs w) (b : BlockD) (v p j : Int) (k : ByteArray) (hb1 : viewI b = v) (hb2 : jvI b = j) (hb3 : parI b = k) (hk : k.size ≤ 1000000) (a1 : Option Addr) (n1 k1 : Nat) (a2 : Option Addr) (n2 k2 : Nat) :
    Calls Tryd.prog 79 #[.pointer (some ⟨g, 0, none⟩), .agg #[.int .i64 v, .int .i64 p, .int .i64 j, .string k, .slice a1 n1 k1, .slice a2 n2 k2]] w fun e w' => e = .returned (.int .i64 (fitsF F b)) ∧ Below w.heap.size w w' := by
  have HC := Lib.hid hC
  have HT := Lib.hid hT
  have H1 := Lib.hid hb1
  have H2 := Lib.hid hb2
  have H3 := Lib.hid hb3
  have HKK := Lib.hid hk
  have HK := Lib.hid (show k.size ≤ maxLen by unfold maxLen; omega)
  obtain ⟨mp, rfl⟩ := hC.shapeM
  obtain ⟨v', p', j', k', a1', n1', k1', a2', n2', k2', t', hx⟩ := sv_parts ((entF F N k).getD zE)
  have HX := Lib.hid hx
  obtain ⟨bb, hbb⟩ : ∃ bb, (entF F N k).isSome = bb := ⟨_, rfl⟩
  have HBB := Lib.hid hbb
  have HE := Lib.hid (ent_some hC.nodes k)
  have b1 := Lib.hid ((Below.refl w.heap.size w).alloc (Nat.le_refl _) (.cells #[.int .i64 v, .int .i64 p, .int .i64 j, .string k, .slice a1 n1 k1, .slice a2 n2 k2] 29))
  have L0 := Lib.hid (show Blk (w.alloc (.cells #[.int .i64 v, .int .i64 p, .int .i64 j, .string k, .slice a1 n1 k1, .slice a2 n2 k2] 29)) w.heap.size 6 (rowL [.int .i64 v, .int .i64 p, .int .i64 j, .string k, .slice a1 n1 k1, .slice a2 n2 k2]) from Blk.new' rfl rfl)
  clear hC hT hb1 hb2 hb3 hk hx hbb
  go_enter Tryd.func79, Tryd.ntmps79
  go_upto_region 1 with fail
  obtain ⟨y0, hy0⟩ : ∃ y0, w.heap.size = y0 := ⟨_, rfl⟩
  have HY0 := Lib.hid hy0
  obtain ⟨w1, hw1⟩ : ∃ w1, w.alloc (.cells #[.int .i64 v, .int .i64 p, .int .i64 j, .string k, .slice a1 n1 k1, .slice a2 n2 k2] 29) = w1 := ⟨_, rfl⟩
  rw [hw1] at b1 L0 ⊢
  rw [hy0] at L0 ⊢
  clear hw1 hy0
  have HC1 := Lib.hid (HC.out.on b1.out)
  have HT1 := Lib.hid (tabs_on HT.out b1.out)
  have HS := Lib.hid (fun (wx : World) (hb : Below w1.heap.size w1 wx) => show wx.cell? ⟨g, 2, none⟩ = some (.map mp) ∧ wx.cell? ⟨y0, 0, none⟩ = some (.int .i64 v) ∧ wx.cell? ⟨y0, 1, none⟩ = some (.int .i64 p) ∧ wx.cell? ⟨y0, 2, none⟩ = some (.int .i64 j) ∧ wx.cell? ⟨y0, 3, none⟩ = some (.string k) ∧ wx.cell? ⟨y0, 4, none⟩ = some (.slice a1 n1 k1) ∧ wx.cell? ⟨y0, 5, none⟩ = some (.slice a2 n2 k2) ∧ True from by
    have L := L0.out.below hb L0.out.lt
    exact ⟨(HC1.out.on hb).c2, L.get 0 (by omega), L.get 1 (by omega), L.get 2 (by omega), L.get 3 (by omega), L.get 4 (by omega), L.get 5 (by omega), trivial⟩)
  have HM := Lib.hid (fun (wx : World) (hb : Below w1.heap.size w1 wx) => (HC1.out.on hb).map)
  go_cut [5, 6] from 5 to 16 (fun s5 s6 wx => ∃ y, s5 = .pointer (some ⟨y, 0, none⟩) ∧ s6 = .bool bb ∧ Below w1.heap.size w1 wx ∧ Blk wx y 7 (rowL [.int .i64 v', .int .i64 p', .int .i64 j', .string k', .slice a1' n1' k1', .slice a2' n2' k2', .int .i64 t']) ∧ w1.heap.size ≤ y)
  case first =>
    go_wp2_with fail
    refine crossE_abs (fun wx => Below w1.heap.size w1 wx) 12 [0, 1, 2, 3, 4] 5 10 [(true, 6), (true, 7), (true, 8), (true, 9), (false, 10), (false, 11), (false, 12)] [(false, 5), (true, 6), (true, 7), (true, 8), (true, 9), (false, 11), (false, 12)] (by kernel_rfl) (by kernel_rfl) (fun _ _ d _ _ h => by cases d <;> exact h) fun w2 hs2 => ⟨hs2.below _, ?_⟩
    have X2 := Lib.hid (show Below w1.heap.size w1 w2 from hs2.below _)
    clear hs2
    iterate 5 (refine pre_run _ ?_ rfl rfl ?_ ?_; rotate_left; (focus (intro w' hS; obtain ⟨d0, d1, d2, d3, d4, d5, d6, d7⟩ := HS.out w' hS; go_simp; exact rfl)); simp only [Act.put, List.setIfInBounds_toArray, List.set_cons_zero, List.set_cons_succ, List.getElem_toArray, List.getElem_cons_zero, List.getElem_cons_succ])
    refine pre_end ⟨?_, ?_⟩
    · refine pe_call (R := fun u w' => u = .string k ∧ Below w2.heap.size w2 w') _ rfl rfl (by go_simp) ((parent_any v p j k a1 a2 n1 k1 n2 k2 w2).mono fun e w' h => ⟨.string k, h.1, rfl, h.2⟩) (fun u w' h => X2.out.trans (h.2.mono X2.out.size)) fun u w3 hr => ?_
      obtain ⟨rfl, hb⟩ := hr
      have X3 := Lib.hid (X2.out.trans (hb.mono X2.out.size))
      clear hb
      simp only [Act.put, List.setIfInBounds_toArray, List.set_cons_zero, List.set_cons_succ, List.getElem_toArray, List.getElem_cons_zero, List.getElem_cons_succ]
      refine pe_run _ (.tuple #[.agg #[.int .i64 v', .int .i64 p', .int .i64 j', .string k', .slice a1' n1' k1', .slice a2' n2' k2', .int .i64 t'], .bool bb]) rfl rfl (fun w' hS => exec_look _ _ k v' p' j' k' a1' n1' k1' a2' n2' k2' t' bb HX.out HBB.out rfl (by kernel_rfl) (by kernel_rfl) zero_sv w' (HM.out w' hS) rfl rfl HK.out) ?_
      simp only [Act.put, List.setIfInBounds_toArray, List.set_cons_zero, List.set_cons_succ, List.getElem_toArray, List.getElem_cons_zero, List.getElem_cons_succ]
      iterate 3 (refine pe_run _ ?_ rfl rfl ?_ ?_; rotate_left; (focus (intro w' hS; go_simp; exact rfl)); simp only [Act.put, List.setIfInBounds_toArray, List.set_cons_zero, List.set_cons_succ, List.getElem_toArray, List.getElem_cons_zero, List.getElem_cons_succ])
      have BA := Lib.hid ((Below.refl w3.heap.size w3).alloc (Nat.le_refl _) (.cells #[.int .i64 0, .int .i64 0, .int .i64 0, .string ⟨#[]⟩, .slice none 0 0, .slice none 0 0, .int .i64 0] 135))
      have X5 := Lib.hid (X3.out.trans (BA.out.mono X3.out.size))
      obtain ⟨y, hy⟩ : ∃ y, w3.heap.size = y := ⟨_, rfl⟩
      have YL := Lib.hid (show w1.heap.size ≤ y by rw [← hy]; exact X3.out.size)
      have XI := Lib.hid (show Blk (w3.alloc (.cells #[.int .i64 0, .int .i64 0, .int .i64 0, .string ⟨#[]⟩, .slice none 0 0, .slice none 0 0, .int .i64 0] 135)) y 7 (rowL [.int .i64 0, .int .i64 0, .int .i64 0, .string ⟨#[]⟩, .slice none 0 0, .slice none 0 0, .int .i64 0]) from Blk.new' hy.symm rfl)
      refine pe_value (w' := w3.alloc (.cells #[.int .i64 0, .int .i64 0, .int .i64 0, .string ⟨#[]⟩, .slice none 0 0, .slice none 0 0, .int .i64 0] 135)) _ (.pointer (some ⟨y, 0, none⟩)) rfl rfl (by rw [← hy]; go_simp) X5.out ?_
      clear BA
      generalize w3.alloc (.cells #[.int .i64 0, .int .i64 0, .int .i64 0, .string ⟨#[]⟩, .slice none 0 0, .slice none 0 0, .int .i64 0] 135) = w5 at *
      simp only [Act.put, List.setIfInBounds_toArray, List.set_cons_zero, List.set_cons_succ, List.getElem_toArray, List.getElem_cons_zero, List.getElem_cons_succ]
      clear hy
      have v0 := XI.out.get 0 (by omega)
      have v1 := XI.out.get 1 (by omega)
      have v2 := XI.out.get 2 (by omega)
      have v3 := XI.out.get 3 (by omega)
      have v4 := XI.out.get 4 (by omega)
      have v5 := XI.out.get 5 (by omega)
      have v6 := XI.out.get 6 (by omega)
      have z0 := XI.out.frz 0
      have z1 := XI.out.frz 1
      have z2 := XI.out.frz 2
      have z3 := XI.out.frz 3
      have z4 := XI.out.frz 4
      have z5 := XI.out.frz 5
      have z6 := XI.out.frz 6
      obtain ⟨xi, ui⟩ := set7 XI.out (.int .i64 v') (.int .i64 p') (.int .i64 j') (.string k') (.slice a1' n1' k1') (.slice a2' n2' k2') (.int .i64 t')
      have XS := Lib.hid (X5.out.trans (ui.below YL.out))
      refine pe_skip _ rfl rfl (by go_simp) XS.out ?_
      simp only [Act.put, List.getElem_toArray, List.getElem_cons_zero, List.getElem_cons_succ]
      refine pe_last _ rfl ?_
      simp only [List.getElem_toArray, List.getElem_cons_zero, List.getElem_cons_succ]
      clear v0 v1 v2 v3 v4 v5 v6 z0 z1 z2 z3 z4 z5 z6
      have XB := Lib.hid xi
      clear xi ui
      go_wp2_with fail
      go_meet
      exact ⟨y, rfl, rfl, XS.out, XB.out, YL.out⟩
    · have BA := Lib.hid ((Below.refl w2.heap.size w2).alloc (Nat.le_refl _) (.cells #[.int .i64 0, .int .i64 0, .int .i64 0, .string ⟨#[]⟩, .slice none 0 0, .slice none 0 0, .int .i64 0] 135))
      have X3 := Lib.hid (X2.out.trans (BA.out.mono X2.out.size))
      obtain ⟨y, hy⟩ : ∃ y, w2.heap.size = y := ⟨_, rfl⟩
      have YL := Lib.hid (show w1.heap.size ≤ y by rw [← hy]; exact X2.out.size)
      have XI := Lib.hid (show Blk (w2.alloc (.cells #[.int .i64 0, .int .i64 0, .int .i64 0, .string ⟨#[]⟩, .slice none 0 0, .slice none 0 0, .int .i64 0] 135)) y 7 (rowL [.int .i64 0, .int .i64 0, .int .i64 0, .string ⟨#[]⟩, .slice none 0 0, .slice none 0 0, .int .i64 0]) from Blk.new' hy.symm rfl)
      refine pe_value (w' := w2.alloc (.cells #[.int .i64 0, .int .i64 0, .int .i64 0, .string ⟨#[]⟩, .slice none 0 0, .slice none 0 0, .int .i64 0] 135)) _ (.pointer (some ⟨y, 0, none⟩)) rfl rfl (by rw [← hy]; go_simp) X3.out ?_
      clear BA
      generalize w2.alloc (.cells #[.int .i64 0, .int .i64 0, .int .i64 0, .string ⟨#[]⟩, .slice none 0 0, .slice none 0 0, .int .i64 0] 135) = w3 at *
      simp only [Act.put, List.setIfInBounds_toArray, List.set_cons_zero, List.set_cons_succ, List.getElem_toArray, List.getElem_cons_zero, List.getElem_cons_succ]
      clear hy
      refine pe_call (R := fun u w' => u = .string k ∧ Below w3.heap.size w3 w') _ rfl rfl (by go_simp) ((parent_any v p j k a1 a2 n1 k1 n2 k2 w3).mono fun e w' h => ⟨.string k, h.1, rfl, h.2⟩) (fun u w' h => X3.out.trans (h.2.mono X3.out.size)) fun u w5 hr => ?_
      obtain ⟨rfl, hb⟩ := hr
      have X5 := Lib.hid (X3.out.trans (hb.mono X3.out.size))
      have XJ := Lib.hid (XI.out.below hb XI.out.lt)
      clear hb
      clear XI
      simp only [Act.put, List.setIfInBounds_toArray, List.set_cons_zero, List.set_cons_succ, List.getElem_toArray, List.getElem_cons_zero, List.getElem_cons_succ]
      refine pe_run _ (.tuple #[.agg #[.int .i64 v', .int .i64 p', .int .i64 j', .string k', .slice a1' n1' k1', .slice a2' n2' k2', .int .i64 t'], .bool bb]) rfl rfl (fun w' hS => exec_look _ _ k v' p' j' k' a1' n1' k1' a2' n2' k2' t' bb HX.out HBB.out rfl (by kernel_rfl) (by kernel_rfl) zero_sv w' (HM.out w' hS) rfl rfl HK.out) ?_
      simp only [Act.put, List.setIfInBounds_toArray, List.set_cons_zero, List.set_cons_succ, List.getElem_toArray, List.getElem_cons_zero, List.getElem_cons_succ]
      iterate 3 (refine pe_run _ ?_ rfl rfl ?_ ?_; rotate_left; (focus (intro w' hS; go_simp; exact rfl)); simp only [Act.put, List.setIfInBounds_toArray, List.set_cons_zero, List.set_cons_succ, List.getElem_toArray, List.getElem_cons_zero, List.getElem_cons_succ])
      have v0 := XJ.out.get 0 (by omega)
      have v1 := XJ.out.get 1 (by omega)
      have v2 := XJ.out.get 2 (by omega)
      have v3 := XJ.out.get 3 (by omega)
      have v4 := XJ.out.get 4 (by omega)
      have v5 := XJ.out.get 5 (by omega)
      have v6 := XJ.out.get 6 (by omega)
      have z0 := XJ.out.frz 0
      have z1 := XJ.out.frz 1
      have z2 := XJ.out.frz 2
      have z3 := XJ.out.frz 3
      have z4 := XJ.out.frz 4
      have z5 := XJ.out.frz 5
      have z6 := XJ.out.frz 6
      obtain ⟨xi, ui⟩ := set7 XJ.out (.int .i64 v') (.int .i64 p') (.int .i64 j') (.string k') (.slice a1' n1' k1') (.slice a2' n2' k2') (.int .i64 t')
      have XS := Lib.hid (X5.out.trans (ui.below YL.out))
      refine pe_skip _ rfl rfl (by go_simp) XS.out ?_
      simp only [Act.put, List.getElem_toArray, List.getElem_cons_zero, List.getElem_cons_succ]
      refine pe_last _ rfl ?_
      simp only [List.getElem_toArray, List.getElem_cons_zero, List.getElem_cons_succ]
      clear v0 v1 v2 v3 v4 v5 v6 z0 z1 z2 z3 z4 z5 z6
      have XB := Lib.hid xi
      clear xi ui
      go_wp2_with fail
      go_meet
      exact ⟨y, rfl, rfl, XS.out, XB.out, YL.out⟩
  case rest =>
    obtain ⟨y, rfl, rfl, hbx, hblk, hyl⟩ := hcut
    have X9 := Lib.hid hbx
    have XB := Lib.hid hblk
    clear hbx hblk hyl L0
    obtain ⟨d0, d1, d2, d3, d4, d5, d6, d7⟩ := HS.out _ X9.out
    cases bb
    · have HBAD := Lib.hid (show ¬ badF F b from fun hb => by
        have h := HE.out
        rw [HBB.out, ← H3.out, decide_eq_true hb.1] at h; cases h)
      go_wp2_with fail
      refine (parent_any v p j k a1 a2 n1 k1 n2 k2 _).mono ?_
      rintro e w10 ⟨rfl, hb10⟩
      have X10 := Lib.hid (X9.out.trans (hb10.mono X9.out.size))
      clear hb10 d0 d1 d2 d3 d4 d5 d6
      obtain ⟨hh, hhh⟩ : ∃ hh, hasF F k = hh := ⟨_, rfl⟩
      have HH := Lib.hid hhh
      clear hhh
      go_wp2_with fail
      refine (ghas_is (HC1.out.on X10.out) (tabs_on HT1.out X10.out) k hh HH.out HKK.out).mono ?_
      rintro e w11 ⟨rfl, hb11⟩
      have X11 := Lib.hid (X10.out.trans (hb11.mono X10.out.size))
      clear hb11
      obtain ⟨ff, hff⟩ : ∃ ff, cond hh (decide (400 ≤ F.nodes.length)) (decide (8 ≤ F.orph.length)) = ff := ⟨_, rfl⟩
      have HF := Lib.hid hff
      go_wp2_with fail
      refine (gfull_is (HC1.out.on X11.out) hh ff HF.out).mono ?_
      rintro e w12 ⟨rfl, rfl⟩
      clear hff
      have HV := Lib.hid (show fitsF F b = if ff then 7 else 0 by
        unfold fitsF
        rw [if_neg HBAD.out, H3.out, HH.out, ← HF.out]
        cases hh <;> simp)
      cases ff
      · go_wp2_with fail
        go_ret
        exact ⟨by rw [HV.out]; rfl, b1.out.trans (X11.out.mono b1.out.size)⟩
      · go_wp2_with fail
        go_ret
        exact ⟨by rw [HV.out]; rfl, b1.out.trans (X11.out.mono b1.out.size)⟩
    · obtain ⟨hat, hnv, _⟩ := ent_node HC.out.wf HC.out.nodes HBB.out HX.out
      obtain ⟨X, hX⟩ : ∃ X, (decide (v' < v) && (decide (j < v) && decide (j = v'))) = X := ⟨_, rfl⟩
      have HXX := Lib.hid hX
      have HHAS := Lib.hid (show hasF F k = true by rw [has_eq, decide_eq_true hat]; rfl)
      have HBAD := Lib.hid (show badF F b ↔ X = false by
        unfold badF
        rw [H3.out, H1.out, H2.out, hnv, ← hX]
        by_cases q1 : v' < v
        · by_cases q2 : j < v
          · by_cases q3 : j = v'
            · simp [q3, hat] <;> omega
            · simp [q3, hat]
          · simp [q2, hat] <;> omega
        · simp [q1, hat] <;> omega)
      clear hat hnv hX
      have y0' := XB.out.get 0 (by omega)
      have y1' := XB.out.get 1 (by omega)
      have y2' := XB.out.get 2 (by omega)
      have y3' := XB.out.get 3 (by omega)
      have y4' := XB.out.get 4 (by omega)
      have y5' := XB.out.get 5 (by omega)
      go_wp2_with fail
      refine (gfollows_any v p j k a1 n1 k1 a2 n2 k2 v' p' j' k' a1' n1' k1' a2' n2' k2' X HXX.out _).mono ?_
      rintro e w10 ⟨rfl, hb10⟩
      have X10 := Lib.hid (X9.out.trans (hb10.mono X9.out.size))
      clear hb10 d0 d1 d2 d3 d4 d5 d6 y0' y1' y2' y3' y4' y5'
      cases X
      · have HV := Lib.hid (show fitsF F b = 5 by unfold fitsF; rw [if_pos (HBAD.out.2 rfl)])
        go_wp2_with fail
        go_ret
        exact ⟨by rw [HV.out]; rfl, b1.out.trans (X10.out.mono b1.out.size)⟩
      · have HNB := Lib.hid (show ¬ badF F b from fun h => by cases HBAD.out.1 h)
        obtain ⟨d0, d1, d2, d3, d4, d5, d6, d7⟩ := HS.out _ X10.out
        go_wp2_with fail
        refine (parent_any v p j k a1 a2 n1 k1 n2 k2 _).mono ?_
        rintro e w11 ⟨rfl, hb11⟩
        have X11 := Lib.hid (X10.out.trans (hb11.mono X10.out.size))
        clear hb11 d0 d1 d2 d3 d4 d5 d6
        go_wp2_with fail
        refine (ghas_is (HC1.out.on X11.out) (tabs_on HT1.out X11.out) k true HHAS.out HKK.out).mono ?_
        rintro e w12 ⟨rfl, hb12⟩
        have X12 := Lib.hid (X11.out.trans (hb12.mono X11.out.size))
        clear hb12
        obtain ⟨ff, hff⟩ : ∃ ff, cond true (decide (400 ≤ F.nodes.length)) (decide (8 ≤ F.orph.length)) = ff := ⟨_, rfl⟩
        have HF := Lib.hid hff
        go_wp2_with fail
        refine (gfull_is (HC1.out.on X12.out) true ff HF.out).mono ?_
        rintro e w13 ⟨rfl, rfl⟩
        clear hff
        have HV := Lib.hid (show fitsF F b = if ff then 7 else 0 by
          unfold fitsF
          rw [if_neg HNB.out, H3.out, HHAS.out, ← HF.out]
          simp)
        cases ff
        · go_wp2_with fail
          go_ret
          exact ⟨by rw [HV.out]; rfl, b1.out.trans (X12.out.mono b1.out.size)⟩
        · go_wp2_with fail
          go_ret
          exact ⟨by rw [HV.out]; rfl, b1.out.trans (X12.out.mono b1.out.size)⟩
end Go.Proofs.YtegkhhegapnkpaaDoor
end
