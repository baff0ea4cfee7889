/-
  The walk of a certificate's copy.
-/
import Derived.Test.YtegkhhegapnkpaaDoorKECopied
import Derived.Test.YtegkhhegapnkpaaDoorKEText
import Derived.Test.YtegkhhegapnkpaaDoorKPlanE
open Go Go.RowKit
namespace JJ
open CC BB WW MM Go.Sort
/-- the signatures M, the tags of some of them copied; from block B on the world may have turned -/
structure CopiedB (M : List Sg) (b o g B i : Nat) (w0 : World) (wr : World) (D : Nat → Sg) : Prop where
  new : ∀ j, j < i → ∀ c, (tvS (D j)).ownBlock = some c → B ≤ c
  row : SgRow wr b o M.length D
  same : ∀ j, j < M.length → bare (D j) = bare (M.getD j s0)
  tags : ∀ j, j < M.length → StrsNot b g wr (tvS (D j)) (D j).2.2
  below : Below B w0 wr
  size : B ≤ wr.heap.size
/-- signatures, all of it in memory from block B on -/
def SigsNew (B : Nat) (w : World) (v : Value) (l : List (Int × List ByteArray)) : Prop :=
  ∃ a0 cap, v = .slice a0 l.length cap ∧ (l = [] ∨ ∃ b off, a0 = some ⟨b, off, none⟩ ∧ B ≤ b ∧ b < w.heap.size ∧
    ∀ i, i < l.length → ∃ tv, w.cell? ⟨b, off + i * 2, none⟩ = some (.int .i64 (l.getD i (0, [])).1) ∧ w.cell? ⟨b, off + i * 2 + 1, none⟩ = some tv ∧ StrsAt w tv (l.getD i (0, [])).2 ∧ ∀ c, tv.ownBlock = some c → B ≤ c)
theorem SigsNew.sigs {B : Nat} {w : World} {v : Value} {l : List (Int × List ByteArray)} (h : SigsNew B w v l) : SigsAt w v l := by
  obtain ⟨a0, cap, rfl, h | ⟨b, off, rfl, _, hl, hc⟩⟩ := h
  · exact ⟨a0, cap, rfl, Or.inl h⟩
  · refine ⟨_, cap, rfl, Or.inr ⟨b, off, rfl, hl, fun i hi => ?_⟩⟩
    obtain ⟨tv, h1, h2, h3, _⟩ := hc i hi
    exact ⟨tv, h1, h2, h3⟩
theorem strs_from {B : Nat} {w w' : World} {v : Value} {l : List ByteArray} (h : StrsAt w v l) (hn : ∀ c, v.ownBlock = some c → B ≤ c) (hs : w.heap.size ≤ w'.heap.size) (hb : ∀ c, B ≤ c → c < w.heap.size → w'.heap[c]? = w.heap[c]?) : StrsAt w' v l := by
  obtain ⟨a0, cap, rfl, h | ⟨b, off, rfl, hl, hc⟩⟩ := h
  · exact ⟨a0, cap, rfl, Or.inl h⟩
  · exact ⟨_, cap, rfl, Or.inr ⟨b, off, rfl, Nat.lt_of_lt_of_le hl hs, fun i hi => (World.cell?_of_block (w := w) (a := ⟨b, off + i, none⟩) (hb b (hn b rfl) hl)).trans (hc i hi)⟩⟩
theorem SigsNew.keep {B : Nat} {w w' : World} {v : Value} {l : List (Int × List ByteArray)} (h : SigsNew B w v l) (hs : w.heap.size ≤ w'.heap.size) (hb : ∀ c, B ≤ c → c < w.heap.size → w'.heap[c]? = w.heap[c]?) : SigsNew B w' v l := by
  obtain ⟨a0, cap, rfl, h | ⟨b, off, rfl, hB, hl, hc⟩⟩ := h
  · exact ⟨a0, cap, rfl, Or.inl h⟩
  · refine ⟨_, cap, rfl, Or.inr ⟨b, off, rfl, hB, Nat.lt_of_lt_of_le hl hs, fun i hi => ?_⟩⟩
    obtain ⟨tv, h1, h2, h3, h4⟩ := hc i hi
    exact ⟨tv, (World.cell?_of_block (w := w) (a := ⟨b, off + i * 2, none⟩) (hb b hB hl)).trans h1, (World.cell?_of_block (w := w) (a := ⟨b, off + i * 2 + 1, none⟩) (hb b hB hl)).trans h2, strs_from h3 h4 hs hb, h4⟩
theorem SigsNew.later {B : Nat} {w w' : World} {v : Value} {l : List (Int × List ByteArray)} (h : SigsNew B w v l) (hb : Below w.heap.size w w') : SigsNew B w' v l := h.keep hb.size fun c _ hc => hb.block c hc
theorem SigsNew.mono {B B' : Nat} {w : World} {v : Value} {l : List (Int × List ByteArray)} (h : SigsNew B w v l) (hB : B' ≤ B) : SigsNew B' w v l := by
  obtain ⟨a0, cap, rfl, h | ⟨b, off, rfl, h1, hl, hc⟩⟩ := h
  · exact ⟨a0, cap, rfl, Or.inl h⟩
  · refine ⟨_, cap, rfl, Or.inr ⟨b, off, rfl, Nat.le_trans hB h1, hl, fun i hi => ?_⟩⟩
    obtain ⟨tv, k1, k2, k3, k4⟩ := hc i hi
    exact ⟨tv, k1, k2, k3, fun c hc => Nat.le_trans hB (k4 c hc)⟩
theorem CopiedB.done {M : List Sg} {b o g B cap : Nat} {w0 wr w' : World} {D : Nat → Sg} (h : CopiedB M b o g B M.length w0 wr D) (hB : B ≤ b) (hg : b ≠ g) (hu : Upd g wr w') : SigsNew B w' (.slice (some ⟨b, o, none⟩) M.length cap) (M.map bare) := by
  have hrow := h.row.of_heap (hu.block b hg)
  refine ⟨_, cap, by rw [List.length_map], Or.inr ⟨b, o, rfl, hB, hrow.lt, fun i hi => ?_⟩⟩
  rw [List.length_map] at hi
  rw [getD_map_bare M i hi, ← h.same i hi]
  exact ⟨_, hrow.at0 i hi, hrow.at1 i hi, (strs_upd (h.tags i hi) (Or.inr rfl) hu).1, h.new i hi⟩
theorem CopiedB.on {M : List Sg} {b o g B i : Nat} {w0 wr w' : World} {D : Nat → Sg} (h : CopiedB M b o g B i w0 wr D) (hb : Below wr.heap.size wr w') : CopiedB M b o g B i w0 w' D :=
  ⟨h.new, h.row.below hb, h.same, fun j hj => (h.tags j hj).on hb, h.below.trans (hb.mono h.size), Nat.le_trans h.size hb.size⟩
theorem CopiedB.step {M : List Sg} {b o g B i : Nat} {w0 wr : World} {D : Nat → Sg} (h : CopiedB M b o g B i w0 wr D) (hB : B ≤ b) (hi : i < M.length) (t : Option Addr × Nat) (hn : StrsNot b g wr (.slice t.1 (D i).2.2.length t.2) (D i).2.2) (hw : ∀ c, (Value.slice t.1 (D i).2.2.length t.2).ownBlock = some c → B ≤ c) :
    CopiedB M b o g B (i + 1) w0 (wr.setCell ⟨b, o + i * 2 + 1, none⟩ (.slice t.1 (D i).2.2.length t.2)) (put D i ((D i).1, t, (D i).2.2)) := by
  have hu := Upd.set wr b (o + i * 2 + 1) (.slice t.1 (D i).2.2.length t.2)
  refine ⟨fun j hj => ?_, h.row.set1 i hi t (D i).2.2, fun j hj => ?_, fun j hj => ?_, h.below.trans (hu.below hB), by rw [hu.size]; exact h.size⟩
  · by_cases e : j = i
    · subst e; rw [put_same]; exact hw
    · rw [put_other _ _ e]; exact h.new j (by omega)
  · by_cases e : j = i
    · subst e; rw [put_same]; exact h.same j hj
    · rw [put_other _ _ e]; exact h.same j hj
  · by_cases e : j = i
    · subst e; rw [put_same]; exact strs_upd hn (Or.inl rfl) hu
    · rw [put_other _ _ e]; exact strs_upd (h.tags j hj) (Or.inl rfl) hu
/-- two cells -/
def cG (f t : Value) : Nat → Value := fun i => if i = 0 then f else t
theorem cG_row (f t : Value) : #[f, t] = row 2 (cG f t) := by rfl
section
variable {P : Program} {ops : Array Oper} {S : World → Prop} {Q : Exit → Act → World → Prop}
end
end JJ
namespace Go.Proofs.YtegkhhegapnkpaaDoor
open JJ CC WW BB MM Go.Lib Go.Sort
set_option maxRecDepth 100000 in
set_option maxHeartbeats 4000000 in
/-- a signature of which the tags are copied -/
theorem ownsig_any (f : Int) (tv : Value) (ts : List ByteArray) (w : World) (h : StrsAt w tv ts) (hl : ts.length ≤ 1000) :
    Calls Tryd.prog 110 #[.agg #[.int .i64 f, tv]] w fun e w' => ∃ a0 cap, e = .returned (.agg #[.int .i64 f, .slice a0 ts.length cap]) ∧ StrsAt w' (.slice a0 ts.length cap) ts ∧ (∀ c, (Value.slice a0 ts.length cap).ownBlock = some c → w.heap.size ≤ c) ∧ Below w.heap.size w w' := by
  have HV := Lib.hid h
  have HL := Lib.hid hl
  obtain ⟨ta, tc, rfl, _⟩ := h
  clear hl
  obtain ⟨g, hg⟩ : ∃ g, w.heap.size = g := ⟨_, rfl⟩
  have k0 : Blk ((w.alloc (.cells #[.int .i64 f, .slice ta ts.length tc] 98)).alloc (.cells #[.int .i64 0, .slice none 0 0] 98)) g 2 (cG (.int .i64 f) (.slice ta ts.length tc)) := (Blk.new' hg.symm (cG_row _ _)).alloc _
  have r0 : Blk ((w.alloc (.cells #[.int .i64 f, .slice ta ts.length tc] 98)).alloc (.cells #[.int .i64 0, .slice none 0 0] 98)) (g + 1) 2 (cG (.int .i64 0) (.slice none 0 0)) := Blk.new' (by simp; omega) (cG_row _ _)
  have b0 := ((Below.refl w.heap.size w).alloc (Nat.le_refl _) (.cells #[.int .i64 f, .slice ta ts.length tc] 98)).alloc (by simp) (.cells #[.int .i64 0, .slice none 0 0] 98)
  go_enter Tryd.func110, Tryd.ntmps110
  go_wp2_with fail
  rw [hg] at b0
  have HG := Lib.hid hg
  clear hg
  generalize (w.alloc (.cells #[.int .i64 f, .slice ta ts.length tc] 98)).alloc (.cells #[.int .i64 0, .slice none 0 0] 98) = w0 at *
  have K0 := Lib.hid k0
  have R0 := Lib.hid r0
  have B0 := Lib.hid b0
  have HV0 := Lib.hid (HV.out.later (HG.out ▸ b0))
  clear k0 b0 r0
  refine (tsclone_any ts _ w0 HV0.out HL.out).mono ?_
  rintro e w1 ⟨a1, n1, rfl, hst, how, hb1⟩
  have B1 := Lib.hid hb1
  have K1 := Lib.hid (K0.out.below hb1 K0.out.lt)
  have R1 := Lib.hid (R0.out.below hb1 R0.out.lt)
  have HST := Lib.hid hst
  have HOW := Lib.hid how
  have c2 : w1.cell? ⟨g, 1, none⟩ = some (.slice ta ts.length tc) := K1.out.get 1 (by omega)
  have f2 := K1.out.frz 1
  clear hst how hb1
  have hup := Upd.set w1 g 1 (.slice a1 ts.length n1)
  have k2 := (K1.out.set 1 (.slice a1 ts.length n1)).congr (cG (.int .i64 f) (.slice a1 ts.length n1)) (fun i hi => by
    match i, hi with
    | 0, _ => rfl
    | 1, _ => rfl)
  have r2 := R1.out.upd hup (by omega)
  go_upto_region 2 with fail
  obtain ⟨w2, hw2⟩ : ∃ w2, w1.setCell ⟨g, 1, none⟩ (.slice a1 ts.length n1) = w2 := ⟨_, rfl⟩
  rw [hw2] at hup k2 r2 ⊢
  have HUP := Lib.hid hup
  have R2 := Lib.hid r2
  have q0 := k2.get 0 (by omega)
  have q1 := k2.get 1 (by omega)
  rw [show cG (.int .i64 f) (.slice a1 ts.length n1) 0 = .int .i64 f from rfl] at q0
  rw [show cG (.int .i64 f) (.slice a1 ts.length n1) 1 = .slice a1 ts.length n1 from rfl] at q1
  have c0 : w2.cell? ⟨g + 1, 0, none⟩ = some (.int .i64 0) := R2.out.get 0 (by omega)
  have g0 := R2.out.frz 0
  have c1 : w2.cell? ⟨g + 1, 1, none⟩ = some (.slice none 0 0) := R2.out.get 1 (by omega)
  have g1 := R2.out.frz 1
  clear hw2 hup k2 r2 c2 f2
  go_wp2_with fail
  have k5 := (R2.out.set 0 (.int .i64 f)).set 1 (.slice a1 ts.length n1)
  have p0 := k5.get 0 (by omega)
  have p1 := k5.get 1 (by omega)
  rw [show put (put (cG (.int .i64 0) (.slice none 0 0)) 0 (.int .i64 f)) 1 (.slice a1 ts.length n1) 0 = .int .i64 f from rfl] at p0
  rw [show put (put (cG (.int .i64 0) (.slice none 0 0)) 0 (.int .i64 f)) 1 (.slice a1 ts.length n1) 1 = .slice a1 ts.length n1 from rfl] at p1
  have hu2 := (Upd.set w2 (g + 1) 0 (.int .i64 f)).trans (Upd.set _ (g + 1) 1 (.slice a1 ts.length n1))
  refine bodyPost_ret (v := .agg #[.int .i64 f, .slice a1 ts.length n1]) (by simp [results, Tryd.results110, go_sem, p0, p1]) rfl ?_
  have hz : g + 1 < w0.heap.size := R0.out.lt
  refine ⟨a1, n1, rfl, ?_, fun c hc => ?_, ?_⟩
  · refine strs_from (B := w0.heap.size) HST.out HOW.out (by rw [hu2.size, HUP.out.size]; exact Nat.le_refl _) fun c hc hl => ?_
    exact (hu2.block c (by omega)).trans (HUP.out.block c (by omega))
  · have h1 := HOW.out c hc
    have h2 := HG.out
    omega
  · exact HG.out ▸ (B0.out.trans ((B1.out.mono (by omega)).trans ((HUP.out.below (Nat.le_refl g)).trans (hu2.below (Nat.le_succ g)))))
end Go.Proofs.YtegkhhegapnkpaaDoor
