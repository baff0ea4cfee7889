/-
  The walk of a certificate's copy.
-/
import Derived.Test.YthajnkcipifhcaaGreatDoorKECopied
import Derived.Test.YthajnkcipifhcaaGreatDoorKEText
import Derived.Test.YthajnkcipifhcaaGreatDoorKPlanN
open Go Go.RowKit
namespace JJ
open CC BB WW MM Go.Sort
/-- the signatures M, the tags of some of them copied; from block B on the world may have turned -/
structure CopiedB (M : List Sg) (b o g B i : Nat) (w0 : World) (wr : World) (D : Nat → Sg) : Prop where
  new : ∀ j, j < i → ∀ c, (tvS (D j)).ownBlock = some c → B ≤ c
  row : SgRow wr b o M.length D
  same : ∀ j, j < M.length → bare (D j) = bare (M.getD j s0)
  tags : ∀ j, j < M.length → StrsNot b g wr (tvS (D j)) (D j).2.2
  below : Below B w0 wr
  size : B ≤ wr.heap.size
/-- signatures, all of it in memory from block B on -/
def SigsNew (B : Nat) (w : World) (v : Value) (l : List (Int × List ByteArray)) : Prop :=
  ∃ a0 cap, v = .slice a0 l.length cap ∧ (l = [] ∨ ∃ b off, a0 = some ⟨b, off, none⟩ ∧ B ≤ b ∧ b < w.heap.size ∧
    ∀ i, i < l.length → ∃ tv, w.cell? ⟨b, off + i * 2, none⟩ = some (.int .i64 (l.getD i (0, [])).1) ∧ w.cell? ⟨b, off + i * 2 + 1, none⟩ = some tv ∧ StrsAt w tv (l.getD i (0, [])).2 ∧ ∀ c, tv.ownBlock = some c → B ≤ c)
theorem SigsNew.sigs {B : Nat} {w : World} {v : Value} {l : List (Int × List ByteArray)} (h : SigsNew B w v l) : SigsAt w v l := by
  obtain ⟨a0, cap, rfl, h | ⟨b, off, rfl, _, hl, hc⟩⟩ := h
  · exact ⟨a0, cap, rfl, Or.inl h⟩
  · refine ⟨_, cap, rfl, Or.inr ⟨b, off, rfl, hl, fun i hi => ?_⟩⟩
    obtain ⟨tv, h1, h2, h3, _⟩ := hc i hi
    exact ⟨tv, h1, h2, h3⟩
theorem strs_from {B : Nat} {w w' : World} {v : Value} {l : List ByteArray} (h : StrsAt w v l) (hn : ∀ c, v.ownBlock = some c → B ≤ c) (hs : w.heap.size ≤ w'.heap.size) (hb : ∀ c, B ≤ c → c < w.heap.size → w'.heap[c]? = w.heap[c]?) : StrsAt w' v l := by
  obtain ⟨a0, cap, rfl, h | ⟨b, off, rfl, hl, hc⟩⟩ := h
  · exact ⟨a0, cap, rfl, Or.inl h⟩
  · exact ⟨_, cap, rfl, Or.inr ⟨b, off, rfl, Nat.lt_of_lt_of_le hl hs, fun i hi => (World.cell?_of_block (w := w) (a := ⟨b, off + i, none⟩) (hb b (hn b rfl) hl)).trans (hc i hi)⟩⟩
theorem SigsNew.keep {B : Nat} {w w' : World} {v : Value} {l : List (Int × List ByteArray)} (h : SigsNew B w v l) (hs : w.heap.size ≤ w'.heap.size) (hb : ∀ c, B ≤ c → c < w.heap.size → w'.heap[c]? = w.heap[c]?) : SigsNew B w' v l := by
  obtain ⟨a0, cap, rfl, h | ⟨b, off, rfl, hB, hl, hc⟩⟩ := h
  · exact ⟨a0, cap, rfl, Or.inl h⟩
  · refine ⟨_, cap, rfl, Or.inr ⟨b, off, rfl, hB, Nat.lt_of_lt_of_le hl hs, fun i hi => ?_⟩⟩
    obtain ⟨tv, h1, h2, h3, h4⟩ := hc i hi
    exact ⟨tv, (World.cell?_of_block (w := w) (a := ⟨b, off + i * 2, none⟩) (hb b hB hl)).trans h1, (World.cell?_of_block (w := w) (a := ⟨b, off + i * 2 + 1, none⟩) (hb b hB hl)).trans h2, strs_from h3 h4 hs hb, h4⟩
theorem SigsNew.later {B : Nat} {w w' : World} {v : Value} {l : List (Int × List ByteArray)} (h : SigsNew B w v l) (hb : Below w.heap.size w w') : SigsNew B w' v l := h.keep hb.size fun c _ hc => hb.block c hc
theorem SigsNew.mono {B B' : Nat} {w : World} {v : Value} {l : List (Int × List ByteArray)} (h : SigsNew B w v l) (hB : B' ≤ B) : SigsNew B' w v l := by
  obtain ⟨a0, cap, rfl, h | ⟨b, off, rfl, h1, hl, hc⟩⟩ := h
  · exact ⟨a0, cap, rfl, Or.inl h⟩
  · refine ⟨_, cap, rfl, Or.inr ⟨b, off, rfl, Nat.le_trans hB h1, hl, fun i hi => ?_⟩⟩
    obtain ⟨tv, k1, k2, k3, k4⟩ := hc i hi
    exact ⟨tv, k1, k2, k3, fun c hc => Nat.le_trans hB (k4 c hc)⟩
theorem CopiedB.done {M : List Sg} {b o g B cap : Nat} {w0 wr w' : World} {D : Nat → Sg} (h : CopiedB M b o g B M.length w0 wr D) (hB : B ≤ b) (hg : b ≠ g) (hu : Upd g wr w') : SigsNew B w' (.slice (some ⟨b, o, none⟩) M.length cap) (M.map bare) := by
  have hrow := h.row.of_heap (hu.block b hg)
  refine ⟨_, cap, by rw [List.length_map], Or.inr ⟨b, o, rfl, hB, hrow.lt, fun i hi => ?_⟩⟩
  rw [List.length_map] at hi
  rw [getD_map_bare M i hi, ← h.same i hi]
  exact ⟨_, hrow.at0 i hi, hrow.at1 i hi, (strs_upd (h.tags i hi) (Or.inr rfl) hu).1, h.new i hi⟩
theorem CopiedB.on {M : List Sg} {b o g B i : Nat} {w0 wr w' : World} {D : Nat → Sg} (h : CopiedB M b o g B i w0 wr D) (hb : Below wr.heap.size wr w') : CopiedB M b o g B i w0 w' D :=
  ⟨h.new, h.row.below hb, h.same, fun j hj => (h.tags j hj).on hb, h.below.trans (hb.mono h.size), Nat.le_trans h.size hb.size⟩
theorem CopiedB.step {M : List Sg} {b o g B i : Nat} {w0 wr : World} {D : Nat → Sg} (h : CopiedB M b o g B i w0 wr D) (hB : B ≤ b) (hi : i < M.length) (t : Option Addr × Nat) (hn : StrsNot b g wr (.slice t.1 (D i).2.2.length t.2) (D i).2.2) (hw : ∀ c, (Value.slice t.1 (D i).2.2.length t.2).ownBlock = some c → B ≤ c) :
    CopiedB M b o g B (i + 1) w0 (wr.setCell ⟨b, o + i * 2 + 1, none⟩ (.slice t.1 (D i).2.2.length t.2)) (put D i ((D i).1, t, (D i).2.2)) := by
  have hu := Upd.set wr b (o + i * 2 + 1) (.slice t.1 (D i).2.2.length t.2)
  refine ⟨fun j hj => ?_, h.row.set1 i hi t (D i).2.2, fun j hj => ?_, fun j hj => ?_, h.below.trans (hu.below hB), by rw [hu.size]; exact h.size⟩
  · by_cases e : j = i
    · subst e; rw [put_same]; exact hw
    · rw [put_other _ _ e]; exact h.new j (by omega)
  · by_cases e : j = i
    · subst e; rw [put_same]; exact h.same j hj
    · rw [put_other _ _ e]; exact h.same j hj
  · by_cases e : j = i
    · subst e; rw [put_same]; exact strs_upd hn (Or.inl rfl) hu
    · rw [put_other _ _ e]; exact strs_upd (h.tags j hj) (Or.inl rfl) hu
/-- both cells of a signature are written -/
theorem CopiedB.step2 {M : List Sg} {b o g B i : Nat} {w0 wr : World} {D : Nat → Sg} (h : CopiedB M b o g B i w0 wr D) (hB : B ≤ b) (hi : i < M.length) (t : Option Addr × Nat) (hn : StrsNot b g wr (.slice t.1 (D i).2.2.length t.2) (D i).2.2) (hw : ∀ c, (Value.slice t.1 (D i).2.2.length t.2).ownBlock = some c → B ≤ c) :
    CopiedB M b o g B (i + 1) w0 ((wr.setCell ⟨b, o + i * 2, none⟩ (.int .i64 (D i).1)).setCell ⟨b, o + i * 2 + 1, none⟩ (.slice t.1 (D i).2.2.length t.2)) (put D i ((D i).1, t, (D i).2.2)) := by
  have hu := (Upd.set wr b (o + i * 2) (.int .i64 (D i).1)).trans (Upd.set _ b (o + i * 2 + 1) (.slice t.1 (D i).2.2.length t.2))
  refine ⟨fun j hj => ?_, h.row.set i hi ((D i).1, t, (D i).2.2), fun j hj => ?_, fun j hj => ?_, h.below.trans (hu.below hB), by rw [hu.size]; exact h.size⟩
  · by_cases e : j = i
    · subst e; rw [put_same]; exact hw
    · rw [put_other _ _ e]; exact h.new j (by omega)
  · by_cases e : j = i
    · subst e; rw [put_same]; exact h.same j hj
    · rw [put_other _ _ e]; exact h.same j hj
  · by_cases e : j = i
    · subst e; rw [put_same]; exact strs_upd hn (Or.inl rfl) hu
    · rw [put_other _ _ e]; exact strs_upd (h.tags j hj) (Or.inl rfl) hu
/-- two cells -/
def cG (f t : Value) : Nat → Value := fun i => if i = 0 then f else t
theorem cG_row (f t : Value) : #[f, t] = row 2 (cG f t) := by rfl
theorem getD_mem {α : Type} {l : List α} {i : Nat} {d : α} (h : i < l.length) : l.getD i d ∈ l := by
  rw [List.getD_eq_getElem?_getD, List.getElem?_eq_getElem h]; exact List.getElem_mem h
section
variable {P : Program} {ops : Array Oper} {S : World → Prop} {Q : Exit → Act → World → Prop}
end
/-- a certificate in memory of the call's own -/
def CopyAns (w : World) (v : Int) (k : ByteArray) (l : List (Int × List ByteArray)) (e : Ending) (w' : World) : Prop :=
  ∃ a0 cap, e = .returned (.agg #[.int .i64 v, .string k, .slice a0 l.length cap]) ∧ SigsNew w.heap.size w' (.slice a0 l.length cap) l ∧ Below w.heap.size w w'
end JJ
namespace Go.Proofs.YthajnkcipifhcaaGreatDoor
open JJ CC WW BB MM Go.Lib Go.Sort
set_option maxRecDepth 100000 in
set_option maxHeartbeats 4000000 in
/-- a signature of which the tags are copied -/
theorem ownsig_any (f : Int) (tv : Value) (ts : List ByteArray) (w : World) (h : StrsAt w tv ts) (hl : ts.length ≤ 1000) :
    Calls Tryz.prog 98 #[.agg #[.int .i64 f, tv]] w fun e w' => ∃ a0 cap, e = .returned (.agg #[.int .i64 f, .slice a0 ts.length cap]) ∧ StrsAt w' (.slice a0 ts.length cap) ts ∧ (∀ c, (Value.slice a0 ts.length cap).ownBlock = some c → w.heap.size ≤ c) ∧ Below w.heap.size w w' := by
  have HV := Lib.hid h
  have HL := Lib.hid hl
  obtain ⟨ta, tc, rfl, _⟩ := h
  clear hl
  obtain ⟨g, hg⟩ : ∃ g, w.heap.size = g := ⟨_, rfl⟩
  have k0 : Blk ((w.alloc (.cells #[.int .i64 f, .slice ta ts.length tc] 39)).alloc (.cells #[.int .i64 0, .slice none 0 0] 39)) g 2 (cG (.int .i64 f) (.slice ta ts.length tc)) := (Blk.new' hg.symm (cG_row _ _)).alloc _
  have r0 : Blk ((w.alloc (.cells #[.int .i64 f, .slice ta ts.length tc] 39)).alloc (.cells #[.int .i64 0, .slice none 0 0] 39)) (g + 1) 2 (cG (.int .i64 0) (.slice none 0 0)) := Blk.new' (by simp; omega) (cG_row _ _)
  have b0 := ((Below.refl w.heap.size w).alloc (Nat.le_refl _) (.cells #[.int .i64 f, .slice ta ts.length tc] 39)).alloc (by simp) (.cells #[.int .i64 0, .slice none 0 0] 39)
  go_enter Tryz.func98, Tryz.ntmps98
  go_wp2_with fail
  rw [hg] at b0
  have HG := Lib.hid hg
  clear hg
  generalize (w.alloc (.cells #[.int .i64 f, .slice ta ts.length tc] 39)).alloc (.cells #[.int .i64 0, .slice none 0 0] 39) = w0 at *
  have K0 := Lib.hid k0
  have R0 := Lib.hid r0
  have B0 := Lib.hid b0
  have HV0 := Lib.hid (HV.out.later (HG.out ▸ b0))
  clear k0 b0 r0
  refine (tsclone_any ts _ w0 HV0.out HL.out).mono ?_
  rintro e w1 ⟨a1, n1, rfl, hst, how, hb1⟩
  have B1 := Lib.hid hb1
  have K1 := Lib.hid (K0.out.below hb1 K0.out.lt)
  have R1 := Lib.hid (R0.out.below hb1 R0.out.lt)
  have HST := Lib.hid hst
  have HOW := Lib.hid how
  have c2 : w1.cell? ⟨g, 1, none⟩ = some (.slice ta ts.length tc) := K1.out.get 1 (by omega)
  have f2 := K1.out.frz 1
  clear hst how hb1
  have hup := Upd.set w1 g 1 (.slice a1 ts.length n1)
  have k2 := (K1.out.set 1 (.slice a1 ts.length n1)).congr (cG (.int .i64 f) (.slice a1 ts.length n1)) (fun i hi => by
    match i, hi with
    | 0, _ => rfl
    | 1, _ => rfl)
  have r2 := R1.out.upd hup (by omega)
  go_upto_region 2 with fail
  obtain ⟨w2, hw2⟩ : ∃ w2, w1.setCell ⟨g, 1, none⟩ (.slice a1 ts.length n1) = w2 := ⟨_, rfl⟩
  rw [hw2] at hup k2 r2 ⊢
  have HUP := Lib.hid hup
  have R2 := Lib.hid r2
  have q0 := k2.get 0 (by omega)
  have q1 := k2.get 1 (by omega)
  rw [show cG (.int .i64 f) (.slice a1 ts.length n1) 0 = .int .i64 f from rfl] at q0
  rw [show cG (.int .i64 f) (.slice a1 ts.length n1) 1 = .slice a1 ts.length n1 from rfl] at q1
  have c0 : w2.cell? ⟨g + 1, 0, none⟩ = some (.int .i64 0) := R2.out.get 0 (by omega)
  have g0 := R2.out.frz 0
  have c1 : w2.cell? ⟨g + 1, 1, none⟩ = some (.slice none 0 0) := R2.out.get 1 (by omega)
  have g1 := R2.out.frz 1
  clear hw2 hup k2 r2 c2 f2
  go_wp2_with fail
  have k5 := (R2.out.set 0 (.int .i64 f)).set 1 (.slice a1 ts.length n1)
  have p0 := k5.get 0 (by omega)
  have p1 := k5.get 1 (by omega)
  rw [show put (put (cG (.int .i64 0) (.slice none 0 0)) 0 (.int .i64 f)) 1 (.slice a1 ts.length n1) 0 = .int .i64 f from rfl] at p0
  rw [show put (put (cG (.int .i64 0) (.slice none 0 0)) 0 (.int .i64 f)) 1 (.slice a1 ts.length n1) 1 = .slice a1 ts.length n1 from rfl] at p1
  have hu2 := (Upd.set w2 (g + 1) 0 (.int .i64 f)).trans (Upd.set _ (g + 1) 1 (.slice a1 ts.length n1))
  refine bodyPost_ret (v := .agg #[.int .i64 f, .slice a1 ts.length n1]) (by simp [results, Tryz.results98, go_sem, p0, p1]) rfl ?_
  have hz : g + 1 < w0.heap.size := R0.out.lt
  refine ⟨a1, n1, rfl, ?_, fun c hc => ?_, ?_⟩
  · refine strs_from (B := w0.heap.size) HST.out HOW.out (by rw [hu2.size, HUP.out.size]; exact Nat.le_refl _) fun c hc hl => ?_
    exact (hu2.block c (by omega)).trans (HUP.out.block c (by omega))
  · have h1 := HOW.out c hc
    have h2 := HG.out
    omega
  · exact HG.out ▸ (B0.out.trans ((B1.out.mono (by omega)).trans ((HUP.out.below (Nat.le_refl g)).trans (hu2.below (Nat.le_succ g)))))
set_option maxRecDepth 100000 in
set_option maxHeartbeats 8000000 in
theorem copied_sg (v : Int) (k : ByteArray) (sv : Value) (L : List Sg) (w : World) (hv : SgAt w sv L) (hl : L.length ≤ 1000) (ht : ∀ x ∈ L, x.2.2.length ≤ 1000) :
    Calls Tryz.prog 45 #[.agg #[.int .i64 v, .string k, sv]] w (CopyAns w v k (L.map bare)) := by
  have HV := Lib.hid hv
  have HL := Lib.hid hl
  have HT := Lib.hid ht
  obtain ⟨x0, scap, rfl, _⟩ := hv
  clear hl ht
  obtain ⟨g, hg⟩ : ∃ g, w.heap.size = g := ⟨_, rfl⟩
  have k0 : Blk ((w.alloc (.cells #[.int .i64 v, .string k, .slice x0 L.length scap] 33)).alloc (.cells #[.int .i64 0, .string ⟨#[]⟩, .slice none 0 0] 33)) g 3 (cC (.int .i64 v) k (.slice x0 L.length scap)) := (Blk.new' hg.symm (cC_row _ _ _)).alloc _
  have r0 : Blk ((w.alloc (.cells #[.int .i64 v, .string k, .slice x0 L.length scap] 33)).alloc (.cells #[.int .i64 0, .string ⟨#[]⟩, .slice none 0 0] 33)) (g + 1) 3 (cC (.int .i64 0) ⟨#[]⟩ (.slice none 0 0)) := Blk.new' (by simp; omega) (cC_row _ _ _)
  have b0 := ((Below.refl w.heap.size w).alloc (Nat.le_refl _) (.cells #[.int .i64 v, .string k, .slice x0 L.length scap] 33)).alloc (by simp) (.cells #[.int .i64 0, .string ⟨#[]⟩, .slice none 0 0] 33)
  go_enter Tryz.func45, Tryz.ntmps45
  go_wp2_with fail
  rw [hg] at b0
  have HG := Lib.hid hg
  clear hg
  generalize (w.alloc (.cells #[.int .i64 v, .string k, .slice x0 L.length scap] 33)).alloc (.cells #[.int .i64 0, .string ⟨#[]⟩, .slice none 0 0] 33) = w0 at *
  have K0 := Lib.hid k0
  have R0 := Lib.hid r0
  have B0 := Lib.hid b0
  have HV0 := Lib.hid (HV.out.later (HG.out ▸ b0))
  clear k0 b0 r0
  refine (sgclone_any L _ w0 HV0.out HL.out).mono ?_
  rintro e w1 ⟨v1, rfl, hs1, hb1⟩
  have B1 := Lib.hid hb1
  have HV1 := Lib.hid (HV0.out.later hb1)
  have K1 := Lib.hid (K0.out.below hb1 K0.out.lt)
  have R1 := Lib.hid (R0.out.below hb1 R0.out.lt)
  obtain ⟨a3, cap3, rfl, hcap3, hrow⟩ := hs1
  have HRO := Lib.hid hrow
  have c2 : w1.cell? ⟨g, 2, none⟩ = some (.slice x0 L.length scap) := K1.out.get 2 (by omega)
  have f2 := K1.out.frz 2
  clear hrow hb1 hcap3
  have hup := Upd.set w1 g 2 (.slice a3 L.length cap3)
  have k2 := (K1.out.set 2 (.slice a3 L.length cap3)).congr (cC (.int .i64 v) k (.slice a3 L.length cap3)) (fun i hi => by
    match i, hi with
    | 0, _ => rfl
    | 1, _ => rfl
    | 2, _ => rfl)
  have r2 := R1.out.upd hup (by omega)
  have HTG := Lib.hid (fun x (hx : x ∈ L) => And.intro (sg_tags HV1.out x hx).1 (And.intro (sg_tags HV.out x hx).2 (HT.out x hx)))
  go_wp2_with fail
  obtain ⟨w2, hw2⟩ : ∃ w2, w1.setCell ⟨g, 2, none⟩ (.slice a3 L.length cap3) = w2 := ⟨_, rfl⟩
  rw [hw2] at hup k2 r2 ⊢
  have HW2 := Lib.hid hw2
  have HUP := Lib.hid hup
  have K2 := Lib.hid k2
  have R2 := Lib.hid r2
  have B2 := Lib.hid (B0.out.trans ((B1.out.mono (by have := B0.out.size; have := HG.out; omega)).trans (hup.below (Nat.le_refl g))))
  clear hw2 hup k2 r2 c2 f2
  rcases HRO.out with hM0 | ⟨b, o, rfl, hBb, hrow⟩
  · subst hM0
    go_loopw [12] (fun x wx => x = .int .i64 0 ∧ w2 = wx) (fun _ _ => 0)
    case atStart => exact ⟨rfl, rfl⟩
    case round =>
      obtain ⟨rfl, rfl⟩ := hrel
      have q0 := K2.out.get 0 (by omega)
      have q1 := K2.out.get 1 (by omega)
      have q2 := K2.out.get 2 (by omega)
      rw [show cC (.int .i64 v) k (.slice a3 ([] : List Sg).length cap3) 0 = .int .i64 v from rfl] at q0
      rw [show cC (.int .i64 v) k (.slice a3 ([] : List Sg).length cap3) 1 = .string k from rfl] at q1
      rw [show cC (.int .i64 v) k (.slice a3 ([] : List Sg).length cap3) 2 = .slice a3 0 cap3 from rfl] at q2
      have c0 : w2.cell? ⟨g + 1, 0, none⟩ = some (.int .i64 0) := R2.out.get 0 (by omega)
      have g0 := R2.out.frz 0
      have c1 : w2.cell? ⟨g + 1, 1, none⟩ = some (.string ⟨#[]⟩) := R2.out.get 1 (by omega)
      have g1 := R2.out.frz 1
      have c2 : w2.cell? ⟨g + 1, 2, none⟩ = some (.slice none 0 0) := R2.out.get 2 (by omega)
      have g2 := R2.out.frz 2
      go_wp2_with fail
      have k5 := ((R2.out.set 0 (.int .i64 v)).set 1 (.string k)).set 2 (.slice a3 0 cap3)
      have p0 := k5.get 0 (by omega)
      have p1 := k5.get 1 (by omega)
      have p2 := k5.get 2 (by omega)
      rw [show put (put (put (cC (.int .i64 0) ⟨#[]⟩ (.slice none 0 0)) 0 (.int .i64 v)) 1 (.string k)) 2 (.slice a3 0 cap3) 0 = .int .i64 v from rfl] at p0
      rw [show put (put (put (cC (.int .i64 0) ⟨#[]⟩ (.slice none 0 0)) 0 (.int .i64 v)) 1 (.string k)) 2 (.slice a3 0 cap3) 1 = .string k from rfl] at p1
      rw [show put (put (put (cC (.int .i64 0) ⟨#[]⟩ (.slice none 0 0)) 0 (.int .i64 v)) 1 (.string k)) 2 (.slice a3 0 cap3) 2 = .slice a3 0 cap3 from rfl] at p2
      have hup := ((Upd.set w2 (g + 1) 0 (.int .i64 v)).trans (Upd.set _ (g + 1) 1 (.string k))).trans (Upd.set _ (g + 1) 2 (.slice a3 0 cap3))
      refine bodyPost_ret (v := .agg #[.int .i64 v, .string k, .slice a3 0 cap3]) (by simp [results, Tryz.results45, go_sem, p0, p1, p2]) rfl ?_
      exact ⟨a3, cap3, rfl, ⟨a3, cap3, rfl, Or.inl rfl⟩, HG.out ▸ (B2.out.trans (hup.below (Nat.le_succ _)))⟩
  · have HBB := Lib.hid (show g + 1 < b ∧ w0.heap.size ≤ b from ⟨Nat.lt_of_lt_of_le R0.out.lt hBb, hBb⟩)
    have HST := Lib.hid (show CopiedB L b o (g + 1) w0.heap.size 0 w2 w2 (fun i => L.getD i s0) from ⟨fun j hj => absurd hj (Nat.not_lt_zero _), hrow.of_heap (HUP.out.block b (by have := HBB.out.1; omega)), fun _ _ => rfl, fun j hj => by
      obtain ⟨h1, h2, _⟩ := HTG.out _ (getD_mem (d := s0) hj)
      have h3 : StrsNot b g w1 (tvS (L.getD j s0)) (L.getD j s0).2.2 := ⟨h1, h2.imp id fun h2 c hc => by
        have h3 := h2 c hc
        have := HBB.out.1; have := HG.out
        omega⟩
      have h4 := strs_upd h3 (Or.inr rfl) HUP.out
      exact ⟨h4.1, h2.imp id fun h2 c hc => by
        have h3 := h2 c hc
        have := HBB.out.1; have := HG.out
        omega⟩, Below.refl _ _, by rw [HUP.out.size]; exact B1.out.size⟩)
    have HTL := Lib.hid (show ∀ j, j < L.length → (L.getD j s0).2.2.length ≤ 1000 from fun j hj => (HTG.out _ (getD_mem hj)).2.2)
    clear hBb hrow
    go_loopw [12] (fun x wx => ∃ (i : Nat) (D : Nat → Sg), i ≤ L.length ∧ x = .int .i64 (i : Int) ∧ CopiedB L b o (g + 1) w0.heap.size i w2 wx D) (fun x _ => L.length - (RowKit.intOf x).toNat)
    case atStart => exact ⟨0, _, Nat.zero_le _, rfl, HST.out⟩
    case round =>
      obtain ⟨i, D, hi, rfl, hcp⟩ := hrel
      have HCP := Lib.hid hcp
      have i0 : (0 : Int) ≤ (i : Int) := by omega
      have ib : (i : Int) ≤ 1000 := by have := HL.out; omega
      have KR := Lib.hid (K2.out.below hcp.below (by have := B0.out.size; have := HG.out; have := K0.out.lt; omega))
      clear hcp
      have q2 : wr.cell? ⟨g, 2, none⟩ = some (.slice (some ⟨b, o, none⟩) L.length cap3) := KR.out.get 2 (by omega)
      by_cases hlt : i < L.length
      · have hlt' : (i : Int) < (L.length : Int) := by omega
        have HLT := Lib.hid hlt
        have a0 : wr.cell? ⟨b, o + i * 2, none⟩ = some (.int .i64 (D i).1) := HCP.out.row.at0 i hlt
        have a1 : wr.cell? ⟨b, o + i * 2 + 1, none⟩ = some (.slice (D i).2.1.1 (D i).2.2.length (D i).2.1.2) := HCP.out.row.at1 i hlt
        have HL1 := Lib.hid (show (D i).2.2.length ≤ 1000 by have h1 := congrArg Prod.snd (HCP.out.same i hlt); have h2 : (D i).2.2 = (L.getD i s0).2.2 := h1; rw [h2]; exact HTL.out i hlt)
        have X1 := Lib.hid ((Below.refl wr.heap.size wr).alloc (Nat.le_refl _) (.cells #[.int .i64 (D i).1, .slice (D i).2.1.1 (D i).2.2.length (D i).2.1.2] 39))
        have RX := Lib.hid (show Blk (wr.alloc (.cells #[.int .i64 (D i).1, .slice (D i).2.1.1 (D i).2.2.length (D i).2.1.2] 39)) wr.heap.size 2 (cG (.int .i64 (D i).1) (.slice (D i).2.1.1 (D i).2.2.length (D i).2.1.2)) from Blk.new' rfl (cG_row _ _))
        clear hi hlt
        go_upto_region 5 with fail
        obtain ⟨y, hy⟩ : ∃ y, wr.heap.size = y := ⟨_, rfl⟩
        have HY := Lib.hid hy
        obtain ⟨w3, hw3⟩ : ∃ w3, wr.alloc (.cells #[.int .i64 (D i).1, .slice (D i).2.1.1 (D i).2.2.length (D i).2.1.2] 39) = w3 := ⟨_, rfl⟩
        rw [hw3] at X1 RX ⊢
        rw [hy] at RX ⊢
        clear hw3 hy a0 a1 q2
        have KX := Lib.hid (KR.out.below X1.out KR.out.lt)
        have HCC := Lib.hid (fun (wx : World) (hx : Below w3.heap.size w3 wx) => show wx.cell? ⟨g, 2, none⟩ = some (.slice (some ⟨b, o, none⟩) L.length cap3) ∧ wx.cell? ⟨y, 0, none⟩ = some (.int .i64 (D i).1) ∧ wx.cell? ⟨y, 1, none⟩ = some (.slice (D i).2.1.1 (D i).2.2.length (D i).2.1.2) from
          ⟨(KX.out.below hx KX.out.lt).get 2 (by omega), (RX.out.below hx RX.out.lt).get 0 (by omega), (RX.out.below hx RX.out.lt).get 1 (by omega)⟩)
        refine planE_abs (fun wx => Below w3.heap.size w3 wx) 6 [(true, 0), (true, 1), (true, 2), (true, 3), (false, 4), (true, 5), (false, 6)] (by kernel_rfl) (by kernel_rfl) (fun _ _ d _ _ h => by cases d <;> exact h) fun w4 hs4 => ⟨hs4.below _, ?_⟩
        have Y4 := Lib.hid (hs4.below w3.heap.size)
        clear hs4
        iterate 4 (refine pe_run _ ?_ rfl rfl ?_ ?_; rotate_left; (focus (intro w' hS; obtain ⟨e2, d0, d1⟩ := HCC.out w' hS; go_simp; exact rfl)); simp only [Act.put, List.setIfInBounds_toArray, List.set_cons_zero, List.set_cons_succ, List.getElem_toArray, List.getElem_cons_zero, List.getElem_cons_succ])
        have HC4 := Lib.hid (HCP.out.on (X1.out.trans (Y4.out.mono X1.out.size)))
        refine pe_call (R := fun u w' => ∃ a0 cap, u = .agg #[.int .i64 (D i).1, .slice a0 (D i).2.2.length cap] ∧ StrsAt w' (.slice a0 (D i).2.2.length cap) (D i).2.2 ∧ (∀ c, (Value.slice a0 (D i).2.2.length cap).ownBlock = some c → w4.heap.size ≤ c) ∧ Below w4.heap.size w4 w') _ rfl rfl (by go_simp)
          ((ownsig_any (D i).1 (.slice (D i).2.1.1 (D i).2.2.length (D i).2.1.2) (D i).2.2 w4 (HC4.out.tags i HLT.out).1 HL1.out).mono fun e w' ⟨a0, cap, he, h⟩ => ⟨_, he, a0, cap, rfl, h⟩) (fun u w' ⟨_, _, _, _, _, hb⟩ => Y4.out.trans (hb.mono Y4.out.size)) fun u w5 hr => ?_
        obtain ⟨ta, tc, rfl, hst, how, hb5⟩ := hr
        simp only [Act.put, List.setIfInBounds_toArray, List.set_cons_zero, List.set_cons_succ, List.getElem_toArray, List.getElem_cons_zero, List.getElem_cons_succ]
        iterate 1 (refine pe_run _ ?_ rfl rfl ?_ ?_; rotate_left; (focus (intro w' hS; go_simp; exact rfl)); simp only [Act.put, List.setIfInBounds_toArray, List.set_cons_zero, List.set_cons_succ, List.getElem_toArray, List.getElem_cons_zero, List.getElem_cons_succ])
        have Y5 := Lib.hid (Y4.out.trans (hb5.mono Y4.out.size))
        have HC5 := Lib.hid (HC4.out.on hb5)
        have HN5 := Lib.hid (show StrsNot b (g + 1) w5 (.slice ta (D i).2.2.length tc) (D i).2.2 from ⟨hst, Or.inr fun c hc => by
          have h1 := how c hc
          have h2 := HC4.out.row.lt
          have h3 := HBB.out.1
          omega⟩)
        have c0 := HC5.out.row.at0 i HLT.out
        have g0 := HC5.out.row.f0 i HLT.out
        have c1 := HC5.out.row.at1 i HLT.out
        have g1 := HC5.out.row.f1 i HLT.out
        rw [show tvS (D i) = .slice (D i).2.1.1 (D i).2.2.length (D i).2.1.2 from rfl] at c1
        have HNX := Lib.hid (HC5.out.step2 HBB.out.2 HLT.out (ta, tc) HN5.out (fun c hc => Nat.le_trans HC4.out.size (how c hc)))
        clear hst how hb5
        refine pe_last _ rfl ?_
        simp only [List.getElem_toArray, List.getElem_cons_zero, List.getElem_cons_succ]
        go_wp2_with fail
        go_roundw
        case rel => exact ⟨i + 1, _, by have := HLT.out; omega, by go_num, HNX.out⟩
        case measure => have := HLT.out; simp [RowKit.intOf]; omega
      · obtain rfl : i = L.length := by omega
        have hlt' : ¬ (L.length : Int) < (L.length : Int) := by omega
        have RR := Lib.hid (R2.out.below HCP.out.below R0.out.lt)
        have HBA := Lib.hid (B2.out.trans (HCP.out.below.mono (by have := B0.out.size; have := HG.out; omega)))
        clear hi hlt
        have q0 := KR.out.get 0 (by omega)
        have q1 := KR.out.get 1 (by omega)
        rw [show cC (.int .i64 v) k (.slice (some ⟨b, o, none⟩) L.length cap3) 0 = .int .i64 v from rfl] at q0
        rw [show cC (.int .i64 v) k (.slice (some ⟨b, o, none⟩) L.length cap3) 1 = .string k from rfl] at q1
        have c0 : wr.cell? ⟨g + 1, 0, none⟩ = some (.int .i64 0) := RR.out.get 0 (by omega)
        have g0 := RR.out.frz 0
        have c1 : wr.cell? ⟨g + 1, 1, none⟩ = some (.string ⟨#[]⟩) := RR.out.get 1 (by omega)
        have g1 := RR.out.frz 1
        have c2 : wr.cell? ⟨g + 1, 2, none⟩ = some (.slice none 0 0) := RR.out.get 2 (by omega)
        have g2 := RR.out.frz 2
        go_wp2_with fail
        have k5 := ((RR.out.set 0 (.int .i64 v)).set 1 (.string k)).set 2 (.slice (some ⟨b, o, none⟩) L.length cap3)
        have p0 := k5.get 0 (by omega)
        have p1 := k5.get 1 (by omega)
        have p2 := k5.get 2 (by omega)
        rw [show put (put (put (cC (.int .i64 0) ⟨#[]⟩ (.slice none 0 0)) 0 (.int .i64 v)) 1 (.string k)) 2 (.slice (some ⟨b, o, none⟩) L.length cap3) 0 = .int .i64 v from rfl] at p0
        rw [show put (put (put (cC (.int .i64 0) ⟨#[]⟩ (.slice none 0 0)) 0 (.int .i64 v)) 1 (.string k)) 2 (.slice (some ⟨b, o, none⟩) L.length cap3) 1 = .string k from rfl] at p1
        rw [show put (put (put (cC (.int .i64 0) ⟨#[]⟩ (.slice none 0 0)) 0 (.int .i64 v)) 1 (.string k)) 2 (.slice (some ⟨b, o, none⟩) L.length cap3) 2 = .slice (some ⟨b, o, none⟩) L.length cap3 from rfl] at p2
        have hup := ((Upd.set wr (g + 1) 0 (.int .i64 v)).trans (Upd.set _ (g + 1) 1 (.string k))).trans (Upd.set _ (g + 1) 2 (.slice (some ⟨b, o, none⟩) L.length cap3))
        refine bodyPost_ret (v := .agg #[.int .i64 v, .string k, .slice (some ⟨b, o, none⟩) L.length cap3]) (by simp [results, Tryz.results45, go_sem, p0, p1, p2]) rfl ?_
        exact ⟨(some ⟨b, o, none⟩), cap3, by rw [List.length_map], by rw [List.length_map]; exact (HCP.out.done HBB.out.2 (by have := HBB.out.1; omega) hup).mono (by have := B0.out.size; have := HG.out; omega), HG.out ▸ (HBA.out.trans (hup.below (Nat.le_succ _)))⟩
theorem copied_any (v : Int) (k : ByteArray) (sv : Value) (l : List (Int × List ByteArray)) (w : World) (hv : SigsAt w sv l) (hl : l.length ≤ 1000) (ht : ∀ p ∈ l, p.2.length ≤ 1000) :
    Calls Tryz.prog 45 #[.agg #[.int .i64 v, .string k, sv]] w (CopyAns w v k l) := by
  obtain ⟨L, rfl, hs⟩ := sg_of_sigs hv
  rw [List.length_map] at hl
  exact copied_sg v k sv L w hs hl fun x hx => ht (bare x) (List.mem_map_of_mem hx)
end Go.Proofs.YthajnkcipifhcaaGreatDoor
