/-
  The walk of what a program that does nothing does not answer (forests).
-/
import Derived.Test.YtegkhhegapnkpaaDoorKGFits
import Derived.Test.YtegkhhegapnkpaaDoorKJCopy
import Derived.ArgAppend
import Derived.Maps.AppendAt
import Derived.Test.YtegkhhegapnkpaaDoorKFMiss
import Derived.Test.YtegkhhegapnkpaaDoorKFHash
section
open Go Go.RowKit
namespace FF
open JJ CC BB WW MM Go.Sort
theorem cellsR_one (l : List (Int × Int × ByteArray)) : ∀ u ∈ cellsR l, u.oneCell' = true := by
  intro u hu
  unfold cellsR at hu
  rw [List.mem_flatten] at hu
  obtain ⟨c, hc, hu⟩ := hu
  obtain ⟨x, _, rfl⟩ := List.mem_map.1 hc
  simp only [List.mem_cons, List.not_mem_nil, or_false] at hu
  rcases hu with rfl | rfl | rfl <;> rfl
/-- requests of the call's own -/
def NewReqs (w : World) (l : List (Int × Int × ByteArray)) (e : Ending) (w' : World) : Prop :=
  ∃ a0 cap, e = .returned (.slice a0 l.length cap) ∧ ReqsAt w' (.slice a0 l.length cap) l ∧ (∀ c, (Value.slice a0 l.length cap).ownBlock = some c → w.heap.size ≤ c) ∧ Below w.heap.size w w'
theorem reqs_keep {w w' : World} {v : Value} {l : List (Int × Int × ByteArray)} (h : ReqsAt w v l) (hs : w.heap.size ≤ w'.heap.size) (hb : ∀ c, v.ownBlock = some c → c < w.heap.size → w'.heap[c]? = w.heap[c]?) : ReqsAt w' v l := by
  obtain ⟨a0, cap, rfl, h | ⟨b, off, rfl, hl, hc⟩⟩ := h
  · exact ⟨a0, cap, rfl, Or.inl h⟩
  · refine ⟨_, cap, rfl, Or.inr ⟨b, off, rfl, Nat.lt_of_lt_of_le hl hs, fun i hi => ?_⟩⟩
    obtain ⟨h1, h2, h3⟩ := hc i hi
    have e := hb b rfl hl
    exact ⟨(World.cell?_of_block (w := w) (a := ⟨b, off + i * 3, none⟩) e).trans h1, (World.cell?_of_block (w := w) (a := ⟨b, off + i * 3 + 1, none⟩) e).trans h2, (World.cell?_of_block (w := w) (a := ⟨b, off + i * 3 + 2, none⟩) e).trans h3⟩
/-- a block in memory of the call's own -/
def CopyB (w : World) (v p j : Int) (k : ByteArray) (l : List (Int × List ByteArray)) (m : List (Int × Int × ByteArray)) (e : Ending) (w' : World) : Prop :=
  ∃ a0 cap a1 cap1, e = .returned (.agg #[.int .i64 v, .int .i64 p, .int .i64 j, .string k, .slice a0 l.length cap, .slice a1 m.length cap1]) ∧ SigsNew w.heap.size w' (.slice a0 l.length cap) l ∧
    ReqsAt w' (.slice a1 m.length cap1) m ∧ (∀ c, (Value.slice a1 m.length cap1).ownBlock = some c → w.heap.size ≤ c) ∧ Below w.heap.size w w'
theorem rowL6 (a b c d e f : Value) : (#[a, b, c, d, e, f] : Array Value) = row 6 (rowL [a, b, c, d, e, f]) := rfl
end FF
namespace Go.Proofs.YtegkhhegapnkpaaDoor
open FF JJ CC WW BB MM Go.Lib Go.Sort
set_option maxRecDepth 100000 in
set_option maxHeartbeats 4000000 in
theorem rqclone_any (l : List (Int × Int × ByteArray)) (v : Value) (w : World) (h : ReqsAt w v l) (hs : l.length ≤ 100000) :
    Calls Tryd.prog 130 #[v] w (NewReqs w l) := by
  have HS := Lib.hid hs
  obtain ⟨a0, cap, rfl, hx⟩ := h
  have q22 : ∀ (w : World) (a : Option Addr) (n c n' c' : Nat), (binOp .eql 25 (.slice a n c) (.slice none n' c')).run Tryd.prog w = .ok (.bool a.isNone) w := fun w a n c n' c' => Lib.run_eql_slice_nil w _ 34 a n c n' c' (by kernel_rfl)
  obtain ⟨i0, hi, hz0, hz1, hz2⟩ : ∃ i, Tryd.prog.info? 34 = some i ∧ i.zero = some (.agg #[.int .i64 0, .int .i64 0, .string ⟨#[]⟩]) ∧ i.size = 3 ∧ i.bytes = 32 := by
    have h : (Tryd.prog.info? 34).map (fun i => (i.zero, i.size, i.bytes)) = some (some (.agg #[.int .i64 0, .int .i64 0, .string ⟨#[]⟩]), 3, 32) := by kernel_rfl
    rcases hi : Tryd.prog.info? 34 with _ | i
    · rw [hi] at h; cases h
    · rw [hi] at h
      simp only [Option.map_some, Option.some.injEq, Prod.mk.injEq] at h
      exact ⟨i, rfl, h.1, h.2.1, h.2.2⟩
  have HI := Lib.hid hi
  have HZ := Lib.hid (And.intro hz0 (And.intro hz1 hz2))
  have HX := Lib.hid hx
  clear hs hx hi hz0 hz1 hz2
  rcases a0 with _ | ad
  · have hL : l = [] := by
      rcases HX.out with h | ⟨b, o, h, _⟩
      · exact h
      · cases h
    subst hL
    go_enter Tryd.func130, Tryd.ntmps130
    go_wp2_with fail
    go_ret
    exact ⟨none, 0, rfl, ⟨none, 0, rfl, Or.inl rfl⟩, (fun c hc => by cases hc), Below.refl _ _⟩
  · have hread : ∀ j u, (cellsR l)[j]? = some u → w.cell? (ad.add j) = some u := fun j u hj => by
      rcases HX.out with h | ⟨b, o, h, hb, hc⟩
      · subst h; simp [cellsR] at hj
      · injection h with h
        subst h
        have hlt : j < l.length * 3 := by rw [← cellsR_len]; exact (List.getElem?_eq_some_iff.1 hj).1
        have e : (⟨b, o, none⟩ : Addr).add j = ⟨b, o + j, none⟩ := by unfold Addr.add; split <;> simp [*]
        rw [e]
        obtain ⟨h1, h2, h3⟩ := hc (j / 3) (by omega)
        obtain ⟨k1, k2, k3⟩ := cellsR_at l (j / 3) (by omega)
        have hm : j % 3 = 0 ∨ j % 3 = 1 ∨ j % 3 = 2 := by omega
        rcases hm with hm | hm | hm
        · have e2 : j = j / 3 * 3 := by omega
          rw [e2, k1] at hj
          rw [e2, ← hj]; exact h1
        · have e2 : j = j / 3 * 3 + 1 := by omega
          rw [e2, k2] at hj
          rw [e2, ← hj]; exact h2
        · have e2 : j = j / 3 * 3 + 2 := by omega
          rw [e2, k3] at hj
          rw [e2, ← hj]; exact h3
    have HR := Lib.hid hread
    clear hread
    go_enter Tryd.func130, Tryd.ntmps130
    go_wp2_with (at_builtin; refine wpList_append_own _ rfl _ _ 25 rfl w.heap.size 34 i0 (.agg #[.int .i64 0, .int .i64 0, .string ⟨#[]⟩]) 3 32 (by kernel_rfl) HI.out HZ.out.1 HZ.out.2.1 HZ.out.2.2 rfl (by decide) _ _ _ rfl (World.ownsRow_made w #[] 0 (Nat.le_refl _) (Nat.zero_le _) rfl) ad l.length cap (cellsR l) rfl ?qc1 ?qc2 ?qc3 ?qc4 ?qc5 ?qc6 ?_)
    case qc1 => exact cellsR_len l
    case qc2 => intro j u hj; exact Lib.cell?_alloc_some _ (HR.out j u hj)
    case qc3 => exact cellsR_one l
    case qc4 => have := HS.out; unfold maxLen; omega
    case qc5 => have := HS.out; omega
    case qc6 => simp
    intro v' w1 hown hgrow hnil
    have hown : w1.ownsRow w.heap.size 34 3 v' l.length (cellsR l) := by simpa using hown
    obtain ⟨a', c', rfl⟩ : ∃ a' c', v' = .slice a' l.length c' := by
      rcases hown.2 with ⟨h, h0⟩ | ⟨q, cp, cur, rfl, _⟩
      · exact ⟨none, 0, by rw [h, h0]⟩
      · exact ⟨_, _, rfl⟩
    have hO := Lib.hid (reqs_of_own hown)
    have hQ := Lib.hid (fun c hc => (hown.lt c hc).1)
    have hG := Lib.hid (((Below.refl _ w).alloc (Nat.le_refl _) _).grown hgrow (by simp) (by intro k hk; simp [Value.ownBlock] at hk; omega))
    clear hown hgrow hnil
    go_wp2_with fail
    go_ret
    exact ⟨a', c', rfl, hO.out, hQ.out, hG.out⟩
theorem set6 {w : World} {a : Nat} {f : Nat → Value} (h : Blk w a 6 f) (u0 u1 u2 u3 u4 u5 : Value) :
    Blk ((((((w.setCell ⟨a, 0, none⟩ u0).setCell ⟨a, 1, none⟩ u1).setCell ⟨a, 2, none⟩ u2).setCell ⟨a, 3, none⟩ u3).setCell ⟨a, 4, none⟩ u4).setCell ⟨a, 5, none⟩ u5) a 6 (rowL [u0, u1, u2, u3, u4, u5]) ∧
    Upd a w ((((((w.setCell ⟨a, 0, none⟩ u0).setCell ⟨a, 1, none⟩ u1).setCell ⟨a, 2, none⟩ u2).setCell ⟨a, 3, none⟩ u3).setCell ⟨a, 4, none⟩ u4).setCell ⟨a, 5, none⟩ u5) := by
  refine ⟨((((((h.set 0 u0).set 1 u1).set 2 u2).set 3 u3).set 4 u4).set 5 u5).congr _ fun i hi => ?_, ((((((Upd.refl a w).trans (Upd.set _ _ _ _)).trans (Upd.set _ _ _ _)).trans (Upd.set _ _ _ _)).trans (Upd.set _ _ _ _)).trans (Upd.set _ _ _ _)).trans (Upd.set _ _ _ _)⟩
  match i, hi with
  | 0, _ => rfl
  | 1, _ => rfl
  | 2, _ => rfl
  | 3, _ => rfl
  | 4, _ => rfl
  | 5, _ => rfl
set_option maxRecDepth 100000 in
set_option maxHeartbeats 8000000 in
theorem gcopied_any (v p j : Int) (k : ByteArray) (sv rv : Value) (l : List (Int × List ByteArray)) (m : List (Int × Int × ByteArray)) (w : World) (hv : SigsAt w sv l) (hr : ReqsAt w rv m) (hl : l.length ≤ 1000) (ht : ∀ p ∈ l, p.2.length ≤ 1000) (hm : m.length ≤ 100000) :
    Calls Tryd.prog 81 #[.agg #[.int .i64 v, .int .i64 p, .int .i64 j, .string k, sv, rv]] w (CopyB w v p j k l m) := by
  have HV := Lib.hid hv
  have HR := Lib.hid hr
  have HL := Lib.hid hl
  have HT := Lib.hid ht
  have HM := Lib.hid hm
  obtain ⟨x0, scap, rfl⟩ := sl_of_sigs hv
  obtain ⟨y0, ycap, rfl⟩ := sl_of_reqs hr
  clear hv hr hl ht hm
  obtain ⟨g, hg⟩ : ∃ g, w.heap.size = g := ⟨_, rfl⟩
  have k0 : Blk ((w.alloc (.cells #[.int .i64 v, .int .i64 p, .int .i64 j, .string k, .slice x0 l.length scap, .slice y0 m.length ycap] 29)).alloc (.cells #[.int .i64 0, .int .i64 0, .int .i64 0, .string ⟨#[]⟩, .slice none 0 0, .slice none 0 0] 29)) g 6 (rowL [.int .i64 v, .int .i64 p, .int .i64 j, .string k, .slice x0 l.length scap, .slice y0 m.length ycap]) := (Blk.new' hg.symm (rowL6 _ _ _ _ _ _)).alloc _
  have r0 : Blk ((w.alloc (.cells #[.int .i64 v, .int .i64 p, .int .i64 j, .string k, .slice x0 l.length scap, .slice y0 m.length ycap] 29)).alloc (.cells #[.int .i64 0, .int .i64 0, .int .i64 0, .string ⟨#[]⟩, .slice none 0 0, .slice none 0 0] 29)) (g + 1) 6 (rowL [.int .i64 0, .int .i64 0, .int .i64 0, .string ⟨#[]⟩, .slice none 0 0, .slice none 0 0]) := Blk.new' (by simp; omega) (rowL6 _ _ _ _ _ _)
  have b0 := ((Below.refl w.heap.size w).alloc (Nat.le_refl _) (.cells #[.int .i64 v, .int .i64 p, .int .i64 j, .string k, .slice x0 l.length scap, .slice y0 m.length ycap] 29)).alloc (by simp) (.cells #[.int .i64 0, .int .i64 0, .int .i64 0, .string ⟨#[]⟩, .slice none 0 0, .slice none 0 0] 29)
  go_enter Tryd.func81, Tryd.ntmps81
  go_wp2_with fail
  rw [hg] at b0
  have HG := Lib.hid hg
  clear hg
  generalize (w.alloc (.cells #[.int .i64 v, .int .i64 p, .int .i64 j, .string k, .slice x0 l.length scap, .slice y0 m.length ycap] 29)).alloc (.cells #[.int .i64 0, .int .i64 0, .int .i64 0, .string ⟨#[]⟩, .slice none 0 0, .slice none 0 0] 29) = w0 at *
  have K0 := Lib.hid k0
  have R0 := Lib.hid r0
  have B0 := Lib.hid b0
  have HV0 := Lib.hid (HV.out.later (HG.out ▸ b0))
  have HR0 := Lib.hid (HR.out.later (HG.out ▸ b0))
  clear k0 b0 r0
  refine (copied_any j k _ l w0 HV0.out HL.out HT.out).mono ?_
  rintro e w1 ⟨sa, sc, rfl, hsn, hb1⟩
  have B1 := Lib.hid hb1
  have HSN := Lib.hid hsn
  have K1 := Lib.hid (K0.out.below hb1 K0.out.lt)
  have R1 := Lib.hid (R0.out.below hb1 R0.out.lt)
  have HR1 := Lib.hid (HR0.out.later hb1)
  clear hsn hb1
  have c2 : w1.cell? ⟨g, 2, none⟩ = some (.int .i64 j) := K1.out.get 2 (by omega)
  have c3 : w1.cell? ⟨g, 3, none⟩ = some (.string k) := K1.out.get 3 (by omega)
  have c4 : w1.cell? ⟨g, 4, none⟩ = some (.slice x0 l.length scap) := K1.out.get 4 (by omega)
  have c5 : w1.cell? ⟨g, 5, none⟩ = some (.slice y0 m.length ycap) := K1.out.get 5 (by omega)
  have f2 := K1.out.frz 2
  have f3 := K1.out.frz 3
  have f4 := K1.out.frz 4
  have hup := ((Upd.set w1 g 2 (.int .i64 j)).trans (Upd.set _ g 3 (.string k))).trans (Upd.set _ g 4 (.slice sa l.length sc))
  have kq := (((K1.out.set 2 (.int .i64 j)).set 3 (.string k)).set 4 (.slice sa l.length sc)).congr (rowL [.int .i64 v, .int .i64 p, .int .i64 j, .string k, .slice sa l.length sc, .slice y0 m.length ycap]) (fun i hi => by
    match i, hi with
    | 0, _ => rfl
    | 1, _ => rfl
    | 2, _ => rfl
    | 3, _ => rfl
    | 4, _ => rfl
    | 5, _ => rfl)
  go_wp2_with fail
  obtain ⟨wq, hwq⟩ : ∃ wq, ((w1.setCell ⟨g, 2, none⟩ (.int .i64 j)).setCell ⟨g, 3, none⟩ (.string k)).setCell ⟨g, 4, none⟩ (.slice sa l.length sc) = wq := ⟨_, rfl⟩
  rw [hwq] at hup kq ⊢
  have HUP := Lib.hid hup
  have KQ := Lib.hid kq
  have RQ := Lib.hid (R1.out.upd hup (by omega))
  have HZ0 := Lib.hid (show g < w0.heap.size from K0.out.lt)
  have BQ := Lib.hid (B0.out.trans ((B1.out.mono (by have := HZ0.out; omega)).trans (hup.below (Nat.le_refl g))))
  have HSQ := Lib.hid (HSN.out.keep (by rw [hup.size]; exact Nat.le_refl _) fun c hc _ => hup.block c (by have := HZ0.out; omega))
  clear hwq hup kq c2 c3 c4 c5 f2 f3 f4
  refine (rqclone_any m _ wq (HR.out.later (HG.out ▸ BQ.out)) HM.out).mono ?_
  rintro e w2 ⟨ra, rc, rfl, hrn, hro, hb2⟩
  have B2 := Lib.hid hb2
  have HRN := Lib.hid hrn
  have HRO := Lib.hid hro
  have K2 := Lib.hid (KQ.out.below hb2 KQ.out.lt)
  have R2 := Lib.hid (RQ.out.below hb2 RQ.out.lt)
  have HS2 := Lib.hid (HSQ.out.later hb2)
  clear hrn hro hb2
  have q0 : w2.cell? ⟨g, 0, none⟩ = some (.int .i64 v) := K2.out.get 0 (by omega)
  have q1 : w2.cell? ⟨g, 1, none⟩ = some (.int .i64 p) := K2.out.get 1 (by omega)
  have q2 : w2.cell? ⟨g, 2, none⟩ = some (.int .i64 j) := K2.out.get 2 (by omega)
  have q3 : w2.cell? ⟨g, 3, none⟩ = some (.string k) := K2.out.get 3 (by omega)
  have q4 : w2.cell? ⟨g, 4, none⟩ = some (.slice sa l.length sc) := K2.out.get 4 (by omega)
  have q5 : w2.cell? ⟨g, 5, none⟩ = some (.slice y0 m.length ycap) := K2.out.get 5 (by omega)
  have g5 := K2.out.frz 5
  have c0 : w2.cell? ⟨g + 1, 0, none⟩ = some (.int .i64 0) := R2.out.get 0 (by omega)
  have c1 : w2.cell? ⟨g + 1, 1, none⟩ = some (.int .i64 0) := R2.out.get 1 (by omega)
  have c2 : w2.cell? ⟨g + 1, 2, none⟩ = some (.int .i64 0) := R2.out.get 2 (by omega)
  have c3 : w2.cell? ⟨g + 1, 3, none⟩ = some (.string ⟨#[]⟩) := R2.out.get 3 (by omega)
  have c4 : w2.cell? ⟨g + 1, 4, none⟩ = some (.slice none 0 0) := R2.out.get 4 (by omega)
  have c5 : w2.cell? ⟨g + 1, 5, none⟩ = some (.slice none 0 0) := R2.out.get 5 (by omega)
  have f0 := R2.out.frz 0
  have f1 := R2.out.frz 1
  have f2 := R2.out.frz 2
  have f3 := R2.out.frz 3
  have f4 := R2.out.frz 4
  have f5 := R2.out.frz 5
  go_wp2_with fail
  clear q0 q1 q2 q3 q4 q5 g5 c0 c1 c2 c3 c4 c5 f0 f1 f2 f3 f4 f5
  have hu5 := Upd.set w2 g 5 (.slice ra m.length rc)
  have R3 := Lib.hid (R2.out.upd hu5 (by omega))
  obtain ⟨xi, ui⟩ := set6 R3.out (.int .i64 v) (.int .i64 p) (.int .i64 j) (.string k) (.slice sa l.length sc) (.slice ra m.length rc)
  have p0 : World.cell? _ ⟨g + 1, 0, none⟩ = some (.int .i64 v) := xi.get 0 (by omega)
  have p1 : World.cell? _ ⟨g + 1, 1, none⟩ = some (.int .i64 p) := xi.get 1 (by omega)
  have p2 : World.cell? _ ⟨g + 1, 2, none⟩ = some (.int .i64 j) := xi.get 2 (by omega)
  have p3 : World.cell? _ ⟨g + 1, 3, none⟩ = some (.string k) := xi.get 3 (by omega)
  have p4 : World.cell? _ ⟨g + 1, 4, none⟩ = some (.slice sa l.length sc) := xi.get 4 (by omega)
  have p5 : World.cell? _ ⟨g + 1, 5, none⟩ = some (.slice ra m.length rc) := xi.get 5 (by omega)
  have HBX := Lib.hid (((BQ.out.trans (B2.out.mono (by have := BQ.out.size; have := HG.out; omega))).trans (hu5.below (Nat.le_refl g))).trans (ui.below (Nat.le_succ _)))
  have HZQ := Lib.hid (show g + 1 < wq.heap.size from RQ.out.lt)
  have HRX := Lib.hid (reqs_keep HRN.out (by rw [ui.size, hu5.size]; exact Nat.le_refl _) (fun c hc _ => (ui.block c (by have := HRO.out c hc; have := HZQ.out; omega)).trans (hu5.block c (by have := HRO.out c hc; have := HZQ.out; omega))))
  have HSX := Lib.hid (HS2.out.keep (by rw [ui.size, hu5.size]; exact Nat.le_refl _) (fun c hc _ => (ui.block c (by have := R0.out.lt; omega)).trans (hu5.block c (by have := HZ0.out; omega))))
  refine bodyPost_ret (v := .agg #[.int .i64 v, .int .i64 p, .int .i64 j, .string k, .slice sa l.length sc, .slice ra m.length rc]) (by simp [results, Tryd.results81, go_sem, p0, p1, p2, p3, p4, p5]) rfl ?_
  exact ⟨sa, sc, ra, rc, rfl, HSX.out.mono (by have := B0.out.size; have := HG.out; omega), HRX.out, (fun c hc => Nat.le_trans (by have := BQ.out.size; have := HG.out; omega) (HRO.out c hc)), HG.out ▸ HBX.out⟩
end Go.Proofs.YtegkhhegapnkpaaDoor
end
section
open Go Go.RowKit
namespace FF
open WW BB MM
theorem ent_fresh {F : Fo} {N : List Iv} (hn : N.map Prod.fst = F.nodes) {x : It} (hx : Fresh F x) : entF F N x.1 = none := by
  unfold entF
  rw [Option.map_eq_none_iff, List.find?_eq_none]
  intro y hy e
  exact hx.2.2 y.1 (List.mem_append_left _ (hn ▸ List.mem_map.2 ⟨y, hy, rfl⟩)) (by simpa using e)
theorem ent_more {F : Fo} (hF : WF F) {N : List Iv} (hn : N.map Prod.fst = F.nodes) {x : Iv} (hx : Fresh F x.1) (hp : hasF F (parI x.1.2) = true) (h4 : F.nodes.length < 400) (h : ByteArray) :
    setM (entF F N) x.1.1 (mkS x (heightF F (parI x.1.2) + 1)) h = entF (moreF F x.1) (N ++ [x]) h := by
  have hw := more_wf hF hx hp h4
  unfold setM
  by_cases e : h = x.1.1
  · subst e
    rw [if_pos rfl]
    unfold entF
    have hnone : N.find? (fun y => decide (y.1.1 = x.1.1)) = none := by
      have := ent_fresh hn hx
      unfold entF at this
      rwa [Option.map_eq_none_iff] at this
    rw [List.find?_append, hnone]
    simp only [Option.none_or, List.find?_cons, decide_true, Option.map_some]
    rw [more_new hF hw hp]
  · rw [if_neg e]
    unfold entF
    rw [List.find?_append]
    cases hf : N.find? (fun y => decide (y.1.1 = h)) with
    | none =>
      rw [Option.none_or, List.find?_cons, show decide (x.1.1 = h) = false from decide_eq_false fun c => e c.symm]; rfl
    | some y =>
      obtain ⟨hy, hyh⟩ := find_mem hf
      rw [Option.some_or, Option.map_some, Option.map_some, more_old hF hw ((has_iff F h).2 (Or.inr ⟨y.1, hn ▸ List.mem_map.2 ⟨y, hy, rfl⟩, hyh⟩))]
theorem Keeps.upd' {A : Nat → Prop} {c : Nat} {w w' : World} (h : Upd c w w') (hA : ¬ A c) : Keeps A w w' := Keeps.upd h fun _ hb e => hA (e ▸ hb)
end FF
namespace Go.Proofs.YtegkhhegapnkpaaDoor
open FF JJ CC MM WW BB
section
variable {B : Nat} {w w' : World} {g : Nat} {F : Fo} {rt : ByteArray} {mv ov : Value} {N O : List Iv} {C : Nat → Prop}
theorem CFs.newmap (h : CFs B w g F rt (.map none) ov N O C) : CFs B ((w.alloc (.map #[] 0)).setCell ⟨g, 2, none⟩ (.map (some w.heap.size))) g F rt (.map (some w.heap.size)) ov N O C := by
  have hb := (Below.refl w.heap.size w).alloc (Nat.le_refl _) (.map #[] 0)
  have hu := Upd.set (w.alloc (.map #[] 0)) g 2 (.map (some w.heap.size))
  have hg := h.blk.lt
  have hk : Keeps (fun b => b ≠ g) w ((w.alloc (.map #[] 0)).setCell ⟨g, 2, none⟩ (.map (some w.heap.size))) := (Keeps.of hb).trans (Keeps.upd' hu fun c => c rfl)
  have hnil : (∀ x, entF F N x = none) ∧ F.nodes.length = 0 := by
    rcases h.map with ⟨_, h1, h2⟩ | ⟨b, D, h1, _⟩
    · exact ⟨h1, h2⟩
    · cases h1
  refine ⟨h.wf, ?_, h.root, h.nodes, h.orph, ?_, fun b e => ?_, ?_, h.inn.on (hk.sub fun b hb _ e => h.cg (e ▸ hb)), h.gB, h.cB, h.cg, fun b e hc => ?_, h.co, fun b hb => Nat.lt_of_lt_of_le (h.cl b hb) hk.b0.size, h.small⟩
  · refine (((h.blk.below hb hg).set 2 (.map (some w.heap.size))).congr _ fun i hi => ?_)
    match i, hi with
    | 0, _ => rfl
    | 1, _ => rfl
    | 2, _ => rfl
    | 3, _ => rfl
  · rw [hnil.2]
    refine ((mapAt_made w).keep fun b e => ?_).congr fun x => (hnil.1 x).symm
    injection e with e
    exact hu.block b (by omega)
  · injection e with e
    have := h.gB
    omega
  · exact row_keep h.row fun c hc => hk.block c (fun e => h.go (e ▸ hc)) (h.row.lt c hc).2
  · injection e with e
    have := h.cl b hc
    omega
theorem CFs.stood {bm : Nat} (h : CFs B w g F rt (.map (some bm)) ov N O C) (x : Iv) (hx : Fresh F x.1) (hp : hasF F (parI x.1.2) = true) (h4 : F.nodes.length < 400)
    (hm : MapAt Tryd.prog 9 w' (.map (some bm)) (setM (entF F N) x.1.1 (mkS x (heightF F (parI x.1.2) + 1))) (F.nodes.length + 1)) (hg : w.grownBy w' (some bm)) (hI : Dep C w (fun w' => InnV w' x)) (hs : SmallI x.1.2) :
    CFs B w' g (moreF F x.1) rt (.map (some bm)) ov (N ++ [x]) O C := by
  have hk : Keeps (fun b => b ≠ bm) w w' := Keeps.grown hg fun b e c => by injection e with e; exact c e.symm
  have hgm : g ≠ bm := fun e => h.gm (by rw [e]; rfl)
  refine ⟨more_wf h.wf hx hp h4, ?_, h.root, by rw [List.map_append, h.nodes]; rfl, h.orph, ?_, h.mB, ?_, ?_, h.gB, h.cB, h.cg, h.cm, h.co, fun b hb => Nat.lt_of_lt_of_le (h.cl b hb) hk.b0.size, ?_⟩
  · exact (hk.block g hgm h.blk.lt).trans h.blk
  · have e : (moreF F x.1).nodes.length = F.nodes.length + 1 := by simp [moreF]
    rw [e]
    exact hm.congr fun y => ent_more h.wf h.nodes hx hp h4 y
  · exact row_keep h.row fun c hc => hk.block c (fun e => h.mo c hc (by rw [e]; rfl)) (h.row.lt c hc).2
  · intro w2 hw2
    have hC : Keeps C w w' := hk.sub fun b hb _ e => h.cm bm rfl (e ▸ hb)
    intro y hy
    rw [List.append_assoc, List.mem_append, List.mem_append] at hy
    rcases hy with hy | hy | hy
    · exact h.inn.on hC w2 hw2 y (List.mem_append_left _ hy)
    · obtain rfl : y = x := by simpa using hy
      exact hI.on hC w2 hw2
    · exact h.inn.on hC w2 hw2 y (List.mem_append_right _ hy)
  · intro y hy
    rw [List.append_assoc, List.mem_append, List.mem_append] at hy
    rcases hy with hy | hy | hy
    · exact h.small y (List.mem_append_left _ hy)
    · obtain rfl : y = x := by simpa using hy
      exact hs
    · exact h.small y (List.mem_append_right _ hy)
end
set_option maxRecDepth 100000 in
set_option maxHeartbeats 8000000 in
theorem gstand_any {B : Nat} {w : World} {g : Nat} {F : Fo} {rt : ByteArray} {mv ov : Value} {N O : List Iv} {C : Nat → Prop} (hC : CFs B w g F rt mv ov N O C) (hT : Tabs w) (hN : ∀ b, B ≤ b → NoTab b) (x : Iv) (hx : Fresh F x.1) (hp : hasF F (parI x.1.2) = true) (h4 : F.nodes.length < 400) (hI : Dep C w (fun w' => InnV w' x)) (hs : SmallI x.1.2)
    (hH : 0 ≤ F.height ∧ F.height ≤ 1000000000) (a1 : Option Addr) (n1 k1 : Nat) (a2 : Option Addr) (n2 k2 : Nat) (he1 : x.2.1 = .slice a1 n1 k1) (he2 : x.2.2 = .slice a2 n2 k2) :
    Calls Tryd.prog 82 #[.pointer (some ⟨g, 0, none⟩), .string x.1.1, .agg #[.int .i64 (viewI x.1.2), .int .i64 (propI x.1.2), .int .i64 (jvI x.1.2), .string (parI x.1.2), .slice a1 n1 k1, .slice a2 n2 k2]] w fun e w' => e = .returned (.tuple #[]) ∧
      ∃ bm, CFs B w' g (moreF F x.1) rt (.map (some bm)) ov (N ++ [x]) O C ∧ Keeps (fun b => b ≠ g ∧ mapBlk mv ≠ some b) w w' ∧ (mapBlk mv = some bm ∨ w.heap.size ≤ bm) := by
  have HC := Lib.hid hC
  have HT := Lib.hid hT
  have HNT := Lib.hid (hN g hC.gB)
  have HFX := Lib.hid hx
  have HP := Lib.hid hp
  have H4 := Lib.hid h4
  have HI := Lib.hid hI
  have HSM := Lib.hid hs
  have HH := Lib.hid hH
  have HE1 := Lib.hid he1
  have HE2 := Lib.hid he2
  obtain ⟨mp, rfl⟩ := hC.shapeM
  obtain ⟨d, hd⟩ : ∃ d, x.1.1 = d := ⟨_, rfl⟩
  obtain ⟨v, hv⟩ : ∃ v, viewI x.1.2 = v := ⟨_, rfl⟩
  obtain ⟨p, hpp⟩ : ∃ p, propI x.1.2 = p := ⟨_, rfl⟩
  obtain ⟨j, hj⟩ : ∃ j, jvI x.1.2 = j := ⟨_, rfl⟩
  obtain ⟨k, hk⟩ : ∃ k, parI x.1.2 = k := ⟨_, rfl⟩
  have HD := Lib.hid hd
  have HVV := Lib.hid hv
  have HPP := Lib.hid hpp
  have HJ := Lib.hid hj
  have HK := Lib.hid hk
  rw [hd, hv, hpp, hj, hk]
  have HKS := Lib.hid (show k.size ≤ 1000000 by have := hs.1; rw [hk] at this; omega)
  have HDS := Lib.hid (show d.size ≤ maxLen by have := hx.1; rw [hd] at this; unfold maxLen; omega)
  have b1 := Lib.hid ((Below.refl w.heap.size w).alloc (Nat.le_refl _) (.cells #[.int .i64 v, .int .i64 p, .int .i64 j, .string k, .slice a1 n1 k1, .slice a2 n2 k2] 29))
  have L0 := Lib.hid (show Blk (w.alloc (.cells #[.int .i64 v, .int .i64 p, .int .i64 j, .string k, .slice a1 n1 k1, .slice a2 n2 k2] 29)) w.heap.size 6 (rowL [.int .i64 v, .int .i64 p, .int .i64 j, .string k, .slice a1 n1 k1, .slice a2 n2 k2]) from Blk.new' rfl rfl)
  obtain ⟨t, ht⟩ : ∃ t, heightF F k = t := ⟨_, rfl⟩
  have HTT := Lib.hid ht
  have HTW := Lib.hid (show 0 ≤ t ∧ t ≤ 1000000401 by
    have ha := anc_of hC.wf (hk ▸ hp)
    have hn := ha.ne
    have hl := anc_len F k
    rw [← ht, height_is hC.wf ha]
    omega)
  clear hC hT hN hx hp h4 hI hs hH he1 he2 hd hv hpp hj hk ht
  go_enter Tryd.func82, Tryd.ntmps82
  go_upto_region 1 with fail
  obtain ⟨y0, hy0⟩ : ∃ y0, w.heap.size = y0 := ⟨_, rfl⟩
  have HY0 := Lib.hid hy0
  obtain ⟨w1, hw1⟩ : ∃ w1, w.alloc (.cells #[.int .i64 v, .int .i64 p, .int .i64 j, .string k, .slice a1 n1 k1, .slice a2 n2 k2] 29) = w1 := ⟨_, rfl⟩
  rw [hw1] at b1 L0 ⊢
  rw [hy0] at L0 ⊢
  have HZ1 := Lib.hid (show w1.heap.size = y0 + 1 by rw [← hw1, ← hy0]; simp)
  clear hw1 hy0
  have HC1 := Lib.hid (HC.out.on b1.out)
  have HT1 := Lib.hid (tabs_on HT.out b1.out)
  have c2 := HC1.out.c2
  have f2 := HC1.out.blk.blk.frz 2
  have q22 : ∀ w, (binOp .eql 125 (.map mp) (.map none)).run Tryd.prog w = .ok (.bool mp.isNone) w := fun w => run_eql_map_nil w _ 9 135 mp (by kernel_rfl)
  go_upto_if 10 with fail
  clear q22
  go_cut [9] from 9 to 14 (fun s9 wx => ∃ bm, CFs B wx g F rt (.map (some bm)) ov N O C ∧ Keeps (fun b => b ≠ g) w1 wx ∧ (mapBlk (.map mp) = some bm ∨ w1.heap.size ≤ bm) ∧ w1.heap.size ≤ wx.heap.size)
  case first =>
    rcases mp with _ | bm
    · have hmm := @run_makeMap Tryd.prog
      have HCA := Lib.hid (HC1.out.on ((Below.refl w1.heap.size w1).alloc (Nat.le_refl _) (.map #[] 0)))
      have c2' := HCA.out.c2
      have f2' := HCA.out.blk.blk.frz 2
      go_wp2_with fail
      go_meet
      exact ⟨_, HC1.out.newmap, (Keeps.of ((Below.refl _ _).alloc (Nat.le_refl _) _)).trans (Keeps.upd' (Upd.set _ g 2 _) fun c => c rfl), Or.inr (Nat.le_refl _), by simp⟩
    · go_wp2_with fail
      go_meet
      exact ⟨bm, HC1.out, Keeps.refl _ _, Or.inl rfl, Nat.le_refl _⟩
  case rest =>
    obtain ⟨bm, hc2, hk2, hb2, hz2⟩ := hcut
    have HC2 := Lib.hid hc2
    have HK2 := Lib.hid hk2
    have HB2 := Lib.hid hb2
    have HT2 := Lib.hid (tabs_keeps HT1.out hk2 fun b => if e : b = g then Or.inl (e ▸ HNT.out) else Or.inr e)
    have HYG := Lib.hid (show y0 ≠ g from by have := HC.out.blk.lt; rw [HY0.out] at this; omega)
    have L2 := Lib.hid (show Blk wc y0 6 (rowL [.int .i64 v, .int .i64 p, .int .i64 j, .string k, .slice a1 n1 k1, .slice a2 n2 k2]) from L0.out.of_heap (hk2.block y0 HYG.out L0.out.lt))
    clear hc2 hk2 hb2 hz2 c2 f2 L0
    have HS := Lib.hid (fun (wx : World) (hb : Below wc.heap.size wc wx) => show wx.cell? ⟨g, 2, none⟩ = some (.map (some bm)) ∧ wx.cell? ⟨y0, 0, none⟩ = some (.int .i64 v) ∧ wx.cell? ⟨y0, 1, none⟩ = some (.int .i64 p) ∧ wx.cell? ⟨y0, 2, none⟩ = some (.int .i64 j) ∧ wx.cell? ⟨y0, 3, none⟩ = some (.string k) ∧ wx.cell? ⟨y0, 4, none⟩ = some (.slice a1 n1 k1) ∧ wx.cell? ⟨y0, 5, none⟩ = some (.slice a2 n2 k2) ∧ True from by
      have L := L2.out.below hb L2.out.lt
      exact ⟨(HC2.out.on hb).c2, L.get 0 (by omega), L.get 1 (by omega), L.get 2 (by omega), L.get 3 (by omega), L.get 4 (by omega), L.get 5 (by omega), trivial⟩)
    go_wp2_with fail
    refine planE_abs (fun wx => Below wc.heap.size wc wx) 12 [(true, 0), (true, 1), (true, 2), (true, 3), (true, 4), (true, 5), (true, 6), (true, 7), (false, 8), (false, 9), (true, 10), (true, 11), (false, 12)] (by kernel_rfl) (by kernel_rfl) (fun _ _ d _ _ h => by cases d <;> exact h) fun w3 hs3 => ⟨hs3.below _, ?_⟩
    have X3 := Lib.hid (show Below wc.heap.size wc w3 from hs3.below _)
    clear hs3
    iterate 8 (refine pe_run _ ?_ rfl rfl ?_ ?_; rotate_left; (focus (intro w' hS; obtain ⟨d0, d1, d2, d3, d4, d5, d6, d7⟩ := HS.out w' hS; go_simp; exact rfl)); simp only [Act.put, List.setIfInBounds_toArray, List.set_cons_zero, List.set_cons_succ, List.getElem_toArray, List.getElem_cons_zero, List.getElem_cons_succ])
    refine pe_call (R := fun u w' => u = .string k ∧ Below w3.heap.size w3 w') _ rfl rfl (by go_simp) ((parent_any v p j k a1 a2 n1 k1 n2 k2 w3).mono fun e w' h => ⟨.string k, h.1, rfl, h.2⟩) (fun u w' h => X3.out.trans (h.2.mono X3.out.size)) fun u w4 hr => ?_
    obtain ⟨rfl, hb⟩ := hr
    have X4 := Lib.hid (X3.out.trans (hb.mono X3.out.size))
    clear hb
    simp only [Act.put, List.setIfInBounds_toArray, List.set_cons_zero, List.set_cons_succ, List.getElem_toArray, List.getElem_cons_zero, List.getElem_cons_succ]
    refine pe_call (R := fun u w' => u = .int .i64 t ∧ Below w4.heap.size w4 w') _ rfl rfl (by go_simp) ((gheight_get (HC2.out.on X4.out) (tabs_on HT2.out X4.out) k t HTT.out HKS.out).mono fun e w' h => ⟨.int .i64 t, h.1, rfl, h.2⟩) (fun u w' h => X4.out.trans (h.2.mono X4.out.size)) fun u w5 hr => ?_
    obtain ⟨rfl, hb⟩ := hr
    have X5 := Lib.hid (X4.out.trans (hb.mono X4.out.size))
    clear hb
    simp only [Act.put, List.setIfInBounds_toArray, List.set_cons_zero, List.set_cons_succ, List.getElem_toArray, List.getElem_cons_zero, List.getElem_cons_succ]
    have hwr : IntKind.i64.wrap (t + 1) = t + 1 := by rw [IntKind.wrap_i64]; have := HTW.out; omega
    iterate 2 (refine pe_run _ ?_ rfl rfl ?_ ?_; rotate_left; (focus (intro w' hS; go_simp; exact rfl)); simp only [Act.put, List.setIfInBounds_toArray, List.set_cons_zero, List.set_cons_succ, List.getElem_toArray, List.getElem_cons_zero, List.getElem_cons_succ])
    refine pe_last _ rfl ?_
    simp only [List.getElem_toArray, List.getElem_cons_zero, List.getElem_cons_succ]
    have KC := Lib.hid (show Keeps C w w5 from ((Keeps.of b1.out).trans (HK2.out.sub fun b hb _ e => HC.out.cg (e ▸ hb))).trans (Keeps.of X5.out |>.trans (Keeps.refl _ _) |>.sub fun _ hb _ => hb))
    have HC5 := Lib.hid (HC2.out.on X5.out)
    have HMK := Lib.hid (show mkS x (heightF F (parI x.1.2) + 1) = ((v, p, j, k), (a1, n1, k1), (a2, n2, k2), t + 1) by
      unfold mkS; rw [HVV.out, HPP.out, HJ.out, HK.out, HTT.out, HE1.out, HE2.out]; rfl)
    refine wpl_mput (e := 135) _ _ _ d ((v, p, j, k), (a1, n1, k1), (a2, n2, k2), t + 1) rfl rfl (by kernel_rfl) (by kernel_rfl) (n := F.nodes.length) (by have := H4.out; unfold maxLen; omega) HC5.out.map (by rw [← HD.out]; exact ent_fresh HC.out.nodes HFX.out) rfl rfl HDS.out rfl ?_
    intro w6 hm6 hg6
    have M6 := Lib.hid hm6
    have G6 := Lib.hid hg6
    clear hm6 hg6
    go_wp2_with fail
    go_end0
    refine ⟨rfl, bm, HC5.out.stood x HFX.out HP.out H4.out (by rw [HMK.out, HD.out]; exact M6.out) G6.out (HI.out.on KC.out) HSM.out, ?_, ?_⟩
    · have k1 : Keeps (fun b => b ≠ g ∧ mapBlk (.map mp) ≠ some b) w wc := (Keeps.of b1.out).trans (HK2.out.sub fun b hb _ => hb.1)
      have k2 : Keeps (fun b => b ≠ g ∧ mapBlk (.map mp) ≠ some b) w w5 := k1.trans (Keeps.of X5.out)
      refine ⟨k2.b0.trans ⟨G6.out.os, G6.out.tape, G6.out.output, G6.out.size, fun c hc => absurd hc (Nat.not_lt_zero c)⟩, fun b hb hl => ?_⟩
      refine (G6.out.block b (Nat.lt_of_lt_of_le hl k2.b0.size) fun e => ?_).trans (k2.block b hb hl)
      injection e with e
      rcases HB2.out with h | h
      · exact hb.2 (e ▸ h)
      · have := b1.out.size; omega
    · exact HB2.out.imp id fun h => Nat.le_trans b1.out.size h
end Go.Proofs.YtegkhhegapnkpaaDoor
end
section
open Go Go.RowKit
namespace FF
open WW BB
theorem run_clearK {P : Program} (w : World) (t e ty : TypeId) (z : Value) (ht : P.underlying t = some (.slice e)) (hv : ∀ w, (zeroValue e).run P w = .ok z w) (b o n c m : Nat) (hn : 0 < n) (hm : (Builtin.zeroCells z.cells n).toList.length = m)
    (h1 : ∀ v ∈ (Builtin.zeroCells z.cells n).toList, v.oneCell' = true)
    (hc : ∀ j, j < m → (w.cell? ⟨b, o + j, none⟩).isSome = true) (hf : ∀ j, j < m → w.frozen? ⟨b, o + j, none⟩ = false) :
    (Builtin.clear_ #[t] ty #[.slice (some ⟨b, o, none⟩) n c]).run P w = .ok (.tuple #[]) (w.setCells b o (Builtin.zeroCells z.cells n).toList) := by
  have hst := run_storeCells_cells (P := P) b o (Builtin.zeroCells z.cells n).toList 0 w (by simpa [hm] using hc) (by simpa [hm] using hf) h1
  simp only [Nat.add_zero] at hst
  obtain ⟨k, rfl⟩ : ∃ k, n = k + 1 := ⟨n - 1, by omega⟩
  simp [Builtin.clear_, run_underlying ht, hv, hst]
theorem hold_app {P : Program} {ops : Array Oper} {Q : Exit → Act → World → Prop} {a : Act} {w : World} {rest : List Oper} {o : Oper} {d s : Operand} {t u : TypeId} (_ho : o.op = .call { callee := .builtin .append, args := #[d, s], argTypes := #[t, u] }) (h : Held (wpList P ops Q (o :: rest) a w)) : wpList P ops Q (o :: rest) a w := h
theorem hold_clear {P : Program} {ops : Array Oper} {Q : Exit → Act → World → Prop} {a : Act} {w : World} {rest : List Oper} {o : Oper} {d : Operand} {t : TypeId} (_ho : o.op = .call { callee := .builtin .clear, args := #[d], argTypes := #[t] }) (h : Held (wpList P ops Q (o :: rest) a w)) : wpList P ops Q (o :: rest) a w := h
/-- cells from o on are written: those ahead of o stay -/
theorem cells_past (b : Nat) (t : TypeId) : ∀ (vs : List Value) (o : Nat) (w : World) (cur : Array Value), w.heap[b]? = some (.cells cur t (0, 0)) →
    ∃ cur', (w.setCells b o vs).heap[b]? = some (.cells cur' t (0, 0)) ∧ cur'.size = cur.size ∧ ∀ j, j < o → cur'[j]? = cur[j]?
  | [], _, _, cur, h => ⟨cur, h, rfl, fun _ _ => rfl⟩
  | v :: r, o, w, cur, h => by
    have h1 : (w.setCell ⟨b, o, none⟩ v).heap[b]? = some (.cells (cur.setIfInBounds o v) t (0, 0)) := by
      unfold World.setCell
      simp only [Array.getElem?_modify, if_true, h, Option.map_some]
      rfl
    obtain ⟨cur', k1, k2, k3⟩ := cells_past b t r (o + 1) _ _ h1
    refine ⟨cur', k1, by rw [k2]; simp, fun j hj => ?_⟩
    rw [k3 j (by omega), Array.getElem?_setIfInBounds, if_neg (by omega)]
theorem keepC (b : Nat) : ∀ (vs : List Value) (o : Nat) (w : World), Keep b w (w.setCells b o vs)
  | [], _, w => Keep.refl b w
  | v :: r, o, w => (Upd.set w b o v).keep.trans (keepC b r (o + 1) _)
theorem take_same {a b : Array Value} {n : Nat} (h : ∀ j, j < n → a[j]? = b[j]?) : a.toList.take n = b.toList.take n := by
  apply List.ext_getElem?
  intro j
  by_cases hj : j < n
  · rw [List.getElem?_take_of_lt hj, List.getElem?_take_of_lt hj, Array.getElem?_toList, Array.getElem?_toList]; exact h j hj
  · rw [List.getElem?_take_eq_none (by omega), List.getElem?_take_eq_none (by omega)]
theorem cellsV_take (L : List Iv) (i : Nat) : (cellsV L).take (i * 7) = cellsV (L.take i) := by
  induction L generalizing i with
  | nil => simp [cellsV]
  | cons x r ih =>
    cases i with
    | zero => simp [cellsV]
    | succ i =>
      have hx : (encV x).length = 7 := rfl
      show (encV x ++ cellsV r).take ((i + 1) * 7) = encV x ++ cellsV (r.take i)
      rw [List.take_append, List.take_of_length_le (by rw [hx]; omega), hx, show (i + 1) * 7 - 7 = i * 7 by omega, ih]
theorem cellsV_drop (L : List Iv) (i : Nat) : (cellsV L).drop (i * 7) = cellsV (L.drop i) := by
  induction L generalizing i with
  | nil => simp [cellsV]
  | cons x r ih =>
    cases i with
    | zero => simp
    | succ i =>
      have hx : (encV x).length = 7 := rfl
      show (encV x ++ cellsV r).drop ((i + 1) * 7) = cellsV (r.drop i)
      rw [List.drop_append, List.drop_eq_nil_of_le (by rw [hx]; omega), hx, show (i + 1) * 7 - 7 = i * 7 by omega, ih, List.nil_append]
theorem cellsV_app (L M : List Iv) : cellsV (L ++ M) = cellsV L ++ cellsV M := by unfold cellsV; rw [List.map_append, List.flatten_append]
theorem cellsV_erase (L : List Iv) (i : Nat) : cellsV (L.eraseIdx i) = (cellsV L).take (i * 7) ++ (cellsV L).drop ((i + 1) * 7) := by
  rw [List.eraseIdx_eq_take_drop_succ, cellsV_app, cellsV_take, cellsV_drop]
end FF
namespace Go.Proofs.YtegkhhegapnkpaaDoor
open FF JJ CC MM WW BB
set_option maxRecDepth 100000 in
set_option maxHeartbeats 8000000 in
theorem gdel_any (O : List Iv) (gb cap : Nat) (cur : Array Value) (w : World) (hh : w.heap[gb]? = some (.cells cur 131 (0, 0))) (hcap : O.length ≤ cap) (hmax : cap ≤ maxLen) (hsz : cur.size = cap * 7) (htk : cur.toList.take (O.length * 7) = cellsV O) (hi1 : ∀ x ∈ O, InnV w x) (i : Nat) (hi : i < O.length) (h8 : O.length ≤ 1000) :
    Calls Tryd.prog 133 #[.slice (some ⟨gb, 0, none⟩) O.length cap, .int .i64 (i : Int), .int .i64 ((i : Int) + 1)] w fun e w' => e = .returned (.slice (some ⟨gb, 0, none⟩) (O.length - 1) cap) ∧ Keep gb w w' ∧
      ∃ cur', w'.heap[gb]? = some (.cells cur' 131 (0, 0)) ∧ cur'.size = cap * 7 ∧ cur'.toList.take ((O.length - 1) * 7) = cellsV (O.eraseIdx i) := by
  have HHH := Lib.hid hh
  have HCAP := Lib.hid hcap
  have HMAX := Lib.hid hmax
  have HSZ := Lib.hid hsz
  have HTK := Lib.hid htk
  have HI := Lib.hid hi
  have HIN := Lib.hid hi1
  have H8 := Lib.hid h8
  obtain ⟨n, hn⟩ : ∃ n, O.length = n := ⟨_, rfl⟩
  have HN := Lib.hid hn
  rw [hn] at hcap hi h8 ⊢
  have t1 : ((i : Int) == (i : Int) + 1) = false := by simp; omega
  have l0 : (0 : Int) ≤ (i : Int) := by omega
  have l1 : (i : Int) + 1 ≤ (n : Int) := by omega
  have l2 : (n : Int) ≤ (cap : Int) := by omega
  have l3 : (i : Int) ≤ (n : Int) := by omega
  have l4 : (i : Int) ≤ 1000 := by omega
  have l5 : (i : Int) ≤ (cap : Int) := by omega
  have l6 : (i : Int) + 1 ≤ (cap : Int) := by omega
  have l7 : (0 : Int) ≤ (i : Int) + 1 := by omega
  clear hh hcap hmax hsz htk hi hi1 h8 hn
  obtain ⟨ti, i1, i2, i3, i4⟩ := info_parts (show (Tryd.prog.info? 131).map (fun i => (i.zero, i.size, i.bytes)) = some (some (.agg #[.string ⟨#[]⟩, .int .i64 0, .int .i64 0, .int .i64 0, .string ⟨#[]⟩, .slice none 0 0, .slice none 0 0]), 7, 104) by kernel_rfl)
  have ISZ := Lib.hid i3
  have IIN := Lib.hid i1
  obtain ⟨news, hnw⟩ : ∃ news, (cellsV O).drop ((i + 1) * 7) = news := ⟨_, rfl⟩
  have HNW := Lib.hid hnw
  obtain ⟨X, hX⟩ : ∃ X, (cur.toList.take (i * 7) ++ news ++ cur.toList.drop (i * 7 + news.length)).toArray = X := ⟨_, rfl⟩
  have HX := Lib.hid hX
  have HNL := Lib.hid (show news.length = (n - (i + 1)) * 7 by rw [← hnw, List.length_drop, cellsV_len, HN.out, Nat.sub_mul])
  have HN1 := Lib.hid (show ∀ u ∈ news, u.oneCell' = true from fun u hu => cellsV_one HIN.out u (List.mem_of_mem_drop (hnw ▸ hu)))
  have HXS := Lib.hid (show X.size = cap * 7 by
    rw [← hX]
    have h1 := HNL.out
    have h2 := HSZ.out
    have h3 := HCAP.out
    have h4 := HI.out
    have h5 := HN.out
    have h6 : cur.toList.length = cap * 7 := by simpa using h2
    simp only [List.size_toArray, List.length_append, List.length_take, List.length_drop, h6, h1]
    omega)
  have HXT := Lib.hid (show X.toList.take ((n - 1) * 7) = cellsV (O.eraseIdx i) by
    rw [← hX, cellsV_erase, hnw, ← HTK.out, HN.out]
    have h1 := HNL.out
    have h2 := HSZ.out
    have h3 := HCAP.out
    have h4 := HI.out
    have h5 := HN.out
    have h6 : cur.toList.length = cap * 7 := by simpa using h2
    have e1 : (cur.toList.take (i * 7) ++ news).length = (n - 1) * 7 := by
      rw [List.length_append, List.length_take, h6, h1]; omega
    rw [← e1, List.take_left', List.take_take, Nat.min_eq_left (by omega)]
    rfl)
  have HNR := Lib.hid (show ∀ j u, news[j]? = some u → w.drew.cell? ((⟨gb, (i + 1) * 7, none⟩ : Addr).add j) = some u from fun j u hj => by
    have hlt : j < news.length := (List.getElem?_eq_some_iff.1 hj).1
    have h1 := HNL.out
    have h4 := HI.out
    have h5 := HN.out
    rw [← HNW.out, List.getElem?_drop, ← HTK.out, List.getElem?_take_of_lt (by omega), Array.getElem?_toList] at hj
    have e : (⟨gb, (i + 1) * 7, none⟩ : Addr).add j = ⟨gb, (i + 1) * 7 + j, none⟩ := by unfold Addr.add; split <;> simp [*]
    rw [e]
    show w.cell? _ = _
    unfold World.cell?; rw [HHH.out]; simpa using hj)
  have HFT := Lib.hid (show i * 7 + news.length ≤ cur.size by
    have h1 := HNL.out
    have h2 := HSZ.out
    have h3 := HCAP.out
    have h4 := HI.out
    have h5 := HN.out
    omega)
  have HRM := Lib.hid (show i + (n - (i + 1)) ≤ cap by have := HCAP.out; have := HI.out; have := HN.out; omega)
  have HW1 := Lib.hid (show (w.drew.setRow gb X).heap[gb]? = some (.cells X 131 (0, 0)) from setRow_heap w.drew gb cur X _ _ (show w.drew.heap[gb]? = _ from HHH.out))
  have HK1 := Lib.hid (show Keep gb w (w.drew.setRow gb X) from ⟨by simp [World.setRow], fun k _ hb => by
    show (w.heap.modify gb _)[k]? = _
    rw [Array.getElem?_modify, if_neg (fun h => hb h.symm)], rfl, rfl, rfl⟩)
  have HCL := Lib.hid (fun (ln : Nat) (hln : ln = 1) (ty : TypeId) => run_clearK (P := Tryd.prog) (w.drew.setRow gb X) 126 131 ty (.agg #[.string ⟨#[]⟩, .int .i64 0, .int .i64 0, .int .i64 0, .string ⟨#[]⟩, .slice none 0 0, .slice none 0 0]) (by kernel_rfl) (fun _ => by kernel_rfl) gb ((n - 1) * 7) ln (cap - (n - 1)) 7 (by omega) (by subst hln; simp [Builtin.zeroCells, Value.cells]) (fun u hu => by
      subst hln
      simp only [Builtin.zeroCells, Value.cells, Array.toList_map, List.mem_map] at hu
      obtain ⟨q, hq, rfl⟩ := hu
      have : q < 7 := by simpa using hq
      match q, this with
      | 0, _ => rfl
      | 1, _ => rfl
      | 2, _ => rfl
      | 3, _ => rfl
      | 4, _ => rfl
      | 5, _ => rfl
      | 6, _ => rfl)
    (fun j hj => by
      have h1 := HXS.out
      have h2 := HCAP.out
      have h3 := HI.out
      have h4 := HN.out
      unfold World.cell?
      rw [HW1.out]
      simp [Array.getElem?_eq_getElem (show (n - 1) * 7 + j < X.size by omega)])
    (fun j hj => by unfold World.frozen?; rw [HW1.out]; simp))
  have HAP1 := Lib.hid (fun (hc : i + 1 = cap) (ty : TypeId) => show (Builtin.append_ #[126, 126] ty #[.slice (some ⟨gb, 0, none⟩) i cap, .slice (some ⟨gb, 0, none⟩) (n - (i + 1)) 0]).run Tryd.prog w.drew = .ok (.slice (some ⟨gb, 0, none⟩) (n - 1) cap) (w.drew.setRow gb X) from by
      have h := run_append_room (P := Tryd.prog) (w := w.drew) 126 ty 131 ti (by kernel_rfl) IIN.out gb i cap cur (show w.drew.heap[gb]? = _ from HHH.out) ⟨gb, 0, none⟩ (n - (i + 1)) 0 news (by rw [ISZ.out]; exact HNL.out) (fun j u hj => by have h1 := HNL.out; rw [show n - (i + 1) = 0 by have := HCAP.out; have := HN.out; omega] at h1; rw [List.eq_nil_of_length_eq_zero (l := news) (by simpa using h1)] at hj; simp at hj) HN1.out HRM.out (by rw [ISZ.out]; exact HFT.out)
      rw [ISZ.out, HX.out, show i + (n - (i + 1)) = n - 1 by have := HI.out; have := HN.out; omega] at h
      exact h)
  have HAP2 := Lib.hid (fun (ty : TypeId) => show (Builtin.append_ #[126, 126] ty #[.slice (some ⟨gb, 0, none⟩) i cap, .slice (some ⟨gb, (i + 1) * 7, none⟩) (n - (i + 1)) (cap - (i + 1))]).run Tryd.prog w.drew = .ok (.slice (some ⟨gb, 0, none⟩) (n - 1) cap) (w.drew.setRow gb X) from by
      have h := run_append_room (P := Tryd.prog) (w := w.drew) 126 ty 131 ti (by kernel_rfl) IIN.out gb i cap cur (show w.drew.heap[gb]? = _ from HHH.out) ⟨gb, (i + 1) * 7, none⟩ (n - (i + 1)) (cap - (i + 1)) news (by rw [ISZ.out]; exact HNL.out) HNR.out HN1.out HRM.out (by rw [ISZ.out]; exact HFT.out)
      rw [ISZ.out, HX.out, show i + (n - (i + 1)) = n - 1 by have := HI.out; have := HN.out; omega] at h
      exact h)
  go_enter Tryd.func133, Tryd.ntmps133
  go_wp2_with fail
  go_still_tail 6, (by kernel_rfl)
  change wpList _ _ _ _ _ w.drew
  go_wp2_with (with_reducible refine hold_app rfl ?_)
  · have hc : cap = i + 1 := by omega
    have HQ := HAP1.out hc.symm
    rw [hc] at HQ
    refine wpl_value rfl (show (execOp _ _).run _ _ = .ok (.value (.slice (some ⟨gb, 0, none⟩) (n - 1) (i + 1))) (w.drew.setRow gb X) from by simp [execOp, resolve, invoke, builtin, Act.eval, HQ, Result.andThen]) ?_
    clear HQ
    have m1 : ((n - 1 : Nat) : Int) ≤ (n : Int) := by have := HI.out; have := HN.out; omega
    have m2 : (0 : Int) ≤ ((n - 1 : Nat) : Int) := by omega
    have m3 : (n : Int) ≤ (((i + 1) : Nat) : Int) := by have := HCAP.out; have := HN.out; omega
    go_wp2_with (with_reducible refine hold_clear rfl ?_)
    have HQ := HCL.out (n - (n - 1)) (by have := HI.out; have := HN.out; omega)
    rw [hc] at HQ
    refine wpl_value rfl (show (execOp _ _).run _ _ = .ok (.value (.tuple #[])) _ from by simp [execOp, resolve, invoke, builtin, Act.eval, HQ, Result.andThen]; rfl) ?_
    clear HQ
    obtain ⟨cur', e1, e2, e3⟩ := cells_past gb 131 (Builtin.zeroCells (Value.cells (.agg #[.string ⟨#[]⟩, .int .i64 0, .int .i64 0, .int .i64 0, .string ⟨#[]⟩, .slice none 0 0, .slice none 0 0])) (n - (n - 1))).toList ((n - 1) * 7) (w.drew.setRow gb X) X HW1.out
    have E1 := Lib.hid e1
    have E2 := Lib.hid e2
    have E3 := Lib.hid e3
    have EK := Lib.hid (HK1.out.trans (keepC gb (Builtin.zeroCells (Value.cells (.agg #[.string ⟨#[]⟩, .int .i64 0, .int .i64 0, .int .i64 0, .string ⟨#[]⟩, .slice none 0 0, .slice none 0 0])) (n - (n - 1))).toList ((n - 1) * 7) (w.drew.setRow gb X)))
    clear e1 e2 e3
    go_wp2_with fail
    go_ret
    exact ⟨by first | rfl | rw [hc]; rfl, EK.out, cur', E1.out, E2.out.trans HXS.out, by rw [take_same E3.out]; exact HXT.out⟩
  · have HQ := HAP2.out
    refine wpl_value rfl (show (execOp _ _).run _ _ = .ok (.value (.slice (some ⟨gb, 0, none⟩) (n - 1) cap)) (w.drew.setRow gb X) from by simp [execOp, resolve, invoke, builtin, Act.eval, HQ, Result.andThen]) ?_
    clear HQ
    have m1 : ((n - 1 : Nat) : Int) ≤ (n : Int) := by have := HI.out; have := HN.out; omega
    have m2 : (0 : Int) ≤ ((n - 1 : Nat) : Int) := by omega
    have m3 : (n : Int) ≤ ((cap : Nat) : Int) := by have := HCAP.out; have := HN.out; omega
    go_wp2_with (with_reducible refine hold_clear rfl ?_)
    have HQ := HCL.out (n - (n - 1)) (by have := HI.out; have := HN.out; omega)
    refine wpl_value rfl (show (execOp _ _).run _ _ = .ok (.value (.tuple #[])) _ from by simp [execOp, resolve, invoke, builtin, Act.eval, HQ, Result.andThen]; rfl) ?_
    clear HQ
    obtain ⟨cur', e1, e2, e3⟩ := cells_past gb 131 (Builtin.zeroCells (Value.cells (.agg #[.string ⟨#[]⟩, .int .i64 0, .int .i64 0, .int .i64 0, .string ⟨#[]⟩, .slice none 0 0, .slice none 0 0])) (n - (n - 1))).toList ((n - 1) * 7) (w.drew.setRow gb X) X HW1.out
    have E1 := Lib.hid e1
    have E2 := Lib.hid e2
    have E3 := Lib.hid e3
    have EK := Lib.hid (HK1.out.trans (keepC gb (Builtin.zeroCells (Value.cells (.agg #[.string ⟨#[]⟩, .int .i64 0, .int .i64 0, .int .i64 0, .string ⟨#[]⟩, .slice none 0 0, .slice none 0 0])) (n - (n - 1))).toList ((n - 1) * 7) (w.drew.setRow gb X)))
    clear e1 e2 e3
    go_wp2_with fail
    go_ret
    exact ⟨by first | rfl | rw [hc]; rfl, EK.out, cur', E1.out, E2.out.trans HXS.out, by rw [take_same E3.out]; exact HXT.out⟩
end Go.Proofs.YtegkhhegapnkpaaDoor
end
section
open Go Go.RowKit
namespace FF
open WW BB MM
theorem up_orph (F : Fo) (o : List It) : ∀ (k : Nat) (h : ByteArray) (out : List ByteArray), upF { F with orph := o } k h out = upF F k h out
  | 0, _, _ => rfl
  | k + 1, h, out => by
    unfold upF
    rw [has_orph]
    split
    · rfl
    · split
      · rfl
      · exact up_orph F o k _ _
theorem anc_orph (F : Fo) (o : List It) (h : ByteArray) : ancF { F with orph := o } h = ancF F h := up_orph F o _ _ _
theorem height_orph (F : Fo) (o : List It) (h : ByteArray) : heightF { F with orph := o } h = heightF F h := by unfold heightF; rw [anc_orph]
theorem ent_orph (F : Fo) (o : List It) (N : List Iv) (h : ByteArray) : entF F N h = entF { F with orph := o } N h := by unfold entF; rw [height_orph F o h]
theorem idx_ready {F : Fo} {O : List Iv} (ho : O.map Prod.fst = F.orph) : idxI O (fun x => hasF F (parI x.1.2)) = match readyF F with
    | some i => (i : Int)
    | none => -1 := by
  rw [← idx_map O Prod.fst (fun x => hasF F (parI x.2)), ho]; rfl
theorem fits_has {F : Fo} {x : It} (hp : hasF F (parI x.2) = true) : fitsF F x.2 = (standF F x).2 := by
  unfold fitsF standF
  by_cases h1 : badF F x.2
  · rw [if_pos h1, if_pos h1]
  · rw [if_neg h1, if_neg h1, if_pos hp]
    by_cases h2 : 400 ≤ F.nodes.length
    · rw [if_pos h2, if_pos h2]
    · rw [if_neg h2, if_neg h2]
theorem stand_ok {F : Fo} {x : It} (h : (standF F x).2 = 0) : standF F x = (moreF F x, 0) ∧ F.nodes.length < 400 := by
  unfold standF at h ⊢
  split at h
  · cases h
  · split at h
    · cases h
    · rename_i h1 h2
      exact ⟨by rw [if_neg h1, if_neg h2]; rfl, by omega⟩
theorem stand_no {F : Fo} {x : It} (h : (standF F x).2 ≠ 0) : (standF F x).1 = F := by
  unfold standF at h ⊢
  split
  · rfl
  · split
    · rfl
    · rename_i h1 h2
      rw [if_neg h1, if_neg h2] at h
      exact absurd rfl h
/-- how long the slice is that lies there -/
def lenAt (w : World) (g : Nat) : Nat :=
  match w.cell? ⟨g, 3, none⟩ with
  | some (.slice _ n _) => n
  | _ => 0
end FF
namespace Go.Proofs.YtegkhhegapnkpaaDoor
open FF JJ CC MM WW BB
section
variable {B : Nat} {w w' w1 : World} {g : Nat} {F : Fo} {rt : ByteArray} {mv ov : Value} {N O : List Iv} {C : Nat → Prop}
theorem CFs.lenAt (h : CFs B w g F rt mv ov N O C) : lenAt w g = F.orph.length := by
  obtain ⟨a, c, rfl⟩ := h.shapeO
  unfold FF.lenAt
  rw [h.c3, ← h.lenO]
theorem CFs.deleted {gb cap i : Nat} {cur' : Array Value} (h : CFs B w g F rt mv (.slice (some ⟨gb, 0, none⟩) O.length cap) N O C) (hi : i < O.length) (hk : Keep gb w w1) (hc : O.length ≤ cap) (hm : cap ≤ maxLen) (hB : B ≤ gb)
    (hh : w1.heap[gb]? = some (.cells cur' 131 (0, 0))) (hs : cur'.size = cap * 7) (ht : cur'.toList.take ((O.length - 1) * 7) = cellsV (O.eraseIdx i)) :
    CFs B (w1.setCell ⟨g, 3, none⟩ (.slice (some ⟨gb, 0, none⟩) (O.length - 1) cap)) g { F with orph := F.orph.eraseIdx i } rt mv (.slice (some ⟨gb, 0, none⟩) (O.length - 1) cap) N (O.eraseIdx i) C := by
  have hgg : gb ≠ g := fun e => h.go (by rw [e]; rfl)
  have hu := Upd.set w1 g 3 (.slice (some ⟨gb, 0, none⟩) (O.length - 1) cap)
  have hk2 : Keeps (fun b => b ≠ gb ∧ b ≠ g) w (w1.setCell ⟨g, 3, none⟩ (.slice (some ⟨gb, 0, none⟩) (O.length - 1) cap)) :=
    (show Keeps (fun b => b ≠ gb ∧ b ≠ g) w w1 from ⟨⟨hk.os, hk.tape, hk.output, hk.size, fun k hk => absurd hk (Nat.not_lt_zero k)⟩, fun b hb hl => hk.block b hl hb.1⟩).trans (Keeps.upd' hu fun c => c.2 rfl)
  have hel : (O.eraseIdx i).length = O.length - 1 := List.length_eraseIdx_of_lt hi
  have hsub : ∀ y ∈ N ++ O.eraseIdx i, y ∈ N ++ O := fun y hy => by
    rcases List.mem_append.1 hy with hy | hy
    · exact List.mem_append_left _ hy
    · exact List.mem_append_right _ ((List.eraseIdx_sublist O i).subset hy)
  refine ⟨less_wf h.wf (List.eraseIdx_sublist _ _), ?_, h.root, h.nodes, ?_, ?_, h.mB, ?_, ?_, h.gB, h.cB, h.cg, h.cm, ?_, fun b hb => Nat.lt_of_lt_of_le (h.cl b hb) hk2.b0.size, fun y hy => h.small y (hsub y hy)⟩
  · have k1 : TBlk 128 w1 g 4 _ := (hk.block g h.blk.lt (fun e => hgg e.symm)).trans h.blk
    refine (k1.set 3 _).congr _ fun j hj => ?_
    match j, hj with
    | 0, _ => rfl
    | 1, _ => rfl
    | 2, _ => rfl
    | 3, _ => rfl
  · rw [← h.orph, List.eraseIdx_eq_take_drop_succ, List.eraseIdx_eq_take_drop_succ, List.map_append, List.map_take, List.map_drop]
  · refine (h.map.keep fun b hb => hk2.block b ⟨fun e => h.mo gb rfl (e ▸ hb), fun e => h.gm (e ▸ hb)⟩ (h.map.lt b hb)).congr fun x => ?_
    exact ent_orph F _ N x
  · refine ⟨by rw [cellsV_len, hel], Or.inr ⟨gb, cap, cur', by rw [hel], hB, (hu.block gb hgg).trans hh, by rw [hel]; omega, hm, hs, by rw [hel]; exact ht⟩⟩
  · intro w2 hw2 y hy
    have hC : Keeps C w _ := hk2.sub fun b hb _ => ⟨fun e => h.co gb rfl (e ▸ hb), fun e => h.cg (e ▸ hb)⟩
    exact h.inn.on hC w2 hw2 y (hsub y hy)
  · intro b hb
    exact h.co b hb
end
/-- between two rounds -/
structure AdR (B : Nat) (w1 : World) (g : Nat) (F : Fo) (rt : ByteArray) (mv ov : Value) (C : Nat → Prop) (q : Nat) (m : Nat) (F' : Fo) (mv' ov' : Value) (N' O' : List Iv) (wr : World) : Prop where
  cf : CFs B wr g F' rt mv' ov' N' O' C
  len : F'.orph.length ≤ m
  eq : adoptF 10 F = adoptF m F'
  height : F'.height = F.height
  keeps : Keeps (fun b => b < w1.heap.size ∧ b ≠ g ∧ mapBlk mv ≠ some b ∧ ov.ownBlock ≠ some b) w1 wr
  mnew : ∀ b, mapBlk mv' = some b → mapBlk mv = some b ∨ w1.heap.size ≤ b
  onew : ∀ b, ov'.ownBlock = some b → ov.ownBlock = some b
  box : wr.cell? ⟨q, 0, none⟩ = some (.pointer (some ⟨g, 0, none⟩))
  lt : q < wr.heap.size
  tabs : Tabs wr
theorem AdR.on {B : Nat} {w1 : World} {g : Nat} {F : Fo} {rt : ByteArray} {mv ov : Value} {C : Nat → Prop} {q m : Nat} {F' : Fo} {mv' ov' : Value} {N' O' : List Iv} {wr w2 : World} (h : AdR B w1 g F rt mv ov C q m F' mv' ov' N' O' wr) (hb : Below wr.heap.size wr w2) : AdR B w1 g F rt mv ov C q m F' mv' ov' N' O' w2 :=
  ⟨h.cf.on hb, h.len, h.eq, h.height, h.keeps.trans (Keeps.of hb), h.mnew, h.onew, (hb.cell (p := ⟨q, 0, none⟩) h.lt).trans h.box, Nat.lt_of_lt_of_le h.lt hb.size, tabs_on h.tabs hb⟩
set_option maxRecDepth 100000 in
set_option maxHeartbeats 8000000 in
theorem gadopt_any {B : Nat} {w : World} {g : Nat} {F : Fo} {rt : ByteArray} {mv ov : Value} {N O : List Iv} {C : Nat → Prop} (hC : CFs B w g F rt mv ov N O C) (hT : Tabs w) (hN : ∀ b, B ≤ b → NoTab b) (hH : 0 ≤ F.height ∧ F.height ≤ 1000000000) :
    Calls Tryd.prog 83 #[.pointer (some ⟨g, 0, none⟩)] w fun e w' => e = .returned (.tuple #[]) ∧
      ∃ mv' ov' N' O', CFs B w' g (adoptF 10 F) rt mv' ov' N' O' C ∧ Keeps (fun b => b ≠ g ∧ mapBlk mv ≠ some b ∧ ov.ownBlock ≠ some b) w w' ∧ (∀ b, mapBlk mv' = some b → mapBlk mv = some b ∨ w.heap.size ≤ b) ∧ (∀ b, ov'.ownBlock = some b → ov.ownBlock = some b) := by
  have HNT := Lib.hid hN
  have HH := Lib.hid hH
  have b1 := (Below.refl w.heap.size w).alloc (Nat.le_refl _) (.cells #[.pointer (some ⟨g, 0, none⟩)] 40)
  have HA := Lib.hid (show AdR B (w.alloc (.cells #[.pointer (some ⟨g, 0, none⟩)] 40)) g F rt mv ov C w.heap.size 10 F mv ov N O (w.alloc (.cells #[.pointer (some ⟨g, 0, none⟩)] 40)) from
    ⟨hC.on b1, Nat.le_trans hC.wf.o8 (by omega), rfl, rfl, Keeps.refl _ _, fun b hb => Or.inl hb, fun b hb => hb, cell_new w _ _ 0 _ rfl, by simp, tabs_on hT b1⟩)
  have B1 := Lib.hid b1
  have HGB := Lib.hid (show B ≤ g from hC.gB)
  have HOWN := Lib.hid (show (∀ b, mapBlk mv = some b → B ≤ b ∧ b < w.heap.size) ∧ (∀ b, ov.ownBlock = some b → B ≤ b ∧ b < w.heap.size) ∧ g < w.heap.size from ⟨fun b hb => ⟨hC.mB b hb, hC.map.lt b hb⟩, fun b hb => ⟨(hC.row.lt b hb).1, (hC.row.lt b hb).2⟩, hC.blk.lt⟩)
  have HZ := Lib.hid (show (w.alloc (.cells #[.pointer (some ⟨g, 0, none⟩)] 40)).heap.size = w.heap.size + 1 by simp)
  clear hC hT hN hH b1
  go_enter Tryd.func83, Tryd.ntmps83
  go_wp2_with fail
  obtain ⟨w1, hw1⟩ : ∃ w1, w.alloc (.cells #[.pointer (some ⟨g, 0, none⟩)] 40) = w1 := ⟨_, rfl⟩
  rw [hw1] at HA B1 HZ ⊢
  obtain ⟨q, hq⟩ : ∃ q, w.heap.size = q := ⟨_, rfl⟩
  rw [hq] at HA HZ ⊢
  have HQ := Lib.hid hq
  clear hw1 hq
  go_loopw [2] (fun x wr => ∃ m F' mv' ov' N' O', AdR B w1 g F rt mv ov C q m F' mv' ov' N' O' wr) (fun _ wr => lenAt wr g)
  case atStart => exact ⟨_, _, _, _, _, _, HA.out⟩
  case round =>
    obtain ⟨m, F', mv', ov', N', O', hr⟩ := hrel
    have HR := Lib.hid hr
    have HLA := Lib.hid hr.cf.lenAt
    have bx := hr.box
    have c3 := hr.cf.c3
    obtain ⟨oa, oc, rfl⟩ := hr.cf.shapeO
    clear hr
    go_wp2_with fail
    refine (gifun_any O' _ 132 #[.pointer (some ⟨q, 0, none⟩)] (fun x => hasF F' (parI x.1.2)) wr HR.out.cf.ivO (by have := HR.out.cf.o8; omega) (fun i hi wx hbx => ?_)).mono ?_
    · obtain ⟨s1, s2⟩ : isSl (O'.getD i v0).2.1 ∧ isSl (O'.getD i v0).2.2 := by
        have hin := HR.out.cf.innN (O'.getD i v0) (List.mem_append_right _ (by rw [getD_at hi]; exact List.getElem_mem hi))
        obtain ⟨x1, x2, x3⟩ := sl_of_sigs hin.1
        obtain ⟨y1, y2, y3⟩ := sl_of_reqs hin.2
        exact ⟨⟨_, _, _, x3⟩, ⟨_, _, _, y3⟩⟩
      have hk := (HR.out.cf.small (O'.getD i v0) (List.mem_append_right _ (by rw [getD_at hi]; exact List.getElem_mem hi))).1
      obtain ⟨y, hy⟩ : ∃ y, O'.getD i v0 = y := ⟨_, rfl⟩
      rw [hy] at s1 s2 hk ⊢
      obtain ⟨⟨d, bd⟩, e1, e2⟩ := y
      obtain ⟨x1, x2, x3, rfl⟩ : isSl e1 := s1
      obtain ⟨y1, y2, y3, rfl⟩ : isSl e2 := s2
      have hx := HR.out.on hbx
      exact ⟨_, _, rfl, own_adopt, adopt1_any hx.cf hx.tabs d _ _ _ _ (Nat.le_trans hk (by omega)) x1 x2 x3 y1 y2 y3 q hx.box hx.lt⟩
    · rintro e w2 ⟨rfl, hb2⟩
      obtain ⟨X, hX⟩ : ∃ X, idxI O' (fun x => hasF F' (parI x.1.2)) = X := ⟨_, rfl⟩
      rw [hX]
      rw [idx_ready HR.out.cf.orph] at hX
      have R2 := Lib.hid (HR.out.on hb2)
      have L2 := Lib.hid (show lenAt w2 g = lenAt wr g by rw [R2.out.cf.lenAt, HLA.out])
      clear hb2 bx c3
      rcases hrd : readyF F' with _ | i
      · have HRD := Lib.hid hrd
        rw [hrd] at hX
        obtain rfl : X = -1 := hX.symm
        clear hrd
        go_wp2_with fail
        refine bodyPost_ret (results_none rfl _ _ _) rfl ?_
        refine ⟨rfl, mv', _, N', O', ?_, ⟨(B1.out.mono (Nat.zero_le _)).trans R2.out.keeps.b0, fun b hb hl => (R2.out.keeps.block b ⟨Nat.lt_of_lt_of_le hl B1.out.size, hb⟩ (Nat.lt_of_lt_of_le hl B1.out.size)).trans (B1.out.block b hl)⟩, fun b hb => (R2.out.mnew b hb).imp id fun h => Nat.le_trans B1.out.size h, R2.out.onew⟩
        rw [R2.out.eq, adopt_none HRD.out]
        exact R2.out.cf
      · have HRD := Lib.hid hrd
        obtain ⟨hi, hp, -⟩ := gready_some hrd
        rw [hrd] at hX
        obtain rfl : X = (i : Int) := hX.symm
        have l0 : (0 : Int) ≤ (i : Int) := by omega
        have hil : (i : Int) < (O'.length : Int) := by have := R2.out.cf.lenO; omega
        have HI := Lib.hid (show i < O'.length by have := R2.out.cf.lenO; omega)
        have HPAR := Lib.hid (show hasF F' (parI (O'.getD i v0).1.2) = true by
          rw [← map_getD O' i HI.out, R2.out.cf.orph, getD_at hi]; exact hp)
        have bx := R2.out.box
        have c3 := R2.out.cf.c3
        obtain ⟨gb, cap, cur, hov, hBg, hhh, hcp, hmx, hsz, htk⟩ : ∃ gb cap cur, Value.slice oa O'.length oc = .slice (some ⟨gb, 0, none⟩) O'.length cap ∧ B ≤ gb ∧ w2.heap[gb]? = some (.cells cur 131 (0, 0)) ∧ O'.length ≤ cap ∧ cap ≤ maxLen ∧ cur.size = cap * 7 ∧ cur.toList.take (O'.length * 7) = cellsV O' := by
          rcases R2.out.cf.row.2 with ⟨_, h0⟩ | h
          · have := HI.out; omega
          · exact h
        injection hov with ho1 _ ho3
        subst ho1 ho3
        have HRW := Lib.hid (And.intro hBg (And.intro hhh (And.intro hcp (And.intro hmx (And.intro hsz htk)))))
        clear hBg hhh hcp hmx hsz htk hrd hp hX
        clear hi
        obtain ⟨b', off', hbo, hbl, hcell⟩ : ∃ b' off', some (⟨gb, 0, none⟩ : Addr) = some ⟨b', off', none⟩ ∧ b' < w2.heap.size ∧ _ := by
          obtain ⟨a9, c9, he, h9 | h9⟩ := R2.out.cf.ivO
          · have := HI.out; rw [h9] at this; simp at this
          · injection he with e1 _ e3
            subst e1
            exact h9
        injection hbo with hbo
        injection hbo with e1 e2
        subst e1 e2
        obtain ⟨q0, q1, q2, q3, q4, q5, q6⟩ := iv_cells (Below.refl _ w2) hbl hcell i HI.out
        obtain ⟨⟨⟨d, bd⟩, s5, s6⟩, hy⟩ : ∃ y, O'.getD i v0 = y := ⟨_, rfl⟩
        have HY := Lib.hid hy
        have HMEM := Lib.hid (show (((d, bd), s5, s6) : Iv) ∈ O' by rw [← hy, getD_at HI.out]; exact List.getElem_mem HI.out)
        rw [hy] at q0 q1 q2 q3 q4 q5 q6
        obtain ⟨x1, x2, x3⟩ := sl_of_sigs (R2.out.cf.innN _ (List.mem_append_right _ HMEM.out)).1
        obtain ⟨y1, y2, y3⟩ := sl_of_reqs (R2.out.cf.innN _ (List.mem_append_right _ HMEM.out)).2
        replace x3 : s5 = .slice x1 (sigsI bd).length x2 := x3
        replace y3 : s6 = .slice y1 bd.2.length y2 := y3
        subst x3 y3
        simp only [Nat.zero_add] at q0 q1 q2 q3 q4 q5 q6
        obtain ⟨v, hv⟩ : ∃ v, viewI bd = v := ⟨_, rfl⟩
        obtain ⟨p, hp⟩ : ∃ p, propI bd = p := ⟨_, rfl⟩
        obtain ⟨j, hj⟩ : ∃ j, jvI bd = j := ⟨_, rfl⟩
        obtain ⟨k, hk⟩ : ∃ k, parI bd = k := ⟨_, rfl⟩
        obtain ⟨n1, hn1⟩ : ∃ n1, (sigsI bd).length = n1 := ⟨_, rfl⟩
        obtain ⟨n2, hn2⟩ : ∃ n2, bd.2.length = n2 := ⟨_, rfl⟩
        have HV := Lib.hid hv
        have HPR := Lib.hid hp
        have HJ := Lib.hid hj
        have HK := Lib.hid hk
        have HN1 := Lib.hid hn1
        have HN2 := Lib.hid hn2
        rw [hv] at q1
        rw [hp] at q2
        rw [hj] at q3
        rw [hk] at q4
        replace q5 : w2.cell? ⟨gb, i * 7 + 5, none⟩ = some (.slice x1 n1 x2) := by rw [← hn1]; exact q5
        replace q6 : w2.cell? ⟨gb, i * 7 + 6, none⟩ = some (.slice y1 n2 y2) := by rw [← hn2]; exact q6
        have A3 := Lib.hid ((Below.refl w2.heap.size w2).alloc (Nat.le_refl _) (.cells #[.string d, .int .i64 v, .int .i64 p, .int .i64 j, .string k, .slice x1 n1 x2, .slice y1 n2 y2] 131))
        have R3 := Lib.hid (R2.out.on A3.out)
        have L3 := Lib.hid (show Blk (w2.alloc (.cells #[.string d, .int .i64 v, .int .i64 p, .int .i64 j, .string k, .slice x1 n1 x2, .slice y1 n2 y2] 131)) w2.heap.size 7 (rowL [.string d, .int .i64 v, .int .i64 p, .int .i64 j, .string k, .slice x1 n1 x2, .slice y1 n2 y2]) from Blk.new' rfl rfl)
        have RW3 := Lib.hid (show (w2.alloc (.cells #[.string d, .int .i64 v, .int .i64 p, .int .i64 j, .string k, .slice x1 n1 x2, .slice y1 n2 y2] 131)).heap[gb]? = some (.cells cur 131 (0, 0)) from (A3.out.block gb hbl).trans HRW.out.2.1)
        have GBL := Lib.hid hbl
        clear hy hv hp hj hk hn1 hn2 hbl hcell
        go_wp2_with fail
        obtain ⟨y3, hy3⟩ : ∃ y3, w2.heap.size = y3 := ⟨_, rfl⟩
        obtain ⟨w3, hw3⟩ : ∃ w3, w2.alloc (.cells #[.string d, .int .i64 v, .int .i64 p, .int .i64 j, .string k, .slice x1 n1 x2, .slice y1 n2 y2] 131) = w3 := ⟨_, rfl⟩
        rw [hw3] at A3 R3 L3 RW3 ⊢
        rw [hy3] at L3 ⊢
        have HY3 := Lib.hid (show g < y3 ∧ gb < y3 ∧ q < y3 from by
          rw [← hy3]; exact ⟨R2.out.cf.blk.lt, GBL.out, R2.out.lt⟩)
        have HGQ := Lib.hid (show gb ≠ q ∧ gb ≠ g ∧ ov.ownBlock = some gb ∧ B ≤ gb from by
          have h1 := R2.out.onew gb rfl
          have h2 := (HOWN.out.2.1 gb h1).2
          have h3 := HQ.out
          exact ⟨by omega, fun e => R2.out.cf.go (by rw [e]; rfl), h1, HRW.out.1⟩)
        clear hw3 hy3 bx c3 q0 q1 q2 q3 q4 q5 q6
        refine planE_abs (fun wx => wx.cell? ⟨q, 0, none⟩ = some (.pointer (some ⟨g, 0, none⟩)) ∧ wx.cell? ⟨g, 3, none⟩ = some (.slice (some ⟨gb, 0, none⟩) O'.length oc)) 11 [(true, 0), (true, 1), (true, 2), (true, 3), (true, 4), (true, 5), (true, 6), (true, 7), (false, 8), (false, 9), (false, 10), (false, 11)] (by kernel_rfl) (by kernel_rfl) (fun _ _ d _ _ h => by cases d <;> exact h) fun w4 hs4 => ⟨⟨(hs4.cell _).trans R3.out.box, (hs4.cell _).trans R3.out.cf.c3⟩, ?_⟩
        have R4 := Lib.hid (R3.out.on (hs4.below _))
        have L4 := Lib.hid (show Blk w4 y3 7 _ from L3.out.same hs4)
        have RW4 := Lib.hid (show w4.heap[gb]? = some (.cells cur 131 (0, 0)) from (congrArg (fun h => h[gb]?) hs4.heap).trans RW3.out)
        clear hs4
        have l1 : IntKind.i64.wrap ((i : Int) + 1) = (i : Int) + 1 := by rw [IntKind.wrap_i64]; have := HI.out; have := R2.out.cf.o8; omega
        iterate 8 (refine pe_run _ ?_ rfl rfl ?_ ?_; rotate_left; (focus (intro w' hS; obtain ⟨d0, d1⟩ := hS; go_simp; exact rfl)); simp only [Act.put, List.setIfInBounds_toArray, List.set_cons_zero, List.set_cons_succ, List.getElem_toArray, List.getElem_cons_zero, List.getElem_cons_succ])
        refine pe_call (R := fun u w' => u = .slice (some ⟨gb, 0, none⟩) (O'.length - 1) oc ∧ Keep gb w4 w' ∧ ∃ cur', w'.heap[gb]? = some (.cells cur' 131 (0, 0)) ∧ cur'.size = oc * 7 ∧ cur'.toList.take ((O'.length - 1) * 7) = cellsV (O'.eraseIdx i)) _ rfl rfl (by go_simp) ((gdel_any O' gb oc cur w4 RW4.out HRW.out.2.2.1 HRW.out.2.2.2.1 HRW.out.2.2.2.2.1 HRW.out.2.2.2.2.2 (fun x hx => R4.out.cf.innN x (List.mem_append_right _ hx)) i HI.out (by have := R4.out.cf.o8; omega)).mono fun e w' h => ⟨_, h.1, rfl, h.2⟩) (fun u w' h => ?_) fun u w5 hr => ?_
        · obtain ⟨_, hk, _⟩ := h
          exact ⟨(World.cell?_of_block (w := w4) (a := ⟨q, 0, none⟩) (hk.block q R4.out.lt (fun e => HGQ.out.1 e.symm))).trans R4.out.box, (World.cell?_of_block (w := w4) (a := ⟨g, 3, none⟩) (hk.block g R4.out.cf.blk.lt (fun e => HGQ.out.2.1 e.symm))).trans R4.out.cf.c3⟩
        · obtain ⟨rfl, hk5, cur', hc1, hc2, hc3⟩ := hr
          have K5 := Lib.hid hk5
          have c5 : w5.cell? ⟨g, 3, none⟩ = some (.slice (some ⟨gb, 0, none⟩) O'.length oc) := (World.cell?_of_block (w := w4) (a := ⟨g, 3, none⟩) (hk5.block g R4.out.cf.blk.lt (fun e => HGQ.out.2.1 e.symm))).trans R4.out.cf.c3
          have f5 : w5.frozen? ⟨g, 3, none⟩ = false := (World.frozen?_of_block (w := w4) (a := ⟨g, 3, none⟩) (hk5.block g R4.out.cf.blk.lt (fun e => HGQ.out.2.1 e.symm))).trans (R4.out.cf.blk.blk.frz 3)
          have CF6 := Lib.hid (R4.out.cf.deleted HI.out hk5 HRW.out.2.2.1 HRW.out.2.2.2.1 HGQ.out.2.2.2 hc1 hc2 hc3)
          have U6 := Lib.hid (Upd.set w5 g 3 (.slice (some ⟨gb, 0, none⟩) (O'.length - 1) oc))
          have K46 := Lib.hid (show Keeps (fun b => b ≠ gb ∧ b ≠ g) w4 (w5.setCell ⟨g, 3, none⟩ (.slice (some ⟨gb, 0, none⟩) (O'.length - 1) oc)) from
            (show Keeps (fun b => b ≠ gb ∧ b ≠ g) w4 w5 from ⟨⟨hk5.os, hk5.tape, hk5.output, hk5.size, fun k hk => absurd hk (Nat.not_lt_zero k)⟩, fun b hb hl => hk5.block b hl hb.1⟩).trans (Keeps.upd' U6.out fun c => c.2 rfl))
          clear hk5 hc1 hc2 hc3
          simp only [Act.put, List.setIfInBounds_toArray, List.set_cons_zero, List.set_cons_succ, List.getElem_toArray, List.getElem_cons_zero, List.getElem_cons_succ]
          have b5 : w5.cell? ⟨q, 0, none⟩ = some (.pointer (some ⟨g, 0, none⟩)) := (World.cell?_of_block (w := w4) (a := ⟨q, 0, none⟩) (K5.out.block q R4.out.lt (fun e => HGQ.out.1 e.symm))).trans R4.out.box
          refine pe_value (w' := w5) _ (.pointer (some ⟨g, 0, none⟩)) rfl rfl (by go_simp) ⟨b5, c5⟩ ?_
          simp only [Act.put, List.setIfInBounds_toArray, List.set_cons_zero, List.set_cons_succ, List.getElem_toArray, List.getElem_cons_zero, List.getElem_cons_succ]
          refine pe_value (w' := w5) _ (.pointer (some ⟨g, 3, none⟩)) rfl rfl (by go_simp) ⟨b5, c5⟩ ?_
          simp only [Act.put, List.setIfInBounds_toArray, List.set_cons_zero, List.set_cons_succ, List.getElem_toArray, List.getElem_cons_zero, List.getElem_cons_succ]
          refine pe_last _ rfl ?_
          simp only [List.getElem_toArray, List.getElem_cons_zero, List.getElem_cons_succ]
          have b6 : (w5.setCell ⟨g, 3, none⟩ (.slice (some ⟨gb, 0, none⟩) (O'.length - 1) oc)).cell? ⟨q, 0, none⟩ = some (.pointer (some ⟨g, 0, none⟩)) := (World.cell?_of_block (w := w4) (a := ⟨q, 0, none⟩) (K46.out.block q ⟨fun e => HGQ.out.1 e.symm, by have := HOWN.out.2.2; have := HQ.out; omega⟩ R4.out.lt)).trans R4.out.box
          have L6 := Lib.hid (show Blk (w5.setCell ⟨g, 3, none⟩ (.slice (some ⟨gb, 0, none⟩) (O'.length - 1) oc)) y3 7 (rowL [.string d, .int .i64 v, .int .i64 p, .int .i64 j, .string k, .slice x1 n1 x2, .slice y1 n2 y2]) from L4.out.of_heap (K46.out.block y3 ⟨by have := HY3.out; omega, by have := HY3.out; omega⟩ L4.out.lt))
          have T6 := Lib.hid (show Tabs (w5.setCell ⟨g, 3, none⟩ (.slice (some ⟨gb, 0, none⟩) (O'.length - 1) oc)) from tabs_keeps R4.out.tabs K46.out fun b => if e : b = gb then Or.inl (HNT.out b (e ▸ HGQ.out.2.2.2)) else if e2 : b = g then Or.inl (HNT.out b (e2 ▸ HGB.out)) else Or.inr ⟨e, e2⟩)
          have z1 : World.cell? _ ⟨y3, 1, none⟩ = some (.int .i64 v) := L6.out.get 1 (by omega)
          have z2 : World.cell? _ ⟨y3, 2, none⟩ = some (.int .i64 p) := L6.out.get 2 (by omega)
          have z3 : World.cell? _ ⟨y3, 3, none⟩ = some (.int .i64 j) := L6.out.get 3 (by omega)
          have z4 : World.cell? _ ⟨y3, 4, none⟩ = some (.string k) := L6.out.get 4 (by omega)
          have z5 : World.cell? _ ⟨y3, 5, none⟩ = some (.slice x1 n1 x2) := L6.out.get 5 (by omega)
          have z6 : World.cell? _ ⟨y3, 6, none⟩ = some (.slice y1 n2 y2) := L6.out.get 6 (by omega)
          go_wp2_with fail
          clear c5 f5 z1 z2 z3 z4 z5 z6 b5
          obtain ⟨w6, hw6⟩ : ∃ w6, w5.setCell ⟨g, 3, none⟩ (.slice (some ⟨gb, 0, none⟩) (O'.length - 1) oc) = w6 := ⟨_, rfl⟩
          rw [hw6] at CF6 U6 K46 b6 L6 T6 ⊢
          obtain ⟨F2, hF2⟩ : ∃ F2, ({ F' with orph := F'.orph.eraseIdx i } : Fo) = F2 := ⟨_, rfl⟩
          rw [hF2] at CF6
          have HF2 := Lib.hid hF2
          have HX0 := Lib.hid (show F'.orph.getD i i0 = (d, bd) by rw [← R2.out.cf.orph, map_getD O' i HI.out, HY.out])
          have HFR := Lib.hid (show Fresh F2 (d, bd) by rw [← HX0.out, ← hF2]; exact erase_fresh R2.out.cf.wf (by rw [← R2.out.cf.lenO]; exact HI.out))
          have HP2 := Lib.hid (show hasF F2 (parI bd) = true by rw [← hF2, has_orph]; have h := HPAR.out; rw [HY.out] at h; exact h)
          have HST := Lib.hid (show (standF F2 (d, bd)).1 = stepF F' i by unfold stepF; rw [hF2, HX0.out])
          have HSM := Lib.hid (show SmallI bd from R2.out.cf.small _ (List.mem_append_right _ HMEM.out))
          have K16 := Lib.hid (show Keeps (fun b => b < w1.heap.size ∧ b ≠ g ∧ mapBlk mv ≠ some b ∧ ov.ownBlock ≠ some b) w1 w6 from R4.out.keeps.trans (K46.out.sub fun b hb _ => ⟨fun e => hb.2.2.2 (by rw [e]; exact HGQ.out.2.2.1), hb.2.1⟩))
          clear hw6 hF2 A3
          obtain ⟨ec, hec⟩ : ∃ ec, fitsF F2 bd = ec := ⟨_, rfl⟩
          have HEC := Lib.hid (show (standF F2 (d, bd)).2 = ec by rw [← hec]; exact (fits_has (x := (d, bd)) HP2.out).symm)
          refine ((gfits_any CF6.out T6.out bd v p j k HV.out HJ.out HK.out (by have := HSM.out.1; rw [HK.out] at this; omega) x1 n1 x2 y1 n2 y2)).mono ?_
          rintro e w7 ⟨rfl, hb7⟩
          rw [hec]
          have CF7 := Lib.hid (CF6.out.on hb7)
          have T7 := Lib.hid (tabs_on T6.out hb7)
          have L7 := Lib.hid (L6.out.below hb7 L6.out.lt)
          have K17 := Lib.hid (K16.out.trans (Keeps.of hb7))
          have bx7 : w7.cell? ⟨q, 0, none⟩ = some (.pointer (some ⟨g, 0, none⟩)) := (hb7.cell (p := ⟨q, 0, none⟩) (show q < w6.heap.size by have := L6.out.lt; have := HY3.out; omega)).trans b6
          have HQL := Lib.hid (show q < w7.heap.size by have := L7.out.lt; have := HY3.out; omega)
          have B67 := Lib.hid hb7
          have HLEN := Lib.hid (gstep_len HRD.out)
          have HEQ := Lib.hid (R2.out.eq.trans (adopt_some HRD.out R2.out.len))
          have HHT := Lib.hid (show (stepF F' i).height = F.height by unfold stepF; rw [stand_height]; exact R2.out.height)
          have HMQ := Lib.hid (show mapBlk mv' ≠ some q from fun e => by
            have h1 := HZ.out
            have h2 := HQ.out
            rcases R2.out.mnew q e with h | h
            · have := (HOWN.out.1 q h).2; omega
            · omega)
          clear hb7 hec b6
          by_cases he : ec = 0
          · subst he
            obtain ⟨hst, h4⟩ := stand_ok HEC.out
            have HMO := Lib.hid (show moreF F2 (d, bd) = stepF F' i by rw [← HST.out, hst])
            have H4 := Lib.hid h4
            clear hst h4
            have z0 : World.cell? _ ⟨y3, 0, none⟩ = some (.string d) := L7.out.get 0 (by omega)
            have z1 : World.cell? _ ⟨y3, 1, none⟩ = some (.int .i64 v) := L7.out.get 1 (by omega)
            have z2 : World.cell? _ ⟨y3, 2, none⟩ = some (.int .i64 p) := L7.out.get 2 (by omega)
            have z3 : World.cell? _ ⟨y3, 3, none⟩ = some (.int .i64 j) := L7.out.get 3 (by omega)
            have z4 : World.cell? _ ⟨y3, 4, none⟩ = some (.string k) := L7.out.get 4 (by omega)
            have z5 : World.cell? _ ⟨y3, 5, none⟩ = some (.slice x1 n1 x2) := L7.out.get 5 (by omega)
            have z6 : World.cell? _ ⟨y3, 6, none⟩ = some (.slice y1 n2 y2) := L7.out.get 6 (by omega)
            have HDI := Lib.hid (show Dep C w7 (fun w' => InnV w' ((d, bd), .slice x1 (sigsI bd).length x2, .slice y1 bd.2.length y2)) from fun w8 h8 => by
              have hk : Keeps C w4 w7 := (K46.out.sub fun b hb _ => ⟨fun e => R4.out.cf.co gb rfl (e ▸ hb), fun e => R4.out.cf.cg (e ▸ hb)⟩).trans (Keeps.of B67.out)
              exact R4.out.cf.inn.on hk w8 h8 _ (List.mem_append_right _ HMEM.out))
            have HHF := Lib.hid (show F2.height = F.height by rw [← HF2.out]; exact R2.out.height)
            have HSA := gstand_any CF7.out T7.out HNT.out ((d, bd), .slice x1 (sigsI bd).length x2, .slice y1 bd.2.length y2) HFR.out HP2.out H4.out HDI.out HSM.out (by rw [HHF.out]; exact HH.out) x1 (sigsI bd).length x2 y1 bd.2.length y2 rfl rfl
            simp only [HV.out, HPR.out, HJ.out, HK.out, HN1.out, HN2.out] at HSA
            go_wp2_with fail
            refine HSA.mono ?_
            rintro e w8 ⟨rfl, bm, hcf, hk8, hbm⟩
            have CF8 := Lib.hid hcf
            have K8 := Lib.hid hk8
            have HBM := Lib.hid hbm
            have bx8 : w8.cell? ⟨q, 0, none⟩ = some (.pointer (some ⟨g, 0, none⟩)) := (World.cell?_of_block (w := w7) (a := ⟨q, 0, none⟩) (hk8.block q ⟨by have := HOWN.out.2.2; have := HQ.out; omega, HMQ.out⟩ HQL.out)).trans bx7
            have BX8 := Lib.hid bx8
            clear hcf hk8 hbm bx8 bx7 z0 z1 z2 z3 z4 z5 z6 HSA
            go_wp2_with fail
            go_roundw
            case rel =>
              refine ⟨m - 1, stepF F' i, .map (some bm), .slice (some ⟨gb, 0, none⟩) (O'.length - 1) oc, _, _, HMO.out ▸ CF8.out, by have := HLEN.out; have := R2.out.len; omega, HEQ.out, HHT.out, K17.out.trans (K8.out.sub fun b hb _ => ⟨hb.2.1, fun e => ?_⟩), fun b hb => ?_, fun b hb => ?_, BX8.out, Nat.lt_of_lt_of_le HQL.out K8.out.b0.size, ?_⟩
              · rcases R2.out.mnew b e with h | h
                · exact hb.2.2.1 h
                · have := hb.1; omega
              · injection hb with hb
                subst hb
                rcases HBM.out with h | h
                · exact R2.out.mnew bm h
                · exact Or.inr (Nat.le_trans K17.out.b0.size h)
              · injection hb with hb
                subst hb
                exact HGQ.out.2.2.1
              · exact tabs_keeps T7.out K8.out fun b => if e : b = g then Or.inl (HNT.out b (e ▸ HGB.out)) else if e2 : mapBlk mv' = some b then Or.inl (HNT.out b (CF7.out.mB b e2)) else Or.inr ⟨e, e2⟩
            case measure =>
              show lenAt w8 g < lenAt wr g
              rw [CF8.out.lenAt, HLA.out, HMO.out]
              have := HLEN.out
              omega
          · have t1 : (ec == 0) = false := by simpa using he
            have HNE := Lib.hid (show F2 = stepF F' i by rw [← HST.out, stand_no (by rw [HEC.out]; exact he)])
            have BX7 := Lib.hid bx7
            clear he bx7
            go_wp2_with fail
            go_roundw
            case rel =>
              refine ⟨m - 1, stepF F' i, mv', .slice (some ⟨gb, 0, none⟩) (O'.length - 1) oc, _, _, HNE.out ▸ CF7.out, by have := HLEN.out; have := R2.out.len; omega, HEQ.out, HHT.out, K17.out, R2.out.mnew, fun b hb => ?_, BX7.out, HQL.out, T7.out⟩
              injection hb with hb
              subst hb
              exact HGQ.out.2.2.1
            case measure =>
              show lenAt w7 g < lenAt wr g
              rw [CF7.out.lenAt, HLA.out, HNE.out]
              have := HLEN.out
              omega
end Go.Proofs.YtegkhhegapnkpaaDoor
end
section
open Go Go.RowKit
namespace FF
open JJ CC WW BB MM
theorem fits_not {F : Fo} {b : BlockD} (hp : hasF F (parI b) = false) : fitsF F b = if 8 ≤ F.orph.length then 7 else 0 := by
  unfold fitsF
  have hb : ¬ badF F b := fun h => by
    rw [has_eq, decide_eq_true h.1] at hp; cases hp
  rw [if_neg hb, hp]; rfl
theorem put_known {F : Fo} {x : It} (h : hasF F x.1 = true ∨ 0 ≤ atI F.orph x.1) : putF F x = (F, 6) := by unfold putF; rw [if_pos h]
theorem put_wait {F : Fo} {x : It} (h : ¬ (hasF F x.1 = true ∨ 0 ≤ atI F.orph x.1)) (hp : hasF F (parI x.2) = false) : putF F x = if 8 ≤ F.orph.length then (F, 7) else ({ F with orph := F.orph ++ [x] }, 0) := by unfold putF; rw [if_neg h, if_pos hp]
theorem put_err {F : Fo} {x : It} (h : ¬ (hasF F x.1 = true ∨ 0 ≤ atI F.orph x.1)) (hp : hasF F (parI x.2) = true) (he : (standF F x).2 ≠ 0) : putF F x = (F, (standF F x).2) := by unfold putF; rw [if_neg h, if_neg (by rw [hp]; simp), if_pos he]
theorem put_stand {F : Fo} {x : It} (h : ¬ (hasF F x.1 = true ∨ 0 ≤ atI F.orph x.1)) (hp : hasF F (parI x.2) = true) (he : (standF F x).2 = 0) : putF F x = (adoptF 10 (standF F x).1, 0) := by unfold putF; rw [if_neg h, if_neg (by rw [hp]; simp), if_neg (by rw [he]; simp)]
/-- a copy rests upon what was laid for it -/
theorem dep_copy {B : Nat} {w : World} {x : Iv} (hs : SigsNew B w x.2.1 (sigsI x.1.2)) (hr : ReqsAt w x.2.2 x.1.2.2) (ho : ∀ c, x.2.2.ownBlock = some c → B ≤ c) : Dep (fun b => B ≤ b ∧ b < w.heap.size) w (fun wx => InnV wx x) := fun _ hk =>
  ⟨(hs.keep hk.b0.size fun c h1 h2 => hk.block c ⟨h1, h2⟩ h2).sigs, reqs_keep hr hk.b0.size fun c h1 h2 => hk.block c ⟨ho c h1, h2⟩ h2⟩
end FF
namespace Go.Proofs.YtegkhhegapnkpaaDoor
open FF JJ CC MM WW BB
section
variable {B : Nat} {w w' w1 : World} {g : Nat} {F : Fo} {rt : ByteArray} {mv ov : Value} {N O : List Iv} {C : Nat → Prop}
theorem CFs.widen (h : CFs B w g F rt mv ov N O C) (C' : Nat → Prop) (hs : ∀ b, C b → C' b) (hB : ∀ b, C' b → B ≤ b) (hg : ¬ C' g) (hm : ∀ b, mapBlk mv = some b → ¬ C' b) (ho : ∀ b, ov.ownBlock = some b → ¬ C' b) (hl : ∀ b, C' b → b < w.heap.size) : CFs B w g F rt mv ov N O C' :=
  ⟨h.wf, h.blk, h.root, h.nodes, h.orph, h.map, h.mB, h.row, h.inn.more fun b hb _ => hs b hb, h.gB, hB, hg, hm, ho, hl, h.small⟩
/-- what was laid behind w0 is taken in -/
theorem CFs.widen' (h : CFs B w g F rt mv ov N O C) (n : Nat) (hg : g < n) (hm : ∀ b, mapBlk mv = some b → b < n) (ho : ∀ b, ov.ownBlock = some b → b < n) (hB : B ≤ n) : CFs B w g F rt mv ov N O (fun b => C b ∨ (n ≤ b ∧ b < w.heap.size)) :=
  h.widen _ (fun _ hb => Or.inl hb) (fun b hb => hb.elim (h.cB b) fun h => Nat.le_trans hB h.1) (fun hb => hb.elim h.cg fun h => by omega) (fun b e hb => hb.elim (h.cm b e) fun h => by have := hm b e; omega)
    (fun b e hb => hb.elim (h.co b e) fun h => by have := ho b e; omega) (fun b hb => hb.elim (h.cl b) fun h => h.2)
theorem CFs.pushed {ov' : Value} (h : CFs B w g F rt mv ov N O C) (x : Iv) (hx : Fresh F x.1) (h8 : F.orph.length < 8) (hI : Dep C w (fun w' => InnV w' x)) (hs : SmallI x.1.2) (hg : w.grownBy w1 ov.ownBlock) (hr : w1.ownsRow B 131 7 ov' (O.length + 1) (cellsV O ++ encV x)) (hloc : ∀ b, ov'.ownBlock = some b → ov.ownBlock = some b ∨ w.heap.size ≤ b) :
    CFs B (w1.setCell ⟨g, 3, none⟩ ov') g { F with orph := F.orph ++ [x.1] } rt mv ov' N (O ++ [x]) C := by
  have hu := Upd.set w1 g 3 ov'
  have hgo : ∀ b, ov'.ownBlock = some b → b ≠ g := fun b hb e => by
    rcases hloc b hb with h1 | h1
    · exact h.go (e ▸ h1)
    · have := h.blk.lt; omega
  have hk : Keeps (fun b => ov.ownBlock ≠ some b ∧ b ≠ g) w (w1.setCell ⟨g, 3, none⟩ ov') := (Keeps.grown hg fun b e c => c.1 e).trans (Keeps.upd' hu fun c => c.2 rfl)
  have hmem : ∀ y ∈ N ++ (O ++ [x]), y ∈ N ++ O ∨ y = x := fun y hy => by
    rw [← List.append_assoc, List.mem_append, List.mem_singleton] at hy; exact hy
  refine ⟨orph_wf h.wf hx h8, ?_, h.root, h.nodes, by rw [List.map_append, h.orph]; rfl, ?_, h.mB, ?_, ?_, h.gB, h.cB, h.cg, h.cm, ?_, fun b hb => Nat.lt_of_lt_of_le (h.cl b hb) hk.b0.size, ?_⟩
  · have k1 : TBlk 128 w1 g 4 _ := (hg.block g h.blk.lt (fun e => h.go e.symm)).trans h.blk
    refine (k1.set 3 _).congr _ fun j hj => ?_
    match j, hj with
    | 0, _ => rfl
    | 1, _ => rfl
    | 2, _ => rfl
    | 3, _ => rfl
  · refine (h.map.keep fun b hb => hk.block b ⟨fun e => h.mo b e hb, fun e => h.gm (e ▸ hb)⟩ (h.map.lt b hb)).congr fun y => ?_
    exact ent_orph F _ N y
  · rw [List.length_append, List.length_singleton, cellsV_snoc]
    exact row_keep hr fun c hc => hu.block c (hgo c hc)
  · intro w2 hw2 y hy
    have hC : Keeps C w _ := hk.sub fun b hb _ => ⟨fun e => h.co b e hb, fun e => h.cg (e ▸ hb)⟩
    rcases hmem y hy with hy | rfl
    · exact h.inn.on hC w2 hw2 y hy
    · exact hI.on hC w2 hw2
  · intro b hb hc
    rcases hloc b hb with h1 | h1
    · exact h.co b h1 hc
    · have := h.cl b hc; omega
  · intro y hy
    rcases hmem y hy with hy | rfl
    · exact h.small y hy
    · exact hs
end
/-- what Put leaves -/
def PutAns (B : Nat) (w : World) (g : Nat) (rt : ByteArray) (mv ov : Value) (C : Nat → Prop) (R : Fo × Int) (e : Ending) (w' : World) : Prop :=
  e = .returned (.int .i64 R.2) ∧ ∃ mv' ov' N' O' C', CFs B w' g R.1 rt mv' ov' N' O' C' ∧ Keeps (fun b => ¬ MineB g mv ov C b) w w' ∧ (∀ b, MineB g mv' ov' C' b → MineB g mv ov C b ∨ w.heap.size ≤ b)
theorem PutAns.same {B : Nat} {w w' : World} {g : Nat} {F : Fo} {rt : ByteArray} {mv ov : Value} {N O : List Iv} {C : Nat → Prop} {n : Int} (h : CFs B w g F rt mv ov N O C) (hb : Below w.heap.size w w') : PutAns B w g rt mv ov C (F, n) (.returned (.int .i64 n)) w' :=
  ⟨rfl, mv, ov, N, O, C, h.on hb, Keeps.of hb, fun _ h => Or.inl h⟩
theorem small_tags {l : List (Int × List ByteArray)} (h : SmallS l) : ∀ p ∈ l, p.2.length ≤ 1000 := fun p hp => by
  obtain ⟨i, hi, rfl⟩ := List.getElem_of_mem hp
  have := (h.2.2 i hi).2
  rwa [getD_at hi] at this
set_option maxRecDepth 100000 in
set_option maxHeartbeats 8000000 in
theorem gput_any {B : Nat} {w : World} {g : Nat} {F : Fo} {rt : ByteArray} {mv ov : Value} {N O : List Iv} {C : Nat → Prop} (hC : CFs B w g F rt mv ov N O C) (hT : Tabs w) (hN : ∀ b, B ≤ b → NoTab b) (hH : 0 ≤ F.height ∧ F.height ≤ 1000000000) (b : BlockD) (sv rv : Value) (hv : SigsAt w sv (sigsI b)) (hr : ReqsAt w rv b.2) (hs : SmallI b) :
    Calls Tryd.prog 21 #[.pointer (some ⟨g, 0, none⟩), .agg #[.int .i64 (viewI b), .int .i64 (propI b), .int .i64 (jvI b), .string (parI b), sv, rv]] w (PutAns B w g rt mv ov C (putF F (digI b, b))) := by
  have HC := Lib.hid hC
  have HT := Lib.hid hT
  have HNT := Lib.hid hN
  have HH := Lib.hid hH
  have HSM := Lib.hid hs
  have HSV := Lib.hid hv
  have HRV := Lib.hid hr
  obtain ⟨sa, sc, rfl⟩ := sl_of_sigs hv
  obtain ⟨ra, rc, rfl⟩ := sl_of_reqs hr
  obtain ⟨n1, hn1⟩ : ∃ n1, (sigsI b).length = n1 := ⟨_, rfl⟩
  obtain ⟨n2, hn2⟩ : ∃ n2, b.2.length = n2 := ⟨_, rfl⟩
  obtain ⟨v, hvv⟩ : ∃ v, viewI b = v := ⟨_, rfl⟩
  obtain ⟨p, hpp⟩ : ∃ p, propI b = p := ⟨_, rfl⟩
  obtain ⟨j, hj⟩ : ∃ j, jvI b = j := ⟨_, rfl⟩
  obtain ⟨k, hk⟩ : ∃ k, parI b = k := ⟨_, rfl⟩
  have HN1 := Lib.hid hn1
  have HN2 := Lib.hid hn2
  have HVV := Lib.hid hvv
  have HPP := Lib.hid hpp
  have HJ := Lib.hid hj
  have HK := Lib.hid hk
  rw [hn1] at HSV ⊢
  rw [hn2] at HRV ⊢
  rw [hvv, hpp, hj, hk]
  have HKS := Lib.hid (show k.size ≤ 1000 by rw [← hk]; exact hs.1)
  obtain ⟨H, hHH⟩ : ∃ H, digI b = H := ⟨_, rfl⟩
  have HHE := Lib.hid (show digD v p j k b.2 = H by rw [← hHH, ← hvv, ← hpp, ← hj, ← hk]; rfl)
  have H32 := Lib.hid (show H.size = 32 by rw [← hHH]; exact digD_size _ _ _ _ _)
  rw [hHH]
  have b1 := Lib.hid ((Below.refl w.heap.size w).alloc (Nat.le_refl _) (.cells #[.int .i64 v, .int .i64 p, .int .i64 j, .string k, .slice sa n1 sc, .slice ra n2 rc] 29))
  have L0 := Lib.hid (show Blk (w.alloc (.cells #[.int .i64 v, .int .i64 p, .int .i64 j, .string k, .slice sa n1 sc, .slice ra n2 rc] 29)) w.heap.size 6 (rowL [.int .i64 v, .int .i64 p, .int .i64 j, .string k, .slice sa n1 sc, .slice ra n2 rc]) from Blk.new' rfl rfl)
  clear hC hT hN hH hs hv hr hn1 hn2 hvv hpp hj hk hHH
  go_enter Tryd.func21, Tryd.ntmps21
  go_upto_region 1 with fail
  obtain ⟨y0, hy0⟩ : ∃ y0, w.heap.size = y0 := ⟨_, rfl⟩
  have HY0 := Lib.hid hy0
  obtain ⟨w1, hw1⟩ : ∃ w1, w.alloc (.cells #[.int .i64 v, .int .i64 p, .int .i64 j, .string k, .slice sa n1 sc, .slice ra n2 rc] 29) = w1 := ⟨_, rfl⟩
  rw [hw1] at b1 L0 ⊢
  rw [hy0] at L0 ⊢
  clear hw1 hy0
  have HC1 := Lib.hid (HC.out.on b1.out)
  have HT1 := Lib.hid (tabs_on HT.out b1.out)
  have HS := Lib.hid (fun (wx : World) (hb : Below w1.heap.size w1 wx) => show wx.cell? ⟨y0, 0, none⟩ = some (.int .i64 v) ∧ wx.cell? ⟨y0, 1, none⟩ = some (.int .i64 p) ∧ wx.cell? ⟨y0, 2, none⟩ = some (.int .i64 j) ∧ wx.cell? ⟨y0, 3, none⟩ = some (.string k) ∧ wx.cell? ⟨y0, 4, none⟩ = some (.slice sa n1 sc) ∧ wx.cell? ⟨y0, 5, none⟩ = some (.slice ra n2 rc) from by
    have L := L0.out.below hb L0.out.lt
    exact ⟨L.get 0 (by omega), L.get 1 (by omega), L.get 2 (by omega), L.get 3 (by omega), L.get 4 (by omega), L.get 5 (by omega)⟩)
  obtain ⟨d0, d1, d2, d3, d4, d5⟩ := HS.out w1 (Below.refl _ _)
  go_wp2_with fail
  refine (bdigest_any v p j k _ _ (sigsI b) b.2 w1 (HSV.out.later b1.out) (HRV.out.later b1.out) HKS.out HSM.out.2.1 HSM.out.2.2 HT1.out).mono ?_
  rintro e w2 ⟨rfl, hb2⟩
  rw [HHE.out]
  have X2 := Lib.hid hb2
  clear hb2 d0 d1 d2 d3 d4 d5
  obtain ⟨bh, hbh⟩ : ∃ bh, hasF F H = bh := ⟨_, rfl⟩
  have HBH := Lib.hid hbh
  clear hbh
  go_wp2_with fail
  refine (ghas_is (HC1.out.on X2.out) (tabs_on HT1.out X2.out) H bh HBH.out (by have := H32.out; omega)).mono ?_
  rintro e w3 ⟨rfl, hb3⟩
  have X3 := Lib.hid (X2.out.trans (hb3.mono X2.out.size))
  clear hb3
  cases bh
  rotate_left
  · go_wp2_with fail
    go_ret
    rw [put_known (Or.inl HBH.out)]
    exact PutAns.same HC.out (b1.out.trans (X3.out.mono b1.out.size))
  · obtain ⟨bw, hbw⟩ : ∃ bw, decide (0 ≤ atI F.orph H) = bw := ⟨_, rfl⟩
    have HBW := Lib.hid hbw
    clear hbw
    go_wp2_with fail
    refine (gwaits_any (HC1.out.on X3.out) H bw HBW.out).mono ?_
    rintro e w4 ⟨rfl, hb4⟩
    have X4 := Lib.hid (X3.out.trans (hb4.mono X3.out.size))
    clear hb4
    cases bw
    rotate_left
    · go_wp2_with fail
      go_ret
      rw [put_known (Or.inr (of_decide_eq_true HBW.out))]
      exact PutAns.same HC.out (b1.out.trans (X4.out.mono b1.out.size))
    · have HNK := Lib.hid (show ¬ (hasF F H = true ∨ 0 ≤ atI F.orph H) from fun h => h.elim (fun h => by rw [HBH.out] at h; cases h) (of_decide_eq_false HBW.out))
      have HFR := Lib.hid (show Fresh F (H, b) from fresh_of H32.out HBH.out (of_decide_eq_false HBW.out))
      obtain ⟨d0, d1, d2, d3, d4, d5⟩ := HS.out w4 X4.out
      obtain ⟨ec, hec⟩ : ∃ ec, fitsF F b = ec := ⟨_, rfl⟩
      have HEC := Lib.hid hec
      go_wp2_with fail
      refine (gfits_any (HC1.out.on X4.out) (tabs_on HT1.out X4.out) b v p j k HVV.out HJ.out HK.out (by have := HKS.out; omega) sa n1 sc ra n2 rc).mono ?_
      rintro e w5 ⟨rfl, hb5⟩
      rw [hec]
      have X5 := Lib.hid (X4.out.trans (hb5.mono X4.out.size))
      clear hb5 hec d0 d1 d2 d3 d4 d5
      obtain ⟨bp, hbp⟩ : ∃ bp, hasF F k = bp := ⟨_, rfl⟩
      have HBP := Lib.hid (show hasF F (parI b) = bp by rw [HK.out]; exact hbp)
      have HBP' := Lib.hid hbp
      clear hbp
      by_cases he : ec = 0
      rotate_left
      · have t1 : (ec == 0) = false := by simpa using he
        have HE := Lib.hid he
        clear he
        have HPF := Lib.hid (show putF F (H, b) = (F, ec) by
          cases bp
          · rw [put_wait HNK.out HBP.out]
            have h1 := fits_not HBP.out
            rw [HEC.out] at h1
            by_cases h8 : 8 ≤ F.orph.length
            · rw [if_pos h8] at h1 ⊢; rw [h1]
            · rw [if_neg h8] at h1; exact absurd h1 HE.out
          · have h1 := fits_has (x := (H, b)) HBP.out
            rw [put_err HNK.out HBP.out (by rw [← h1, HEC.out]; exact HE.out), ← h1, HEC.out])
        go_wp2_with fail
        go_ret
        rw [HPF.out]
        exact PutAns.same HC.out (b1.out.trans (X5.out.mono b1.out.size))
      · subst he
        obtain ⟨d0, d1, d2, d3, d4, d5⟩ := HS.out w5 X5.out
        go_wp2_with fail
        refine (parent_any v p j k sa ra n1 sc n2 rc w5).mono ?_
        rintro e w6 ⟨rfl, hb6⟩
        have X6 := Lib.hid (X5.out.trans (hb6.mono X5.out.size))
        clear hb6 d0 d1 d2 d3 d4 d5
        go_wp2_with fail
        refine (ghas_is (HC1.out.on X6.out) (tabs_on HT1.out X6.out) k bp HBP'.out (by have := HKS.out; omega)).mono ?_
        rintro e w7 ⟨rfl, hb7⟩
        have X7 := Lib.hid (X6.out.trans (hb7.mono X6.out.size))
        clear hb7
        cases bp
        · have H8 := Lib.hid (show F.orph.length < 8 by
            have h1 := fits_not HBP.out
            rw [HEC.out] at h1
            by_cases h8 : 8 ≤ F.orph.length
            · rw [if_pos h8] at h1; cases h1
            · omega)
          have HPF := Lib.hid (show putF F (H, b) = ({ F with orph := F.orph ++ [(H, b)] }, 0) by rw [put_wait HNK.out HBP.out, if_neg (by have := H8.out; omega)])
          obtain ⟨oa, oc, rfl⟩ := HC.out.shapeO
          go_wp2_with fail
          have HBL := Lib.hid (show ∀ wx, Blk wx y0 6 (rowL [.int .i64 v, .int .i64 p, .int .i64 j, .string k, .slice sa n1 sc, .slice ra n2 rc]) → (wx.cell? ⟨y0, 0, none⟩ = some (.int .i64 v) ∧ wx.cell? ⟨y0, 1, none⟩ = some (.int .i64 p) ∧ wx.cell? ⟨y0, 2, none⟩ = some (.int .i64 j) ∧ wx.cell? ⟨y0, 3, none⟩ = some (.string k) ∧ wx.cell? ⟨y0, 4, none⟩ = some (.slice sa n1 sc) ∧ wx.cell? ⟨y0, 5, none⟩ = some (.slice ra n2 rc)) from fun wx L =>
            ⟨L.get 0 (by omega), L.get 1 (by omega), L.get 2 (by omega), L.get 3 (by omega), L.get 4 (by omega), L.get 5 (by omega)⟩)
          refine planE_abs (fun wx => wx.cell? ⟨g, 3, none⟩ = some (.slice oa O.length oc) ∧ Blk wx y0 6 (rowL [.int .i64 v, .int .i64 p, .int .i64 j, .string k, .slice sa n1 sc, .slice ra n2 rc])) 13 [(true, 0), (true, 1), (true, 2), (true, 3), (true, 4), (true, 5), (true, 6), (false, 7), (true, 8), (false, 9), (false, 10), (false, 11), (false, 12), (false, 13)] (by kernel_rfl) (by kernel_rfl) (fun _ _ d _ _ h => by cases d <;> exact h) fun w8 hs8 => ⟨⟨(HC1.out.on (X7.out.trans (hs8.below _))).c3, L0.out.below (X7.out.trans (hs8.below _)) L0.out.lt⟩, ?_⟩
          have X8 := Lib.hid (X7.out.trans (hs8.below _))
          clear hs8
          iterate 7 (refine pe_run _ ?_ rfl rfl ?_ ?_; rotate_left; (focus (intro w' hS; obtain ⟨c3, hbb⟩ := hS; obtain ⟨d0, d1, d2, d3, d4, d5⟩ := HBL.out w' hbb; clear hbb; go_simp; exact rfl)); simp only [Act.put, List.setIfInBounds_toArray, List.set_cons_zero, List.set_cons_succ, List.getElem_toArray, List.getElem_cons_zero, List.getElem_cons_succ])
          refine pe_call (R := fun u w' => ∃ a0 cap a1 cap1, u = .agg #[.int .i64 v, .int .i64 p, .int .i64 j, .string k, .slice a0 n1 cap, .slice a1 n2 cap1] ∧ SigsNew w8.heap.size w' (.slice a0 n1 cap) (sigsI b) ∧ ReqsAt w' (.slice a1 n2 cap1) b.2 ∧ (∀ c, (Value.slice a1 n2 cap1).ownBlock = some c → w8.heap.size ≤ c) ∧ Below w8.heap.size w8 w') _ rfl rfl (by go_simp) ((gcopied_any v p j k _ _ (sigsI b) b.2 w8 (HSV.out.later (b1.out.trans (X8.out.mono b1.out.size))) (HRV.out.later (b1.out.trans (X8.out.mono b1.out.size))) HSM.out.2.1.1 (small_tags HSM.out.2.1) (Nat.le_trans HSM.out.2.2.1 (by omega))).mono fun e w' h => ?_) (fun u w' h => ?_) fun u w9 hr => ?_
          · obtain ⟨a0, cap, a1, cap1, rfl, h1, h2, h3, h4⟩ := h
            rw [HN1.out] at h1 ⊢
            rw [HN2.out] at h2 h3 ⊢
            exact ⟨_, rfl, a0, cap, a1, cap1, rfl, h1, h2, h3, h4⟩
          · obtain ⟨_, _, _, _, _, _, _, _, hb⟩ := h
            exact ⟨(HC1.out.on (X8.out.trans (hb.mono X8.out.size))).c3, L0.out.below (X8.out.trans (hb.mono X8.out.size)) L0.out.lt⟩
          · obtain ⟨a0, cap, a1, cap1, rfl, hsn, hrn, hon, hb9⟩ := hr
            have B9 := Lib.hid hb9
            have X9 := Lib.hid (X8.out.trans (hb9.mono X8.out.size))
            have HSN := Lib.hid hsn
            have HRN := Lib.hid hrn
            have HON := Lib.hid hon
            clear hsn hrn hon hb9
            have HWL := Lib.hid (show g < w8.heap.size ∧ (∀ b, mapBlk mv = some b → b < w8.heap.size) ∧ (∀ b, (Value.slice oa O.length oc).ownBlock = some b → b < w8.heap.size) ∧ w.heap.size ≤ w8.heap.size from by
              have hz : w.heap.size ≤ w8.heap.size := (b1.out.trans (X8.out.mono b1.out.size)).size
              exact ⟨Nat.lt_of_lt_of_le HC.out.blk.lt hz, fun b hb => Nat.lt_of_lt_of_le (HC.out.map.lt b hb) hz, fun b hb => Nat.lt_of_lt_of_le (HC.out.row.lt b hb).2 hz, hz⟩)
            have CF9 := Lib.hid ((HC1.out.on X9.out).widen' w8.heap.size HWL.out.1 HWL.out.2.1 HWL.out.2.2.1 (Nat.le_trans HC.out.gB (Nat.le_of_lt HWL.out.1)))
            have HDI := Lib.hid (show Dep (fun c => C c ∨ (w8.heap.size ≤ c ∧ c < w9.heap.size)) w9 (fun wx => InnV wx ((H, b), .slice a0 n1 cap, .slice a1 n2 cap1)) from
              (dep_copy (x := ((H, b), .slice a0 n1 cap, .slice a1 n2 cap1)) HSN.out HRN.out HON.out).more fun _ hb _ => Or.inr hb)
            simp only [Act.put, List.setIfInBounds_toArray, List.set_cons_zero, List.set_cons_succ, List.getElem_toArray, List.getElem_cons_zero, List.getElem_cons_succ]
            refine pe_run _ (.agg #[.string H, .int .i64 v, .int .i64 p, .int .i64 j, .string k, .slice a0 n1 cap, .slice a1 n2 cap1]) rfl rfl (fun w' hS => by go_simp) ?_
            simp only [Act.put, List.setIfInBounds_toArray, List.set_cons_zero, List.set_cons_succ, List.getElem_toArray, List.getElem_cons_zero, List.getElem_cons_succ]
            have BA := Lib.hid ((Below.refl w9.heap.size w9).alloc (Nat.le_refl _) (.cells #[.string H, .int .i64 v, .int .i64 p, .int .i64 j, .string k, .slice a0 n1 cap, .slice a1 n2 cap1] 131))
            have XA := Lib.hid (X9.out.trans (BA.out.mono X9.out.size))
            obtain ⟨wa, hwa⟩ : ∃ wa, w9.alloc (.cells #[.string H, .int .i64 v, .int .i64 p, .int .i64 j, .string k, .slice a0 n1 cap, .slice a1 n2 cap1] 131) = wa := ⟨_, rfl⟩
            have HNW := Lib.hid (show ∀ i u, (encV ((H, b), .slice a0 n1 cap, .slice a1 n2 cap1))[i]? = some u → wa.cell? ((⟨w9.heap.size, 0, none⟩ : Addr).add i) = some u from fun i u hu => by
              have e : (⟨w9.heap.size, 0, none⟩ : Addr).add i = ⟨w9.heap.size, i, none⟩ := by unfold Addr.add; split <;> simp [*]
              rw [e, ← hwa]
              refine cell_new w9 _ _ i u ?_
              rw [← hu]
              unfold encV
              simp only [HVV.out, HPP.out, HJ.out, HK.out]
              simp)
            refine pe_value (w' := wa) _ (.slice (some ⟨w9.heap.size, 0, none⟩) 1 1) rfl rfl (by rw [← hwa]; go_simp) ⟨by rw [← hwa]; exact (HC1.out.on XA.out).c3, by rw [← hwa]; exact L0.out.below XA.out L0.out.lt⟩ ?_
            simp only [Act.put, List.setIfInBounds_toArray, List.set_cons_zero, List.set_cons_succ, List.getElem_toArray, List.getElem_cons_zero, List.getElem_cons_succ]
            rw [hwa] at BA XA
            clear hwa
            have CFA := Lib.hid (CF9.out.on BA.out)
            have HDA := Lib.hid (HDI.out.on (Keeps.of BA.out))
            obtain ⟨ti, i1, i2, i3, i4⟩ := info_parts (show (Tryd.prog.info? 131).map (fun i => (i.zero, i.size, i.bytes)) = some (some (.agg #[.string ⟨#[]⟩, .int .i64 0, .int .i64 0, .int .i64 0, .string ⟨#[]⟩, .slice none 0 0, .slice none 0 0]), 7, 104) by kernel_rfl)
            obtain ⟨v', w10, hrun, hown, hgr, _, hloc⟩ := run_append_own_at (P := Tryd.prog) (w := wa) B 126 126 131 ti _ 7 104 (by kernel_rfl) i1 i2 i3 i4 rfl (by decide) _ O.length (cellsV O) CFA.out.row ⟨w9.heap.size, 0, none⟩ 1 1 (encV ((H, b), .slice a0 n1 cap, .slice a1 n2 cap1)) rfl HNW.out (encV_one HDA.out.now) (by have := HC.out.o8; unfold maxLen; omega) (by have := HC.out.o8; omega) (Nat.le_trans HC.out.gB (Nat.le_trans (Nat.le_of_lt HWL.out.1) (Nat.le_trans B9.out.size BA.out.size)))
            obtain ⟨a', c', rfl⟩ : ∃ a' c', v' = .slice a' (O.length + 1) c' := by
              rcases hown.2 with ⟨_, h0⟩ | ⟨q, cp, cur, rfl, _⟩
              · omega
              · exact ⟨_, _, rfl⟩
            have GR := Lib.hid hgr
            have HOW := Lib.hid hown
            have HLO := Lib.hid (show ∀ c, (Value.slice a' (O.length + 1) c').ownBlock = some c → (Value.slice oa O.length oc).ownBlock = some c ∨ wa.heap.size ≤ c from fun c hc => by
              rcases hloc with h | h
              · exact Or.inl (h ▸ hc)
              · rw [h] at hc; injection hc with hc; exact Or.inr (by omega))
            have c10 : w10.cell? ⟨g, 3, none⟩ = some (.slice oa O.length oc) := (World.cell?_of_block (w := wa) (a := ⟨g, 3, none⟩) (hgr.block g CFA.out.blk.lt (fun e => CFA.out.go e.symm))).trans CFA.out.c3
            have f10 : w10.frozen? ⟨g, 3, none⟩ = false := (World.frozen?_of_block (w := wa) (a := ⟨g, 3, none⟩) (hgr.block g CFA.out.blk.lt (fun e => CFA.out.go e.symm))).trans (CFA.out.blk.blk.frz 3)
            have L10 := Lib.hid (show Blk w10 y0 6 (rowL [.int .i64 v, .int .i64 p, .int .i64 j, .string k, .slice sa n1 sc, .slice ra n2 rc]) from (L0.out.below XA.out L0.out.lt).of_heap (hgr.block y0 (L0.out.below XA.out L0.out.lt).lt (fun e => by
              have h1 := (HC.out.row.lt y0 e.symm).2
              have h2 := HY0.out
              omega)))
            clear hgr hown hloc i1 i2 i3 i4
            refine pe_value (w' := w10) _ (.slice a' (O.length + 1) c') rfl rfl (by simp [execOp, resolve, invoke, builtin, Act.eval, hrun, Result.andThen]) ⟨c10, L10.out⟩ ?_
            clear hrun
            simp only [Act.put, List.setIfInBounds_toArray, List.set_cons_zero, List.set_cons_succ, List.getElem_toArray, List.getElem_cons_zero, List.getElem_cons_succ]
            refine pe_value (w' := w10) _ (.pointer (some ⟨g, 0, none⟩)) rfl rfl (by go_simp) ⟨c10, L10.out⟩ ?_
            simp only [Act.put, List.setIfInBounds_toArray, List.set_cons_zero, List.set_cons_succ, List.getElem_toArray, List.getElem_cons_zero, List.getElem_cons_succ]
            refine pe_value (w' := w10) _ (.pointer (some ⟨g, 3, none⟩)) rfl rfl (by go_simp) ⟨c10, L10.out⟩ ?_
            simp only [Act.put, List.setIfInBounds_toArray, List.set_cons_zero, List.set_cons_succ, List.getElem_toArray, List.getElem_cons_zero, List.getElem_cons_succ]
            refine pe_last _ rfl ?_
            simp only [List.getElem_toArray, List.getElem_cons_zero, List.getElem_cons_succ]
            go_wp2_with fail
            go_ret
            rw [HPF.out]
            refine ⟨rfl, mv, _, N, O ++ [((H, b), .slice a0 n1 cap, .slice a1 n2 cap1)], _, CFA.out.pushed ((H, b), .slice a0 n1 cap, .slice a1 n2 cap1) HFR.out H8.out HDA.out HSM.out GR.out HOW.out HLO.out, ?_, fun c hc => ?_⟩
            · have k1 : Keeps (fun c => ¬ MineB g mv (.slice oa O.length oc) C c) w wa := Keeps.of (b1.out.trans (XA.out.mono b1.out.size))
              exact (k1.trans (Keeps.grown GR.out fun c e h => h (Or.inr (Or.inr (Or.inl e))))).trans (Keeps.upd' (Upd.set _ g 3 _) fun h => h (Or.inl rfl))
            · rcases hc with hc | hc | hc | hc | hc
              · exact Or.inl (Or.inl hc)
              · exact Or.inl (Or.inr (Or.inl hc))
              · rcases HLO.out c hc with h | h
                · exact Or.inl (Or.inr (Or.inr (Or.inl h)))
                · exact Or.inr (Nat.le_trans HWL.out.2.2.2 (Nat.le_trans B9.out.size (Nat.le_trans BA.out.size h)))
              · exact Or.inl (Or.inr (Or.inr (Or.inr hc)))
              · exact Or.inr (Nat.le_trans HWL.out.2.2.2 hc.1)
        · have HSO := Lib.hid (show standF F (H, b) = (moreF F (H, b), 0) ∧ F.nodes.length < 400 from stand_ok (by rw [← fits_has (x := (H, b)) HBP.out]; exact HEC.out))
          have HPF := Lib.hid (show putF F (H, b) = (adoptF 10 (moreF F (H, b)), 0) by rw [put_stand HNK.out HBP.out (by rw [HSO.out.1]), HSO.out.1])
          obtain ⟨d0, d1, d2, d3, d4, d5⟩ := HS.out w7 X7.out
          go_wp2_with fail
          refine (gcopied_any v p j k _ _ (sigsI b) b.2 w7 (HSV.out.later (b1.out.trans (X7.out.mono b1.out.size))) (HRV.out.later (b1.out.trans (X7.out.mono b1.out.size))) HSM.out.2.1.1 (small_tags HSM.out.2.1) (Nat.le_trans HSM.out.2.2.1 (by omega))).mono ?_
          rintro e w8 ⟨a0, cap, a1, cap1, rfl, hsn, hrn, hon, hb8⟩
          rw [HN1.out] at hsn ⊢
          rw [HN2.out] at hrn hon ⊢
          have B8 := Lib.hid hb8
          have X8 := Lib.hid (X7.out.trans (hb8.mono X7.out.size))
          have HSN := Lib.hid hsn
          have HRN := Lib.hid hrn
          have HON := Lib.hid hon
          clear hsn hrn hon hb8 d0 d1 d2 d3 d4 d5
          have HWL := Lib.hid (show g < w7.heap.size ∧ (∀ b, mapBlk mv = some b → b < w7.heap.size) ∧ (∀ b, ov.ownBlock = some b → b < w7.heap.size) ∧ w.heap.size ≤ w7.heap.size from by
            have hz : w.heap.size ≤ w7.heap.size := (b1.out.trans (X7.out.mono b1.out.size)).size
            exact ⟨Nat.lt_of_lt_of_le HC.out.blk.lt hz, fun b hb => Nat.lt_of_lt_of_le (HC.out.map.lt b hb) hz, fun b hb => Nat.lt_of_lt_of_le (HC.out.row.lt b hb).2 hz, hz⟩)
          have CF8 := Lib.hid ((HC1.out.on X8.out).widen' w7.heap.size HWL.out.1 HWL.out.2.1 HWL.out.2.2.1 (Nat.le_trans HC.out.gB (Nat.le_of_lt HWL.out.1)))
          have T8 := Lib.hid (tabs_on HT1.out X8.out)
          have HDI := Lib.hid (show Dep (fun c => C c ∨ (w7.heap.size ≤ c ∧ c < w8.heap.size)) w8 (fun wx => InnV wx ((H, b), .slice a0 n1 cap, .slice a1 n2 cap1)) from
            (dep_copy (x := ((H, b), .slice a0 n1 cap, .slice a1 n2 cap1)) HSN.out HRN.out HON.out).more fun _ hb _ => Or.inr hb)
          have HSA := gstand_any CF8.out T8.out HNT.out ((H, b), .slice a0 n1 cap, .slice a1 n2 cap1) HFR.out HBP.out HSO.out.2 HDI.out HSM.out HH.out a0 n1 cap a1 n2 cap1 rfl rfl
          simp only [HVV.out, HPP.out, HJ.out, HK.out] at HSA
          go_wp2_with fail
          refine HSA.mono ?_
          rintro e w9 ⟨rfl, bm, hcf, hk9, hbm⟩
          have CF9 := Lib.hid hcf
          have K9 := Lib.hid hk9
          have HBM := Lib.hid hbm
          have T9 := Lib.hid (show Tabs w9 from tabs_keeps T8.out hk9 fun c => if e : c = g then Or.inl (HNT.out c (e ▸ HC.out.gB)) else if e2 : mapBlk mv = some c then Or.inl (HNT.out c (HC.out.mB c e2)) else Or.inr ⟨e, e2⟩)
          clear hcf hk9 hbm HSA
          go_wp2_with fail
          refine (gadopt_any CF9.out T9.out HNT.out HH.out).mono ?_
          rintro e w10 ⟨rfl, mv', ov', N', O', hcf, hk10, hmn, hon⟩
          have CF10 := Lib.hid hcf
          have K10 := Lib.hid hk10
          have HMN := Lib.hid hmn
          have HOO := Lib.hid hon
          clear hcf hk10 hmn hon
          go_wp2_with fail
          go_ret
          rw [HPF.out]
          have hz : w.heap.size ≤ w8.heap.size := Nat.le_trans HWL.out.2.2.2 B8.out.size
          refine ⟨rfl, mv', ov', N', O', _, CF10.out, ?_, fun c hc => ?_⟩
          · have k1 : Keeps (fun c => ¬ MineB g mv ov C c) w w8 := Keeps.of (b1.out.trans (X8.out.mono b1.out.size))
            refine ⟨(k1.b0.trans K9.out.b0).trans K10.out.b0, fun c hc hl => ?_⟩
            have e1 := k1.block c hc hl
            have l8 : c < w8.heap.size := Nat.lt_of_lt_of_le hl hz
            have e2 := K9.out.block c ⟨fun e => hc (Or.inl e), fun e => hc (Or.inr (Or.inl e))⟩ l8
            have e3 := K10.out.block c ⟨fun e => hc (Or.inl e), fun e => by
              injection e with e
              subst e
              rcases HBM.out with h | h
              · exact hc (Or.inr (Or.inl h))
              · omega, fun e => hc (Or.inr (Or.inr (Or.inl e)))⟩ (Nat.lt_of_lt_of_le l8 K9.out.b0.size)
            exact e3.trans (e2.trans e1)
          · rcases hc with hc | hc | hc | hc | hc
            · exact Or.inl (Or.inl hc)
            · rcases HMN.out c hc with h | h
              · injection h with h
                subst h
                rcases HBM.out with h | h
                · exact Or.inl (Or.inr (Or.inl h))
                · exact Or.inr (Nat.le_trans hz h)
              · exact Or.inr (Nat.le_trans hz (Nat.le_trans K9.out.b0.size h))
            · exact Or.inl (Or.inr (Or.inr (Or.inl (HOO.out c hc))))
            · exact Or.inl (Or.inr (Or.inr (Or.inr hc)))
            · exact Or.inr (Nat.le_trans HWL.out.2.2.2 hc.1)
end Go.Proofs.YtegkhhegapnkpaaDoor
end
section
open Go Go.RowKit
namespace FF
open WW BB
/-- strings in a row of the call's own, so many orphans being through -/
structure LkSt (w0 : World) (e : TypeId) (out : List ByteArray) (x : Value) (wr : World) : Prop where
  below : Below w0.heap.size w0 wr
  row : wr.ownsRow w0.heap.size e 1 x out.length (out.map Value.string)
theorem LkSt.shape {w0 : World} {e : TypeId} {out : List ByteArray} {x : Value} {wr : World} (h : LkSt w0 e out x wr) : ∃ a c, x = .slice a out.length c := by
  rcases h.row.2 with ⟨rfl, h0⟩ | ⟨q, cp, cur, rfl, _⟩
  · exact ⟨none, 0, by rw [h0]⟩
  · exact ⟨_, _, rfl⟩
theorem LkSt.on {w0 : World} {e : TypeId} {out : List ByteArray} {x : Value} {wr w2 : World} (h : LkSt w0 e out x wr) (hb : Below wr.heap.size wr w2) : LkSt w0 e out x w2 :=
  ⟨h.below.trans (hb.mono h.below.size), row_keep h.row fun c hc => hb.block c (h.row.lt c hc).2⟩
theorem LkSt.add {w0 : World} {e : TypeId} {out : List ByteArray} {x u' : Value} {wr w3 : World} (h : LkSt w0 e out x wr) (p : ByteArray) (hr : w3.ownsRow w0.heap.size e 1 u' (out.length + 1) (out.map Value.string ++ [.string p])) (hg : wr.grownBy w3 x.ownBlock) : LkSt w0 e (out ++ [p]) u' w3 :=
  ⟨h.below.grown hg h.below.size fun k hk => (h.row.lt k hk).1, by rw [List.length_append, List.map_append]; exact hr⟩
theorem LkSt.nil (w : World) (e : TypeId) : LkSt w e [] (.slice none 0 0) w := ⟨Below.refl _ _, World.ownsRow_nil _ _ _ _⟩
theorem map_take_snoc (O : List Iv) (i : Nat) (hi : i < O.length) : (O.take (i + 1)).map (fun z => z.1.1) = (O.take i).map (fun z => z.1.1) ++ [(O.getD i v0).1.1] := by
  rw [List.take_add_one, List.getElem?_eq_getElem hi, List.map_append, getD_at hi]; rfl
end FF
namespace Go.Proofs.YtegkhhegapnkpaaDoor
open FF JJ CC MM WW BB
set_option maxRecDepth 100000 in
set_option maxHeartbeats 4000000 in
theorem gnew_any (B : Nat) (w : World) (hB : B ≤ w.heap.size) :
    Calls Tryd.prog 20 #[] w fun e w' => e = .returned (.pointer (some ⟨w.heap.size, 0, none⟩)) ∧ CFs B w' w.heap.size ⟨firstD, 0, [], []⟩ ⟨#[]⟩ (.map none) (.slice none 0 0) [] [] (fun _ => False) ∧ Below w.heap.size w w' := by
  have b1 := Lib.hid ((Below.refl w.heap.size w).alloc (Nat.le_refl _) (.cells #[.string ⟨#[]⟩, .int .i64 0, .map none, .slice none 0 0] 128))
  have k1 := Lib.hid (show TBlk 128 (w.alloc (.cells #[.string ⟨#[]⟩, .int .i64 0, .map none, .slice none 0 0] 128)) w.heap.size 4 (rowL [.string ⟨#[]⟩, .int .i64 0, .map none, .slice none 0 0]) from TBlk.new' _ _ _ _ _ _ rfl rfl)
  have HB := Lib.hid hB
  go_enter Tryd.func20, Tryd.ntmps20
  go_wp2_with fail
  go_ret
  refine ⟨rfl, ⟨new_wf _ firstD_size, k1.out, Or.inl ⟨rfl, rfl⟩, rfl, rfl, Or.inl ⟨rfl, (fun _ => rfl), rfl⟩, (fun b h => by cases h), World.ownsRow_nil _ _ _ _, (fun _ _ x hx => by cases hx), HB.out, (fun b (h : False) => h.elim), (fun h => h), (fun b h => by cases h), (fun b h => by cases h), (fun b (h : False) => h.elim), (fun x hx => by cases hx)⟩, b1.out⟩
set_option maxRecDepth 100000 in
set_option maxHeartbeats 8000000 in
theorem gorph_any {B : Nat} {w : World} {g : Nat} {F : Fo} {rt : ByteArray} {mv ov : Value} {N O : List Iv} {C : Nat → Prop} (hC : CFs B w g F rt mv ov N O C) :
    Calls Tryd.prog 22 #[.pointer (some ⟨g, 0, none⟩)] w fun e w' => ∃ u, e = .returned u ∧ StrsAt w' u (F.orph.map Prod.fst) ∧ Below w.heap.size w w' := by
  have HC := Lib.hid hC
  have c3 := hC.c3
  obtain ⟨oa, oc, rfl⟩ := hC.shapeO
  have HIO := Lib.hid hC.ivO
  have HL := Lib.hid hC.o8
  clear hC
  go_enter Tryd.func22, Tryd.ntmps22
  go_wp2_with fail
  clear c3
  go_loopw [3, 11] (fun x y wr => ∃ i : Nat, i ≤ O.length ∧ y = .int .i64 (i : Int) ∧ LkSt w 9 ((O.take i).map (fun z => z.1.1)) x wr) (fun _ y _ => O.length - (intOf y).toNat)
  case atStart => exact ⟨0, Nat.zero_le _, rfl, LkSt.nil _ _⟩
  case round =>
    obtain ⟨i, hi, rfl, hst⟩ := hrel
    have HST := Lib.hid hst
    have i0' : (0 : Int) ≤ (i : Int) := by omega
    have ib : (i : Int) ≤ 8 := by have := HL.out; omega
    obtain ⟨xa, xc, rfl⟩ := hst.shape
    obtain ⟨out, hout⟩ : ∃ out, (O.take i).map (fun z => z.1.1) = out := ⟨_, rfl⟩
    have HOUT := Lib.hid hout
    rw [hout] at HST ⊢
    have HLEN := Lib.hid (show out.length ≤ 8 by rw [← hout, List.length_map, List.length_take]; have := HL.out; omega)
    clear hst hout
    by_cases hlt : i < O.length
    · have hlt' : (i : Int) < (O.length : Int) := by omega
      have HLT := Lib.hid hlt
      have HSN := Lib.hid (map_take_snoc O i hlt)
      obtain ⟨ob, ooff, rfl, hbw, hcell⟩ : ∃ ob ooff, oa = some ⟨ob, ooff, none⟩ ∧ ob < w.heap.size ∧ _ := by
        obtain ⟨a9, c9, he, h9 | h9⟩ := HIO.out
        · rw [h9] at hlt; simp at hlt
        · injection he with e1 _ e3
          subst e1
          exact h9
      obtain ⟨q0, q1, q2, q3, q4, q5, q6⟩ := iv_cells HST.out.below hbw hcell i hlt
      have HI := Lib.hid ((hcell i hlt).2)
      obtain ⟨y, hy⟩ : ∃ y, O.getD i v0 = y := ⟨_, rfl⟩
      rw [hy] at q0 q1 q2 q3 q4 q5 q6 HI HSN
      obtain ⟨⟨d, bd⟩, s5, s6⟩ := y
      obtain ⟨e5, n5, h5⟩ := sl_of_sigs HI.out.1
      obtain ⟨e6, n6, h6⟩ := sl_of_reqs HI.out.2
      replace h5 : s5 = .slice e5 (sigsI bd).length n5 := h5
      replace h6 : s6 = .slice e6 bd.2.length n6 := h6
      subst h5 h6
      clear hi hlt hbw hcell hy
      have A1 := Lib.hid ((Below.refl wr.heap.size wr).alloc (Nat.le_refl _) (.cells #[.string d, .int .i64 (viewI bd), .int .i64 (propI bd), .int .i64 (jvI bd), .string (parI bd), .slice e5 (sigsI bd).length n5, .slice e6 bd.2.length n6] 131))
      obtain ⟨w2, hw2⟩ : ∃ w2, wr.alloc (.cells #[.string d, .int .i64 (viewI bd), .int .i64 (propI bd), .int .i64 (jvI bd), .string (parI bd), .slice e5 (sigsI bd).length n5, .slice e6 bd.2.length n6] 131) = w2 := ⟨_, rfl⟩
      have S2 := Lib.hid (HST.out.on (hw2 ▸ A1.out))
      have A3 := Lib.hid ((Below.refl w2.heap.size w2).alloc (Nat.le_refl _) (.cells #[.string d] 9))
      have S3 := Lib.hid (S2.out.on A3.out)
      have HCE := Lib.hid (show ∀ j u, [Value.string d][j]? = some u → (w2.alloc (.cells #[.string d] 9)).cell? ((⟨wr.heap.size + 1, 0, none⟩ : Addr).add j) = some u from by
        have h := cells1_new w2 d 9
        rw [show w2.heap.size = wr.heap.size + 1 by rw [← hw2]; simp] at h
        exact h)
      have HQ3 := Lib.hid (show out.length + 1 ≤ maxLen by have := HLEN.out; unfold maxLen; omega)
      have HQ4 := Lib.hid (show (out.length + 1) * 16 ≤ 140737488355328 by have := HLEN.out; omega)
      have HZ := Lib.hid (show w.heap.size ≤ (w2.alloc (.cells #[.string d] 9)).heap.size from S3.out.below.size)
      obtain ⟨ti, i1, i2, i3, i4⟩ := info_parts (show (Tryd.prog.info? 9).map (fun i => (i.zero, i.size, i.bytes)) = some (some (.string ⟨#[]⟩), 1, 16) by kernel_rfl)
      subst hw2
      go_wp2_with (at_builtin; refine wpList_append_own _ rfl _ _ 44 rfl w.heap.size 9 ti (.string ⟨#[]⟩) 1 16 (by kernel_rfl) i1 i2 i3 i4 rfl (by decide) _ _ _ rfl S3.out.row ⟨wr.heap.size + 1, 0, none⟩ 1 1 [.string d] rfl rfl HCE.out (cells1_one d) HQ3.out HQ4.out HZ.out ?_)
      intro u' w4 hown' hgr _
      obtain ⟨a', c', rfl⟩ : ∃ a' c', u' = .slice a' (out.length + 1) c' := by
        rcases hown'.2 with ⟨_, h0⟩ | ⟨q, cp, cur, rfl, _⟩
        · omega
        · exact ⟨_, _, rfl⟩
      have S4 := Lib.hid (S3.out.add d hown' hgr)
      clear hown' hgr
      go_wp2_with fail
      go_roundw
      case rel => exact ⟨i + 1, by have := HLT.out; omega, by go_num, by rw [HSN.out, HOUT.out]; exact S4.out⟩
      case measure => have := HLT.out; simp [intOf]; omega
    · obtain rfl : i = O.length := by omega
      have hlt' : ¬ (O.length : Int) < (O.length : Int) := by omega
      have HF := Lib.hid (show F.orph.map Prod.fst = out by rw [← HOUT.out, List.take_length, ← HC.out.orph, List.map_map]; rfl)
      clear hi hlt
      go_wp2_with fail
      go_ret
      refine ⟨_, rfl, ?_, HST.out.below⟩
      rw [HF.out]; exact strs_own HST.out.row
end Go.Proofs.YtegkhhegapnkpaaDoor
end
section
open Go Go.RowKit
namespace FF
open WW BB
def zeroB : BlockD := (((0, 0), ((0, ⟨#[]⟩), [])), [])
theorem Keeps.low {A : Nat → Prop} {w w' : World} {n : Nat} (h : Keeps A w w') (hA : ∀ b, b < n → A b) (hn : n ≤ w.heap.size) : Below n w w' :=
  ⟨h.b0.os, h.b0.tape, h.b0.output, h.b0.size, fun k hk => h.block k (hA k hk) (Nat.lt_of_lt_of_le hk hn)⟩
theorem zero_apart : digI zeroB ≠ CC.firstD := dg_apart (JJ.digB 0 0 0 ⟨#[]⟩ []) ⟨#[102, 105, 114, 115, 116]⟩ (by decide) (by decide) (by kernel_rfl)
theorem zero_small : SmallI zeroB := by
  refine ⟨by show (0 : Nat) ≤ 1000; omega, ⟨by show (0 : Nat) ≤ 1000; omega, by show (0 : Nat) ≤ 500000; omega, fun j hj => absurd hj (Nat.not_lt_zero j)⟩, ⟨by show (0 : Nat) ≤ 1000; omega, by show (0 : Nat) ≤ 500000; omega, fun j hj => absurd hj (Nat.not_lt_zero j)⟩⟩
end FF
namespace Go.Proofs.YtegkhhegapnkpaaDoor
open FF JJ CC MM WW BB
theorem zero_put : putF ⟨firstD, 0, [], []⟩ (digI zeroB, zeroB) = (⟨firstD, 0, [], [(digI zeroB, zeroB)]⟩, 0) := by
  have h1 : hasF ⟨firstD, 0, [], []⟩ (digI zeroB) = false := by
    unfold hasF
    rw [decide_eq_false (show ¬ digI zeroB = firstD from zero_apart)]; rfl
  have h2 : hasF ⟨firstD, 0, [], []⟩ (parI zeroB) = false := by
    unfold hasF
    rw [decide_eq_false (show ¬ parI zeroB = firstD from fun e => by
      have := congrArg ByteArray.size e
      rw [firstD_size] at this
      cases this)]; rfl
  rw [put_wait (by rw [h1]; simp [atI]) h2]
  rfl
theorem notab_of {w : World} (hT : Tabs w) : ∀ b, w.heap.size ≤ b → NoTab b := fun b hb => ⟨fun e => by have := hT.l1; omega, fun e => by have := hT.l2; omega, fun e => by have := hT.l3; omega⟩
set_option maxRecDepth 100000 in
set_option maxHeartbeats 4000000 in
theorem gawake_any (w : World) (hT : Tabs w) : Calls Tryd.prog 18 #[] w fun e w' => e = .returned (.bool true) ∧ Below w.heap.size w w' := by
  have HT := Lib.hid hT
  clear hT
  go_enter Tryd.func18, Tryd.ntmps18
  go_wp2_with fail
  refine (gnew_any w.heap.size w (Nat.le_refl _)).mono ?_
  rintro e w1 ⟨rfl, hc1, hb1⟩
  have C1 := Lib.hid hc1
  have B1 := Lib.hid hb1
  clear hc1 hb1
  have HPU := Lib.hid (gput_any C1.out (tabs_on HT.out B1.out) (notab_of HT.out) ⟨by show (0 : Int) ≤ 0; omega, by show (0 : Int) ≤ 1000000000; omega⟩ zeroB (.slice none 0 0) (.slice none 0 0) ⟨none, 0, rfl, Or.inl rfl⟩ ⟨none, 0, rfl, Or.inl rfl⟩ zero_small)
  go_wp2_with fail
  refine HPU.out.mono ?_
  rintro e w2 ⟨rfl, mv, ov, N, O, C, hc2, hk2, _⟩
  rw [zero_put] at hc2 ⊢
  have C2 := Lib.hid hc2
  have B2 := Lib.hid (B1.out.trans (hk2.low (n := w.heap.size) (fun b hb hm => by have := C1.out.ownB b hm; omega) B1.out.size))
  clear hc2 hk2
  go_wp2_with fail
  refine (gorph_any C2.out).mono ?_
  rintro e w3 ⟨u, rfl, hu, hb3⟩
  obtain ⟨a, c, rfl, _⟩ := hu
  have B3 := Lib.hid (B2.out.trans (hb3.mono B2.out.size))
  clear hb3
  go_wp2_with fail
  go_ret
  exact ⟨rfl, B3.out⟩
end Go.Proofs.YtegkhhegapnkpaaDoor
end
