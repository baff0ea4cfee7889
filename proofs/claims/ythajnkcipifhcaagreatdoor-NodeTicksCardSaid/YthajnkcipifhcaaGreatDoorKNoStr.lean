/-
  The walk of the law NodeStrange, by what the code's calls answer of a node that has heard nothing for it (layer 18).
-/
import Derived.Test.YthajnkcipifhcaaGreatDoorKZNum
import Derived.Test.YthajnkcipifhcaaGreatDoorKPlanN
import Derived.Test.YthajnkcipifhcaaGreatDoorKCallsW
import Derived.Laws.AppendOwn
import Derived.Test.YthajnkcipifhcaaGreatDoorKQuMath
import Derived.Test.YthajnkcipifhcaaGreatDoorKJCopy
import Derived.ArgAppend
import Derived.Maps.AppendAt
import Derived.Test.YthajnkcipifhcaaGreatDoorKFItem
import Derived.Test.YthajnkcipifhcaaGreatDoorKLNum
import Derived.Test.YthajnkcipifhcaaGreatDoorKERefS
import Derived.Test.YthajnkcipifhcaaGreatDoorKJUnlike
import Derived.Test.YthajnkcipifhcaaGreatDoorKZRow
import Derived.Test.YthajnkcipifhcaaGreatDoorKEText
import Derived.Test.YthajnkcipifhcaaGreatDoorKJLawD
import Derived.Test.YthajnkcipifhcaaGreatDoorKJRow
import Derived.Test.YthajnkcipifhcaaGreatDoorKLeMath
import Derived.Test.YthajnkcipifhcaaGreatDoorKZMath
import Derived.Test.YthajnkcipifhcaaGreatDoorKWFew
import Derived.Test.YthajnkcipifhcaaGreatDoorKLOpen
import Derived.Test.YthajnkcipifhcaaGreatDoorKTaMath
import Derived.Test.YthajnkcipifhcaaGreatDoorKECopied
import Derived.BigQuiet
import Derived.Test.YthajnkcipifhcaaGreatDoorKFHash
section
open Go Go.RowKit
namespace FF
open JJ CC BB WW MM Go.Sort
theorem cellsR_one (l : List (Int × Int × ByteArray)) : ∀ u ∈ cellsR l, u.oneCell' = true := by
  intro u hu
  unfold cellsR at hu
  rw [List.mem_flatten] at hu
  obtain ⟨c, hc, hu⟩ := hu
  obtain ⟨x, _, rfl⟩ := List.mem_map.1 hc
  simp only [List.mem_cons, List.not_mem_nil, or_false] at hu
  rcases hu with rfl | rfl | rfl <;> rfl
/-- requests of the call's own -/
def NewReqs (w : World) (l : List (Int × Int × ByteArray)) (e : Ending) (w' : World) : Prop :=
  ∃ a0 cap, e = .returned (.slice a0 l.length cap) ∧ ReqsAt w' (.slice a0 l.length cap) l ∧ (∀ c, (Value.slice a0 l.length cap).ownBlock = some c → w.heap.size ≤ c) ∧ Below w.heap.size w w'
theorem reqs_keep {w w' : World} {v : Value} {l : List (Int × Int × ByteArray)} (h : ReqsAt w v l) (hs : w.heap.size ≤ w'.heap.size) (hb : ∀ c, v.ownBlock = some c → c < w.heap.size → w'.heap[c]? = w.heap[c]?) : ReqsAt w' v l := by
  obtain ⟨a0, cap, rfl, h | ⟨b, off, rfl, hl, hc⟩⟩ := h
  · exact ⟨a0, cap, rfl, Or.inl h⟩
  · refine ⟨_, cap, rfl, Or.inr ⟨b, off, rfl, Nat.lt_of_lt_of_le hl hs, fun i hi => ?_⟩⟩
    obtain ⟨h1, h2, h3⟩ := hc i hi
    have e := hb b rfl hl
    exact ⟨(World.cell?_of_block (w := w) (a := ⟨b, off + i * 3, none⟩) e).trans h1, (World.cell?_of_block (w := w) (a := ⟨b, off + i * 3 + 1, none⟩) e).trans h2, (World.cell?_of_block (w := w) (a := ⟨b, off + i * 3 + 2, none⟩) e).trans h3⟩
/-- a block in memory of the call's own -/
def CopyB (w : World) (v p j : Int) (k : ByteArray) (l : List (Int × List ByteArray)) (m : List (Int × Int × ByteArray)) (e : Ending) (w' : World) : Prop :=
  ∃ a0 cap a1 cap1, e = .returned (.agg #[.int .i64 v, .int .i64 p, .int .i64 j, .string k, .slice a0 l.length cap, .slice a1 m.length cap1]) ∧ SigsNew w.heap.size w' (.slice a0 l.length cap) l ∧
    ReqsAt w' (.slice a1 m.length cap1) m ∧ (∀ c, (Value.slice a1 m.length cap1).ownBlock = some c → w.heap.size ≤ c) ∧ Below w.heap.size w w'
theorem rowL6 (a b c d e f : Value) : (#[a, b, c, d, e, f] : Array Value) = row 6 (rowL [a, b, c, d, e, f]) := rfl
end FF
namespace Go.Proofs.YthajnkcipifhcaaGreatDoor
open FF JJ CC WW BB MM Go.Lib Go.Sort
set_option maxRecDepth 100000 in
set_option maxHeartbeats 4000000 in
theorem rqclone_any (l : List (Int × Int × ByteArray)) (v : Value) (w : World) (h : ReqsAt w v l) (hs : l.length ≤ 100000) :
    Calls Tryz.prog 187 #[v] w (NewReqs w l) := by
  have HS := Lib.hid hs
  obtain ⟨a0, cap, rfl, hx⟩ := h
  have q22 : ∀ (w : World) (a : Option Addr) (n c n' c' : Nat), (binOp .eql 34 (.slice a n c) (.slice none n' c')).run Tryz.prog w = .ok (.bool a.isNone) w := fun w a n c n' c' => Lib.run_eql_slice_nil w _ 41 a n c n' c' (by kernel_rfl)
  obtain ⟨i0, hi, hz0, hz1, hz2⟩ : ∃ i, Tryz.prog.info? 41 = some i ∧ i.zero = some (.agg #[.int .i64 0, .int .i64 0, .string ⟨#[]⟩]) ∧ i.size = 3 ∧ i.bytes = 32 := by
    have h : (Tryz.prog.info? 41).map (fun i => (i.zero, i.size, i.bytes)) = some (some (.agg #[.int .i64 0, .int .i64 0, .string ⟨#[]⟩]), 3, 32) := by kernel_rfl
    rcases hi : Tryz.prog.info? 41 with _ | i
    · rw [hi] at h; cases h
    · rw [hi] at h
      simp only [Option.map_some, Option.some.injEq, Prod.mk.injEq] at h
      exact ⟨i, rfl, h.1, h.2.1, h.2.2⟩
  have HI := Lib.hid hi
  have HZ := Lib.hid (And.intro hz0 (And.intro hz1 hz2))
  have HX := Lib.hid hx
  clear hs hx hi hz0 hz1 hz2
  rcases a0 with _ | ad
  · have hL : l = [] := by
      rcases HX.out with h | ⟨b, o, h, _⟩
      · exact h
      · cases h
    subst hL
    go_enter Tryz.func187, Tryz.ntmps187
    go_wp2_with fail
    go_ret
    exact ⟨none, 0, rfl, ⟨none, 0, rfl, Or.inl rfl⟩, (fun c hc => by cases hc), Below.refl _ _⟩
  · have hread : ∀ j u, (cellsR l)[j]? = some u → w.cell? (ad.add j) = some u := fun j u hj => by
      rcases HX.out with h | ⟨b, o, h, hb, hc⟩
      · subst h; simp [cellsR] at hj
      · injection h with h
        subst h
        have hlt : j < l.length * 3 := by rw [← cellsR_len]; exact (List.getElem?_eq_some_iff.1 hj).1
        have e : (⟨b, o, none⟩ : Addr).add j = ⟨b, o + j, none⟩ := by unfold Addr.add; split <;> simp [*]
        rw [e]
        obtain ⟨h1, h2, h3⟩ := hc (j / 3) (by omega)
        obtain ⟨k1, k2, k3⟩ := cellsR_at l (j / 3) (by omega)
        have hm : j % 3 = 0 ∨ j % 3 = 1 ∨ j % 3 = 2 := by omega
        rcases hm with hm | hm | hm
        · have e2 : j = j / 3 * 3 := by omega
          rw [e2, k1] at hj
          rw [e2, ← hj]; exact h1
        · have e2 : j = j / 3 * 3 + 1 := by omega
          rw [e2, k2] at hj
          rw [e2, ← hj]; exact h2
        · have e2 : j = j / 3 * 3 + 2 := by omega
          rw [e2, k3] at hj
          rw [e2, ← hj]; exact h3
    have HR := Lib.hid hread
    clear hread
    go_enter Tryz.func187, Tryz.ntmps187
    go_wp2_with (at_builtin; refine wpList_append_own _ rfl _ _ 34 rfl w.heap.size 41 i0 (.agg #[.int .i64 0, .int .i64 0, .string ⟨#[]⟩]) 3 32 (by kernel_rfl) HI.out HZ.out.1 HZ.out.2.1 HZ.out.2.2 rfl (by decide) _ _ _ rfl (World.ownsRow_made w #[] 0 (Nat.le_refl _) (Nat.zero_le _) rfl) ad l.length cap (cellsR l) rfl ?qc1 ?qc2 ?qc3 ?qc4 ?qc5 ?qc6 ?_)
    case qc1 => exact cellsR_len l
    case qc2 => intro j u hj; exact Lib.cell?_alloc_some _ (HR.out j u hj)
    case qc3 => exact cellsR_one l
    case qc4 => have := HS.out; unfold maxLen; omega
    case qc5 => have := HS.out; omega
    case qc6 => simp
    intro v' w1 hown hgrow hnil
    have hown : w1.ownsRow w.heap.size 41 3 v' l.length (cellsR l) := by simpa using hown
    obtain ⟨a', c', rfl⟩ : ∃ a' c', v' = .slice a' l.length c' := by
      rcases hown.2 with ⟨h, h0⟩ | ⟨q, cp, cur, rfl, _⟩
      · exact ⟨none, 0, by rw [h, h0]⟩
      · exact ⟨_, _, rfl⟩
    have hO := Lib.hid (reqs_of_own hown)
    have hQ := Lib.hid (fun c hc => (hown.lt c hc).1)
    have hG := Lib.hid (((Below.refl _ w).alloc (Nat.le_refl _) _).grown hgrow (by simp) (by intro k hk; simp [Value.ownBlock] at hk; omega))
    clear hown hgrow hnil
    go_wp2_with fail
    go_ret
    exact ⟨a', c', rfl, hO.out, hQ.out, hG.out⟩
theorem set6 {w : World} {a : Nat} {f : Nat → Value} (h : Blk w a 6 f) (u0 u1 u2 u3 u4 u5 : Value) :
    Blk ((((((w.setCell ⟨a, 0, none⟩ u0).setCell ⟨a, 1, none⟩ u1).setCell ⟨a, 2, none⟩ u2).setCell ⟨a, 3, none⟩ u3).setCell ⟨a, 4, none⟩ u4).setCell ⟨a, 5, none⟩ u5) a 6 (rowL [u0, u1, u2, u3, u4, u5]) ∧
    Upd a w ((((((w.setCell ⟨a, 0, none⟩ u0).setCell ⟨a, 1, none⟩ u1).setCell ⟨a, 2, none⟩ u2).setCell ⟨a, 3, none⟩ u3).setCell ⟨a, 4, none⟩ u4).setCell ⟨a, 5, none⟩ u5) := by
  refine ⟨((((((h.set 0 u0).set 1 u1).set 2 u2).set 3 u3).set 4 u4).set 5 u5).congr _ fun i hi => ?_, ((((((Upd.refl a w).trans (Upd.set _ _ _ _)).trans (Upd.set _ _ _ _)).trans (Upd.set _ _ _ _)).trans (Upd.set _ _ _ _)).trans (Upd.set _ _ _ _)).trans (Upd.set _ _ _ _)⟩
  match i, hi with
  | 0, _ => rfl
  | 1, _ => rfl
  | 2, _ => rfl
  | 3, _ => rfl
  | 4, _ => rfl
  | 5, _ => rfl
set_option maxRecDepth 100000 in
set_option maxHeartbeats 8000000 in
theorem gcopied_any (v p j : Int) (k : ByteArray) (sv rv : Value) (l : List (Int × List ByteArray)) (m : List (Int × Int × ByteArray)) (w : World) (hv : SigsAt w sv l) (hr : ReqsAt w rv m) (hl : l.length ≤ 1000) (ht : ∀ p ∈ l, p.2.length ≤ 1000) (hm : m.length ≤ 100000) :
    Calls Tryz.prog 133 #[.agg #[.int .i64 v, .int .i64 p, .int .i64 j, .string k, sv, rv]] w (CopyB w v p j k l m) := by
  have HV := Lib.hid hv
  have HR := Lib.hid hr
  have HL := Lib.hid hl
  have HT := Lib.hid ht
  have HM := Lib.hid hm
  obtain ⟨x0, scap, rfl⟩ := sl_of_sigs hv
  obtain ⟨y0, ycap, rfl⟩ := sl_of_reqs hr
  clear hv hr hl ht hm
  obtain ⟨g, hg⟩ : ∃ g, w.heap.size = g := ⟨_, rfl⟩
  have k0 : Blk ((w.alloc (.cells #[.int .i64 v, .int .i64 p, .int .i64 j, .string k, .slice x0 l.length scap, .slice y0 m.length ycap] 36)).alloc (.cells #[.int .i64 0, .int .i64 0, .int .i64 0, .string ⟨#[]⟩, .slice none 0 0, .slice none 0 0] 36)) g 6 (rowL [.int .i64 v, .int .i64 p, .int .i64 j, .string k, .slice x0 l.length scap, .slice y0 m.length ycap]) := (Blk.new' hg.symm (rowL6 _ _ _ _ _ _)).alloc _
  have r0 : Blk ((w.alloc (.cells #[.int .i64 v, .int .i64 p, .int .i64 j, .string k, .slice x0 l.length scap, .slice y0 m.length ycap] 36)).alloc (.cells #[.int .i64 0, .int .i64 0, .int .i64 0, .string ⟨#[]⟩, .slice none 0 0, .slice none 0 0] 36)) (g + 1) 6 (rowL [.int .i64 0, .int .i64 0, .int .i64 0, .string ⟨#[]⟩, .slice none 0 0, .slice none 0 0]) := Blk.new' (by simp; omega) (rowL6 _ _ _ _ _ _)
  have b0 := ((Below.refl w.heap.size w).alloc (Nat.le_refl _) (.cells #[.int .i64 v, .int .i64 p, .int .i64 j, .string k, .slice x0 l.length scap, .slice y0 m.length ycap] 36)).alloc (by simp) (.cells #[.int .i64 0, .int .i64 0, .int .i64 0, .string ⟨#[]⟩, .slice none 0 0, .slice none 0 0] 36)
  go_enter Tryz.func133, Tryz.ntmps133
  go_wp2_with fail
  rw [hg] at b0
  have HG := Lib.hid hg
  clear hg
  generalize (w.alloc (.cells #[.int .i64 v, .int .i64 p, .int .i64 j, .string k, .slice x0 l.length scap, .slice y0 m.length ycap] 36)).alloc (.cells #[.int .i64 0, .int .i64 0, .int .i64 0, .string ⟨#[]⟩, .slice none 0 0, .slice none 0 0] 36) = w0 at *
  have K0 := Lib.hid k0
  have R0 := Lib.hid r0
  have B0 := Lib.hid b0
  have HV0 := Lib.hid (HV.out.later (HG.out ▸ b0))
  have HR0 := Lib.hid (HR.out.later (HG.out ▸ b0))
  clear k0 b0 r0
  refine (copied_any j k _ l w0 HV0.out HL.out HT.out).mono ?_
  rintro e w1 ⟨sa, sc, rfl, hsn, hb1⟩
  have B1 := Lib.hid hb1
  have HSN := Lib.hid hsn
  have K1 := Lib.hid (K0.out.below hb1 K0.out.lt)
  have R1 := Lib.hid (R0.out.below hb1 R0.out.lt)
  have HR1 := Lib.hid (HR0.out.later hb1)
  clear hsn hb1
  have c2 : w1.cell? ⟨g, 2, none⟩ = some (.int .i64 j) := K1.out.get 2 (by omega)
  have c3 : w1.cell? ⟨g, 3, none⟩ = some (.string k) := K1.out.get 3 (by omega)
  have c4 : w1.cell? ⟨g, 4, none⟩ = some (.slice x0 l.length scap) := K1.out.get 4 (by omega)
  have c5 : w1.cell? ⟨g, 5, none⟩ = some (.slice y0 m.length ycap) := K1.out.get 5 (by omega)
  have f2 := K1.out.frz 2
  have f3 := K1.out.frz 3
  have f4 := K1.out.frz 4
  have hup := ((Upd.set w1 g 2 (.int .i64 j)).trans (Upd.set _ g 3 (.string k))).trans (Upd.set _ g 4 (.slice sa l.length sc))
  have kq := (((K1.out.set 2 (.int .i64 j)).set 3 (.string k)).set 4 (.slice sa l.length sc)).congr (rowL [.int .i64 v, .int .i64 p, .int .i64 j, .string k, .slice sa l.length sc, .slice y0 m.length ycap]) (fun i hi => by
    match i, hi with
    | 0, _ => rfl
    | 1, _ => rfl
    | 2, _ => rfl
    | 3, _ => rfl
    | 4, _ => rfl
    | 5, _ => rfl)
  go_wp2_with fail
  obtain ⟨wq, hwq⟩ : ∃ wq, ((w1.setCell ⟨g, 2, none⟩ (.int .i64 j)).setCell ⟨g, 3, none⟩ (.string k)).setCell ⟨g, 4, none⟩ (.slice sa l.length sc) = wq := ⟨_, rfl⟩
  rw [hwq] at hup kq ⊢
  have HUP := Lib.hid hup
  have KQ := Lib.hid kq
  have RQ := Lib.hid (R1.out.upd hup (by omega))
  have HZ0 := Lib.hid (show g < w0.heap.size from K0.out.lt)
  have BQ := Lib.hid (B0.out.trans ((B1.out.mono (by have := HZ0.out; omega)).trans (hup.below (Nat.le_refl g))))
  have HSQ := Lib.hid (HSN.out.keep (by rw [hup.size]; exact Nat.le_refl _) fun c hc _ => hup.block c (by have := HZ0.out; omega))
  clear hwq hup kq c2 c3 c4 c5 f2 f3 f4
  refine (rqclone_any m _ wq (HR.out.later (HG.out ▸ BQ.out)) HM.out).mono ?_
  rintro e w2 ⟨ra, rc, rfl, hrn, hro, hb2⟩
  have B2 := Lib.hid hb2
  have HRN := Lib.hid hrn
  have HRO := Lib.hid hro
  have K2 := Lib.hid (KQ.out.below hb2 KQ.out.lt)
  have R2 := Lib.hid (RQ.out.below hb2 RQ.out.lt)
  have HS2 := Lib.hid (HSQ.out.later hb2)
  clear hrn hro hb2
  have q0 : w2.cell? ⟨g, 0, none⟩ = some (.int .i64 v) := K2.out.get 0 (by omega)
  have q1 : w2.cell? ⟨g, 1, none⟩ = some (.int .i64 p) := K2.out.get 1 (by omega)
  have q2 : w2.cell? ⟨g, 2, none⟩ = some (.int .i64 j) := K2.out.get 2 (by omega)
  have q3 : w2.cell? ⟨g, 3, none⟩ = some (.string k) := K2.out.get 3 (by omega)
  have q4 : w2.cell? ⟨g, 4, none⟩ = some (.slice sa l.length sc) := K2.out.get 4 (by omega)
  have q5 : w2.cell? ⟨g, 5, none⟩ = some (.slice y0 m.length ycap) := K2.out.get 5 (by omega)
  have g5 := K2.out.frz 5
  have c0 : w2.cell? ⟨g + 1, 0, none⟩ = some (.int .i64 0) := R2.out.get 0 (by omega)
  have c1 : w2.cell? ⟨g + 1, 1, none⟩ = some (.int .i64 0) := R2.out.get 1 (by omega)
  have c2 : w2.cell? ⟨g + 1, 2, none⟩ = some (.int .i64 0) := R2.out.get 2 (by omega)
  have c3 : w2.cell? ⟨g + 1, 3, none⟩ = some (.string ⟨#[]⟩) := R2.out.get 3 (by omega)
  have c4 : w2.cell? ⟨g + 1, 4, none⟩ = some (.slice none 0 0) := R2.out.get 4 (by omega)
  have c5 : w2.cell? ⟨g + 1, 5, none⟩ = some (.slice none 0 0) := R2.out.get 5 (by omega)
  have f0 := R2.out.frz 0
  have f1 := R2.out.frz 1
  have f2 := R2.out.frz 2
  have f3 := R2.out.frz 3
  have f4 := R2.out.frz 4
  have f5 := R2.out.frz 5
  go_wp2_with fail
  clear q0 q1 q2 q3 q4 q5 g5 c0 c1 c2 c3 c4 c5 f0 f1 f2 f3 f4 f5
  have hu5 := Upd.set w2 g 5 (.slice ra m.length rc)
  have R3 := Lib.hid (R2.out.upd hu5 (by omega))
  obtain ⟨xi, ui⟩ := set6 R3.out (.int .i64 v) (.int .i64 p) (.int .i64 j) (.string k) (.slice sa l.length sc) (.slice ra m.length rc)
  have p0 : World.cell? _ ⟨g + 1, 0, none⟩ = some (.int .i64 v) := xi.get 0 (by omega)
  have p1 : World.cell? _ ⟨g + 1, 1, none⟩ = some (.int .i64 p) := xi.get 1 (by omega)
  have p2 : World.cell? _ ⟨g + 1, 2, none⟩ = some (.int .i64 j) := xi.get 2 (by omega)
  have p3 : World.cell? _ ⟨g + 1, 3, none⟩ = some (.string k) := xi.get 3 (by omega)
  have p4 : World.cell? _ ⟨g + 1, 4, none⟩ = some (.slice sa l.length sc) := xi.get 4 (by omega)
  have p5 : World.cell? _ ⟨g + 1, 5, none⟩ = some (.slice ra m.length rc) := xi.get 5 (by omega)
  have HBX := Lib.hid (((BQ.out.trans (B2.out.mono (by have := BQ.out.size; have := HG.out; omega))).trans (hu5.below (Nat.le_refl g))).trans (ui.below (Nat.le_succ _)))
  have HZQ := Lib.hid (show g + 1 < wq.heap.size from RQ.out.lt)
  have HRX := Lib.hid (reqs_keep HRN.out (by rw [ui.size, hu5.size]; exact Nat.le_refl _) (fun c hc _ => (ui.block c (by have := HRO.out c hc; have := HZQ.out; omega)).trans (hu5.block c (by have := HRO.out c hc; have := HZQ.out; omega))))
  have HSX := Lib.hid (HS2.out.keep (by rw [ui.size, hu5.size]; exact Nat.le_refl _) (fun c hc _ => (ui.block c (by have := R0.out.lt; omega)).trans (hu5.block c (by have := HZ0.out; omega))))
  refine bodyPost_ret (v := .agg #[.int .i64 v, .int .i64 p, .int .i64 j, .string k, .slice sa l.length sc, .slice ra m.length rc]) (by simp [results, Tryz.results133, go_sem, p0, p1, p2, p3, p4, p5]) rfl ?_
  exact ⟨sa, sc, ra, rc, rfl, HSX.out.mono (by have := B0.out.size; have := HG.out; omega), HRX.out, (fun c hc => Nat.le_trans (by have := BQ.out.size; have := HG.out; omega) (HRO.out c hc)), HG.out ▸ HBX.out⟩
end Go.Proofs.YthajnkcipifhcaaGreatDoor
end
section
open Go Go.RowKit
namespace FF
open WW BB MM
theorem ent_fresh {F : Fo} {N : List Iv} (hn : N.map Prod.fst = F.nodes) {x : It} (hx : Fresh F x) : entF F N x.1 = none := by
  unfold entF
  rw [Option.map_eq_none_iff, List.find?_eq_none]
  intro y hy e
  exact hx.2.2 y.1 (List.mem_append_left _ (hn ▸ List.mem_map.2 ⟨y, hy, rfl⟩)) (by simpa using e)
theorem ent_more {F : Fo} (hF : WF F) {N : List Iv} (hn : N.map Prod.fst = F.nodes) {x : Iv} (hx : Fresh F x.1) (hp : hasF F (parI x.1.2) = true) (h4 : F.nodes.length < 400) (h : ByteArray) :
    setM (entF F N) x.1.1 (mkS x (heightF F (parI x.1.2) + 1)) h = entF (moreF F x.1) (N ++ [x]) h := by
  have hw := more_wf hF hx hp h4
  unfold setM
  by_cases e : h = x.1.1
  · subst e
    rw [if_pos rfl]
    unfold entF
    have hnone : N.find? (fun y => decide (y.1.1 = x.1.1)) = none := by
      have := ent_fresh hn hx
      unfold entF at this
      rwa [Option.map_eq_none_iff] at this
    rw [List.find?_append, hnone]
    simp only [Option.none_or, List.find?_cons, decide_true, Option.map_some]
    rw [more_new hF hw hp]
  · rw [if_neg e]
    unfold entF
    rw [List.find?_append]
    cases hf : N.find? (fun y => decide (y.1.1 = h)) with
    | none =>
      rw [Option.none_or, List.find?_cons, show decide (x.1.1 = h) = false from decide_eq_false fun c => e c.symm]; rfl
    | some y =>
      obtain ⟨hy, hyh⟩ := find_mem hf
      rw [Option.some_or, Option.map_some, Option.map_some, more_old hF hw ((has_iff F h).2 (Or.inr ⟨y.1, hn ▸ List.mem_map.2 ⟨y, hy, rfl⟩, hyh⟩))]
theorem Keeps.upd' {A : Nat → Prop} {c : Nat} {w w' : World} (h : Upd c w w') (hA : ¬ A c) : Keeps A w w' := Keeps.upd h fun _ hb e => hA (e ▸ hb)
end FF
namespace Go.Proofs.YthajnkcipifhcaaGreatDoor
open FF JJ CC MM WW BB
section
variable {B : Nat} {w w' : World} {g : Nat} {F : Fo} {rt : ByteArray} {mv ov : Value} {N O : List Iv} {C : Nat → Prop}
theorem CFs.stood {bm : Nat} (h : CFs B w g F rt (.map (some bm)) ov N O C) (x : Iv) (hx : Fresh F x.1) (hp : hasF F (parI x.1.2) = true) (h4 : F.nodes.length < 400)
    (hm : MapAt Tryz.prog 9 w' (.map (some bm)) (setM (entF F N) x.1.1 (mkS x (heightF F (parI x.1.2) + 1))) (F.nodes.length + 1)) (hg : w.grownBy w' (some bm)) (hI : Dep C w (fun w' => InnV w' x)) (hs : SmallI x.1.2) :
    CFs B w' g (moreF F x.1) rt (.map (some bm)) ov (N ++ [x]) O C := by
  have hk : Keeps (fun b => b ≠ bm) w w' := Keeps.grown hg fun b e c => by injection e with e; exact c e.symm
  have hgm : g ≠ bm := fun e => h.gm (by rw [e]; rfl)
  refine ⟨more_wf h.wf hx hp h4, ?_, h.root, by rw [List.map_append, h.nodes]; rfl, h.orph, ?_, h.mB, ?_, ?_, h.gB, h.cB, h.cg, h.cm, h.co, fun b hb => Nat.lt_of_lt_of_le (h.cl b hb) hk.b0.size, ?_⟩
  · exact (hk.block g hgm h.blk.lt).trans h.blk
  · have e : (moreF F x.1).nodes.length = F.nodes.length + 1 := by simp [moreF]
    rw [e]
    exact hm.congr fun y => ent_more h.wf h.nodes hx hp h4 y
  · exact row_keep h.row fun c hc => hk.block c (fun e => h.mo c hc (by rw [e]; rfl)) (h.row.lt c hc).2
  · intro w2 hw2
    have hC : Keeps C w w' := hk.sub fun b hb _ e => h.cm bm rfl (e ▸ hb)
    intro y hy
    rw [List.append_assoc, List.mem_append, List.mem_append] at hy
    rcases hy with hy | hy | hy
    · exact h.inn.on hC w2 hw2 y (List.mem_append_left _ hy)
    · obtain rfl : y = x := by simpa using hy
      exact hI.on hC w2 hw2
    · exact h.inn.on hC w2 hw2 y (List.mem_append_right _ hy)
  · intro y hy
    rw [List.append_assoc, List.mem_append, List.mem_append] at hy
    rcases hy with hy | hy | hy
    · exact h.small y (List.mem_append_left _ hy)
    · obtain rfl : y = x := by simpa using hy
      exact hs
    · exact h.small y (List.mem_append_right _ hy)
end
end Go.Proofs.YthajnkcipifhcaaGreatDoor
end
section
open Go Go.RowKit
namespace FF
open WW BB
theorem run_clearK {P : Program} (w : World) (t e ty : TypeId) (z : Value) (ht : P.underlying t = some (.slice e)) (hv : ∀ w, (zeroValue e).run P w = .ok z w) (b o n c m : Nat) (hn : 0 < n) (hm : (Builtin.zeroCells z.cells n).toList.length = m)
    (h1 : ∀ v ∈ (Builtin.zeroCells z.cells n).toList, v.oneCell' = true)
    (hc : ∀ j, j < m → (w.cell? ⟨b, o + j, none⟩).isSome = true) (hf : ∀ j, j < m → w.frozen? ⟨b, o + j, none⟩ = false) :
    (Builtin.clear_ #[t] ty #[.slice (some ⟨b, o, none⟩) n c]).run P w = .ok (.tuple #[]) (w.setCells b o (Builtin.zeroCells z.cells n).toList) := by
  have hst := run_storeCells_cells (P := P) b o (Builtin.zeroCells z.cells n).toList 0 w (by simpa [hm] using hc) (by simpa [hm] using hf) h1
  simp only [Nat.add_zero] at hst
  obtain ⟨k, rfl⟩ : ∃ k, n = k + 1 := ⟨n - 1, by omega⟩
  simp [Builtin.clear_, run_underlying ht, hv, hst]
/-- cells from o on are written: those ahead of o stay -/
theorem cells_past (b : Nat) (t : TypeId) : ∀ (vs : List Value) (o : Nat) (w : World) (cur : Array Value), w.heap[b]? = some (.cells cur t (0, 0)) →
    ∃ cur', (w.setCells b o vs).heap[b]? = some (.cells cur' t (0, 0)) ∧ cur'.size = cur.size ∧ ∀ j, j < o → cur'[j]? = cur[j]?
  | [], _, _, cur, h => ⟨cur, h, rfl, fun _ _ => rfl⟩
  | v :: r, o, w, cur, h => by
    have h1 : (w.setCell ⟨b, o, none⟩ v).heap[b]? = some (.cells (cur.setIfInBounds o v) t (0, 0)) := by
      unfold World.setCell
      simp only [Array.getElem?_modify, if_true, h, Option.map_some]
      rfl
    obtain ⟨cur', k1, k2, k3⟩ := cells_past b t r (o + 1) _ _ h1
    refine ⟨cur', k1, by rw [k2]; simp, fun j hj => ?_⟩
    rw [k3 j (by omega), Array.getElem?_setIfInBounds, if_neg (by omega)]
theorem keepC (b : Nat) : ∀ (vs : List Value) (o : Nat) (w : World), Keep b w (w.setCells b o vs)
  | [], _, w => Keep.refl b w
  | v :: r, o, w => (Upd.set w b o v).keep.trans (keepC b r (o + 1) _)
end FF
namespace Go.Proofs.YthajnkcipifhcaaGreatDoor
open FF JJ CC MM WW BB
end Go.Proofs.YthajnkcipifhcaaGreatDoor
end
section
open Go Go.RowKit
namespace FF
open WW BB MM
end FF
namespace Go.Proofs.YthajnkcipifhcaaGreatDoor
open FF JJ CC MM WW BB
section
variable {B : Nat} {w w' w1 : World} {g : Nat} {F : Fo} {rt : ByteArray} {mv ov : Value} {N O : List Iv} {C : Nat → Prop}
end
/-- between two rounds -/
structure AdR (B : Nat) (w1 : World) (g : Nat) (F : Fo) (rt : ByteArray) (mv ov : Value) (C : Nat → Prop) (q : Nat) (m : Nat) (F' : Fo) (mv' ov' : Value) (N' O' : List Iv) (wr : World) : Prop where
  cf : CFs B wr g F' rt mv' ov' N' O' C
  len : F'.orph.length ≤ m
  eq : adoptF 10 F = adoptF m F'
  height : F'.height = F.height
  keeps : Keeps (fun b => b < w1.heap.size ∧ b ≠ g ∧ mapBlk mv ≠ some b ∧ ov.ownBlock ≠ some b) w1 wr
  mnew : ∀ b, mapBlk mv' = some b → mapBlk mv = some b ∨ w1.heap.size ≤ b
  onew : ∀ b, ov'.ownBlock = some b → ov.ownBlock = some b
  box : wr.cell? ⟨q, 0, none⟩ = some (.pointer (some ⟨g, 0, none⟩))
  lt : q < wr.heap.size
  tabs : Tabs wr
theorem AdR.on {B : Nat} {w1 : World} {g : Nat} {F : Fo} {rt : ByteArray} {mv ov : Value} {C : Nat → Prop} {q m : Nat} {F' : Fo} {mv' ov' : Value} {N' O' : List Iv} {wr w2 : World} (h : AdR B w1 g F rt mv ov C q m F' mv' ov' N' O' wr) (hb : Below wr.heap.size wr w2) : AdR B w1 g F rt mv ov C q m F' mv' ov' N' O' w2 :=
  ⟨h.cf.on hb, h.len, h.eq, h.height, h.keeps.trans (Keeps.of hb), h.mnew, h.onew, (hb.cell (p := ⟨q, 0, none⟩) h.lt).trans h.box, Nat.lt_of_lt_of_le h.lt hb.size, tabs_on h.tabs hb⟩
end Go.Proofs.YthajnkcipifhcaaGreatDoor
end
section
open Go Go.RowKit
namespace FF
open JJ CC WW BB MM
end FF
namespace Go.Proofs.YthajnkcipifhcaaGreatDoor
open FF JJ CC MM WW BB
section
variable {B : Nat} {w w' w1 : World} {g : Nat} {F : Fo} {rt : ByteArray} {mv ov : Value} {N O : List Iv} {C : Nat → Prop}
end
/-- what Put leaves -/
def PutAns (B : Nat) (w : World) (g : Nat) (rt : ByteArray) (mv ov : Value) (C : Nat → Prop) (R : Fo × Int) (e : Ending) (w' : World) : Prop :=
  e = .returned (.int .i64 R.2) ∧ ∃ mv' ov' N' O' C', CFs B w' g R.1 rt mv' ov' N' O' C' ∧ Keeps (fun b => ¬ MineB g mv ov C b) w w' ∧ (∀ b, MineB g mv' ov' C' b → MineB g mv ov C b ∨ w.heap.size ≤ b)
theorem PutAns.same {B : Nat} {w w' : World} {g : Nat} {F : Fo} {rt : ByteArray} {mv ov : Value} {N O : List Iv} {C : Nat → Prop} {n : Int} (h : CFs B w g F rt mv ov N O C) (hb : Below w.heap.size w w') : PutAns B w g rt mv ov C (F, n) (.returned (.int .i64 n)) w' :=
  ⟨rfl, mv, ov, N, O, C, h.on hb, Keeps.of hb, fun _ h => Or.inl h⟩
end Go.Proofs.YthajnkcipifhcaaGreatDoor
end
section
open Go Go.RowKit
namespace FF
open WW BB
/-- strings in a row of the call's own, so many orphans being through -/
structure LkSt (w0 : World) (e : TypeId) (out : List ByteArray) (x : Value) (wr : World) : Prop where
  below : Below w0.heap.size w0 wr
  row : wr.ownsRow w0.heap.size e 1 x out.length (out.map Value.string)
theorem LkSt.shape {w0 : World} {e : TypeId} {out : List ByteArray} {x : Value} {wr : World} (h : LkSt w0 e out x wr) : ∃ a c, x = .slice a out.length c := by
  rcases h.row.2 with ⟨rfl, h0⟩ | ⟨q, cp, cur, rfl, _⟩
  · exact ⟨none, 0, by rw [h0]⟩
  · exact ⟨_, _, rfl⟩
theorem LkSt.on {w0 : World} {e : TypeId} {out : List ByteArray} {x : Value} {wr w2 : World} (h : LkSt w0 e out x wr) (hb : Below wr.heap.size wr w2) : LkSt w0 e out x w2 :=
  ⟨h.below.trans (hb.mono h.below.size), row_keep h.row fun c hc => hb.block c (h.row.lt c hc).2⟩
theorem LkSt.add {w0 : World} {e : TypeId} {out : List ByteArray} {x u' : Value} {wr w3 : World} (h : LkSt w0 e out x wr) (p : ByteArray) (hr : w3.ownsRow w0.heap.size e 1 u' (out.length + 1) (out.map Value.string ++ [.string p])) (hg : wr.grownBy w3 x.ownBlock) : LkSt w0 e (out ++ [p]) u' w3 :=
  ⟨h.below.grown hg h.below.size fun k hk => (h.row.lt k hk).1, by rw [List.length_append, List.map_append]; exact hr⟩
theorem LkSt.nil (w : World) (e : TypeId) : LkSt w e [] (.slice none 0 0) w := ⟨Below.refl _ _, World.ownsRow_nil _ _ _ _⟩
end FF
namespace Go.Proofs.YthajnkcipifhcaaGreatDoor
open FF JJ CC MM WW BB
end Go.Proofs.YthajnkcipifhcaaGreatDoor
end
section
open Go Go.RowKit
namespace FF
open JJ CC WW BB MM
/-- a block with its two slices -/
abbrev Bv := BlockD × Value × Value
def bd0 : BlockD := (((0, 0), ((0, ⟨#[]⟩), [])), [])
def vb0 : Bv := (bd0, .slice none 0 0, .slice none 0 0)
def encB (x : Bv) : List Value := [.int .i64 (viewI x.1), .int .i64 (propI x.1), .int .i64 (jvI x.1), .string (parI x.1), x.2.1, x.2.2]
def InnB (w : World) (x : Bv) : Prop := SigsAt w x.2.1 (sigsI x.1) ∧ ReqsAt w x.2.2 x.1.2
theorem InnB.later {w w' : World} {x : Bv} (h : InnB w x) (hb : Below w.heap.size w w') : InnB w' x := ⟨h.1.later hb, h.2.later hb⟩
/-- v is a slice of the blocks L -/
def BvAt (w : World) (v : Value) (L : List Bv) : Prop :=
  ∃ a0 cap, v = .slice a0 L.length cap ∧ (L = [] ∨ ∃ b off, a0 = some ⟨b, off, none⟩ ∧ b < w.heap.size ∧
    ∀ i, i < L.length → (∀ j u, (encB (L.getD i vb0))[j]? = some u → w.cell? ⟨b, off + i * 6 + j, none⟩ = some u) ∧ InnB w (L.getD i vb0))
theorem BvAt.later {w w' : World} {v : Value} {L : List Bv} (h : BvAt w v L) (hb : Below w.heap.size w w') : BvAt w' v L := by
  obtain ⟨a0, cap, rfl, h | ⟨b, off, rfl, hl, hc⟩⟩ := h
  · exact ⟨a0, cap, rfl, Or.inl h⟩
  · refine ⟨_, cap, rfl, Or.inr ⟨b, off, rfl, Nat.lt_of_lt_of_le hl hb.size, fun i hi => ?_⟩⟩
    obtain ⟨h1, h2⟩ := hc i hi
    exact ⟨fun j u hu => (hb.cell (p := ⟨b, off + i * 6 + j, none⟩) hl).trans (h1 j u hu), h2.later hb⟩
theorem bv_shape {w : World} {v : Value} {L : List Bv} (h : BvAt w v L) : ∃ a c, v = .slice a L.length c := by
  obtain ⟨a, c, rfl, _⟩ := h; exact ⟨a, c, rfl⟩
/-- where the blocks lie -/
theorem bv_at {w : World} {a0 : Option Addr} {n c : Nat} {L : List Bv} (h : BvAt w (.slice a0 n c) L) (i : Nat) (hi : i < L.length) : ∃ b off, a0 = some ⟨b, off, none⟩ ∧ b < w.heap.size ∧ n = L.length ∧
    ∀ wr, Below w.heap.size w wr → ∀ i, i < L.length → wr.cell? ⟨b, off + i * 6, none⟩ = some (.int .i64 (viewI (L.getD i vb0).1)) ∧ wr.cell? ⟨b, off + i * 6 + 1, none⟩ = some (.int .i64 (propI (L.getD i vb0).1)) ∧ wr.cell? ⟨b, off + i * 6 + 2, none⟩ = some (.int .i64 (jvI (L.getD i vb0).1)) ∧
      wr.cell? ⟨b, off + i * 6 + 3, none⟩ = some (.string (parI (L.getD i vb0).1)) ∧ wr.cell? ⟨b, off + i * 6 + 4, none⟩ = some (L.getD i vb0).2.1 ∧ wr.cell? ⟨b, off + i * 6 + 5, none⟩ = some (L.getD i vb0).2.2 ∧ InnB wr (L.getD i vb0) := by
  obtain ⟨a1, c1, he, h | ⟨b, off, h1, hl, hc⟩⟩ := h
  · subst h; simp at hi
  · injection he with e1 e2 _
    subst e1 h1
    refine ⟨b, off, rfl, hl, e2, fun wr hb i hi => ?_⟩
    obtain ⟨h1, h2⟩ := hc i hi
    have k : ∀ j u, (encB (L.getD i vb0))[j]? = some u → wr.cell? ⟨b, off + i * 6 + j, none⟩ = some u := fun j u hu => (hb.cell (p := ⟨b, off + i * 6 + j, none⟩) hl).trans (h1 j u hu)
    exact ⟨k 0 _ rfl, k 1 _ rfl, k 2 _ rfl, k 3 _ rfl, k 4 _ rfl, k 5 _ rfl, h2.later hb⟩
def cellsB (L : List Bv) : List Value := (L.map encB).flatten
theorem cellsB_snoc (L : List Bv) (x : Bv) : cellsB (L ++ [x]) = cellsB L ++ encB x := by unfold cellsB; rw [List.map_append, List.flatten_append]; simp
theorem cellsB_at : ∀ (L : List Bv) (i j : Nat) (u : Value), i < L.length → (encB (L.getD i vb0))[j]? = some u → (cellsB L)[i * 6 + j]? = some u
  | [], i, j, u, h, _ => by simp at h
  | x :: r, 0, j, u, _, hu => by
    show (encB x ++ cellsB r)[0 * 6 + j]? = some u
    have hu' : (encB x)[j]? = some u := hu
    have hj : j < (encB x).length := (List.getElem?_eq_some_iff.1 hu').1
    rw [Nat.zero_mul, Nat.zero_add, List.getElem?_append_left hj]; exact hu'
  | x :: r, i + 1, j, u, h, hu => by
    show (encB x ++ cellsB r)[(i + 1) * 6 + j]? = some u
    have hx : (encB x).length = 6 := rfl
    rw [show (i + 1) * 6 + j = 6 + (i * 6 + j) by omega, List.getElem?_append_right (by omega), hx, Nat.add_sub_cancel_left]
    exact cellsB_at r i j u (by simpa using h) (by simpa [List.getD] using hu)
theorem bv_of_own {w : World} {B : Nat} {e : TypeId} {v : Value} {L : List Bv} (h : w.ownsRow B e 6 v L.length (cellsB L)) (hi : ∀ x ∈ L, InnB w x) : BvAt w v L := by
  rcases h.2 with ⟨rfl, h0⟩ | ⟨g, cap, cur, rfl, hg, hh, hn, hcm, hsz, htk⟩
  · exact ⟨none, 0, by rw [h0], Or.inl (List.eq_nil_of_length_eq_zero h0)⟩
  · have hcell : ∀ j u, j < L.length * 6 → (cellsB L)[j]? = some u → w.cell? ⟨g, j, none⟩ = some u := fun j u hj hu => by
      rw [← htk, List.getElem?_take_of_lt hj, Array.getElem?_toList] at hu
      unfold World.cell?; rw [hh]; simpa using hu
    refine ⟨_, cap, rfl, Or.inr ⟨g, 0, rfl, (Array.getElem?_eq_some_iff.1 hh).1, fun i hil => ⟨fun j u hu => ?_, ?_⟩⟩⟩
    · have hj : j < 6 := (List.getElem?_eq_some_iff.1 hu).1
      rw [Nat.zero_add]
      exact hcell _ _ (by omega) (cellsB_at L i j u hil hu)
    · exact hi _ (by rw [getD_at hil]; exact List.getElem_mem hil)
/-- v is a slice of threes of bytes -/
def TriAt (w : World) (v : Value) (l : List (Nat × Nat × Nat)) : Prop :=
  ∃ a0 cap, v = .slice a0 l.length cap ∧ (l = [] ∨ ∃ b off, a0 = some ⟨b, off, none⟩ ∧ b < w.heap.size ∧
    ∀ i, i < l.length → w.cell? ⟨b, off + i * 3, none⟩ = some (.int .u8 ((l.getD i (0, 0, 0)).1 : Int)) ∧ w.cell? ⟨b, off + i * 3 + 1, none⟩ = some (.int .u8 ((l.getD i (0, 0, 0)).2.1 : Int)) ∧ w.cell? ⟨b, off + i * 3 + 2, none⟩ = some (.int .u8 ((l.getD i (0, 0, 0)).2.2 : Int)))
theorem TriAt.later {w w' : World} {v : Value} {l : List (Nat × Nat × Nat)} (h : TriAt w v l) (hb : Below w.heap.size w w') : TriAt w' v l := by
  obtain ⟨a0, cap, rfl, h | ⟨b, off, rfl, hl, hc⟩⟩ := h
  · exact ⟨a0, cap, rfl, Or.inl h⟩
  · refine ⟨_, cap, rfl, Or.inr ⟨b, off, rfl, Nat.lt_of_lt_of_le hl hb.size, fun i hi => ?_⟩⟩
    obtain ⟨h1, h2, h3⟩ := hc i hi
    exact ⟨(hb.cell (p := ⟨b, off + i * 3, none⟩) hl).trans h1, (hb.cell (p := ⟨b, off + i * 3 + 1, none⟩) hl).trans h2, (hb.cell (p := ⟨b, off + i * 3 + 2, none⟩) hl).trans h3⟩
theorem own_apart' {e e' : TypeId} {w : World} {B B' c c' : Nat} {v v' : Value} {n n' : Nat} {xs xs' : List Value} (h : w.ownsRow B e c v n xs) (h' : w.ownsRow B' e' c' v' n' xs') (hne : e ≠ e') : ∀ b, v'.ownBlock = some b → some b ≠ v.ownBlock := by
  intro b hb he
  rcases h.2 with ⟨rfl, _⟩ | ⟨g, cap, cur, rfl, _, hh, _⟩
  · cases he
  · rcases h'.2 with ⟨rfl, _⟩ | ⟨g', cap', cur', rfl, _, hh', _⟩
    · cases hb
    · simp only [Value.ownBlock, Option.some.injEq] at hb he
      have hgg : g' = g := by omega
      rw [hgg, hh] at hh'
      injection hh' with hh'
      injection hh' with _ h2 _
      exact hne h2
/-- the chain so far: a row of blocks, each one's request in a row of its own -/
structure ChSt (w0 : World) (tB tQ : TypeId) (L : List Bv) (x : Value) (wr : World) : Prop where
  below : Below w0.heap.size w0 wr
  row : wr.ownsRow w0.heap.size tB 6 x L.length (cellsB L)
  reqs : ∀ y ∈ L, y.2.1 = .slice none 0 0 ∧ sigsI y.1 = [] ∧ wr.ownsRow w0.heap.size tQ 3 y.2.2 y.1.2.length (cellsR y.1.2)
theorem ChSt.on {w0 : World} {tB tQ : TypeId} {L : List Bv} {x : Value} {wr w2 : World} (h : ChSt w0 tB tQ L x wr) (hb : Below wr.heap.size wr w2) : ChSt w0 tB tQ L x w2 :=
  ⟨h.below.trans (hb.mono h.below.size), row_keep h.row fun c hc => hb.block c (h.row.lt c hc).2, fun y hy => ⟨(h.reqs y hy).1, (h.reqs y hy).2.1, row_keep (h.reqs y hy).2.2 fun c hc => hb.block c ((h.reqs y hy).2.2.lt c hc).2⟩⟩
theorem ChSt.inn {w0 : World} {tB tQ : TypeId} {L : List Bv} {x : Value} {wr : World} (h : ChSt w0 tB tQ L x wr) : ∀ y ∈ L, InnB wr y := fun y hy => by
  obtain ⟨h1, h2, h3⟩ := h.reqs y hy
  exact ⟨by rw [h1, h2]; exact ⟨none, 0, rfl, Or.inl rfl⟩, reqs_of_own h3⟩
theorem ChSt.bv {w0 : World} {tB tQ : TypeId} {L : List Bv} {x : Value} {wr : World} (h : ChSt w0 tB tQ L x wr) : BvAt wr x L := bv_of_own h.row h.inn
theorem ChSt.shape {w0 : World} {tB tQ : TypeId} {L : List Bv} {x : Value} {wr : World} (h : ChSt w0 tB tQ L x wr) : ∃ a c, x = .slice a L.length c := bv_shape h.bv
theorem ChSt.add {w0 : World} {tB tQ : TypeId} (ht : tB ≠ tQ) {L : List Bv} {x u' : Value} {wr w3 : World} (h : ChSt w0 tB tQ L x wr) (y : Bv) (hy : y.2.1 = .slice none 0 0 ∧ sigsI y.1 = [] ∧ wr.ownsRow w0.heap.size tQ 3 y.2.2 y.1.2.length (cellsR y.1.2))
    (hr : w3.ownsRow w0.heap.size tB 6 u' (L.length + 1) (cellsB L ++ encB y)) (hg : wr.grownBy w3 x.ownBlock) : ChSt w0 tB tQ (L ++ [y]) u' w3 := by
  have hk : ∀ z : Bv, wr.ownsRow w0.heap.size tQ 3 z.2.2 z.1.2.length (cellsR z.1.2) → w3.ownsRow w0.heap.size tQ 3 z.2.2 z.1.2.length (cellsR z.1.2) := fun z hz =>
    row_keep hz fun c hc => hg.block c (hz.lt c hc).2 (own_apart' h.row hz ht c hc)
  refine ⟨h.below.grown hg h.below.size fun k hk => (h.row.lt k hk).1, by rw [List.length_append, List.length_singleton, cellsB_snoc]; exact hr, fun z hz => ?_⟩
  rcases List.mem_append.1 hz with hz | hz
  · exact ⟨(h.reqs z hz).1, (h.reqs z hz).2.1, hk z (h.reqs z hz).2.2⟩
  · obtain rfl : z = y := by simpa using hz
    exact ⟨hy.1, hy.2.1, hk z hy.2.2⟩
theorem ChSt.upd {w0 : World} {tB tQ : TypeId} {L : List Bv} {x : Value} {wr w2 : World} {y : Nat} (h : ChSt w0 tB tQ L x wr) (hu : Upd y wr w2) (hy : w0.heap.size ≤ y) (h1 : ∀ c, x.ownBlock = some c → c ≠ y) (h2 : ∀ z ∈ L, ∀ c, z.2.2.ownBlock = some c → c ≠ y) : ChSt w0 tB tQ L x w2 :=
  ⟨h.below.trans (hu.below hy), row_keep h.row fun c hc => hu.block c (h1 c hc), fun z hz => ⟨(h.reqs z hz).1, (h.reqs z hz).2.1, row_keep (h.reqs z hz).2.2 fun c hc => hu.block c (h2 z hz c hc)⟩⟩
theorem ChSt.nil (w : World) (tB tQ : TypeId) : ChSt w tB tQ [] (.slice none 0 0) w := ⟨Below.refl _ _, World.ownsRow_nil _ _ _ _, fun y hy => by cases hy⟩
end FF
namespace Go.Proofs.YthajnkcipifhcaaGreatDoor
open FF JJ CC MM WW BB
end Go.Proofs.YthajnkcipifhcaaGreatDoor
end
section
open Go Go.RowKit
namespace FF
open WW BB JJ
/-- it fits into memory -/
def MemI (b : BlockD) : Prop := MemS (sigsI b) ∧ (parI b).size ≤ 9223372036854775807 ∧ b.2.length ≤ 9223372036854775807
end FF
namespace Go.Proofs.YthajnkcipifhcaaGreatDoor
open FF JJ CC MM WW BB
end Go.Proofs.YthajnkcipifhcaaGreatDoor
end
section
open Go Go.RowKit
namespace QU
open FF JJ CC WW BB
section
variable {α : Type}
/-- the cells of things -/
def cellsG (enc : α → List Value) (L : List α) : List Value := (L.map enc).flatten
/-- v is a slice of the things L, in a block that meets A -/
def GRow (k : Nat) (enc : α → List Value) (z : α) (A : Nat → Prop) (w : World) (v : Value) (L : List α) : Prop :=
  ∃ a0 cap, v = .slice a0 L.length cap ∧ (L = [] ∨ ∃ b off, a0 = some ⟨b, off, none⟩ ∧ A b ∧ b < w.heap.size ∧ ∀ i, i < L.length → ∀ j u, (enc (L.getD i z))[j]? = some u → w.cell? ⟨b, off + i * k + j, none⟩ = some u)
theorem GRow.keep {k : Nat} {enc : α → List Value} {z : α} {A A' : Nat → Prop} {w w' : World} {v : Value} {L : List α} (h : GRow k enc z A w v L) (hk : Keeps A' w w') (hA : ∀ b, A b → A' b) : GRow k enc z A w' v L := by
  obtain ⟨a0, cap, rfl, h | ⟨b, off, rfl, ha, hl, hc⟩⟩ := h
  · exact ⟨a0, cap, rfl, .inl h⟩
  · exact ⟨_, cap, rfl, .inr ⟨b, off, rfl, ha, Nat.lt_of_lt_of_le hl hk.b0.size, fun i hi j u hu => (World.cell?_of_block (w := w) (a := ⟨b, off + i * k + j, none⟩) (hk.block b (hA b ha) hl)).trans (hc i hi j u hu)⟩⟩
theorem GRow.later {k : Nat} {enc : α → List Value} {z : α} {A : Nat → Prop} {w w' : World} {v : Value} {L : List α} (h : GRow k enc z A w v L) (hb : Below w.heap.size w w') : GRow k enc z A w' v L :=
  h.keep (A' := fun _ => True) (Keeps.of hb) fun _ _ => trivial
theorem GRow.more {k : Nat} {enc : α → List Value} {z : α} {A A' : Nat → Prop} {w : World} {v : Value} {L : List α} (h : GRow k enc z A w v L) (hA : ∀ b, A b → A' b) : GRow k enc z A' w v L := by
  obtain ⟨a0, cap, rfl, h | ⟨b, off, rfl, ha, hl, hc⟩⟩ := h
  · exact ⟨a0, cap, rfl, .inl h⟩
  · exact ⟨_, cap, rfl, .inr ⟨b, off, rfl, hA b ha, hl, hc⟩⟩
theorem cellsG_snoc (enc : α → List Value) (L : List α) (x : α) : cellsG enc (L ++ [x]) = cellsG enc L ++ enc x := by unfold cellsG; rw [List.map_append, List.flatten_append]; simp
theorem cellsG_len {k : Nat} {enc : α → List Value} (hk : ∀ x, (enc x).length = k) (L : List α) : (cellsG enc L).length = L.length * k := by
  induction L with
  | nil => simp [cellsG]
  | cons x r ih => show (enc x ++ cellsG enc r).length = _; rw [List.length_append, ih, List.length_cons, hk, Nat.add_mul]; omega
theorem cellsG_at {k : Nat} {enc : α → List Value} (hk : ∀ x, (enc x).length = k) (z : α) : ∀ (L : List α) (i j : Nat) (u : Value), i < L.length → (enc (L.getD i z))[j]? = some u → (cellsG enc L)[i * k + j]? = some u
  | [], i, j, u, h, _ => by simp at h
  | x :: r, 0, j, u, _, hu => by
    show (enc x ++ cellsG enc r)[0 * k + j]? = some u
    have hu' : (enc x)[j]? = some u := hu
    have hj : j < (enc x).length := (List.getElem?_eq_some_iff.1 hu').1
    rw [Nat.zero_mul, Nat.zero_add, List.getElem?_append_left hj]; exact hu'
  | x :: r, i + 1, j, u, h, hu => by
    show (enc x ++ cellsG enc r)[(i + 1) * k + j]? = some u
    rw [show (i + 1) * k + j = k + (i * k + j) by rw [Nat.add_mul]; omega, List.getElem?_append_right (by rw [hk]; omega), hk, Nat.add_sub_cancel_left]
    exact cellsG_at hk z r i j u (by simpa using h) (by simpa [List.getD] using hu)
theorem cellsG_of {k : Nat} {enc : α → List Value} (hk : ∀ x, (enc x).length = k) (z : α) : ∀ (L : List α) (m : Nat) (u : Value), (cellsG enc L)[m]? = some u → ∃ i j, i < L.length ∧ m = i * k + j ∧ (enc (L.getD i z))[j]? = some u
  | [], m, u, h => by simp [cellsG] at h
  | x :: r, m, u, h => by
    have h : (enc x ++ cellsG enc r)[m]? = some u := h
    by_cases hm : m < k
    · rw [List.getElem?_append_left (by rw [hk]; exact hm)] at h
      exact ⟨0, m, Nat.succ_pos _, by omega, h⟩
    · rw [List.getElem?_append_right (by rw [hk]; omega), hk] at h
      obtain ⟨i, j, h1, h2, h3⟩ := cellsG_of hk z r (m - k) u h
      exact ⟨i + 1, j, by rw [List.length_cons]; omega, by rw [Nat.add_mul]; omega, by simpa [List.getD] using h3⟩
theorem grow_of_own {k : Nat} {enc : α → List Value} (hk : ∀ x, (enc x).length = k) (z : α) {w : World} {B : Nat} {e : TypeId} {v : Value} {L : List α} (h : w.ownsRow B e k v L.length (cellsG enc L)) : GRow k enc z (fun b => B ≤ b) w v L := by
  rcases h.2 with ⟨rfl, h0⟩ | ⟨g, cap, cur, rfl, hg, hh, hn, hcm, hsz, htk⟩
  · exact ⟨none, 0, by rw [h0], Or.inl (List.eq_nil_of_length_eq_zero h0)⟩
  · have hcell : ∀ j u, j < L.length * k → (cellsG enc L)[j]? = some u → w.cell? ⟨g, j, none⟩ = some u := fun j u hj hu => by
      rw [← htk, List.getElem?_take_of_lt hj, Array.getElem?_toList] at hu
      unfold World.cell?; rw [hh]; simpa using hu
    refine ⟨_, cap, rfl, Or.inr ⟨g, 0, rfl, hg, (Array.getElem?_eq_some_iff.1 hh).1, fun i hil j u hu => ?_⟩⟩
    have hj : j < k := by have := (List.getElem?_eq_some_iff.1 hu).1; rw [hk] at this; exact this
    rw [Nat.zero_add]
    have : (i + 1) * k ≤ L.length * k := Nat.mul_le_mul_right k hil
    rw [Nat.add_mul] at this
    exact hcell _ _ (by omega) (cellsG_at hk z L i j u hil hu)
end
section
variable {P : Program} {ops : Array Oper} {Q : Exit → Act → World → Prop} {a : Act} {w : World} {rest : List Oper} {o : Oper}
/-- so many cells are read, wherever they lie -/
theorem run_load_at {T b m off : Nat} {f : Nat → Value} (hT : (isAgg T).run P w = .ok true w) (hS : (Go.sizeOf T).run P w = .ok m w)
    (hb : ∀ j, j < m → w.cell? ⟨b, off + j, none⟩ = some (f j)) : (loadVar T ⟨b, off, none⟩).run P w = .ok (.agg (row m f)) w := by
  have hl := run_loadCells (P := P) w ⟨b, off, none⟩ m f (fun j hj => by
    have : (⟨b, off, none⟩ : Addr).add j = ⟨b, off + j, none⟩ := by unfold Addr.add; split <;> simp [*]
    rw [this]; exact hb _ hj)
  unfold loadVar
  simp only [Sem.run_bind, hT, Result.andThen_ok, hS, if_true, hl]
  rfl
theorem run_op_load_at {T : TypeId} {ad : Operand} {b off m : Nat} {f : Nat → Value} (ho : o.op = .load T ad) (ha : a.eval ad = .pointer (some ⟨b, off, none⟩))
    (hT : (isAgg T).run P w = .ok true w) (hS : (Go.sizeOf T).run P w = .ok m w) (hb : ∀ j, j < m → w.cell? ⟨b, off + j, none⟩ = some (f j)) :
    (execOp a.eval o).run P w = .ok (.value (.agg (row m f))) w := by
  unfold execOp
  have := run_load_at (P := P) hT hS hb
  simp [ho, Instr.loadAt, Instr.sureAddr, ha, this]
theorem wpl_load_at {T : TypeId} (ad : Operand) (b off m : Nat) (f : Nat → Value) (hg : Region.wanted o (yielded ops a.tmps) = true) (ho : o.op = .load T ad) (ha : a.eval ad = .pointer (some ⟨b, off, none⟩))
    (hT : (isAgg T).run P w = .ok true w) (hS : (Go.sizeOf T).run P w = .ok m w) (hb : ∀ j, j < m → w.cell? ⟨b, off + j, none⟩ = some (f j))
    (hK : wpList P ops Q rest (a.put o.dst (.agg (row m f))) w) : wpList P ops Q (o :: rest) a w := by
  refine wpList_step fun K hK' => ?_
  rw [if_pos hg]
  have := hK' _ _ hK
  unfold Oper.wp
  rw [run_op_load_at ho ha hT hS hb]
  exact this
end
/-- what is laid anew lies there -/
theorem new_at (w : World) (t : TypeId) (vs : List Value) : ∀ j u, vs[j]? = some u → (w.alloc (.cells vs.toArray t)).cell? ((⟨w.heap.size, 0, none⟩ : Addr).add j) = some u := by
  intro j u hj
  rw [show (⟨w.heap.size, 0, none⟩ : Addr).add j = ⟨w.heap.size, j, none⟩ by unfold Addr.add; split <;> simp_all]
  exact cell_new w _ t j u (by simpa using hj)
theorem heap_set1 {b : Nat} {t : TypeId} {w : World} {cur : Array Value} (h : w.heap[b]? = some (.cells cur t (0, 0))) (i : Nat) (u : Value) : (w.setCell ⟨b, i, none⟩ u).heap[b]? = some (.cells (cur.setIfInBounds i u) t (0, 0)) := by
  unfold World.setCell
  simp only [Array.getElem?_modify, if_true, h, Option.map_some]
  rfl
/-- cells from o on are written -/
theorem cells_put (b : Nat) (t : TypeId) : ∀ (vs : List Value) (o : Nat) (w : World) (cur : Array Value), w.heap[b]? = some (.cells cur t (0, 0)) → o + vs.length ≤ cur.size →
    ∃ cur', (w.setCells b o vs).heap[b]? = some (.cells cur' t (0, 0)) ∧ cur'.size = cur.size ∧ (∀ j, j < o ∨ o + vs.length ≤ j → cur'[j]? = cur[j]?) ∧ ∀ j u, vs[j]? = some u → cur'[o + j]? = some u
  | [], _, _, cur, h, _ => ⟨cur, h, rfl, fun _ _ => rfl, fun j u hu => by simp at hu⟩
  | v :: r, o, w, cur, h, hs => by
    rw [List.length_cons] at hs
    obtain ⟨cur', k1, k2, k3, k4⟩ := cells_put b t r (o + 1) _ _ (heap_set1 h o v) (by simp; omega)
    refine ⟨cur', k1, by rw [k2]; simp, fun j hj => ?_, fun j u hu => ?_⟩
    · rw [List.length_cons] at hj
      rw [k3 j (by omega), Array.getElem?_setIfInBounds, if_neg (by omega)]
    · cases j with
      | zero =>
        have hu : v = u := by simpa using hu
        subst hu
        rw [Nat.add_zero, k3 o (by omega), Array.getElem?_setIfInBounds, if_pos rfl, if_pos (by omega)]
      | succ j =>
        rw [show o + (j + 1) = o + 1 + j by omega]
        exact k4 j u (by simpa using hu)
section
variable {α : Type}
/-- cells o .. of block b: n things D of k cells each, of a row with room for cap -/
structure RowR (k : Nat) (enc : α → List Value) (t : TypeId) (w : World) (b o n cap : Nat) (D : Nat → α) : Prop where
  heap : ∃ cur, w.heap[b]? = some (.cells cur t (0, 0)) ∧ cur.size = o + cap * k ∧ ∀ i, i < n → ∀ j u, (enc (D i))[j]? = some u → cur[o + i * k + j]? = some u
  room : n ≤ cap
variable {k : Nat} {enc : α → List Value} {t : TypeId} {w w' : World} {b o n cap : Nat} {D : Nat → α}
theorem RowR.lt (h : RowR k enc t w b o n cap D) : b < w.heap.size := by
  obtain ⟨cur, hh, _⟩ := h.heap
  exact (Array.getElem?_eq_some_iff.1 hh).1
theorem RowR.get (h : RowR k enc t w b o n cap D) (i : Nat) (hi : i < n) (j : Nat) (u : Value) (hu : (enc (D i))[j]? = some u) : w.cell? ⟨b, o + i * k + j, none⟩ = some u := by
  obtain ⟨cur, hh, _, hc⟩ := h.heap
  unfold World.cell?
  rw [hh]
  simpa using hc i hi j u hu
theorem RowR.frz (h : RowR k enc t w b o n cap D) (i : Nat) : w.frozen? ⟨b, i, none⟩ = false := by
  obtain ⟨cur, hh, _⟩ := h.heap
  unfold World.frozen?; rw [hh]; simp
theorem RowR.on (h : RowR k enc t w b o n cap D) (e : w'.heap[b]? = w.heap[b]?) : RowR k enc t w' b o n cap D := by
  obtain ⟨cur, hh, r⟩ := h.heap
  exact ⟨⟨cur, e.trans hh, r⟩, h.room⟩
theorem RowR.congr (h : RowR k enc t w b o n cap D) (E : Nat → α) (he : ∀ i, i < n → D i = E i) : RowR k enc t w b o n cap E := by
  obtain ⟨cur, hh, hs, hc⟩ := h.heap
  exact ⟨⟨cur, hh, hs, fun i hi => he i hi ▸ hc i hi⟩, h.room⟩
theorem mul_step {i j k : Nat} (h : i < j) : i * k + k ≤ j * k := by
  have : (i + 1) * k ≤ j * k := Nat.mul_le_mul_right k h
  rwa [Nat.add_mul, Nat.one_mul] at this
theorem RowR.set (hk : ∀ x, (enc x).length = k) (h : RowR k enc t w b o n cap D) (i : Nat) (hi : i < n) (r : α) : RowR k enc t (w.setCells b (o + i * k) (enc r)) b o n cap (put D i r) := by
  obtain ⟨cur, hh, hs, hc⟩ := h.heap
  have h1 := mul_step (k := k) (Nat.lt_of_lt_of_le hi h.room)
  obtain ⟨cur', k1, k2, k3, k4⟩ := cells_put b t (enc r) (o + i * k) w cur hh (by rw [hk, hs]; omega)
  refine ⟨⟨cur', k1, by rw [k2, hs], fun m hm j u hu => ?_⟩, h.room⟩
  by_cases e : m = i
  · subst e
    rw [put_same] at hu
    exact k4 j u hu
  · rw [put_other _ _ e] at hu
    have hj : j < k := by have := (List.getElem?_eq_some_iff.1 hu).1; rwa [hk] at this
    rw [k3 _ ?_]
    · exact hc m hm j u hu
    · rw [hk]
      rcases Nat.lt_or_ge m i with g | g
      · have := mul_step (k := k) g; omega
      · have := mul_step (k := k) (show i < m by omega); omega
/-- what lies ahead stays where cells behind it are written -/
theorem RowR.past (hk : ∀ x, (enc x).length = k) (h : RowR k enc t w b o n cap D) (i : Nat) (hi : i ≤ n) (vs : List Value) : RowR k enc t (w.setCells b (o + i * k) vs) b o i cap D := by
  obtain ⟨cur, hh, hs, hc⟩ := h.heap
  obtain ⟨cur', h1, h2, h3⟩ := cells_past b t vs (o + i * k) w cur hh
  refine ⟨⟨cur', h1, by rw [h2, hs], fun m hm j u hu => ?_⟩, Nat.le_trans hi h.room⟩
  have hj : j < k := by have := (List.getElem?_eq_some_iff.1 hu).1; rwa [hk] at this
  have := mul_step (k := k) hm
  exact (h3 _ (by omega)).trans (hc m (by omega) j u hu)
theorem RowR.some (hk : ∀ x, (enc x).length = k) (h : RowR k enc t w b o n cap D) (j : Nat) (hj : j < n * k) : (w.cell? ⟨b, o + j, none⟩).isSome = true ∧ w.frozen? ⟨b, o + j, none⟩ = false := by
  refine ⟨?_, h.frz _⟩
  have k0 : 0 < k := by
    rcases Nat.eq_zero_or_pos k with e | e
    · subst e; omega
    · exact e
  have hm : j % k < k := Nat.mod_lt j k0
  have hd : j / k < n := Nat.div_lt_of_lt_mul (by rw [Nat.mul_comm]; exact hj)
  have hl : j % k < (enc (D (j / k))).length := by rw [hk]; exact hm
  have hj2 : j / k * k + j % k = j := by rw [Nat.mul_comm]; exact Nat.div_add_mod j k
  rw [show o + j = o + j / k * k + j % k by omega, h.get _ hd _ _ (List.getElem?_eq_getElem hl)]
  rfl
/-- a row of one's own, read as such -/
theorem rowr_of_own (hk : ∀ x, (enc x).length = k) (z : α) {B q cap : Nat} {W : List α} (h : w.ownsRow B t k (.slice (some ⟨q, 0, none⟩) W.length cap) W.length (cellsG enc W)) : RowR k enc t w q 0 W.length cap (fun i => W.getD i z) := by
  rcases h.2 with ⟨h0, _⟩ | ⟨g, c, cur, e, _, hh, hn, _, hsz, htk⟩
  · cases h0
  · injection e with e1 _ e3
    injection e1 with e1
    injection e1 with e1 _ _
    subst e1 e3
    refine ⟨⟨cur, hh, by rw [hsz]; omega, fun i hi j u hu => ?_⟩, hn⟩
    have h1 := cellsG_at hk z W i j u hi hu
    have hj : j < k := by have := (List.getElem?_eq_some_iff.1 hu).1; rwa [hk] at this
    have := mul_step (k := k) hi
    rw [← htk, List.getElem?_take_of_lt (by omega)] at h1
    rw [Nat.zero_add]
    simpa using h1
theorem own_of_rowr (hk : ∀ x, (enc x).length = k) (z : α) {B q cap : Nat} {W : List α} (h : RowR k enc t w q 0 W.length cap (fun i => W.getD i z)) (hB : B ≤ q) (hcap : cap ≤ maxLen) : w.ownsRow B t k (.slice (some ⟨q, 0, none⟩) W.length cap) W.length (cellsG enc W) := by
  obtain ⟨cur, hh, hs, hc⟩ := h.heap
  refine ⟨cellsG_len hk W, Or.inr ⟨q, cap, cur, rfl, hB, hh, h.room, hcap, by rw [hs]; omega, ?_⟩⟩
  apply List.ext_getElem?
  intro m
  by_cases hm : m < W.length * k
  · have hl : m < (cellsG enc W).length := by rw [cellsG_len hk]; exact hm
    obtain ⟨i, j, hi, e, hu⟩ := cellsG_of hk z W m _ (List.getElem?_eq_getElem hl)
    have h1 := hc i hi j _ hu
    rw [Nat.zero_add, ← e] at h1
    rw [List.getElem?_take_of_lt hm, Array.getElem?_toList, h1, List.getElem?_eq_getElem hl]
  · rw [List.getElem?_take_eq_none (by omega), List.getElem?_eq_none (by rw [cellsG_len hk]; omega)]
/-- what stays of the first j -/
def delG (W : List α) (p : α → Bool) (j : Nat) : List α := (W.take j).filter fun r => !p r
theorem delG_succ (z : α) (W : List α) (p : α → Bool) (j : Nat) (hj : j < W.length) : delG W p (j + 1) = if p (W.getD j z) = true then delG W p j else delG W p j ++ [W.getD j z] := by
  unfold delG
  rw [List.take_add_one, List.getD_eq_getElem?_getD, List.getElem?_eq_getElem hj, List.filter_append]
  simp only [Option.toList_some, Option.getD_some]
  cases h : p W[j] <;> simp [h]
theorem delG_le (W : List α) (p : α → Bool) (j : Nat) : (delG W p j).length ≤ j := by
  have := List.length_filter_le (fun r => !p r) (W.take j)
  rw [List.length_take] at this
  unfold delG; omega
theorem delG_all (W : List α) (p : α → Bool) : delG W p W.length = W.filter fun r => !p r := by unfold delG; rw [List.take_length]
/-- the row, behind the first j -/
def delF (z : α) (W : List α) (p : α → Bool) (j i : Nat) : α := if i < (delG W p j).length then (delG W p j).getD i z else W.getD i z
theorem delG_skip (z : α) (W : List α) (p : α → Bool) (j : Nat) (hj : j < W.length) (h : p (W.getD j z) = true) : delG W p (j + 1) = delG W p j := by rw [delG_succ z W p j hj, if_pos h]
theorem delF_put (z : α) (W : List α) (p : α → Bool) (j : Nat) (hj : j < W.length) (h : p (W.getD j z) = false) (i : Nat) : put (delF z W p j) (delG W p j).length (W.getD j z) i = delF z W p (j + 1) i := by
  have e : delG W p (j + 1) = delG W p j ++ [W.getD j z] := by rw [delG_succ z W p j hj, if_neg (by rw [h]; decide)]
  show (if i = (delG W p j).length then W.getD j z else delF z W p j i) = delF z W p (j + 1) i
  unfold delF
  rw [e, List.length_append, List.length_singleton]
  by_cases h1 : i = (delG W p j).length
  · subst h1
    rw [if_pos rfl, if_pos (by omega)]
    simp [List.getD]
  · rw [if_neg h1]
    by_cases h2 : i < (delG W p j).length
    · rw [if_pos h2, if_pos (by omega)]
      simp [List.getD, List.getElem?_append_left h2]
    · rw [if_neg h2, if_neg (by omega)]
theorem delG_lt (z : α) (W : List α) (p : α → Bool) (i : Nat) (hi : i < W.length) (h : p (W.getD i z) = true) : ∀ j, i < j → j ≤ W.length → (delG W p j).length < j
  | 0, h0, _ => by omega
  | j + 1, h0, hl => by
    by_cases e : j = i
    · subst e; rw [delG_skip z W p j hi h]; have := delG_le W p j; omega
    · have := delG_lt z W p i hi h j (by omega) (by omega)
      rw [delG_succ z W p j (by omega)]
      split
      · omega
      · rw [List.length_append, List.length_singleton]; omega
theorem delG_none (z : α) (W : List α) (p : α → Bool) (i : Nat) (hi : i ≤ W.length) (h : ∀ j, j < i → p (W.getD j z) = false) : delG W p i = W.take i := by
  unfold delG
  rw [List.filter_eq_self]
  intro r hr
  obtain ⟨j, hj, rfl⟩ := List.getElem_of_mem hr
  rw [List.length_take] at hj
  have := h j (by omega)
  rw [List.getD_eq_getElem?_getD, List.getElem?_eq_getElem (by omega)] at this
  rw [List.getElem_take]
  simpa using this
/-- the first one that goes -/
theorem idxG_first (z : α) (W : List α) (p : α → Bool) : (idxI W p = -1 ∧ (W.filter fun r => !p r) = W) ∨ ∃ i : Nat, idxI W p = (i : Int) ∧ i < W.length ∧ p (W.getD i z) = true ∧ ∀ j, j < i → p (W.getD j z) = false := by
  unfold idxI
  cases h : W.findIdx? p with
  | none =>
    refine Or.inl ⟨rfl, ?_⟩
    have := List.findIdx?_eq_none_iff.1 h
    rw [List.filter_eq_self]
    exact fun r hr => by simp [this r hr]
  | some i =>
    obtain ⟨h1, h2, h3⟩ := List.findIdx?_eq_some_iff_getElem.1 h
    refine Or.inr ⟨i, rfl, h1, ?_, fun j hj => ?_⟩
    · rw [List.getD_eq_getElem?_getD, List.getElem?_eq_getElem h1]; exact h2
    · rw [List.getD_eq_getElem?_getD, List.getElem?_eq_getElem (by omega)]; simpa using h3 j hj
end
end QU
end
section
open Go Go.RowKit
namespace QU
open FF WW BB
/-- a message's fields, its four slices -/
structure Mg where
  k : Int
  fr : Int
  node : Int
  v : Int
  h : ByteArray
  x : BlockD
  c : CertD
  s : Int × List ByteArray
  r : Int × Int × ByteArray
  ix : Int
  tg : ByteArray
  s9 : Value
  r10 : Value
  s13 : Value
  t15 : Value
def mg0 : Mg := ⟨0, 0, 0, 0, ⟨#[]⟩, (((0, 0), ((0, ⟨#[]⟩), [])), []), ((0, ⟨#[]⟩), []), (0, []), (0, 0, ⟨#[]⟩), 0, ⟨#[]⟩, .slice none 0 0, .slice none 0 0, .slice none 0 0, .slice none 0 0⟩
def Mg.B (m : Mg) : ByteArray := msgB m.k m.fr m.node m.v m.h m.x m.c m.s m.r m.ix m.tg
def Mg.few (m : Mg) : Bool := fewMsg m.h m.tg m.x m.c m.s m.r
def Mg.right (m : Mg) : Bool := rightMsg m.k m.fr m.node m.v m.h m.x m.c m.s m.r m.ix m.tg
end QU
namespace Go.Proofs.YthajnkcipifhcaaGreatDoor
open QU FF WW BB
def MgAt (w : World) (f : Nat → Value) (m : Mg) : Prop := MsgAt w f m.k m.fr m.node m.v m.h m.x m.c m.s m.r m.ix m.tg m.s9 m.r10 m.s13 m.t15
end Go.Proofs.YthajnkcipifhcaaGreatDoor
end
section
open Go Go.RowKit
namespace IN
open FF BB
/-- the block, and what its other cells hold -/
structure Sp where
  b : Nat
  R : Nat → Value
instance spotBlock : Coe Sp Nat := ⟨Sp.b⟩
def sub (o k : Nat) (R f : Nat → Value) : Nat → Value := fun i => if o ≤ i ∧ i < o + k then f (i - o) else R i
/-- k cells from o on of the block p hold f -/
structure SBlk (w : World) (p : Sp) (o k : Nat) (f : Nat → Value) : Prop where
  tb : TBlk 98 w p.b 39 (sub o k p.R f)
  le : o + k ≤ 39
section
variable {w w' : World} {p : Sp} {o k : Nat} {f : Nat → Value}
theorem SBlk.lt (h : SBlk w p o k f) : p.b < w.heap.size := h.tb.lt
theorem SBlk.blk (h : SBlk w p o k f) : SBlk w p o k f := h
theorem SBlk.typ (h : SBlk w p o k f) : w.heap[p.b]? = some (.cells (row 39 (sub o k p.R f)) 98 (0, 0)) := h.tb
theorem SBlk.get (h : SBlk w p o k f) (i : Nat) (hi : i < k) : w.cell? ⟨p.b, o + i, none⟩ = some (f i) := by
  have h1 := h.tb.blk.get (o + i) (by have := h.le; omega)
  rw [h1]
  unfold sub
  rw [if_pos ⟨by omega, by omega⟩]
  congr 2; omega
theorem SBlk.frz (h : SBlk w p o k f) (i : Nat) : w.frozen? ⟨p.b, i, none⟩ = false := h.tb.blk.frz i
theorem SBlk.of_heap (h : SBlk w p o k f) (e : w'.heap[p.b]? = w.heap[p.b]?) : SBlk w' p o k f := ⟨e.trans h.tb, h.le⟩
theorem SBlk.same (h : SBlk w p o k f) (hs : Same w w') : SBlk w' p o k f := h.of_heap (by rw [hs.heap])
theorem SBlk.below {B : Nat} (h : SBlk w p o k f) (hs : Below B w w') (hb : p.b < B) : SBlk w' p o k f := h.of_heap (hs.block p.b hb)
theorem SBlk.alloc (h : SBlk w p o k f) (x : Obj) : SBlk (w.alloc x) p o k f := h.of_heap (Below.heap_alloc _ _ _ h.lt)
theorem SBlk.upd {c : Nat} (h : SBlk w p o k f) (hu : Upd c w w') (hb : p.b ≠ c) : SBlk w' p o k f := h.of_heap (hu.block p.b hb)
theorem SBlk.set_other (h : SBlk w p o k f) (a : Addr) (u : Value) (hb : p.b ≠ a.block) : SBlk (w.setCell a u) p o k f := h.of_heap (Below.heap_setCell w a u p.b hb)
theorem SBlk.congr (h : SBlk w p o k f) (g : Nat → Value) (e : ∀ i, i < k → f i = g i) : SBlk w p o k g := by
  refine ⟨h.tb.congr _ fun i _ => ?_, h.le⟩
  unfold sub
  by_cases hc : o ≤ i ∧ i < o + k
  · rw [if_pos hc, if_pos hc]; exact e _ (by omega)
  · rw [if_neg hc, if_neg hc]
theorem SBlk.set (h : SBlk w p o k f) (i : Nat) (u : Value) (hi : i < k := by omega) : SBlk (w.setCell ⟨p.b, o + i, none⟩ u) p o k (put f i u) := by
  refine ⟨(h.tb.set (o + i) u).congr _ fun j _ => ?_, h.le⟩
  show (if j = o + i then u else if o ≤ j ∧ j < o + k then f (j - o) else p.R j) = if o ≤ j ∧ j < o + k then (if j - o = i then u else f (j - o)) else p.R j
  by_cases hc : o ≤ j ∧ j < o + k
  · rw [if_pos hc, if_pos hc]
    by_cases he : j = o + i
    · rw [if_pos he, if_pos (by omega)]
    · rw [if_neg he, if_neg (by omega)]
  · rw [if_neg hc, if_neg hc, if_neg (by omega)]
end
theorem scells2 {w : World} {p : Sp} {o : Nat} {x y : Value} (h : SBlk w p o 2 (rowL [x, y])) (o1 : Nat) (h1 : o + 1 = o1) : w.cell? ⟨p.b, o, none⟩ = some x ∧ w.cell? ⟨p.b, o1, none⟩ = some y := by
  subst h1; exact ⟨h.get 0 (by omega), h.get 1 (by omega)⟩
theorem scells3 {w : World} {p : Sp} {o : Nat} {x y z : Value} (h : SBlk w p o 3 (rowL [x, y, z])) (o1 o2 : Nat) (h1 : o + 1 = o1) (h2 : o + 2 = o2) : w.cell? ⟨p.b, o, none⟩ = some x ∧ w.cell? ⟨p.b, o1, none⟩ = some y ∧ w.cell? ⟨p.b, o2, none⟩ = some z := by
  subst h1 h2; exact ⟨h.get 0 (by omega), h.get 1 (by omega), h.get 2 (by omega)⟩
theorem scells4 {w : World} {p : Sp} {o : Nat} {x y z u : Value} (h : SBlk w p o 4 (rowL [x, y, z, u])) (o1 o2 o3 : Nat) (h1 : o + 1 = o1) (h2 : o + 2 = o2) (h3 : o + 3 = o3) : w.cell? ⟨p.b, o, none⟩ = some x ∧ w.cell? ⟨p.b, o1, none⟩ = some y ∧ w.cell? ⟨p.b, o2, none⟩ = some z ∧ w.cell? ⟨p.b, o3, none⟩ = some u := by
  subst h1 h2 h3; exact ⟨h.get 0 (by omega), h.get 1 (by omega), h.get 2 (by omega), h.get 3 (by omega)⟩
theorem srset3 {w : World} {p : Sp} {o : Nat} {f : Nat → Value} (h : SBlk w p o 3 f) (u0 u1 u2 : Value) (o1 o2 : Nat) (h1 : o + 1 = o1) (h2 : o + 2 = o2) :
    SBlk (((w.setCell ⟨p.b, o, none⟩ u0).setCell ⟨p.b, o1, none⟩ u1).setCell ⟨p.b, o2, none⟩ u2) p o 3 (rowL [u0, u1, u2]) ∧ Upd p.b w (((w.setCell ⟨p.b, o, none⟩ u0).setCell ⟨p.b, o1, none⟩ u1).setCell ⟨p.b, o2, none⟩ u2) := by
  subst h1 h2
  refine ⟨(((h.set 0 u0).set 1 u1).set 2 u2).congr _ fun i hi => ?_, (((Upd.refl p.b w).trans (Upd.set _ _ _ _)).trans (Upd.set _ _ _ _)).trans (Upd.set _ _ _ _)⟩
  match i, hi with
  | 0, _ => rfl
  | 1, _ => rfl
  | 2, _ => rfl
/-- the block whole: k of its cells as they are -/
theorem SBlk.of {w : World} {x : Nat} {F : Nat → Value} (h : TBlk 98 w x 39 F) (o k : Nat) (f : Nat → Value) (hk : o + k ≤ 39) (e : ∀ i, i < k → F (o + i) = f i) : SBlk w ⟨x, F⟩ o k f := by
  refine ⟨h.congr _ fun i _ => ?_, hk⟩
  unfold sub
  by_cases hc : o ≤ i ∧ i < o + k
  · rw [if_pos hc, ← e (i - o) (by omega)]; congr 1; omega
  · rw [if_neg hc]
end IN
end
section
open Go Go.RowKit
namespace TI
open IN RR FF WW BB
/-- it behind a call -/
def Next15I (At : (Nat → Prop) → World → Sp → Tim → Prop) (O : Nat → Prop) (w : World) (g : Sp) (t : Tim) (w' : World) : Prop :=
  ∃ O', At O' w' g t ∧ Keeps (fun b => ¬ O b) w w' ∧ ∀ b, O' b → O b ∨ w.heap.size ≤ b
end TI
namespace TI
open IN RR FF WW BB
def At15I (O : Nat → Prop) (w : World) (g : Sp) (t : Tim) : Prop := SBlk w g 26 3 (rowL (timL t)) ∧ ∀ b, O b ↔ b = g.b
theorem at15_keepI {O : Nat → Prop} {w w' : World} {g : Sp} {t : Tim} (h : At15I O w g t) (hk : Keeps O w w') : At15I O w' g t :=
  ⟨h.1.of_heap (hk.block g.b ((h.2 g).2 rfl) h.1.lt), h.2⟩
theorem at15_ltI {O : Nat → Prop} {w : World} {g : Sp} {t : Tim} (h : At15I O w g t) : ∀ b, O b → b < w.heap.size := fun b hb => by
  rw [(h.2 b).1 hb]; exact h.1.lt
theorem at15_sameI {O : Nat → Prop} {w w' : World} {g : Sp} {t : Tim} (h : At15I O w g t) (hb : Below w.heap.size w w') : Next15I At15I O w g t w' :=
  ⟨O, at15_keepI h (Keeps.of hb), Keeps.of hb, fun _ => Or.inl⟩
theorem at15_riseI {O : Nat → Prop} {w w2 w' : World} {g : Sp} {t t' : Tim} (h : At15I O w g t) (hb : Below w.heap.size w w2) (hB : SBlk w' g 26 3 (rowL (timL t'))) (hu : Upd g.b w2 w') : Next15I At15I O w g t' w' :=
  ⟨O, ⟨hB, h.2⟩, (Keeps.of hb).trans (Keeps.upd hu fun b hb e => hb ((h.2 b).2 e)), fun _ => Or.inl⟩
theorem Next15I.after {O : Nat → Prop} {w w1 w' : World} {g : Sp} {t : Tim} (h : Next15I At15I O w1 g t w') (hb : Keeps (fun b => ¬ O b) w w1) : Next15I At15I O w g t w' := by
  obtain ⟨O', h1, h2, h3⟩ := h
  exact ⟨O', h1, hb.trans h2, fun b hO => (h3 b hO).imp_right (Nat.le_trans hb.b0.size)⟩
end TI
namespace Go.Proofs.YthajnkcipifhcaaGreatDoor
open IN TI RR FF WW BB
set_option maxRecDepth 100000 in
set_option maxHeartbeats 1000000 in
theorem view15I (O : Nat → Prop) (w : World) (g : Sp) (t : Tim) (h : At15I O w g t) (hi : 1 ≤ t.1 ∧ t.1 ≤ 1000001) : Calls Tryz.prog 42 #[.pointer (some ⟨g.b, 26, none⟩)] w fun e w' => e = .returned (.int .i64 t.1) ∧ Below w.heap.size w w' := by
  obtain ⟨a, b, c⟩ := t
  obtain ⟨c0, c1, c2⟩ := scells3 (h.1) 27 28 rfl rfl
  have hi' : 1 ≤ a ∧ a ≤ 1000001 := hi
  have hw : IntKind.i64.wrap (a - 1 + 1) = a := by rw [IntKind.wrap_i64]; omega
  clear hi
  simp only at c0 c1 c2
  go_enter Tryz.func42, Tryz.ntmps42
  go_wp2_with fail
  go_ret
  exact ⟨rfl, Below.refl _ _⟩
set_option maxRecDepth 100000 in
set_option maxHeartbeats 1000000 in
theorem halted15I (O : Nat → Prop) (w : World) (g : Sp) (t : Tim) (h : At15I O w g t) (hi : 1 ≤ t.1 ∧ t.1 ≤ 1000001) : Calls Tryz.prog 100 #[.pointer (some ⟨g.b, 26, none⟩)] w fun e w' => e = .returned (.bool (decide (1000000 < t.1))) ∧ Below w.heap.size w w' := by
  have hd : (t.1 == 1000001) = decide (1000000 < t.1) := by
    have := hi.2
    by_cases hc : t.1 = 1000001
    · rw [decide_eq_true (by omega), beq_iff_eq]; exact hc
    · rw [decide_eq_false (by omega), beq_eq_false_iff_ne]; exact hc
  go_enter Tryz.func100, Tryz.ntmps100
  go_wp2_with fail
  refine (view15I O w g t h hi).mono ?_
  rintro e w1 ⟨rfl, hb⟩
  have HB := Lib.hid hb
  have HD := Lib.hid hd
  clear hb h hi hd
  go_wp2_with fail
  go_ret
  exact ⟨by rw [← HD.out]; rfl, HB.out⟩
set_option maxRecDepth 100000 in
set_option maxHeartbeats 4000000 in
theorem left15I (O : Nat → Prop) (w : World) (g : Sp) (t : Tim) (h : At15I O w g t) (hi : -9223372036854775808 ≤ t.2.1 ∧ t.2.1 ≤ 9223372036854775807) (hc : 0 ≤ t.2.2 ∧ t.2.2 ≤ 16) : Calls Tryz.prog 101 #[.pointer (some ⟨g.b, 26, none⟩)] w fun e w' => e = .returned (.int .i64 t.2.2) ∧ Below w.heap.size w w' := by
  obtain ⟨a, b, c⟩ := t
  have H1 := Lib.hid (show SBlk w g 26 3 (rowL [.int .i64 (a - 1), .int .i64 b, .int .i64 (spanF b - c)]) from h.1)
  have hw : IntKind.i64.wrap (spanF b - (spanF b - c)) = c := by
    have := span_bound b
    have h1 : 0 ≤ c ∧ c ≤ 16 := hc
    rw [IntKind.wrap_i64]; omega
  have hb1 : -9223372036854775808 ≤ b ∧ b ≤ 9223372036854775807 := hi
  have HB1 := Lib.hid hb1
  clear h hi hc hb1
  go_enter Tryz.func101, Tryz.ntmps101
  go_upto_region 1 with fail
  refine plan_abs (fun wx => Below w.heap.size w wx ∧ SBlk wx g 26 3 (rowL [.int .i64 (a - 1), .int .i64 b, .int .i64 (spanF b - c)])) [(true, 0), (true, 1), (true, 2), (true, 3), (true, 5), (true, 6), (true, 7), (true, 8), (false, 4), (true, 9), (true, 10)] (by kernel_rfl) (by kernel_rfl) (fun _ _ d _ _ h => by cases d <;> exact h) fun w5 hs5 => ⟨⟨hs5.below _, H1.out.same hs5⟩, ?_⟩
  have B5 := Lib.hid (hs5.below w.heap.size)
  have R5 := Lib.hid (H1.out.same hs5)
  clear hs5
  iterate 8 (refine pl_run _ ?_ rfl rfl ?_ ?_; rotate_left; (focus (intro w' hS; obtain ⟨c0, c1, c2⟩ := scells3 (hS.2) 27 28 rfl rfl; go_simp; exact rfl)); simp only [Act.put, List.setIfInBounds_toArray, List.set_cons_zero, List.set_cons_succ, List.getElem_toArray, List.getElem_cons_zero, List.getElem_cons_succ])
  refine pl_call1 _ rfl rfl (by go_simp) (span15 w5 b HB1.out) (fun w9 hb => ⟨B5.out.trans (hb.mono B5.out.size), R5.out.below hb R5.out.lt⟩) fun w6 hb6 => ?_
  have B6 := Lib.hid (B5.out.trans (hb6.mono B5.out.size))
  clear hb6
  simp only [Act.put, List.setIfInBounds_toArray, List.set_cons_zero, List.set_cons_succ, List.getElem_toArray, List.getElem_cons_zero, List.getElem_cons_succ]
  iterate 1 (refine pl_run _ ?_ rfl rfl ?_ ?_; rotate_left; (focus (intro w' hS; go_simp; exact rfl)); simp only [Act.put, List.setIfInBounds_toArray, List.set_cons_zero, List.set_cons_succ, List.getElem_toArray, List.getElem_cons_zero, List.getElem_cons_succ])
  iterate 1 (refine pl_run _ ?_ rfl rfl ?_ ?_; rotate_left; (focus (intro w' hS; go_simp; exact rfl)); simp only [Act.put, List.setIfInBounds_toArray, List.set_cons_zero, List.set_cons_succ, List.getElem_toArray, List.getElem_cons_zero, List.getElem_cons_succ])
  refine pl_end ?_
  go_wp2_with fail
  go_ret
  exact ⟨rfl, B6.out⟩
set_option maxRecDepth 100000 in
set_option maxHeartbeats 4000000 in
theorem rise15I (O : Nat → Prop) (w : World) (g : Sp) (t : Tim) (v k : Int) (h : At15I O w g t) (hi : 1 ≤ t.1 ∧ t.1 ≤ 1000001) : Calls Tryz.prog 102 #[.pointer (some ⟨g.b, 26, none⟩), .int .i64 v, .int .i64 k] w fun e w' => e = .returned (.bool (riseT t v k).2) ∧ Next15I At15I O w g (riseT t v k).1 w' := by
  have H0 := Lib.hid h
  have HI := Lib.hid hi
  clear h hi
  go_enter Tryz.func102, Tryz.ntmps102
  go_wp2_with fail
  refine (halted15I O w g t H0.out HI.out).mono ?_
  rintro e w1 ⟨rfl, hb1⟩
  have B1 := Lib.hid hb1
  have H1 := Lib.hid (at15_keepI H0.out (Keeps.of hb1))
  clear hb1
  by_cases h0 : t.1 = 1000001
  · have d0 : decide (1000000 < t.1) = true := decide_eq_true (by omega)
    have HE := Lib.hid (show riseT t v k = (t, false) by unfold riseT; rw [if_pos h0])
    clear h0
    go_wp2_with fail
    go_ret
    exact ⟨by rw [HE.out]; rfl, by rw [HE.out]; exact at15_sameI H0.out B1.out⟩
  · have d0 : decide (1000000 < t.1) = false := decide_eq_false (by have := HI.out.2; omega)
    have H00 := Lib.hid h0
    clear h0
    go_wp2_with fail
    refine (view15I O w1 g t H1.out HI.out).mono ?_
    rintro e w2 ⟨rfl, hb2⟩
    have K2 := Lib.hid (at15_keepI H1.out (Keeps.of hb2))
    have B2 := Lib.hid (B1.out.trans (hb2.mono B1.out.size))
    clear hb2
    by_cases hv : v ≤ t.1
    · have dv : decide (v ≤ t.1) = true := decide_eq_true hv
      have HE := Lib.hid (show riseT t v k = (t, false) by unfold riseT; rw [if_neg H00.out, if_pos hv])
      clear hv
      go_wp2_with fail
      go_ret
      exact ⟨by rw [HE.out]; rfl, by rw [HE.out]; exact at15_sameI H0.out B2.out⟩
    · have dv : decide (v ≤ t.1) = false := decide_eq_false hv
      have HE := Lib.hid (show riseT t v k = ((min v 1000001, k, spanF k), true) by unfold riseT; rw [if_neg H00.out, if_neg hv])
      have hw : IntKind.i64.wrap (min v 1000001 - 1) = min v 1000001 - 1 := by have := HI.out.1; rw [IntKind.wrap_i64]; omega
      clear hv
      obtain ⟨c0, c1, c2⟩ := scells3 (K2.out.1) 27 28 rfl rfl
      have z0 := K2.out.1.frz 26
      have z1 := K2.out.1.frz 27
      have z2 := K2.out.1.frz 28
      go_wp2_with fail
      go_ret
      obtain ⟨xi, ui⟩ := srset3 K2.out.1 (.int .i64 (min v 1000001 - 1)) (.int .i64 k) (.int .i64 0) 27 28 rfl rfl
      refine ⟨by rw [HE.out]; rfl, ?_⟩
      rw [HE.out]
      refine at15_riseI H0.out B2.out ?_ ui
      show SBlk _ g 26 3 (rowL [.int .i64 (min v 1000001 - 1), .int .i64 k, .int .i64 (spanF k - spanF k)])
      rw [Int.sub_self]
      exact xi
set_option maxRecDepth 100000 in
set_option maxHeartbeats 1000000 in
theorem enter15I (O : Nat → Prop) (w : World) (g : Sp) (t : Tim) (v : Int) (h : At15I O w g t) (hi : 1 ≤ t.1 ∧ t.1 ≤ 1000001) : Calls Tryz.prog 141 #[.pointer (some ⟨g.b, 26, none⟩), .int .i64 v] w fun e w' => e = .returned (.bool (enterT t v).2) ∧ Next15I At15I O w g (enterT t v).1 w' := by
  have he : riseT t v 0 = enterT t v := rfl
  have H := rise15I O w g t v 0 h hi
  rw [he] at H
  have HH := Lib.hid H
  clear H he h hi
  go_enter Tryz.func141, Tryz.ntmps141
  go_wp2_with fail
  refine HH.out.mono ?_
  rintro e w1 ⟨rfl, hn⟩
  have HN := Lib.hid hn
  clear hn
  go_wp2_with fail
  go_ret
  exact ⟨rfl, HN.out⟩
set_option maxRecDepth 100000 in
set_option maxHeartbeats 4000000 in
theorem tick15I (O : Nat → Prop) (w : World) (g : Sp) (t : Tim) (h : At15I O w g t) (hi : InvT t) : Calls Tryz.prog 47 #[.pointer (some ⟨g.b, 26, none⟩)] w fun e w' => e = .returned (.bool (tickT t).2) ∧ Next15I At15I O w g (tickT t).1 w' := by
  obtain ⟨a, b, c⟩ := t
  have H0 := Lib.hid h
  have HI := Lib.hid (show 1 ≤ a ∧ a ≤ 1000001 ∧ 0 ≤ b ∧ b < a ∧ 1 ≤ c ∧ c ≤ 16 from hi)
  have HS := Lib.hid (span_bound b)
  clear h hi
  go_enter Tryz.func47, Tryz.ntmps47
  go_wp2_with fail
  refine (halted15I O w g (a, b, c) H0.out ⟨HI.out.1, HI.out.2.1⟩).mono ?_
  rintro e w1 ⟨rfl, hb1⟩
  have B1 := Lib.hid hb1
  have H1 := Lib.hid (at15_keepI H0.out (Keeps.of hb1))
  clear hb1
  by_cases h0 : a = 1000001
  · have d0 : decide (1000000 < a) = true := decide_eq_true (by omega)
    have HE := Lib.hid (show tickT (a, b, c) = ((a, b, c), false) by unfold tickT; rw [if_pos h0])
    clear h0
    go_wp2_with fail
    go_ret
    exact ⟨by rw [HE.out]; rfl, by rw [HE.out]; exact at15_sameI H0.out B1.out⟩
  · have d0 : decide (1000000 < a) = false := decide_eq_false (by have := HI.out.2.1; omega)
    have H00 := Lib.hid h0
    have hw : IntKind.i64.wrap (spanF b - c + 1) = spanF b - c + 1 := by have := HI.out; have := HS.out; rw [IntKind.wrap_i64]; omega
    obtain ⟨c0, c1, c2⟩ := scells3 (H1.out.1) 27 28 rfl rfl
    have z2 := H1.out.1.frz 28
    clear h0
    go_upto_region 4 with fail
    have U2 := Lib.hid (Upd.set w1 g.b 28 (.int .i64 (spanF b - c + 1)))
    have R2 := Lib.hid (show SBlk (w1.setCell ⟨g.b, 28, none⟩ (.int .i64 (spanF b - c + 1))) g 26 3 (rowL (timL (a, b, c - 1))) from (H1.out.1.set 2 _).congr _ fun i hi => by
      match i, hi with
      | 0, _ => rfl
      | 1, _ => rfl
      | 2, _ => show Value.int .i64 (spanF b - c + 1) = .int .i64 (spanF b - (c - 1)); rw [show spanF b - (c - 1) = spanF b - c + 1 by omega])
    generalize hw2 : w1.setCell ⟨g.b, 28, none⟩ (.int .i64 (spanF b - c + 1)) = w2 at U2 R2 ⊢
    have K2 := Lib.hid (show Next15I At15I O w g (a, b, c - 1) w2 from at15_riseI H0.out B1.out R2.out U2.out)
    have A2 := Lib.hid (show At15I O w2 g (a, b, c - 1) from ⟨R2.out, H0.out.2⟩)
    clear hw2 c0 c1 c2 z2 hw
    go_wp2_with fail
    refine (left15I O w2 g (a, b, c - 1) A2.out (by have := HI.out; show -9223372036854775808 ≤ b ∧ b ≤ 9223372036854775807; omega) (by have := HI.out; show 0 ≤ c - 1 ∧ c - 1 ≤ 16; omega)).mono ?_
    rintro e w3 ⟨rfl, hb3⟩
    have A3 := Lib.hid (at15_keepI A2.out (Keeps.of hb3))
    have N3 := Lib.hid (Next15I.after (at15_sameI A3.out (Below.refl _ _)) (K2.out.choose_spec.2.1.trans (Keeps.of hb3)))
    have Q3 := Lib.hid (K2.out.choose_spec.2.1.trans (Keeps.of hb3))
    clear hb3
    by_cases hc : 1 < c
    · have dc : decide (1 < c) = true := decide_eq_true hc
      have HE := Lib.hid (show tickT (a, b, c) = ((a, b, c - 1), false) by unfold tickT; rw [if_neg H00.out, if_pos hc])
      clear hc
      go_wp2_with fail
      go_ret
      exact ⟨by rw [HE.out]; rfl, by rw [HE.out]; exact N3.out⟩
    · have dc : decide (1 < c) = false := decide_eq_false hc
      have HE := Lib.hid (show tickT (a, b, c) = riseT (a, b, c - 1) (a + 1) (b + 1) by
        unfold tickT riseT
        have := HI.out
        have := H00.out
        rw [if_neg H00.out, if_neg hc, if_neg H00.out, if_neg (by show ¬ a + 1 ≤ a; omega), show min (a + 1) 1000001 = a + 1 by omega])
      have hwa : IntKind.i64.wrap (a + 1) = a + 1 := by have := HI.out; rw [IntKind.wrap_i64]; omega
      have hwb : IntKind.i64.wrap (b + 1) = b + 1 := by have := HI.out; rw [IntKind.wrap_i64]; omega
      clear hc
      go_upto_region 6 with fail
      refine planS_abs (fun wx => Keeps (fun b => ¬ O b) w wx ∧ At15I O wx g (a, b, c - 1)) (fun wx => Next15I At15I O w g (tickT (a, b, c)).1 wx) 9 8 [(true, 0), (true, 1), (true, 4), (true, 5), (true, 6), (true, 7), (true, 8), (false, 2), (true, 3)] [(true, 10)] (by kernel_rfl) (by kernel_rfl) (fun _ _ d _ _ h => by cases d <;> exact h) fun w5 hs5 => ⟨⟨Q3.out.trans (Keeps.of (hs5.below _)), at15_keepI A3.out (Keeps.of (hs5.below _))⟩, ?_⟩
      have Q5 := Lib.hid (Q3.out.trans (Keeps.of (hs5.below _)))
      have A5 := Lib.hid (at15_keepI A3.out (Keeps.of (hs5.below _)))
      clear hs5
      iterate 7 (refine ps_run _ ?_ rfl rfl ?_ ?_; rotate_left; (focus (intro w' hS; obtain ⟨c0, c1, c2⟩ := scells3 (hS.2.1) 27 28 rfl rfl; go_simp; exact rfl)); simp only [Act.put, List.setIfInBounds_toArray, List.set_cons_zero, List.set_cons_succ, List.getElem_toArray, List.getElem_cons_zero, List.getElem_cons_succ])
      refine ps_call (R := fun u w' => u = .int .i64 a ∧ Below w5.heap.size w5 w') _ rfl rfl (by go_simp) ((view15I O w5 g (a, b, c - 1) A5.out ⟨HI.out.1, HI.out.2.1⟩).mono fun _ _ ⟨he, hr⟩ => ⟨_, he, rfl, hr⟩) (fun _ _ hR => ⟨Q5.out.trans (Keeps.of hR.2), at15_keepI A5.out (Keeps.of hR.2)⟩) ?_
      rintro _ w6 ⟨rfl, hb6⟩
      have Q6 := Lib.hid (Q5.out.trans (Keeps.of hb6))
      have A6 := Lib.hid (at15_keepI A5.out (Keeps.of hb6))
      clear hb6
      simp only [Act.put, List.setIfInBounds_toArray, List.set_cons_zero, List.set_cons_succ, List.getElem_toArray, List.getElem_cons_zero, List.getElem_cons_succ]
      iterate 1 (refine ps_run _ ?_ rfl rfl ?_ ?_; rotate_left; (focus (intro w' hS; go_simp; exact rfl)); simp only [Act.put, List.setIfInBounds_toArray, List.set_cons_zero, List.set_cons_succ, List.getElem_toArray, List.getElem_cons_zero, List.getElem_cons_succ])
      refine ps_turn (R := fun u w' => u = .bool (tickT (a, b, c)).2 ∧ Next15I At15I O w g (tickT (a, b, c)).1 w') _ rfl rfl (by go_simp) ((rise15I O w6 g (a, b, c - 1) (a + 1) (b + 1) A6.out ⟨HI.out.1, HI.out.2.1⟩).mono fun _ _ ⟨he, hr⟩ => ⟨_, he, by rw [HE.out], by rw [HE.out]; exact hr.after Q6.out⟩) (fun _ _ hR => hR.2) ?_
      rintro _ w7 ⟨rfl, hn7⟩
      have N7 := Lib.hid hn7
      clear hn7
      simp only [Act.put, List.setIfInBounds_toArray, List.set_cons_zero, List.set_cons_succ, List.getElem_toArray, List.getElem_cons_zero, List.getElem_cons_succ]
      iterate 1 (refine pl_run _ ?_ rfl rfl ?_ ?_; rotate_left; (focus (intro w' hS; go_simp; exact rfl)); simp only [Act.put, List.setIfInBounds_toArray, List.set_cons_zero, List.set_cons_succ, List.getElem_toArray, List.getElem_cons_zero, List.getElem_cons_succ])
      refine pl_end ?_
      go_wp2_with fail
      go_ret
      exact ⟨rfl, N7.out⟩
end Go.Proofs.YthajnkcipifhcaaGreatDoor
end
section
open Go Go.RowKit
namespace GA
open IN RR FF WW BB
end GA
namespace GA
open IN RR FF WW BB
/-- the code's gathering: a box with one slice, and its row -/
def At16I (O : Nat → Prop) (w : World) (g : Sp) (t : List Int) : Prop :=
  ∃ v, SBlk w g 29 1 (rowL [.slice (some ⟨v, 0, none⟩) t.length t.length]) ∧ Blk w v t.length (vwG t) ∧ v ≠ g.b ∧ ∀ b, O b ↔ b = g.b ∨ b = v
theorem at16_ltI {O : Nat → Prop} {w : World} {g : Sp} {t : List Int} (h : At16I O w g t) : ∀ b, O b → b < w.heap.size := fun b hb => by
  obtain ⟨v, h1, h2, _, h4⟩ := h
  rcases (h4 b).1 hb with rfl | rfl
  · exact h1.lt
  · exact h2.lt
end GA
namespace Go.Proofs.YthajnkcipifhcaaGreatDoor
open IN GA RR FF WW BB
end Go.Proofs.YthajnkcipifhcaaGreatDoor
end
section
open Go Go.RowKit
namespace LE
open FF JJ WW BB
theorem own_capM {w : World} {base n k c : Nat} {e : TypeId} {a : Option Addr} {xs : List Value} (h : w.ownsRow base e k (.slice a n c) n xs) : n ≤ c := by
  rcases h.2 with ⟨h1, h2⟩ | ⟨q, cap, cur, h1, _, _, h4, _⟩
  · omega
  · injection h1 with _ _ h1; omega
end LE
namespace Go.Proofs.YthajnkcipifhcaaGreatDoor
open LE FF JJ CC WW BB MM Go.Lib Go.Sort
end Go.Proofs.YthajnkcipifhcaaGreatDoor
end
section
open Go Go.RowKit
namespace TT
open WW BB FF
theorem encB_one {w : World} {x : Bv} (h : InnB w x) : ∀ u ∈ encB x, u.oneCell' = true := by
  obtain ⟨a1, c1, h1⟩ := sl_of_sigs h.1
  obtain ⟨a2, c2, h2⟩ := sl_of_reqs h.2
  intro u hu
  unfold encB at hu
  rw [h1, h2] at hu
  simp only [List.mem_cons, List.not_mem_nil, or_false] at hu
  rcases hu with rfl | rfl | rfl | rfl | rfl | rfl <;> rfl
theorem own_sl6 {w : World} {base n k : Nat} {e : TypeId} {v : Value} {xs : List Value} (h : w.ownsRow base e k v n xs) : ∃ a c, v = .slice a n c := by
  rcases h.2 with ⟨h1, h2⟩ | ⟨q, cap, cur, h1, _⟩
  · exact ⟨none, 0, by rw [h1, h2]⟩
  · exact ⟨_, _, h1⟩
theorem dep_step {A A' : Nat → Prop} {w w' : World} {P : World → Prop} (h : Dep A w P) (hk : Keeps A w w') (hA : ∀ b, A b → b < w.heap.size → A' b) : Dep A' w' P := fun w2 h2 =>
  h w2 ⟨hk.b0.trans h2.b0, fun b hb hl => (h2.block b (hA b hb hl) (Nat.lt_of_lt_of_le hl hk.b0.size)).trans (hk.block b hb hl)⟩
theorem dep_bv {A : Nat → Prop} {w : World} {base : Nat} {e : TypeId} {u : Value} {B : List Bv} (hr : w.ownsRow base e 6 u B.length (cellsB B)) (hi : ∀ y ∈ B, Dep A w (fun w' => InnB w' y)) (hA : ∀ b, u.ownBlock = some b → A b) : Dep A w (fun w' => BvAt w' u B) := fun w' hk =>
  bv_of_own (row_keep hr fun c hc => hk.block c (hA c hc) (hr.lt c hc).2) fun y hy => hi y hy w' hk
end TT
end
section
open Go Go.RowKit
namespace LE
open FF JJ WW BB Go.Maps
/-- an index, as an element -/
def numL (x : Int) : DataW Unit := .lit (.int .i64 x)
/-- D tells where each number's entry is -/
structure IxIs (D : DataW Unit) (E : List Rq) : Prop where
  tidy : Tidy D
  has : ∀ x, In64 x → Maps.has D (keyQ x) = decide (0 ≤ ixR E x)
  at_ : ∀ x, In64 x → 0 ≤ ixR E x → ∀ z, D.atKey (keyQ x) z = numL (ixR E x)
theorem row_heapL {w : World} {B k n : Nat} {e : TypeId} {v : Value} {xs : List Value} (h : w.ownsRow B e k v n xs) {b : Nat} (hb : v.ownBlock = some b) : ∃ cur, w.heap[b]? = some (.cells cur e (0, 0)) := by
  rcases h.2 with ⟨rfl, _⟩ | ⟨q, cap, cur, rfl, _, hh, _⟩
  · cases hb
  · obtain rfl : q = b := by simpa [Value.ownBlock] using hb
    exact ⟨cur, hh⟩
theorem row_shapeL {w : World} {B k n : Nat} {e : TypeId} {v : Value} {xs : List Value} (h : w.ownsRow B e k v n xs) : ∃ a c, v = .slice a n c := by
  rcases h.2 with ⟨rfl, h0⟩ | ⟨q, cap, cur, rfl, _⟩
  · exact ⟨none, 0, by rw [h0]⟩
  · exact ⟨_, _, rfl⟩
/-- the digests behind none, one, two .. of the entries -/
def digsL (E : List Rq) : List ByteArray := (List.range (E.length + 1)).map fun i => digE (E.take i)
/-- the ledger's own blocks -/
def OwnL (g : Nat) (ev mv dv : Value) (b : Nat) : Prop := b = g ∨ ev.ownBlock = some b ∨ mapBlk mv = some b ∨ dv.ownBlock = some b
end LE
namespace Go.Proofs.YthajnkcipifhcaaGreatDoor
open LE ZZ FF JJ CC MM WW BB RR TT Go.Maps Go.WideMaps
/-- the map of indexes, in a block of its own -/
def IxAt (w : World) (mv : Value) (E : List Rq) (n : Nat) : Prop := ∃ (b : Nat) (D : DataW Unit), mv = .map (some b) ∧ w.ownsMap Tryz.prog 200 (plainElem Tryz.prog 3) b n D ∧ IxIs D E
section
variable {w w' : World} {mv : Value} {E : List Rq} {n : Nat}
theorem IxAt.keep (h : IxAt w mv E n) (hb : ∀ b, mapBlk mv = some b → w'.heap[b]? = w.heap[b]?) : IxAt w' mv E n := by
  obtain ⟨b, D, rfl, ⟨es, clock, h1, h2⟩, h3⟩ := h
  exact ⟨b, D, rfl, ⟨es, clock, (hb b rfl).trans h1, h2⟩, h3⟩
theorem IxAt.lt (h : IxAt w mv E n) : ∀ b, mapBlk mv = some b → b < w.heap.size := by
  obtain ⟨b, D, rfl, h1, _⟩ := h
  exact fun c hc => by cases hc; exact h1.lt
theorem IxAt.nomap (h : IxAt w mv E n) {cs : Array Value} {ty : TypeId} {fz : Nat × Nat} {b : Nat} (hb : w.heap[b]? = some (.cells cs ty fz)) : mapBlk mv ≠ some b := by
  obtain ⟨c, D, rfl, ⟨es, clock, h1, _⟩, _⟩ := h
  intro e; cases e; rw [hb] at h1; cases h1
theorem IxAt.shape (h : IxAt w mv E n) : ∃ b, mv = .map (some b) := by
  obtain ⟨b, D, rfl, _⟩ := h
  exact ⟨_, rfl⟩
end
/-- the code's ledger in block g: entries E, indexes of K, digests D -/
structure LgM (w : World) (g : Nat) (E K : List Rq) (D : List ByteArray) (n : Nat) (ev mv dv : Value) : Prop where
  blk : TBlk 91 w g 3 (rowL [ev, mv, dv])
  rowE : w.ownsRow 0 41 3 ev E.length (cellsR E)
  map : IxAt w mv K n
  rowD : w.ownsRow 0 9 1 dv D.length (D.map Value.string)
section
variable {w w' : World} {g n : Nat} {E K : List Rq} {D : List ByteArray} {ev mv dv : Value}
theorem LgM.keep (h : LgM w g E K D n ev mv dv) (hk : Keeps (OwnL g ev mv dv) w w') : LgM w' g E K D n ev mv dv :=
  ⟨(hk.block g (.inl rfl) h.blk.lt).trans h.blk, row_keep h.rowE fun c hc => hk.block c (.inr (.inl hc)) (h.rowE.lt c hc).2, h.map.keep fun b hb => hk.block b (.inr (.inr (.inl hb))) (h.map.lt b hb), row_keep h.rowD fun c hc => hk.block c (.inr (.inr (.inr hc))) (h.rowD.lt c hc).2⟩
theorem LgM.on (h : LgM w g E K D n ev mv dv) (hb : Below w.heap.size w w') : LgM w' g E K D n ev mv dv := h.keep (Keeps.of hb)
theorem LgM.ownL (h : LgM w g E K D n ev mv dv) : ∀ b, OwnL g ev mv dv b → b < w.heap.size := by
  rintro b (rfl | hb | hb | hb)
  · exact h.blk.lt
  · exact (h.rowE.lt b hb).2
  · exact h.map.lt b hb
  · exact (h.rowD.lt b hb).2
theorem LgM.ge (h : LgM w g E K D n ev mv dv) : ev.ownBlock ≠ some g := fun e => by
  obtain ⟨cur, hh⟩ := row_heapL h.rowE e
  have := h.blk
  unfold TBlk at this
  rw [hh] at this
  injection this with this
  injection this with _ h2 _
  exact absurd h2 (by decide)
theorem LgM.gd (h : LgM w g E K D n ev mv dv) : dv.ownBlock ≠ some g := fun e => by
  obtain ⟨cur, hh⟩ := row_heapL h.rowD e
  have := h.blk
  unfold TBlk at this
  rw [hh] at this
  injection this with this
  injection this with _ h2 _
  exact absurd h2 (by decide)
theorem LgM.gm (h : LgM w g E K D n ev mv dv) : mapBlk mv ≠ some g := h.map.nomap h.blk
theorem LgM.cells (h : LgM w g E K D n ev mv dv) : w.cell? ⟨g, 0, none⟩ = some ev ∧ w.cell? ⟨g, 1, none⟩ = some mv ∧ w.cell? ⟨g, 2, none⟩ = some dv := RR.cells3 h.blk.blk
theorem LgM.reqs (h : LgM w g E K D n ev mv dv) : ReqsAt w ev E := reqs_of_own h.rowE
end
end Go.Proofs.YthajnkcipifhcaaGreatDoor
end
section
open Go Go.RowKit
namespace Go.Proofs.YthajnkcipifhcaaGreatDoor
open IN LE ZZ FF JJ CC MM WW BB RR TT Go.Maps Go.WideMaps
/-- the code's ledger in block g.b: entries E, indexes of K, digests D -/
structure LgMI (w : World) (g : Sp) (E K : List Rq) (D : List ByteArray) (n : Nat) (ev mv dv : Value) : Prop where
  blk : SBlk w g 16 3 (rowL [ev, mv, dv])
  rowE : w.ownsRow 0 41 3 ev E.length (cellsR E)
  map : IxAt w mv K n
  rowD : w.ownsRow 0 9 1 dv D.length (D.map Value.string)
section
variable {w w' : World} {g : Sp} {n : Nat} {E K : List Rq} {D : List ByteArray} {ev mv dv : Value}
theorem LgMI.keep (h : LgMI w g E K D n ev mv dv) (hk : Keeps (OwnL g ev mv dv) w w') : LgMI w' g E K D n ev mv dv :=
  ⟨h.blk.of_heap (hk.block g.b (.inl rfl) h.blk.lt), row_keep h.rowE fun c hc => hk.block c (.inr (.inl hc)) (h.rowE.lt c hc).2, h.map.keep fun b hb => hk.block b (.inr (.inr (.inl hb))) (h.map.lt b hb), row_keep h.rowD fun c hc => hk.block c (.inr (.inr (.inr hc))) (h.rowD.lt c hc).2⟩
theorem LgMI.on (h : LgMI w g E K D n ev mv dv) (hb : Below w.heap.size w w') : LgMI w' g E K D n ev mv dv := h.keep (Keeps.of hb)
theorem LgMI.ownL (h : LgMI w g E K D n ev mv dv) : ∀ b, OwnL g ev mv dv b → b < w.heap.size := by
  rintro b (rfl | hb | hb | hb)
  · exact h.blk.lt
  · exact (h.rowE.lt b hb).2
  · exact h.map.lt b hb
  · exact (h.rowD.lt b hb).2
theorem LgMI.ge (h : LgMI w g E K D n ev mv dv) : ev.ownBlock ≠ some g.b := fun e => by
  obtain ⟨cur, hh⟩ := row_heapL h.rowE e
  have := h.blk.typ
  rw [hh] at this
  injection this with this
  injection this with _ h2 _
  exact absurd h2 (by decide)
theorem LgMI.gd (h : LgMI w g E K D n ev mv dv) : dv.ownBlock ≠ some g.b := fun e => by
  obtain ⟨cur, hh⟩ := row_heapL h.rowD e
  have := h.blk.typ
  rw [hh] at this
  injection this with this
  injection this with _ h2 _
  exact absurd h2 (by decide)
theorem LgMI.gm (h : LgMI w g E K D n ev mv dv) : mapBlk mv ≠ some g.b := h.map.nomap h.blk.typ
theorem LgMI.cells (h : LgMI w g E K D n ev mv dv) : w.cell? ⟨g.b, 16, none⟩ = some ev ∧ w.cell? ⟨g.b, 17, none⟩ = some mv ∧ w.cell? ⟨g.b, 18, none⟩ = some dv := scells3 (h.blk.blk) 17 18 rfl rfl
theorem LgMI.reqs (h : LgMI w g E K D n ev mv dv) : ReqsAt w ev E := reqs_of_own h.rowE
end
/-- the code's ledger is E, by the blocks O -/
def At13I (O : Nat → Prop) (w : World) (g : Sp) (E : List Rq) : Prop := ∃ ev mv dv, LgMI w g E E (digsL E) E.length ev mv dv ∧ ∀ b, O b ↔ OwnL g ev mv dv b
theorem at13_ltI {O : Nat → Prop} {w : World} {g : Sp} {E : List Rq} (h : At13I O w g E) : ∀ b, O b → b < w.heap.size := by
  obtain ⟨ev, mv, dv, h1, h2⟩ := h
  exact fun b hb => h1.ownL b ((h2 b).1 hb)
end Go.Proofs.YthajnkcipifhcaaGreatDoor
end
section
open Go Go.RowKit
namespace Go.Proofs.YthajnkcipifhcaaGreatDoor
open IN LE ZZ FF JJ CC MM WW BB RR TT Go.Maps Go.WideMaps
/-- the code's ledger is E, by the blocks O, whether it has begun or not -/
def At13N (O : Nat → Prop) (w : World) (p : Sp) (E : List Rq) : Prop :=
  At13I O w p E ∨ (E = [] ∧ SBlk w p 16 3 (rowL [.slice none 0 0, .map none, .slice none 0 0]) ∧ ∀ b, O b ↔ b = p.b)
theorem at13N_lt {O : Nat → Prop} {w : World} {p : Sp} {E : List Rq} (h : At13N O w p E) : ∀ b, O b → b < w.heap.size := by
  rcases h with h | ⟨h1, h2, h3⟩
  · exact at13_ltI h
  · exact fun b hb => (h3 b).1 hb ▸ h2.lt
end Go.Proofs.YthajnkcipifhcaaGreatDoor
end
section
open Go Go.RowKit
namespace ZZ
open FF JJ WW BB Go.Maps
/-- the map of marks: nil, with none, or a block of its own of at most n keys, with just ks -/
def MkAt (P : Program) (k : TypeId) (w : World) (mv : Value) (ks : List (Int × Int)) (n : Nat) : Prop :=
  (mv = .map none ∧ ks = []) ∨ ∃ (b : Nat) (D : DataW Unit), mv = .map (some b) ∧ w.ownsMap P k unitElem b n D ∧ SetIs D ks
section
variable {P : Program} {k t e : TypeId} {w w' : World} {mv : Value} {ks : List (Int × Int)} {n : Nat}
theorem MkAt.keep (h : MkAt P k w mv ks n) (hb : ∀ b, mapBlk mv = some b → w'.heap[b]? = w.heap[b]?) : MkAt P k w' mv ks n := by
  rcases h with h | ⟨b, D, rfl, ⟨es, clock, h1, h2⟩, h3⟩
  · exact Or.inl h
  · exact Or.inr ⟨b, D, rfl, ⟨es, clock, (hb b rfl).trans h1, h2⟩, h3⟩
theorem MkAt.lt (h : MkAt P k w mv ks n) : ∀ b, mapBlk mv = some b → b < w.heap.size := by
  rcases h with ⟨rfl, _⟩ | ⟨b, D, rfl, h1, _⟩
  · exact fun b hb => by cases hb
  · exact fun c hc => by cases hc; exact h1.lt
theorem MkAt.nomap (h : MkAt P k w mv ks n) {cs : Array Value} {ty : TypeId} {fz : Nat × Nat} {b : Nat} (hb : w.heap[b]? = some (.cells cs ty fz)) : mapBlk mv ≠ some b := by
  rcases h with ⟨rfl, _⟩ | ⟨c, D, rfl, ⟨es, clock, h1, _⟩, _⟩
  · intro e; cases e
  · intro e; cases e; rw [hb] at h1; cases h1
theorem MkAt.mono {m : Nat} (h : MkAt P k w mv ks n) (hm : n ≤ m) : MkAt P k w mv ks m := by
  rcases h with h | ⟨b, D, rfl, h1, h2⟩
  · exact Or.inl h
  · exact Or.inr ⟨b, D, rfl, h1.mono hm, h2⟩
theorem MkAt.shape (h : MkAt P k w mv ks n) : ∃ p, mv = .map p := by
  rcases h with ⟨rfl, _⟩ | ⟨b, D, rfl, _⟩
  · exact ⟨_, rfl⟩
  · exact ⟨_, rfl⟩
end
theorem row_heapZ {w : World} {B k n : Nat} {e : TypeId} {v : Value} {xs : List Value} (h : w.ownsRow B e k v n xs) {b : Nat} (hb : v.ownBlock = some b) : ∃ cur, w.heap[b]? = some (.cells cur e (0, 0)) := by
  rcases h.2 with ⟨rfl, _⟩ | ⟨q, cap, cur, rfl, _, hh, _⟩
  · cases hb
  · obtain rfl : q = b := by simpa [Value.ownBlock] using hb
    exact ⟨cur, hh⟩
/-- the pool's own blocks -/
def OwnQ (g : Nat) (wv mv : Value) (b : Nat) : Prop := b = g ∨ wv.ownBlock = some b ∨ mapBlk mv = some b
end ZZ
namespace Go.Proofs.YthajnkcipifhcaaGreatDoor
open ZZ FF JJ CC MM WW BB RR Go.Maps Go.WideMaps
/-- the code's pool in block g: what waits, and the marks -/
structure PqM (w : World) (g : Nat) (W : List Rq) (ks : List (Int × Int)) (n : Nat) (wv mv : Value) : Prop where
  blk : TBlk 94 w g 2 (rowL [wv, mv])
  row : w.ownsRow 0 41 3 wv W.length (cellsR W)
  map : MkAt Tryz.prog 151 w mv ks n
section
variable {w w' : World} {g n : Nat} {W : List Rq} {ks : List (Int × Int)} {wv mv : Value}
theorem PqM.keep (h : PqM w g W ks n wv mv) (hk : Keeps (OwnQ g wv mv) w w') : PqM w' g W ks n wv mv :=
  ⟨(hk.block g (Or.inl rfl) h.blk.lt).trans h.blk, row_keep h.row fun c hc => hk.block c (Or.inr (Or.inl hc)) (h.row.lt c hc).2, h.map.keep fun b hb => hk.block b (Or.inr (Or.inr hb)) (h.map.lt b hb)⟩
theorem PqM.on (h : PqM w g W ks n wv mv) (hb : Below w.heap.size w w') : PqM w' g W ks n wv mv := h.keep (Keeps.of hb)
theorem PqM.ownL (h : PqM w g W ks n wv mv) : ∀ b, OwnQ g wv mv b → b < w.heap.size := by
  rintro b (rfl | hb | hb)
  · exact h.blk.lt
  · exact (h.row.lt b hb).2
  · exact h.map.lt b hb
theorem PqM.gw (h : PqM w g W ks n wv mv) : wv.ownBlock ≠ some g := fun e => by
  obtain ⟨cur, hh⟩ := row_heapZ h.row e
  have := h.blk
  unfold TBlk at this
  rw [hh] at this
  injection this with this
  injection this with _ h2 _
  exact absurd h2 (by decide)
theorem PqM.gm (h : PqM w g W ks n wv mv) : mapBlk mv ≠ some g := h.map.nomap h.blk
theorem PqM.cells (h : PqM w g W ks n wv mv) : w.cell? ⟨g, 0, none⟩ = some wv ∧ w.cell? ⟨g, 1, none⟩ = some mv := RR.cells2 h.blk.blk
theorem PqM.reqs (h : PqM w g W ks n wv mv) : ReqsAt w wv W := reqs_of_own h.row
end
/-- the marks are those of what is done -/
def MarksOf (ks : List (Int × Int)) (D : List Rq) : Prop := ∀ k, possK k = true → decide (k ∈ ks) = hasR D k
end Go.Proofs.YthajnkcipifhcaaGreatDoor
end
section
open Go Go.RowKit
namespace ZZ
open IN FF JJ WW BB
end ZZ
namespace Go.Proofs.YthajnkcipifhcaaGreatDoor
open IN ZZ FF JJ CC MM WW BB RR Go.Maps Go.WideMaps
/-- the code's pool in block g.b: what waits, and the marks -/
structure PqMI (w : World) (g : Sp) (W : List Rq) (ks : List (Int × Int)) (n : Nat) (wv mv : Value) : Prop where
  blk : SBlk w g 19 2 (rowL [wv, mv])
  row : w.ownsRow 0 41 3 wv W.length (cellsR W)
  map : MkAt Tryz.prog 151 w mv ks n
section
variable {w w' : World} {g : Sp} {n : Nat} {W : List Rq} {ks : List (Int × Int)} {wv mv : Value}
theorem PqMI.keep (h : PqMI w g W ks n wv mv) (hk : Keeps (OwnQ g wv mv) w w') : PqMI w' g W ks n wv mv :=
  ⟨h.blk.of_heap (hk.block g.b (Or.inl rfl) h.blk.lt), row_keep h.row fun c hc => hk.block c (Or.inr (Or.inl hc)) (h.row.lt c hc).2, h.map.keep fun b hb => hk.block b (Or.inr (Or.inr hb)) (h.map.lt b hb)⟩
theorem PqMI.on (h : PqMI w g W ks n wv mv) (hb : Below w.heap.size w w') : PqMI w' g W ks n wv mv := h.keep (Keeps.of hb)
theorem PqMI.ownL (h : PqMI w g W ks n wv mv) : ∀ b, OwnQ g wv mv b → b < w.heap.size := by
  rintro b (rfl | hb | hb)
  · exact h.blk.lt
  · exact (h.row.lt b hb).2
  · exact h.map.lt b hb
theorem PqMI.gw (h : PqMI w g W ks n wv mv) : wv.ownBlock ≠ some g.b := fun e => by
  obtain ⟨cur, hh⟩ := row_heapZ h.row e
  have := h.blk.typ
  rw [hh] at this
  injection this with this
  injection this with _ h2 _
  exact absurd h2 (by decide)
theorem PqMI.gm (h : PqMI w g W ks n wv mv) : mapBlk mv ≠ some g.b := h.map.nomap h.blk.typ
theorem PqMI.cells (h : PqMI w g W ks n wv mv) : w.cell? ⟨g.b, 19, none⟩ = some wv ∧ w.cell? ⟨g.b, 20, none⟩ = some mv := scells2 (h.blk.blk) 20 rfl
theorem PqMI.reqs (h : PqMI w g W ks n wv mv) : ReqsAt w wv W := reqs_of_own h.row
end
/-- the code's pool is p, by the blocks O -/
def At12I (O : Nat → Prop) (w : World) (g : Sp) (p : Po) : Prop := ∃ ks wv mv, PqMI w g p.1 ks p.2.length wv mv ∧ MarksOf ks p.2 ∧ ∀ b, O b ↔ OwnQ g wv mv b
theorem at12_ltI {O : Nat → Prop} {w : World} {g : Sp} {p : Po} (h : At12I O w g p) : ∀ b, O b → b < w.heap.size := by
  obtain ⟨ks, wv, mv, h1, h2, h3⟩ := h
  exact fun b hb => h1.ownL b ((h3 b).1 hb)
end Go.Proofs.YthajnkcipifhcaaGreatDoor
end
section
open Go Go.RowKit
namespace YY
open FF JJ CC WW BB MM Go.Maps
/-- the map of heights: nil, or a block of its own of at most n keys (what it holds is not looked at) -/
def HtAt (P : Program) (k e : TypeId) (w : World) (mv : Value) (n : Nat) : Prop :=
  mv = .map none ∨ ∃ (b : Nat) (D : DataW Unit), mv = .map (some b) ∧ w.ownsMap P k (plainElem P e) b n D
section
variable {P : Program} {k e t : TypeId} {w w' : World} {mv : Value} {n : Nat}
theorem HtAt.keep (h : HtAt P k e w mv n) (hb : ∀ b, mapBlk mv = some b → w'.heap[b]? = w.heap[b]?) : HtAt P k e w' mv n := by
  rcases h with h | ⟨b, D, rfl, ⟨es, clock, h1, h2⟩⟩
  · exact Or.inl h
  · exact Or.inr ⟨b, D, rfl, ⟨es, clock, (hb b rfl).trans h1, h2⟩⟩
theorem HtAt.lt (h : HtAt P k e w mv n) : ∀ b, mapBlk mv = some b → b < w.heap.size := by
  rcases h with rfl | ⟨b, D, rfl, h1⟩
  · exact fun b hb => by cases hb
  · exact fun c hc => by cases hc; exact h1.lt
theorem HtAt.nomap (h : HtAt P k e w mv n) {cs : Array Value} {ty : TypeId} {fz : Nat × Nat} {b : Nat} (hb : w.heap[b]? = some (.cells cs ty fz)) : mapBlk mv ≠ some b := by
  rcases h with rfl | ⟨c, D, rfl, ⟨es, clock, h1, _⟩⟩
  · intro e; cases e
  · intro e; cases e; rw [hb] at h1; cases h1
theorem HtAt.shape (h : HtAt P k e w mv n) : ∃ p, mv = .map p := by
  rcases h with rfl | ⟨b, D, rfl, _⟩
  · exact ⟨_, rfl⟩
  · exact ⟨_, rfl⟩
theorem HtAt.mono {m : Nat} (h : HtAt P k e w mv n) (hm : n ≤ m) : HtAt P k e w mv m := by
  rcases h with rfl | ⟨b, D, rfl, h1⟩
  · exact Or.inl rfl
  · exact Or.inr ⟨b, D, rfl, h1.mono hm⟩
end
theorem row_heap {w : World} {B k n : Nat} {e : TypeId} {v : Value} {xs : List Value} (h : w.ownsRow B e k v n xs) {b : Nat} (hb : v.ownBlock = some b) : ∃ cur, w.heap[b]? = some (.cells cur e (0, 0)) := by
  rcases h.2 with ⟨rfl, _⟩ | ⟨q, cap, cur, rfl, _, hh, _⟩
  · cases hb
  · obtain rfl : q = b := by simpa [Value.ownBlock] using hb
    exact ⟨cur, hh⟩
/-- the digests of blocks -/
def digsN (N : List Bv) : List ByteArray := N.map fun x => digI x.1
/-- the chain's own blocks -/
def OwnK (g : Nat) (bv dv mv : Value) (C : Nat → Prop) (b : Nat) : Prop := b = g ∨ bv.ownBlock = some b ∨ dv.ownBlock = some b ∨ mapBlk mv = some b ∨ C b
end YY
namespace Go.Proofs.YthajnkcipifhcaaGreatDoor
open YY FF JJ CC MM WW BB TT
/-- the code's chain in block g: blocks, digests, and how many heights -/
structure KpJ (w : World) (g : Nat) (N : List Bv) (D : List ByteArray) (n : Nat) (bv dv mv : Value) (C : Nat → Prop) : Prop where
  blk : TBlk 88 w g 3 (rowL [bv, dv, mv])
  rowB : w.ownsRow 0 36 6 bv N.length (cellsB N)
  rowD : w.ownsRow 0 9 1 dv D.length (D.map Value.string)
  map : HtAt Tryz.prog 9 3 w mv n
  inn : Dep C w (fun w' => ∀ x ∈ N, InnB w' x)
  cg : ¬ C g
  cb : ∀ b, bv.ownBlock = some b → ¬ C b
  cd : ∀ b, dv.ownBlock = some b → ¬ C b
  cm : ∀ b, mapBlk mv = some b → ¬ C b
  cl : ∀ b, C b → b < w.heap.size
section
variable {w w' : World} {g n : Nat} {N : List Bv} {D : List ByteArray} {bv dv mv : Value} {C : Nat → Prop}
theorem KpJ.keep (h : KpJ w g N D n bv dv mv C) (hk : Keeps (OwnK g bv dv mv C) w w') : KpJ w' g N D n bv dv mv C :=
  ⟨(hk.block g (Or.inl rfl) h.blk.lt).trans h.blk, row_keep h.rowB fun c hc => hk.block c (Or.inr (Or.inl hc)) (h.rowB.lt c hc).2, row_keep h.rowD fun c hc => hk.block c (Or.inr (Or.inr (Or.inl hc))) (h.rowD.lt c hc).2,
   h.map.keep fun b hb => hk.block b (Or.inr (Or.inr (Or.inr (Or.inl hb)))) (h.map.lt b hb), h.inn.on (hk.sub fun _ hb _ => Or.inr (Or.inr (Or.inr (Or.inr hb)))), h.cg, h.cb, h.cd, h.cm, fun b hb => Nat.lt_of_lt_of_le (h.cl b hb) hk.b0.size⟩
theorem KpJ.on (h : KpJ w g N D n bv dv mv C) (hb : Below w.heap.size w w') : KpJ w' g N D n bv dv mv C := h.keep (Keeps.of hb)
theorem KpJ.ownL (h : KpJ w g N D n bv dv mv C) : ∀ b, OwnK g bv dv mv C b → b < w.heap.size := by
  rintro b (rfl | hb | hb | hb | hb)
  · exact h.blk.lt
  · exact (h.rowB.lt b hb).2
  · exact (h.rowD.lt b hb).2
  · exact h.map.lt b hb
  · exact h.cl b hb
theorem KpJ.gb (h : KpJ w g N D n bv dv mv C) : bv.ownBlock ≠ some g := fun e => by
  obtain ⟨cur, hh⟩ := row_heap h.rowB e
  have := h.blk
  unfold TBlk at this
  rw [hh] at this
  injection this with this
  injection this with _ h2 _
  exact absurd h2 (by decide)
theorem KpJ.gd (h : KpJ w g N D n bv dv mv C) : dv.ownBlock ≠ some g := fun e => by
  obtain ⟨cur, hh⟩ := row_heap h.rowD e
  have := h.blk
  unfold TBlk at this
  rw [hh] at this
  injection this with this
  injection this with _ h2 _
  exact absurd h2 (by decide)
theorem KpJ.gm (h : KpJ w g N D n bv dv mv C) : mapBlk mv ≠ some g := h.map.nomap h.blk
theorem KpJ.bd (h : KpJ w g N D n bv dv mv C) : ∀ b, bv.ownBlock = some b → dv.ownBlock ≠ some b := fun b hb hd => by
  obtain ⟨cur, hh⟩ := row_heap h.rowB hb
  obtain ⟨cur', hh'⟩ := row_heap h.rowD hd
  rw [hh] at hh'
  injection hh' with this
  injection this with _ h2 _
  exact absurd h2 (by decide)
theorem KpJ.bm (h : KpJ w g N D n bv dv mv C) : ∀ b, bv.ownBlock = some b → mapBlk mv ≠ some b := fun b hb => by
  obtain ⟨cur, hh⟩ := row_heap h.rowB hb
  exact h.map.nomap hh
theorem KpJ.cells (h : KpJ w g N D n bv dv mv C) : w.cell? ⟨g, 0, none⟩ = some bv ∧ w.cell? ⟨g, 1, none⟩ = some dv ∧ w.cell? ⟨g, 2, none⟩ = some mv := RR.cells3 h.blk.blk
theorem KpJ.blocks (h : KpJ w g N D n bv dv mv C) : BvAt w bv N := bv_of_own h.rowB h.inn.now
end
end Go.Proofs.YthajnkcipifhcaaGreatDoor
end
section
open Go Go.RowKit
namespace Go.Proofs.YthajnkcipifhcaaGreatDoor
open IN YY FF JJ CC MM WW BB TT
/-- the code's chain in block g.b: blocks, digests, and how many heights -/
structure KpJI (w : World) (g : Sp) (N : List Bv) (D : List ByteArray) (n : Nat) (bv dv mv : Value) (C : Nat → Prop) : Prop where
  blk : SBlk w g 13 3 (rowL [bv, dv, mv])
  rowB : w.ownsRow 0 36 6 bv N.length (cellsB N)
  rowD : w.ownsRow 0 9 1 dv D.length (D.map Value.string)
  map : HtAt Tryz.prog 9 3 w mv n
  inn : Dep C w (fun w' => ∀ x ∈ N, InnB w' x)
  cg : ¬ C g
  cb : ∀ b, bv.ownBlock = some b → ¬ C b
  cd : ∀ b, dv.ownBlock = some b → ¬ C b
  cm : ∀ b, mapBlk mv = some b → ¬ C b
  cl : ∀ b, C b → b < w.heap.size
/-- the code's chain in block g.b: it is N -/
abbrev KpII (w : World) (g : Sp) (N : List Bv) (bv dv mv : Value) (C : Nat → Prop) : Prop := KpJI w g N (digsN N) N.length bv dv mv C
section
variable {w w' : World} {g : Sp} {n : Nat} {N : List Bv} {D : List ByteArray} {bv dv mv : Value} {C : Nat → Prop}
theorem KpJI.keep (h : KpJI w g N D n bv dv mv C) (hk : Keeps (OwnK g bv dv mv C) w w') : KpJI w' g N D n bv dv mv C :=
  ⟨h.blk.of_heap (hk.block g.b (Or.inl rfl) h.blk.lt), row_keep h.rowB fun c hc => hk.block c (Or.inr (Or.inl hc)) (h.rowB.lt c hc).2, row_keep h.rowD fun c hc => hk.block c (Or.inr (Or.inr (Or.inl hc))) (h.rowD.lt c hc).2,
   h.map.keep fun b hb => hk.block b (Or.inr (Or.inr (Or.inr (Or.inl hb)))) (h.map.lt b hb), h.inn.on (hk.sub fun _ hb _ => Or.inr (Or.inr (Or.inr (Or.inr hb)))), h.cg, h.cb, h.cd, h.cm, fun b hb => Nat.lt_of_lt_of_le (h.cl b hb) hk.b0.size⟩
theorem KpJI.on (h : KpJI w g N D n bv dv mv C) (hb : Below w.heap.size w w') : KpJI w' g N D n bv dv mv C := h.keep (Keeps.of hb)
theorem KpJI.ownL (h : KpJI w g N D n bv dv mv C) : ∀ b, OwnK g bv dv mv C b → b < w.heap.size := by
  rintro b (rfl | hb | hb | hb | hb)
  · exact h.blk.lt
  · exact (h.rowB.lt b hb).2
  · exact (h.rowD.lt b hb).2
  · exact h.map.lt b hb
  · exact h.cl b hb
theorem KpJI.gb (h : KpJI w g N D n bv dv mv C) : bv.ownBlock ≠ some g.b := fun e => by
  obtain ⟨cur, hh⟩ := row_heap h.rowB e
  have := h.blk.typ
  rw [hh] at this
  injection this with this
  injection this with _ h2 _
  exact absurd h2 (by decide)
theorem KpJI.gd (h : KpJI w g N D n bv dv mv C) : dv.ownBlock ≠ some g.b := fun e => by
  obtain ⟨cur, hh⟩ := row_heap h.rowD e
  have := h.blk.typ
  rw [hh] at this
  injection this with this
  injection this with _ h2 _
  exact absurd h2 (by decide)
theorem KpJI.gm (h : KpJI w g N D n bv dv mv C) : mapBlk mv ≠ some g.b := h.map.nomap h.blk.typ
theorem KpJI.bd (h : KpJI w g N D n bv dv mv C) : ∀ b, bv.ownBlock = some b → dv.ownBlock ≠ some b := fun b hb hd => by
  obtain ⟨cur, hh⟩ := row_heap h.rowB hb
  obtain ⟨cur', hh'⟩ := row_heap h.rowD hd
  rw [hh] at hh'
  injection hh' with this
  injection this with _ h2 _
  exact absurd h2 (by decide)
theorem KpJI.bm (h : KpJI w g N D n bv dv mv C) : ∀ b, bv.ownBlock = some b → mapBlk mv ≠ some b := fun b hb => by
  obtain ⟨cur, hh⟩ := row_heap h.rowB hb
  exact h.map.nomap hh
theorem KpJI.cells (h : KpJI w g N D n bv dv mv C) : w.cell? ⟨g.b, 13, none⟩ = some bv ∧ w.cell? ⟨g.b, 14, none⟩ = some dv ∧ w.cell? ⟨g.b, 15, none⟩ = some mv := scells3 (h.blk.blk) 14 15 rfl rfl
theorem KpJI.blocks (h : KpJI w g N D n bv dv mv C) : BvAt w bv N := bv_of_own h.rowB h.inn.now
end
/-- the code's chain is L, by the blocks O -/
def At11I (O : Nat → Prop) (w : World) (g : Sp) (L : List BlockD) : Prop := ∃ N bv dv mv C, KpII w g N bv dv mv C ∧ N.map Prod.fst = L ∧ ∀ b, O b ↔ OwnK g bv dv mv C b
theorem at11_ltI {O : Nat → Prop} {w : World} {g : Sp} {L : List BlockD} (h : At11I O w g L) : ∀ b, O b → b < w.heap.size := by
  obtain ⟨N, bv, dv, mv, C, h1, h2, h3⟩ := h
  exact fun b hb => h1.ownL b ((h3 b).1 hb)
end Go.Proofs.YthajnkcipifhcaaGreatDoor
end
section
open Go Go.RowKit
namespace TA
open QU RR FF JJ CC MM WW BB
/-- a vote of the code: its view, its block, its signature with the tags' slice -/
abbrev Vx := Int × ByteArray × Sg
def vx0 : Vx := (0, ⟨#[]⟩, s0)
def encX (x : Vx) : List Value := [.int .i64 x.1, .string x.2.1, .int .i64 x.2.2.1, tvS x.2.2]
def vqX (x : Vx) : Value := .agg #[.int .i64 x.1, .string x.2.1, .int .i64 x.2.2.1, tvS x.2.2]
def nude (x : Vx) : Vt := (x.1, x.2.1, x.2.2.1, x.2.2.2.2)
theorem encX_len (x : Vx) : (encX x).length = 4 := rfl
/-- a signature whose slice lies as told, in blocks that meet K -/
def TagIn (K : Nat → Prop) (w : World) (x : Sg) : Prop := StrsAt w (tvS x) x.2.2 ∧ ∀ c, (tvS x).ownBlock = some c → K c
theorem TagIn.keep {K : Nat → Prop} {w w' : World} {x : Sg} (h : TagIn K w x) (hk : Keeps K w w') : TagIn K w' x := by
  refine ⟨?_, h.2⟩
  obtain ⟨⟨a0, cap, e, h1⟩, h2⟩ := h
  refine ⟨a0, cap, e, h1.imp id fun ⟨b, off, e1, hl, hc⟩ => ⟨b, off, e1, Nat.lt_of_lt_of_le hl hk.b0.size, fun i hi => ?_⟩⟩
  have hK : K b := h2 b (by rw [e, e1]; rfl)
  exact (World.cell?_of_block (w := w) (a := ⟨b, off + i, none⟩) (hk.block b hK hl)).trans (hc i hi)
theorem TagIn.mono {K K' : Nat → Prop} {w : World} {x : Sg} (h : TagIn K w x) (hK : ∀ b, K b → K' b) : TagIn K' w x := ⟨h.1, fun c hc => hK c (h.2 c hc)⟩
/-- a tally's own blocks -/
def OwnT (g : Nat) (wv : Value) (K : Nat → Prop) (b : Nat) : Prop := b = g ∨ wv.ownBlock = some b ∨ K b
/-- five cells -/
def taX (T : Ta) (wv : Value) : Nat → Value := rowL [.string T.seed, .int .i64 T.node, .int .i64 T.n, .int .i64 T.under, wv]
/-- the code's tally in block g: the votes L in the row wv, their tags in blocks that meet K -/
structure TqM (tt tv : TypeId) (w : World) (g : Nat) (T : Ta) (L : List Vx) (wv : Value) (K : Nat → Prop) : Prop where
  blk : TBlk tt w g 5 (taX T wv)
  row : w.ownsRow 0 tv 4 wv L.length (cellsG encX L)
  tags : ∀ x ∈ L, TagIn K w x.2.2
  lt : ∀ b, K b → b < w.heap.size
  kg : ¬ K g
  kr : ∀ b, wv.ownBlock = some b → ¬ K b
  gr : wv.ownBlock ≠ some g
  is : L.map nude = T.votes
section
variable {tt tv : TypeId} {w w' : World} {g : Nat} {T : Ta} {L : List Vx} {wv : Value} {K : Nat → Prop}
theorem TqM.keep (h : TqM tt tv w g T L wv K) (hk : Keeps (OwnT g wv K) w w') : TqM tt tv w' g T L wv K :=
  ⟨(hk.block g (.inl rfl) h.blk.lt).trans h.blk, row_keep h.row fun c hc => hk.block c (.inr (.inl hc)) (h.row.lt c hc).2, fun x hx => (h.tags x hx).keep (hk.sub fun _ hb _ => .inr (.inr hb)), fun b hb => Nat.lt_of_lt_of_le (h.lt b hb) hk.b0.size, h.kg, h.kr, h.gr, h.is⟩
theorem TqM.on (h : TqM tt tv w g T L wv K) (hb : Below w.heap.size w w') : TqM tt tv w' g T L wv K := h.keep (Keeps.of hb)
theorem TqM.ownL (h : TqM tt tv w g T L wv K) : ∀ b, OwnT g wv K b → b < w.heap.size := by
  rintro b (rfl | hb | hb)
  · exact h.blk.lt
  · exact (h.row.lt b hb).2
  · exact h.lt b hb
theorem TqM.cells (h : TqM tt tv w g T L wv K) : w.cell? ⟨g, 0, none⟩ = some (.string T.seed) ∧ w.cell? ⟨g, 1, none⟩ = some (.int .i64 T.node) ∧ w.cell? ⟨g, 2, none⟩ = some (.int .i64 T.n) ∧ w.cell? ⟨g, 3, none⟩ = some (.int .i64 T.under) ∧ w.cell? ⟨g, 4, none⟩ = some wv :=
  ⟨h.blk.blk.get 0 (by omega), h.blk.blk.get 1 (by omega), h.blk.blk.get 2 (by omega), h.blk.blk.get 3 (by omega), h.blk.blk.get 4 (by omega)⟩
theorem TqM.shape (h : TqM tt tv w g T L wv K) : ∃ a c, wv = .slice a L.length c := by
  rcases h.row.2 with ⟨rfl, h0⟩ | ⟨q, cap, cur, rfl, _⟩
  · exact ⟨none, 0, by rw [h0]⟩
  · exact ⟨_, _, rfl⟩
theorem TqM.len (h : TqM tt tv w g T L wv K) : L.length = T.votes.length := by rw [← h.is, List.length_map]
/-- a vote's cells -/
theorem TqM.at (h : TqM tt tv w g T L wv K) (i : Nat) (hi : i < L.length) : ∃ q cap, wv = .slice (some ⟨q, 0, none⟩) L.length cap ∧ q < w.heap.size ∧ ∀ wx : World, wx.heap[q]? = w.heap[q]? → wx.cell? ⟨q, i * 4, none⟩ = some (.int .i64 (L.getD i vx0).1) ∧ wx.cell? ⟨q, i * 4 + 1, none⟩ = some (.string (L.getD i vx0).2.1) ∧ wx.cell? ⟨q, i * 4 + 2, none⟩ = some (.int .i64 (L.getD i vx0).2.2.1) ∧ wx.cell? ⟨q, i * 4 + 3, none⟩ = some (tvS (L.getD i vx0).2.2) := by
  rcases h.row.2 with ⟨_, h0⟩ | ⟨q, cap, cur, rfl, _⟩
  · omega
  · have hr := rowr_of_own (t := tv) encX_len vx0 h.row
    refine ⟨q, cap, rfl, hr.lt, fun wx hx => ?_⟩
    have hr := hr.on hx
    have key : ∀ j u, (encX (L.getD i vx0))[j]? = some u → wx.cell? ⟨q, i * 4 + j, none⟩ = some u := fun j u hu => by
      have := hr.get i hi j u hu
      rwa [Nat.zero_add] at this
    exact ⟨key 0 _ rfl, key 1 _ rfl, key 2 _ rfl, key 3 _ rfl⟩
end
end TA
end
section
open Go Go.RowKit
namespace TA
open QU RR FF JJ CC MM WW BB
end TA
namespace Go.Proofs.YthajnkcipifhcaaGreatDoor
open TA QU RR FF JJ CC MM WW BB
/-- the code's tally is T, by the blocks O -/
def At14 (O : Nat → Prop) (w : World) (g : Nat) (T : Ta) : Prop := ∃ L wv K, TqM 75 191 w g T L wv K ∧ ∀ b, O b ↔ OwnT g wv K b
set_option maxRecDepth 100000 in
set_option maxHeartbeats 1000000 in
theorem new14 (w : World) (s : ByteArray) (d n : Int) : Calls Tryz.prog 35 #[.string s, .int .i64 d, .int .i64 n] w fun e w' => ∃ g O, e = .returned (.pointer (some ⟨g, 0, none⟩)) ∧ At14 O w' g (newT s d n) ∧ (∀ b, O b → w.heap.size ≤ b) ∧ Below w.heap.size w w' := by
  go_enter Tryz.func35, Tryz.ntmps35
  go_wp2_with fail
  go_ret
  refine ⟨w.heap.size, OwnT w.heap.size (.slice none 0 0) (fun _ => False), rfl, ⟨[], .slice none 0 0, fun _ => False, ⟨?_, World.ownsRow_nil _ _ _ _, fun x hx => absurd hx List.not_mem_nil, fun _ h => absurd h id, id, fun _ _ h => h, (fun h => by cases h), rfl⟩, fun _ => Iff.rfl⟩, ?_, (Below.refl _ _).alloc (Nat.le_refl _) _⟩
  · exact TBlk.new' w 5 w.heap.size _ _ _ rfl rfl
  · rintro b (rfl | h | h)
    · exact Nat.le_refl _
    · cases h
    · exact h.elim
end Go.Proofs.YthajnkcipifhcaaGreatDoor
end
section
open Go Go.RowKit
namespace TA
open QU ZZ RR FF JJ CC MM WW BB
theorem vx_at {w w' : World} {b off : Nat} {O : List Vx} (hb : Below w.heap.size w w') (hl : b < w.heap.size) (hc : ∀ i, i < O.length → ∀ j u, (encX (O.getD i vx0))[j]? = some u → w.cell? ⟨b, off + i * 4 + j, none⟩ = some u) (i : Nat) (hi : i < O.length) :
    w'.cell? ⟨b, off + i * 4, none⟩ = some (.int .i64 (O.getD i vx0).1) ∧ w'.cell? ⟨b, off + i * 4 + 1, none⟩ = some (.string (O.getD i vx0).2.1) ∧ w'.cell? ⟨b, off + i * 4 + 2, none⟩ = some (.int .i64 (O.getD i vx0).2.2.1) ∧ w'.cell? ⟨b, off + i * 4 + 3, none⟩ = some (tvS (O.getD i vx0).2.2) :=
  ⟨(hb.cell (p := ⟨b, off + i * 4, none⟩) hl).trans (hc i hi 0 _ rfl), (hb.cell (p := ⟨b, off + i * 4 + 1, none⟩) hl).trans (hc i hi 1 _ rfl), (hb.cell (p := ⟨b, off + i * 4 + 2, none⟩) hl).trans (hc i hi 2 _ rfl), (hb.cell (p := ⟨b, off + i * 4 + 3, none⟩) hl).trans (hc i hi 3 _ rfl)⟩
end TA
namespace Go.Proofs.YthajnkcipifhcaaGreatDoor
open TA QU ZZ RR FF JJ CC MM WW BB
set_option maxRecDepth 100000 in
set_option maxHeartbeats 4000000 in
theorem tifun_any (O : List Vx) (v fv : Value) (p : Vx → Bool) (w : World) (hv : GRow 4 encX vx0 (fun _ => True) w v O) (hl : O.length ≤ 1000)
    (hp : ∀ i (_ : i < O.length) (wr : World), Below w.heap.size w wr → CallsW Tryz.prog fv #[vqX (O.getD i vx0)] wr fun e w' => e = .returned (.bool (p (O.getD i vx0))) ∧ Below wr.heap.size wr w') :
    Calls Tryz.prog 221 #[v, fv] w fun e w' => e = .returned (.int .i64 (idxI O p)) ∧ Below w.heap.size w w' := by
  have HV := Lib.hid hv
  have HL := Lib.hid hl
  have HP := Lib.hid hp
  obtain ⟨a0, cap, rfl, hx⟩ := hv
  have HX := Lib.hid hx
  obtain ⟨X, hX⟩ : ∃ X, idxI O p = X := ⟨_, rfl⟩
  have HTX := Lib.hid hX
  rw [hX]
  clear hl hX hp hx
  go_enter Tryz.func221, Tryz.ntmps221
  go_wp2_with fail
  go_loopw [8] (fun y wr => ∃ i : Nat, i ≤ O.length ∧ y = .int .i64 (i : Int) ∧ (∀ j, j < i → p (O.getD j vx0) = false) ∧ Below w.heap.size w wr) (fun y _ => O.length - (RowKit.intOf y).toNat)
  case atStart => exact ⟨0, Nat.zero_le _, rfl, fun j hj => absurd hj (Nat.not_lt_zero _), Below.refl _ _⟩
  case round =>
    obtain ⟨i, hi, rfl, hall, hbr⟩ := hrel
    have HALL := Lib.hid hall
    have HBR := Lib.hid hbr
    have i0 : (0 : Int) ≤ (i : Int) := by omega
    have ib : (i : Int) ≤ 1000 := by have := HL.out; omega
    clear hall
    by_cases hlt : i < O.length
    · have hlt' : (i : Int) < (O.length : Int) := by omega
      have HLT := Lib.hid hlt
      obtain ⟨qb, qoff, rfl, _, hqb, hcell⟩ : ∃ b off, a0 = some ⟨b, off, none⟩ ∧ True ∧ b < w.heap.size ∧ _ := by
        rcases HX.out with h | h
        · rw [h] at hlt; simp at hlt
        · exact h
      obtain ⟨q0, q1, q2, q3⟩ := vx_at hbr hqb hcell i hlt
      obtain ⟨y, hy⟩ : ∃ y, O.getD i vx0 = y := ⟨_, rfl⟩
      have HY := Lib.hid hy
      have HQ := Lib.hid (HP.out i hlt)
      rw [hy] at q0 q1 q2 q3 HQ
      obtain ⟨xv, xk, xf, ⟨xa, xc⟩, xt⟩ := y
      rw [show tvS (xf, (xa, xc), xt) = .slice xa xt.length xc from rfl] at q3
      clear hi hlt hy hbr hqb hcell
      go_wp2_with (with_reducible refine hold_callv rfl rfl ?_)
      refine wpl_callw (v := fv) (args := #[vqX (xv, xk, xf, (xa, xc), xt)]) _ rfl rfl rfl (by simp [Act.eval]; rfl) (HQ.out wr HBR.out) (fun e w' h => ⟨_, h.1⟩) ?_
      rintro u w3 ⟨hu, hb3⟩
      injection hu with hu
      subst hu
      have HB3 := Lib.hid (HBR.out.trans (hb3.mono HBR.out.size))
      clear hb3 HQ
      rcases hpp : p (xv, xk, xf, (xa, xc), xt) with _ | _
      · have HPP := Lib.hid hpp
        clear hpp
        go_wp2_with fail
        go_roundw
        case rel => exact ⟨i + 1, by have := HLT.out; omega, by go_num, fun j hj => if h : j = i then by subst h; rw [HY.out]; exact HPP.out else HALL.out j (by omega), HB3.out⟩
        case measure => have := HLT.out; simp [RowKit.intOf]; omega
      · have HPP := Lib.hid hpp
        clear hpp
        go_wp2_with fail
        go_ret
        refine ⟨?_, HB3.out⟩
        rw [← HTX.out, idx_hit i HLT.out (fun j hj => by rw [← getD_at (d := vx0)]; exact HALL.out j hj) (by rw [← getD_at (d := vx0) HLT.out, HY.out]; exact HPP.out)]
        rfl
    · obtain rfl : i = O.length := by omega
      have hlt' : ¬ (O.length : Int) < (O.length : Int) := by omega
      clear hi hlt
      go_wp2_with fail
      go_ret
      refine ⟨?_, HBR.out⟩
      rw [← HTX.out, idx_none (fun j hj => by rw [← getD_at (d := vx0)]; exact HALL.out j hj)]
      rfl
end Go.Proofs.YthajnkcipifhcaaGreatDoor
end
section
open Go Go.RowKit
namespace TA
open IN QU RR FF JJ CC MM WW BB
/-- the code's tally in block g.b: the votes L in the row wv, their tags in blocks that meet K -/
structure TqMI (tt tv : TypeId) (w : World) (g : Sp) (T : Ta) (L : List Vx) (wv : Value) (K : Nat → Prop) : Prop where
  blk : SBlk w g 21 5 (taX T wv)
  row : w.ownsRow 0 tv 4 wv L.length (cellsG encX L)
  tags : ∀ x ∈ L, TagIn K w x.2.2
  lt : ∀ b, K b → b < w.heap.size
  kg : ¬ K g
  kr : ∀ b, wv.ownBlock = some b → ¬ K b
  gr : wv.ownBlock ≠ some g.b
  is : L.map nude = T.votes
section
variable {tt tv : TypeId} {w w' : World} {g : Sp} {T : Ta} {L : List Vx} {wv : Value} {K : Nat → Prop}
theorem TqMI.keep (h : TqMI tt tv w g T L wv K) (hk : Keeps (OwnT g wv K) w w') : TqMI tt tv w' g T L wv K :=
  ⟨h.blk.of_heap (hk.block g.b (.inl rfl) h.blk.lt), row_keep h.row fun c hc => hk.block c (.inr (.inl hc)) (h.row.lt c hc).2, fun x hx => (h.tags x hx).keep (hk.sub fun _ hb _ => .inr (.inr hb)), fun b hb => Nat.lt_of_lt_of_le (h.lt b hb) hk.b0.size, h.kg, h.kr, h.gr, h.is⟩
theorem TqMI.on (h : TqMI tt tv w g T L wv K) (hb : Below w.heap.size w w') : TqMI tt tv w' g T L wv K := h.keep (Keeps.of hb)
theorem TqMI.ownL (h : TqMI tt tv w g T L wv K) : ∀ b, OwnT g wv K b → b < w.heap.size := by
  rintro b (rfl | hb | hb)
  · exact h.blk.lt
  · exact (h.row.lt b hb).2
  · exact h.lt b hb
theorem TqMI.cells (h : TqMI tt tv w g T L wv K) : w.cell? ⟨g.b, 21, none⟩ = some (.string T.seed) ∧ w.cell? ⟨g.b, 22, none⟩ = some (.int .i64 T.node) ∧ w.cell? ⟨g.b, 23, none⟩ = some (.int .i64 T.n) ∧ w.cell? ⟨g.b, 24, none⟩ = some (.int .i64 T.under) ∧ w.cell? ⟨g.b, 25, none⟩ = some wv :=
  ⟨h.blk.blk.get 0 (by omega), h.blk.blk.get 1 (by omega), h.blk.blk.get 2 (by omega), h.blk.blk.get 3 (by omega), h.blk.blk.get 4 (by omega)⟩
theorem TqMI.shape (h : TqMI tt tv w g T L wv K) : ∃ a c, wv = .slice a L.length c := by
  rcases h.row.2 with ⟨rfl, h0⟩ | ⟨q, cap, cur, rfl, _⟩
  · exact ⟨none, 0, by rw [h0]⟩
  · exact ⟨_, _, rfl⟩
theorem TqMI.len (h : TqMI tt tv w g T L wv K) : L.length = T.votes.length := by rw [← h.is, List.length_map]
/-- a vote's cells -/
theorem TqMI.at (h : TqMI tt tv w g T L wv K) (i : Nat) (hi : i < L.length) : ∃ q cap, wv = .slice (some ⟨q, 0, none⟩) L.length cap ∧ q < w.heap.size ∧ ∀ wx : World, wx.heap[q]? = w.heap[q]? → wx.cell? ⟨q, i * 4, none⟩ = some (.int .i64 (L.getD i vx0).1) ∧ wx.cell? ⟨q, i * 4 + 1, none⟩ = some (.string (L.getD i vx0).2.1) ∧ wx.cell? ⟨q, i * 4 + 2, none⟩ = some (.int .i64 (L.getD i vx0).2.2.1) ∧ wx.cell? ⟨q, i * 4 + 3, none⟩ = some (tvS (L.getD i vx0).2.2) := by
  rcases h.row.2 with ⟨_, h0⟩ | ⟨q, cap, cur, rfl, _⟩
  · omega
  · have hr := rowr_of_own (t := tv) encX_len vx0 h.row
    refine ⟨q, cap, rfl, hr.lt, fun wx hx => ?_⟩
    have hr := hr.on hx
    have key : ∀ j u, (encX (L.getD i vx0))[j]? = some u → wx.cell? ⟨q, i * 4 + j, none⟩ = some u := fun j u hu => by
      have := hr.get i hi j u hu
      rwa [Nat.zero_add] at this
    exact ⟨key 0 _ rfl, key 1 _ rfl, key 2 _ rfl, key 3 _ rfl⟩
end
end TA
end
section
open Go Go.RowKit
namespace Go.Proofs.YthajnkcipifhcaaGreatDoor
open IN TA QU RR FF JJ CC MM WW BB
/-- the code's tally is T, by the blocks O -/
def At14I (O : Nat → Prop) (w : World) (g : Sp) (T : Ta) : Prop := ∃ L wv K, TqMI 75 191 w g T L wv K ∧ ∀ b, O b ↔ OwnT g wv K b
theorem at14_keepI {O : Nat → Prop} {w w' : World} {g : Sp} {T : Ta} (h : At14I O w g T) (hk : Keeps O w w') : At14I O w' g T := by
  obtain ⟨L, wv, K, h1, h2⟩ := h
  exact ⟨L, wv, K, h1.keep (hk.sub fun b hb _ => (h2 b).2 hb), h2⟩
theorem at14_ltI {O : Nat → Prop} {w : World} {g : Sp} {T : Ta} (h : At14I O w g T) : ∀ b, O b → b < w.heap.size := by
  obtain ⟨L, wv, K, h1, h2⟩ := h
  exact fun b hb => h1.ownL b ((h2 b).1 hb)
end Go.Proofs.YthajnkcipifhcaaGreatDoor
end
section
open Go Go.RowKit
namespace Go.Proofs.YthajnkcipifhcaaGreatDoor
open IN FF JJ CC MM WW BB
/-- the code's forest in block g.b, all that it writes from block B on: it is F -/
structure CFsI (B : Nat) (w : World) (g : Sp) (F : Fo) (rt : ByteArray) (mv ov : Value) (N O : List Iv) (C : Nat → Prop) : Prop where
  wf : WF F
  blk : SBlk w g 9 4 (rowL [.string rt, .int .i64 F.height, mv, ov])
  root : (rt = ⟨#[]⟩ ∧ F.root = firstD) ∨ rt = F.root
  nodes : N.map Prod.fst = F.nodes
  orph : O.map Prod.fst = F.orph
  map : MapAt Tryz.prog 9 w mv (entF F N) F.nodes.length
  mB : ∀ b, mapBlk mv = some b → B ≤ b
  row : w.ownsRow B 168 7 ov O.length (cellsV O)
  inn : Dep C w (fun w' => ∀ x ∈ N ++ O, InnV w' x)
  gB : B ≤ g
  cB : ∀ b, C b → B ≤ b
  cg : ¬ C g
  cm : ∀ b, mapBlk mv = some b → ¬ C b
  co : ∀ b, ov.ownBlock = some b → ¬ C b
  cl : ∀ b, C b → b < w.heap.size
  small : ∀ x ∈ N ++ O, SmallI x.1.2
section
variable {B : Nat} {w w' : World} {g : Sp} {F : Fo} {rt : ByteArray} {mv ov : Value} {N O : List Iv} {C : Nat → Prop}
theorem CFsI.keep (h : CFsI B w g F rt mv ov N O C) (hk : Keeps (MineB g mv ov C) w w') : CFsI B w' g F rt mv ov N O C :=
  ⟨h.wf, h.blk.of_heap (hk.block g.b (Or.inl rfl) h.blk.lt), h.root, h.nodes, h.orph, h.map.keep fun b hb => hk.block b (Or.inr (Or.inl hb)) (h.map.lt b hb), h.mB,
   row_keep h.row fun c hc => hk.block c (Or.inr (Or.inr (Or.inl hc))) (h.row.lt c hc).2, h.inn.on (hk.sub fun _ hb _ => Or.inr (Or.inr (Or.inr hb))), h.gB, h.cB, h.cg, h.cm, h.co, fun b hb => Nat.lt_of_lt_of_le (h.cl b hb) hk.b0.size, h.small⟩
theorem CFsI.on (h : CFsI B w g F rt mv ov N O C) (hb : Below w.heap.size w w') : CFsI B w' g F rt mv ov N O C := h.keep (Keeps.of hb)
theorem CFsI.ownL (h : CFsI B w g F rt mv ov N O C) : ∀ b, MineB g mv ov C b → b < w.heap.size := by
  rintro b (rfl | hb | hb | hb)
  · exact h.blk.lt
  · exact h.map.lt b hb
  · exact (h.row.lt b hb).2
  · exact h.cl b hb
theorem CFsI.lenO (h : CFsI B w g F rt mv ov N O C) : O.length = F.orph.length := by rw [← h.orph, List.length_map]
/-- the map's block is no struct's block -/
theorem CFsI.gm (h : CFsI B w g F rt mv ov N O C) : mapBlk mv ≠ some g.b := h.map.nomap h.blk.typ
theorem CFsI.go (h : CFsI B w g F rt mv ov N O C) : ov.ownBlock ≠ some g.b := by
  intro e
  rcases h.row.2 with ⟨h1, _⟩ | ⟨q, cap, cur, h1, _, hh, _⟩
  · rw [h1] at e; cases e
  · rw [h1] at e
    obtain rfl : q = g.b := by simpa [Value.ownBlock] using e
    have := h.blk.typ
    rw [hh] at this
    injection this with this
    injection this with _ h2 _
    exact absurd h2 (by decide)
theorem CFsI.mo (h : CFsI B w g F rt mv ov N O C) : ∀ b, ov.ownBlock = some b → mapBlk mv ≠ some b := by
  intro b hb
  rcases h.row.2 with ⟨h1, _⟩ | ⟨q, cap, cur, h1, _, hh, _⟩
  · rw [h1] at hb; cases hb
  · rw [h1] at hb
    obtain rfl : q = b := by simpa [Value.ownBlock] using hb
    exact h.map.nomap hh
theorem CFsI.c0 (h : CFsI B w g F rt mv ov N O C) : w.cell? ⟨g.b, 9, none⟩ = some (.string rt) := h.blk.blk.get 0 (by omega)
theorem CFsI.c1 (h : CFsI B w g F rt mv ov N O C) : w.cell? ⟨g.b, 10, none⟩ = some (.int .i64 F.height) := h.blk.blk.get 1 (by omega)
theorem CFsI.c2 (h : CFsI B w g F rt mv ov N O C) : w.cell? ⟨g.b, 11, none⟩ = some mv := h.blk.blk.get 2 (by omega)
theorem CFsI.c3 (h : CFsI B w g F rt mv ov N O C) : w.cell? ⟨g.b, 12, none⟩ = some ov := h.blk.blk.get 3 (by omega)
end
end Go.Proofs.YthajnkcipifhcaaGreatDoor
end
section
open Go Go.RowKit
namespace NO
open QU RR FF WW BB
/-- a message: its cells, its fields -/
structure Mo where
  f : Nat → Value
  m : Mg
def mo0 : Mo := ⟨zM, mg0⟩
def encMo (o : Mo) : List Value := (row 21 o.f).toList
theorem encMo_len (o : Mo) : (encMo o).length = 21 := by simp [encMo, row]
theorem encMo_at (o : Mo) {j : Nat} (h : j < 21) : (encMo o)[j]? = some (o.f j) := by simp [encMo, row, h]
end NO
namespace Go.Proofs.YthajnkcipifhcaaGreatDoor
open NO QU RR FF WW BB
/-- messages in memory -/
def MsM (w : World) (v : Value) (l : List Mo) : Prop := GRow 21 encMo mo0 (fun _ => True) w v l ∧ ∀ o ∈ l, MgAt w o.f o.m
theorem MsM.later {w w' : World} {v : Value} {l : List Mo} (h : MsM w v l) (hb : Below w.heap.size w w') : MsM w' v l := ⟨h.1.later hb, fun o ho => (h.2 o ho).later hb⟩
theorem msM_at {w : World} {a0 : Option Addr} {n cap : Nat} {l : List Mo} (h : MsM w (.slice a0 n cap) l) (i : Nat) (hi : i < l.length) :
    ∃ b off, a0 = some ⟨b, off, none⟩ ∧ n = l.length ∧ b < w.heap.size ∧ (∀ wx, Below w.heap.size w wx → ∀ j, j < 21 → wx.cell? ⟨b, off + i * 21 + j, none⟩ = some ((l.getD i mo0).f j)) ∧ MgAt w (l.getD i mo0).f (l.getD i mo0).m := by
  obtain ⟨⟨a, c, e, h⟩, hm⟩ := h
  injection e with e1 e2 e3
  subst e1 e2 e3
  rcases h with rfl | ⟨b, off, e, _, hl, hc⟩
  · simp at hi
  · refine ⟨b, off, e, rfl, hl, fun wx hb j hj => ?_, hm _ (by rw [List.getD_eq_getElem?_getD, List.getElem?_eq_getElem hi]; exact List.getElem_mem hi)⟩
    exact (hb.cell (p := ⟨b, off + i * 21 + j, none⟩) hl).trans (hc i hi j _ (encMo_at _ hj))
end Go.Proofs.YthajnkcipifhcaaGreatDoor
end
section
open Go Go.RowKit
namespace TA
open QU ZZ RR FF JJ CC MM WW BB
theorem vr_at {t : TypeId} {w : World} {b o n cap : Nat} {D : Nat → Vx} (h : RowR 4 encX t w b o n cap D) (i : Nat) (hi : i < n) :
    w.cell? ⟨b, o + i * 4, none⟩ = some (.int .i64 (D i).1) ∧ w.cell? ⟨b, o + i * 4 + 1, none⟩ = some (.string (D i).2.1) ∧ w.cell? ⟨b, o + i * 4 + 2, none⟩ = some (.int .i64 (D i).2.2.1) ∧ w.cell? ⟨b, o + i * 4 + 3, none⟩ = some (tvS (D i).2.2) :=
  ⟨h.get i hi 0 _ rfl, h.get i hi 1 _ rfl, h.get i hi 2 _ rfl, h.get i hi 3 _ rfl⟩
theorem vx_cells {w : World} {g : Nat} {a b c d : Value} (h : Blk w g 4 (rowL [a, b, c, d])) : w.cell? ⟨g, 0, none⟩ = some a ∧ w.cell? ⟨g, 1, none⟩ = some b ∧ w.cell? ⟨g, 2, none⟩ = some c ∧ w.cell? ⟨g, 3, none⟩ = some d :=
  ⟨h.get 0 (by omega), h.get 1 (by omega), h.get 2 (by omega), h.get 3 (by omega)⟩
theorem zero_vx (n : Nat) : (Builtin.zeroCells (Value.agg #[.int .i64 0, .string ⟨#[]⟩, .int .i64 0, .slice none 0 0]).cells n).toList.length = n * 4 ∧ ∀ v ∈ (Builtin.zeroCells (Value.agg #[.int .i64 0, .string ⟨#[]⟩, .int .i64 0, .slice none 0 0]).cells n).toList, v.oneCell' = true := by
  refine ⟨by simp [Builtin.zeroCells, Value.cells], fun v hv => ?_⟩
  simp only [Builtin.zeroCells, Value.cells, Array.toList_map, List.mem_map] at hv
  obtain ⟨i, _, rfl⟩ := hv
  have : i % 4 = 0 ∨ i % 4 = 1 ∨ i % 4 = 2 ∨ i % 4 = 3 := by omega
  rcases this with h | h | h | h <;> simp [h, Value.oneCell']
end TA
namespace Go.Proofs.YthajnkcipifhcaaGreatDoor
open TA QU ZZ FF JJ CC MM WW BB RR
theorem und_votesT : Tryz.prog.underlying 73 = some (.slice 191) := by kernel_rfl
set_option maxRecDepth 100000 in
set_option maxHeartbeats 8000000 in
theorem tdel_any (W : List Vx) (b o cap : Nat) (fv : Value) (p : Vx → Bool) (w : World) (hr : RowR 4 encX 191 w b o W.length cap (fun i => W.getD i vx0)) (hl : W.length ≤ 1000)
    (hp : ∀ r ∈ W, ∀ wr, Keep b w wr → CallsW Tryz.prog fv #[vqX r] wr fun e w' => e = .returned (.bool (p r)) ∧ Below wr.heap.size wr w') :
    Calls Tryz.prog 159 #[.slice (some ⟨b, o, none⟩) W.length cap, fv] w fun e w' => e = .returned (.slice (some ⟨b, o, none⟩) (W.filter fun r => !p r).length cap) ∧ Keep b w w' ∧ RowR 4 encX 191 w' b o (W.filter fun r => !p r).length cap (fun i => (W.filter fun r => !p r).getD i vx0) := by
  have HR := Lib.hid hr
  have HL := Lib.hid hl
  have HP := Lib.hid hp
  have HV := Lib.hid (show GRow 4 encX vx0 (fun _ => True) w (.slice (some ⟨b, o, none⟩) W.length cap) W from ⟨_, cap, rfl, Or.inr ⟨b, o, rfl, trivial, hr.lt, fun i hi j u hu => hr.get i hi j u hu⟩⟩)
  have HM := Lib.hid (fun i (hi : i < W.length) => show W.getD i vx0 ∈ W by rw [getD_at hi]; exact List.getElem_mem hi)
  clear hr hl hp
  go_enter Tryz.func159, Tryz.ntmps159
  go_wp2_with fail
  refine (tifun_any W _ fv p w HV.out HL.out (fun i hi wr hb => HP.out _ (HM.out i hi) wr (keep_of_below hb (Nat.le_refl _) b))).mono ?_
  rintro e w2 ⟨rfl, hb2⟩
  have B2 := Lib.hid hb2
  have R2 := Lib.hid (HR.out.on (hb2.block b HR.out.lt))
  clear hb2
  rcases idxG_first vx0 W p with ⟨hi, hf⟩ | ⟨i, hi, hlt, hpi, hnone⟩
  · rw [hi]
    have HF := Lib.hid hf
    clear hi hf
    go_wp2_with fail
    go_ret
    rw [HF.out]
    exact ⟨rfl, keep_of_below B2.out (Nat.le_refl _) b, R2.out⟩
  · rw [hi]
    have HI := Lib.hid hlt
    have HPI := Lib.hid hpi
    have HTK := Lib.hid (delG_none vx0 W p i (Nat.le_of_lt hlt) hnone)
    have HK1 := Lib.hid (show delG W p (i + 1) = W.take i by rw [delG_skip vx0 W p i hlt hpi]; exact delG_none vx0 W p i (Nat.le_of_lt hlt) hnone)
    have hne : ((i : Int) == -1) = false := by rw [beq_eq_false_iff_ne]; omega
    have hne2 : ¬ (i : Int) = -1 := by omega
    have i0 : (0 : Int) ≤ (i : Int) := by omega
    have ib : (i : Int) ≤ 1000 := by have := HL.out; omega
    clear hi hlt hpi hnone
    go_wp2_with fail
    go_loopw [5, 6] (fun x y wx => ∃ c j : Nat, j ≤ W.length ∧ i < j ∧ y = .int .i64 (j : Int) ∧ c = (delG W p j).length ∧ x = .int .i64 (c : Int) ∧ RowR 4 encX 191 wx b o W.length cap (delF vx0 W p j) ∧ Keep b w wx) (fun _ y _ => W.length - (RowKit.intOf y).toNat)
    case atStart =>
      refine ⟨i, i + 1, HI.out, Nat.lt_succ_self i, by go_num, ?_, rfl, R2.out.congr _ fun k hk => ?_, keep_of_below B2.out (Nat.le_refl _) b⟩
      · rw [HK1.out, List.length_take]; have := HI.out; omega
      · unfold delF
        rw [HK1.out, List.length_take]
        split
        · rename_i h; simp [List.getD, List.getElem?_take_of_lt (show k < i by omega)]
        · rfl
    case round =>
      obtain ⟨c, j, hj, hij, rfl, hc, rfl, hrow, hkeep⟩ := hrel
      have HRW := Lib.hid hrow
      have HKE := Lib.hid hkeep
      have HCC := Lib.hid hc
      have HIJ := Lib.hid hij
      have HCL := Lib.hid (show c < j by rw [hc]; exact delG_lt vx0 W p i HI.out HPI.out j hij hj)
      have j0 : (0 : Int) ≤ (j : Int) := by omega
      have jb : (j : Int) ≤ 1000 := by have := HL.out; omega
      have c0' : (0 : Int) ≤ (c : Int) := by omega
      have cb' : (c : Int) ≤ 1000 := by have := HCL.out; omega
      clear hrow hkeep hc hij
      by_cases hlt : j < W.length
      · have l1 : (j : Int) < (W.length : Int) := by omega
        have HLT := Lib.hid hlt
        obtain ⟨a0, a1, a2, a3⟩ := vr_at HRW.out j hlt
        have e1 : delF vx0 W p j j = W.getD j vx0 := by unfold delF; rw [if_neg (by rw [← HCC.out]; have := HCL.out; omega)]
        rw [e1] at a0 a1 a2 a3
        have HQ := Lib.hid (HP.out _ (HM.out j hlt))
        obtain ⟨r, hr⟩ : ∃ r, W.getD j vx0 = r := ⟨_, rfl⟩
        have HRR := Lib.hid hr
        rw [hr] at a0 a1 a2 a3 HQ
        obtain ⟨xv, xk, xf, ⟨xa, xc⟩, xt⟩ := r
        rw [show tvS (xf, (xa, xc), xt) = .slice xa xt.length xc from rfl] at a3
        have X1 := Lib.hid ((Below.refl wr.heap.size wr).alloc (Nat.le_refl _) (.cells #[.int .i64 xv, .string xk, .int .i64 xf, .slice xa xt.length xc] 191))
        have BX := Lib.hid (show Blk (wr.alloc (.cells #[.int .i64 xv, .string xk, .int .i64 xf, .slice xa xt.length xc] 191)) wr.heap.size 4 (rowL [.int .i64 xv, .string xk, .int .i64 xf, .slice xa xt.length xc]) from Blk.new' rfl rfl)
        clear hlt hj e1 hr
        go_wp2_with (with_reducible refine hold_callv rfl rfl ?_)
        clear a0 a1 a2 a3
        refine wpl_callw (v := fv) (args := #[vqX (xv, xk, xf, (xa, xc), xt)]) _ rfl rfl rfl (by simp [Act.eval]; rfl) (HQ.out _ (HKE.out.trans (keep_of_below X1.out (Nat.le_refl _) b))) (fun e w' h => ⟨_, h.1⟩) ?_
        rintro u w3 ⟨hu, hb3⟩
        injection hu with hu
        subst hu
        have B3 := Lib.hid (X1.out.trans (hb3.mono X1.out.size))
        have R3 := Lib.hid (HRW.out.on (B3.out.block b HRW.out.lt))
        have K3 := Lib.hid (HKE.out.trans (keep_of_below B3.out (Nat.le_refl _) b))
        have BX3 := Lib.hid (BX.out.below hb3 BX.out.lt)
        clear hb3 HQ
        rcases hpp : p (xv, xk, xf, (xa, xc), xt) with _ | _
        · have HPP := Lib.hid hpp
          have HCW := Lib.hid (show c < W.length by have := HCL.out; have := HLT.out; omega)
          obtain ⟨d0, d1, d2, d3⟩ := vx_cells BX3.out
          obtain ⟨m0, m1, m2, m3⟩ := vr_at R3.out c HCW.out
          have f0 := R3.out.frz (o + c * 4)
          have f1 := R3.out.frz (o + c * 4 + 1)
          have f2 := R3.out.frz (o + c * 4 + 2)
          have f3 := R3.out.frz (o + c * 4 + 3)
          have l3 : (c : Int) < (W.length : Int) := by have := HCW.out; omega
          have HNW := Lib.hid ((R3.out.set encX_len c HCW.out (xv, xk, xf, (xa, xc), xt)).congr (delF vx0 W p (j + 1)) fun k _ => by rw [HCC.out, ← HRR.out]; exact delF_put vx0 W p j HLT.out (by rw [HRR.out]; exact HPP.out) k)
          have HKN := Lib.hid (K3.out.trans (keepC b (encX (xv, xk, xf, (xa, xc), xt)) (o + c * 4) w3))
          clear hpp
          go_wp2_with fail
          go_roundw
          case rel => exact ⟨c + 1, j + 1, HLT.out, by have := HIJ.out; omega, by go_num, by rw [delG_succ vx0 W p j HLT.out, HRR.out, if_neg (by rw [HPP.out]; decide), List.length_append, ← HCC.out]; rfl, by go_num, HNW.out, HKN.out⟩
          case measure => have := HLT.out; simp [RowKit.intOf]; omega
        · have HPP := Lib.hid hpp
          have HSK := Lib.hid (delG_skip vx0 W p j HLT.out (by rw [HRR.out]; exact HPP.out))
          clear hpp
          go_wp2_with fail
          go_roundw
          case rel => exact ⟨c, j + 1, HLT.out, by have := HIJ.out; omega, by go_num, by rw [HSK.out]; exact HCC.out, rfl, R3.out.congr _ fun k _ => by unfold delF; rw [HSK.out], K3.out⟩
          case measure => have := HLT.out; simp [RowKit.intOf]; omega
      · obtain rfl : j = W.length := by omega
        have l1 : ¬ (W.length : Int) < (W.length : Int) := by omega
        have HCW := Lib.hid (show c < W.length from HCL.out)
        have HCAP := Lib.hid (show W.length ≤ cap from HRW.out.room)
        have l2 : c < cap := by have := HCW.out; have := HCAP.out; omega
        have l3 : (c : Int) ≤ (W.length : Int) := by have := HCW.out; omega
        have l4 : (c : Int) ≤ (cap : Int) := by omega
        have hz := zero_vx (W.length - c)
        have hclr : ∀ ty, (Builtin.clear_ #[73] ty #[.slice (some ⟨b, o + c * 4, none⟩) (W.length - c) (cap - c)]).run Tryz.prog wr = .ok (.tuple #[]) (wr.setCells b (o + c * 4) (Builtin.zeroCells (Value.agg #[.int .i64 0, .string ⟨#[]⟩, .int .i64 0, .slice none 0 0]).cells (W.length - c)).toList) := fun ty =>
          run_clearK wr 73 191 ty _ und_votesT (fun _ => rfl) b (o + c * 4) (W.length - c) (cap - c) ((W.length - c) * 4) (by have := HCW.out; omega) hz.1 hz.2
            (fun j hj => by have := (HRW.out.some encX_len (c * 4 + j) (by have := HCW.out; omega)).1; rw [show o + (c * 4 + j) = o + c * 4 + j by omega] at this; exact this)
            (fun j hj => HRW.out.frz _)
        have HKK := Lib.hid (show delG W p W.length = W.filter fun r => !p r from delG_all W p)
        have HLEN := Lib.hid (show (W.filter fun r => !p r).length = c by rw [← HKK.out]; exact HCC.out.symm)
        have HOUT := Lib.hid (show RowR 4 encX 191 (wr.setCells b (o + c * 4) (Builtin.zeroCells (Value.agg #[.int .i64 0, .string ⟨#[]⟩, .int .i64 0, .slice none 0 0]).cells (W.length - c)).toList) b o c cap (fun i => (W.filter fun r => !p r).getD i vx0) from
          (HRW.out.past encX_len c (Nat.le_of_lt HCW.out) _).congr _ fun k hk => by unfold delF; rw [if_pos (by rw [← HCC.out]; exact hk), HKK.out])
        have HKB := Lib.hid (HKE.out.trans (keepC b (Builtin.zeroCells (Value.agg #[.int .i64 0, .string ⟨#[]⟩, .int .i64 0, .slice none 0 0]).cells (W.length - c)).toList (o + c * 4) wr))
        clear hz hj hlt
        go_wp2_with fail
        go_ret
        rw [HLEN.out]
        exact ⟨rfl, HKB.out, HOUT.out⟩
set_option maxRecDepth 100000 in
set_option maxHeartbeats 2000000 in
theorem tdel_nil (fv : Value) (w : World) :
    Calls Tryz.prog 159 #[.slice none 0 0, fv] w fun e w' => e = .returned (.slice none 0 0) ∧ Below w.heap.size w w' := by
  go_enter Tryz.func159, Tryz.ntmps159
  go_wp2_with fail
  refine (tifun_any [] (.slice none 0 0) fv (fun _ => false) w ⟨none, 0, rfl, Or.inl rfl⟩ (Nat.zero_le _) (fun i hi _ _ => absurd hi (Nat.not_lt_zero _))).mono ?_
  rintro e w2 ⟨rfl, hb2⟩
  rw [show idxI ([] : List Vx) (fun _ => false) = -1 from rfl]
  go_wp2_with fail
  go_ret
  exact ⟨rfl, hb2⟩
end Go.Proofs.YthajnkcipifhcaaGreatDoor
end
section
open Go Go.RowKit
namespace TA
open QU ZZ RR FF JJ CC MM WW BB
section
variable {tt tv : TypeId} {w w1 : World} {g : Nat} {T : Ta} {L L' : List Vx} {wv wv' : Value} {K K' : Nat → Prop}
theorem TqM.under (h : TqM tt tv w g T L wv K) (M : Int) : TqM tt tv (w.setCell ⟨g, 3, none⟩ (.int .i64 M)) g { T with under := M } L wv K := by
  have hu := Upd.set w g 3 (.int .i64 M)
  have hk : Keeps (fun b => b ≠ g) w (w.setCell ⟨g, 3, none⟩ (.int .i64 M)) := Keeps.upd' hu fun c => c rfl
  refine ⟨(h.blk.set 3 _).congr _ fun i hi => ?_, row_keep h.row fun c hc => hk.block c (fun e => h.gr (e ▸ hc)) (h.row.lt c hc).2, fun x hx => (h.tags x hx).keep (hk.sub fun b hb _ e => h.kg (e ▸ hb)), fun b hb => Nat.lt_of_lt_of_le (h.lt b hb) hk.b0.size, h.kg, h.kr, h.gr, h.is⟩
  match i, hi with
  | 0, _ => rfl
  | 1, _ => rfl
  | 2, _ => rfl
  | 3, _ => rfl
  | 4, _ => rfl
/-- another row lies in the tally's block -/
theorem TqM.newrow (h : TqM tt tv w g T L wv K) (hr : w1.ownsRow 0 tv 4 wv' L'.length (cellsG encX L')) (hk : Keeps (fun b => wv.ownBlock ≠ some b) w w1) (hloc : ∀ b, wv'.ownBlock = some b → wv.ownBlock = some b ∨ w.heap.size ≤ b)
    (ht : ∀ x ∈ L', TagIn K' w1 x.2.2) (hKL : ∀ b, K' b → b < w1.heap.size) (hKg : ¬ K' g) (hKr : ∀ b, wv'.ownBlock = some b → ¬ K' b) :
    TqM tt tv (w1.setCell ⟨g, 4, none⟩ wv') g { T with votes := L'.map nude } L' wv' K' ∧ Keeps (fun b => wv.ownBlock ≠ some b ∧ b ≠ g) w (w1.setCell ⟨g, 4, none⟩ wv') := by
  have hu := Upd.set w1 g 4 wv'
  have hgo : ∀ b, wv'.ownBlock = some b → b ≠ g := fun b hb e => by
    rcases hloc b hb with h1 | h1
    · exact h.gr (e ▸ h1)
    · have := h.blk.lt; omega
  have hk1 : Keeps (fun b => b ≠ g) w1 (w1.setCell ⟨g, 4, none⟩ wv') := Keeps.upd' hu fun c => c rfl
  have hk2 : Keeps (fun b => wv.ownBlock ≠ some b ∧ b ≠ g) w (w1.setCell ⟨g, 4, none⟩ wv') := (hk.sub fun b hb _ => hb.1).trans (hk1.sub fun b hb _ => hb.2)
  refine ⟨⟨?_, row_keep hr fun c hc => hu.block c (hgo c hc), fun x hx => (ht x hx).keep (hk1.sub fun b hb _ e => hKg (e ▸ hb)), fun b hb => Nat.lt_of_lt_of_le (hKL b hb) hk1.b0.size, hKg, hKr, fun e => hgo g e rfl, rfl⟩, hk2⟩
  have k1 : TBlk tt w1 g 5 _ := (hk.block g (fun e => h.gr e) h.blk.lt).trans h.blk
  refine (k1.set 4 _).congr _ fun j hj => ?_
  match j, hj with
  | 0, _ => rfl
  | 1, _ => rfl
  | 2, _ => rfl
  | 3, _ => rfl
  | 4, _ => rfl
end
theorem below_votes (L : List Vx) (M : Int) : (L.filter fun x => !decide (x.1 ≤ M)).map nude = (L.map nude).filter fun x => decide (M < x.1) := by
  rw [List.filter_map]
  congr 1
  apply List.filter_congr
  intro x _
  show (!decide (x.1 ≤ M)) = decide (M < x.1)
  by_cases hc : x.1 ≤ M
  · rw [decide_eq_true hc, decide_eq_false (by omega)]; rfl
  · rw [decide_eq_false hc, decide_eq_true (by omega)]; rfl
end TA
namespace Go.Proofs.YthajnkcipifhcaaGreatDoor
open TA QU ZZ RR FF JJ CC MM WW BB
set_option maxRecDepth 100000 in
set_option maxHeartbeats 2000000 in
theorem own_below1 : WW.Own Tryz.prog 160 := ⟨_, Tryz.func160, by kernel_rfl, by kernel_rfl⟩
end Go.Proofs.YthajnkcipifhcaaGreatDoor
end
section
open Go Go.RowKit
namespace TA
open IN QU ZZ RR FF JJ CC MM WW BB
section
variable {tt tv : TypeId} {w w1 : World} {g : Sp} {T : Ta} {L L' : List Vx} {wv wv' : Value} {K K' : Nat → Prop}
theorem TqMI.under (h : TqMI tt tv w g T L wv K) (M : Int) : TqMI tt tv (w.setCell ⟨g.b, 24, none⟩ (.int .i64 M)) g { T with under := M } L wv K := by
  have hu := Upd.set w g.b 24 (.int .i64 M)
  have hk : Keeps (fun b => b ≠ g.b) w (w.setCell ⟨g.b, 24, none⟩ (.int .i64 M)) := Keeps.upd' hu fun c => c rfl
  refine ⟨(h.blk.set 3 _).congr _ fun i hi => ?_, row_keep h.row fun c hc => hk.block c (fun e => h.gr (e ▸ hc)) (h.row.lt c hc).2, fun x hx => (h.tags x hx).keep (hk.sub fun b hb _ e => h.kg (e ▸ hb)), fun b hb => Nat.lt_of_lt_of_le (h.lt b hb) hk.b0.size, h.kg, h.kr, h.gr, h.is⟩
  match i, hi with
  | 0, _ => rfl
  | 1, _ => rfl
  | 2, _ => rfl
  | 3, _ => rfl
  | 4, _ => rfl
/-- another row lies in the tally's block -/
theorem TqMI.newrow (h : TqMI tt tv w g T L wv K) (hr : w1.ownsRow 0 tv 4 wv' L'.length (cellsG encX L')) (hk : Keeps (fun b => wv.ownBlock ≠ some b) w w1) (hloc : ∀ b, wv'.ownBlock = some b → wv.ownBlock = some b ∨ w.heap.size ≤ b)
    (ht : ∀ x ∈ L', TagIn K' w1 x.2.2) (hKL : ∀ b, K' b → b < w1.heap.size) (hKg : ¬ K' g) (hKr : ∀ b, wv'.ownBlock = some b → ¬ K' b) :
    TqMI tt tv (w1.setCell ⟨g.b, 25, none⟩ wv') g { T with votes := L'.map nude } L' wv' K' ∧ Keeps (fun b => wv.ownBlock ≠ some b ∧ b ≠ g.b) w (w1.setCell ⟨g.b, 25, none⟩ wv') := by
  have hu := Upd.set w1 g.b 25 wv'
  have hgo : ∀ b, wv'.ownBlock = some b → b ≠ g.b := fun b hb e => by
    rcases hloc b hb with h1 | h1
    · exact h.gr (e ▸ h1)
    · have := h.blk.lt; omega
  have hk1 : Keeps (fun b => b ≠ g.b) w1 (w1.setCell ⟨g.b, 25, none⟩ wv') := Keeps.upd' hu fun c => c rfl
  have hk2 : Keeps (fun b => wv.ownBlock ≠ some b ∧ b ≠ g.b) w (w1.setCell ⟨g.b, 25, none⟩ wv') := (hk.sub fun b hb _ => hb.1).trans (hk1.sub fun b hb _ => hb.2)
  refine ⟨⟨?_, row_keep hr fun c hc => hu.block c (hgo c hc), fun x hx => (ht x hx).keep (hk1.sub fun b hb _ e => hKg (e ▸ hb)), fun b hb => Nat.lt_of_lt_of_le (hKL b hb) hk1.b0.size, hKg, hKr, fun e => hgo g e rfl, rfl⟩, hk2⟩
  have k1 : SBlk w1 g 21 5 _ := h.blk.of_heap (hk.block g.b (fun e => h.gr e) h.blk.lt)
  refine (k1.set 4 _).congr _ fun j hj => ?_
  match j, hj with
  | 0, _ => rfl
  | 1, _ => rfl
  | 2, _ => rfl
  | 3, _ => rfl
  | 4, _ => rfl
end
end TA
namespace Go.Proofs.YthajnkcipifhcaaGreatDoor
open IN TA QU ZZ RR FF JJ CC MM WW BB
set_option maxRecDepth 100000 in
set_option maxHeartbeats 4000000 in
/-- is this vote's view below? -/
theorem below1_anyI (x : Vx) (p : Nat) (g : Sp) (M : Int) (w : World) (hp : w.cell? ⟨p, 0, none⟩ = some (.pointer (some ⟨g.b, 21, none⟩))) (hg : w.cell? ⟨g.b, 24, none⟩ = some (.int .i64 M)) (hpl : p < w.heap.size) (hgl : g.b < w.heap.size) :
    Calls Tryz.prog 160 #[vqX x, .pointer (some ⟨p, 0, none⟩)] w fun e w' => e = .returned (.bool (decide (x.1 ≤ M))) ∧ Below w.heap.size w w' := by
  obtain ⟨xv, xk, xf, ⟨ta, tc⟩, xt⟩ := x
  show Calls Tryz.prog 160 #[.agg #[.int .i64 xv, .string xk, .int .i64 xf, .slice ta xt.length tc], .pointer (some ⟨p, 0, none⟩)] w fun e w' => e = .returned (.bool (decide (xv ≤ M))) ∧ Below w.heap.size w w'
  have X1 := Lib.hid ((Below.refl w.heap.size w).alloc (Nat.le_refl _) (.cells #[.int .i64 xv, .string xk, .int .i64 xf, .slice ta xt.length tc] 191))
  have L1 := Lib.hid (show Blk (w.alloc (.cells #[.int .i64 xv, .string xk, .int .i64 xf, .slice ta xt.length tc] 191)) w.heap.size 4 (rowL [.int .i64 xv, .string xk, .int .i64 xf, .slice ta xt.length tc]) from Blk.new' rfl rfl)
  have q0 := (X1.out.cell (p := ⟨p, 0, none⟩) hpl).trans hp
  have q1 := (X1.out.cell (p := ⟨g.b, 24, none⟩) hgl).trans hg
  clear hp hg hpl hgl
  go_enter Tryz.func160, Tryz.ntmps160
  go_upto_region 1 with fail
  obtain ⟨y, hy⟩ : ∃ y, w.heap.size = y := ⟨_, rfl⟩
  obtain ⟨w1, hw1⟩ : ∃ w1, w.alloc (.cells #[.int .i64 xv, .string xk, .int .i64 xf, .slice ta xt.length tc] 191) = w1 := ⟨_, rfl⟩
  rw [hw1] at X1 L1 q0 q1 ⊢
  rw [hy] at L1 ⊢
  clear hw1 hy
  have d0 : w1.cell? ⟨y, 0, none⟩ = some (.int .i64 xv) := L1.out.get 0 (by omega)
  go_quiet (fail)
  go_wp2_with fail
  go_ret
  exact ⟨rfl, below_drewI X1.out _⟩
set_option maxRecDepth 100000 in
set_option maxHeartbeats 16000000 in
theorem below14I (O : Nat → Prop) (w : World) (g : Sp) (T : Ta) (v : Int) (h : At14I O w g T) (hi : InvTa T) :
    Calls Tryz.prog 99 #[.pointer (some ⟨g.b, 21, none⟩), .int .i64 v] w fun e w' => e = .returned (.tuple #[]) ∧ ∃ O', At14I O' w' g (belowT T v) ∧ Keeps (fun b => ¬ O b) w w' ∧ ∀ b, O' b → O b ∨ w.heap.size ≤ b := by
  obtain ⟨L, wv, K, h1, h3⟩ := h
  have H := Lib.hid h1
  have HO := Lib.hid h3
  have HL := Lib.hid (show L.length ≤ 1000 by rw [h1.len]; have := hi.few; omega)
  obtain ⟨wa, wc, hwv⟩ := h1.shape
  subst hwv
  obtain ⟨s, d, n, un, V⟩ := T
  obtain ⟨M, hM⟩ : ∃ M, max un v = M := ⟨_, rfl⟩
  have HMM := Lib.hid hM
  have HIS := Lib.hid (show L.map nude = V from h1.is)
  have X1 := Lib.hid ((Below.refl w.heap.size w).alloc (Nat.le_refl _) (.cells #[.pointer (some ⟨g.b, 21, none⟩)] 76))
  have P1 := Lib.hid (show Blk (w.alloc (.cells #[.pointer (some ⟨g.b, 21, none⟩)] 76)) w.heap.size 1 (rowL [.pointer (some ⟨g.b, 21, none⟩)]) from Blk.new' rfl rfl)
  clear h1 h3 hi
  go_enter Tryz.func99, Tryz.ntmps99
  go_upto_region 1 with fail
  obtain ⟨p, hp⟩ : ∃ p, w.heap.size = p := ⟨_, rfl⟩
  have HP := Lib.hid hp
  obtain ⟨w1, hw1⟩ : ∃ w1, w.alloc (.cells #[.pointer (some ⟨g.b, 21, none⟩)] 76) = w1 := ⟨_, rfl⟩
  rw [hw1] at X1 P1 ⊢
  rw [hp] at P1 ⊢
  clear hw1 hp
  have H1 := Lib.hid (H.out.on X1.out)
  have HCC := Lib.hid (fun (wx : World) (hx : wx.heap = w1.heap) => show wx.cell? ⟨p, 0, none⟩ = some (.pointer (some ⟨g.b, 21, none⟩)) ∧ wx.cell? ⟨g.b, 24, none⟩ = some (.int .i64 un) from
    ⟨(P1.out.of_heap (by rw [hx])).get 0 (by omega), (H1.out.blk.blk.of_heap (show wx.heap[g.b]? = w1.heap[g.b]? by rw [hx])).get 3 (by omega)⟩)
  refine planE_abs (fun wx => wx.heap = w1.heap) 9 [(true, 0), (true, 1), (true, 2), (true, 3), (true, 4), (true, 5), (true, 6), (false, 7), (false, 8), (false, 9)] (by kernel_rfl) (by kernel_rfl) (fun _ _ d _ _ h => by cases d <;> exact h) fun w2 hs2 => ⟨hs2.heap, ?_⟩
  have Y2 := Lib.hid (show Below w1.heap.size w1 w2 from hs2.below _)
  have HS2 := Lib.hid hs2.heap
  clear hs2
  iterate 7 (refine pe_run _ ?_ rfl rfl ?_ ?_; rotate_left; (focus (intro w' hS; obtain ⟨c0, c1⟩ := HCC.out w' hS; go_simp; exact rfl)); simp only [Act.put, List.setIfInBounds_toArray, List.set_cons_zero, List.set_cons_succ, List.getElem_toArray, List.getElem_cons_zero, List.getElem_cons_succ])
  refine pe_value (w' := w2) _ (.pointer (some ⟨g.b, 21, none⟩)) rfl rfl (by go_simp) HS2.out ?_
  simp only [Act.put, List.setIfInBounds_toArray, List.set_cons_zero, List.set_cons_succ, List.getElem_toArray, List.getElem_cons_zero, List.getElem_cons_succ]
  refine pe_value (w' := w2) _ (.pointer (some ⟨g.b, 24, none⟩)) rfl rfl (by go_simp) HS2.out ?_
  simp only [Act.put, List.setIfInBounds_toArray, List.set_cons_zero, List.set_cons_succ, List.getElem_toArray, List.getElem_cons_zero, List.getElem_cons_succ]
  have H2 := Lib.hid (H1.out.on Y2.out)
  have P2 := Lib.hid (P1.out.below Y2.out P1.out.lt)
  obtain ⟨_, _, _, e3, _⟩ := H2.out.cells
  have f3 := H2.out.blk.blk.frz 24
  refine pe_last _ rfl ?_
  simp only [List.getElem_toArray, List.getElem_cons_zero, List.getElem_cons_succ]
  go_upto_region 2 with fail
  have H3 := Lib.hid (H2.out.under M)
  have U3 := Lib.hid (Upd.set w2 g.b 24 (.int .i64 M))
  have hpg : p ≠ g.b := by have := H.out.blk.lt; have := HP.out; omega
  have P3 := Lib.hid (P2.out.of_heap (U3.out.block p hpg))
  have HPG := Lib.hid hpg
  obtain ⟨w3, hw3⟩ : ∃ w3, w2.setCell ⟨g.b, 24, none⟩ (.int .i64 M) = w3 := ⟨_, rfl⟩
  rw [hw3] at H3 U3 P3 ⊢
  clear hw3 e3 f3 hpg hM
  have HCD := Lib.hid (fun (wx : World) (hx : wx.heap = w3.heap) => show wx.cell? ⟨p, 0, none⟩ = some (.pointer (some ⟨g.b, 21, none⟩)) ∧ wx.cell? ⟨g.b, 25, none⟩ = some (.slice wa L.length wc) from
    ⟨(P3.out.of_heap (by rw [hx])).get 0 (by omega), (H3.out.blk.blk.of_heap (show wx.heap[g.b]? = w3.heap[g.b]? by rw [hx])).get 4 (by omega)⟩)
  have HFIN := Lib.hid (fun (w5 w6 : World) (wv6 : Value) (hb5 : Below w3.heap.size w3 w5) (hown : w6.ownsRow 0 191 4 wv6 (L.filter fun x => !decide (x.1 ≤ M)).length (cellsG encX (L.filter fun x => !decide (x.1 ≤ M)))) (hk6 : Keeps (fun b => (Value.slice wa L.length wc).ownBlock ≠ some b) w5 w6) (hloc : ∀ b, wv6.ownBlock = some b → (Value.slice wa L.length wc).ownBlock = some b) =>
      show ∃ O', At14I O' (w6.setCell ⟨g.b, 25, none⟩ wv6) g (belowT ⟨s, d, n, un, V⟩ v) ∧ Keeps (fun b => ¬ O b) w (w6.setCell ⟨g.b, 25, none⟩ wv6) ∧ ∀ b, O' b → O b ∨ w.heap.size ≤ b from by
    have H5 := H3.out.on hb5
    obtain ⟨hn, hkn⟩ := H5.newrow (K' := K) hown hk6 (fun b hb => .inl (hloc b hb)) (fun x hx => (H5.tags x (List.mem_filter.1 hx).1).keep (hk6.sub fun b hb _ e => H5.kr b e hb)) (fun b hb => Nat.lt_of_lt_of_le (H5.lt b hb) hk6.b0.size) H5.kg (fun b hb => H5.kr b (hloc b hb))
    rw [below_votes, HIS.out] at hn
    refine ⟨OwnT g wv6 K, ⟨L.filter fun x => !decide (x.1 ≤ M), wv6, K, ?_, fun _ => Iff.rfl⟩, ?_, ?_⟩
    · show TqMI _ _ _ g ⟨s, d, n, max un v, V.filter fun x => decide (max un v < x.1)⟩ _ _ _
      rw [HMM.out]
      exact hn
    · have hk1 : Keeps (fun b => b ≠ g.b) w w3 := ((Keeps.of X1.out).trans (Keeps.of (X1.out.trans (Y2.out.mono X1.out.size) |> fun _ => Y2.out))).trans (Keeps.upd' U3.out fun c => c rfl)
      refine ((hk1.trans (Keeps.of hb5)).sub fun b hb _ e => hb ((HO.out b).2 (.inl e))).trans (hkn.sub fun b hb _ => ⟨fun e => hb ((HO.out b).2 (.inr (.inl e))), fun e => hb ((HO.out b).2 (.inl e))⟩)
    · rintro b (h | h | h)
      · exact .inl ((HO.out b).2 (.inl h))
      · exact .inl ((HO.out b).2 (.inr (.inl (hloc b h))))
      · exact .inl ((HO.out b).2 (.inr (.inr h))))
  rcases H3.out.row.2 with ⟨hnil, h0⟩ | ⟨q, cap, cur, hsl, _, hh, hcp, hmx, _⟩
  · obtain rfl : L = [] := List.eq_nil_of_length_eq_zero h0
    injection hnil with e1 _ e3
    subst e1 e3
    clear h0
    refine planE_abs (fun wx => Below w3.heap.size w3 wx) 9 [(true, 0), (true, 1), (true, 2), (true, 3), (true, 4), (true, 5), (false, 6), (false, 7), (false, 8), (false, 9)] (by kernel_rfl) (by kernel_rfl) (fun _ _ d _ _ h => by cases d <;> exact h) fun w4 hs4 => ⟨hs4.below _, ?_⟩
    have Y4 := Lib.hid (hs4.below w3.heap.size)
    clear hs4
    iterate 6 (refine pe_run _ ?_ rfl rfl ?_ ?_; rotate_left; (focus (intro w' hS; have c0 := (hS.cell (p := ⟨p, 0, none⟩) P3.out.lt).trans (HCD.out w3 rfl).1; have c1 := (hS.cell (p := ⟨g.b, 25, none⟩) H3.out.blk.lt).trans (HCD.out w3 rfl).2; go_simp; exact rfl)); simp only [Act.put, List.setIfInBounds_toArray, List.set_cons_zero, List.set_cons_succ, List.getElem_toArray, List.getElem_cons_zero, List.getElem_cons_succ])
    refine pe_call (R := fun u w' => u = .slice none 0 0 ∧ Below w4.heap.size w4 w') _ rfl rfl (by go_simp) ((tdel_nil (.func (.func 160) #[] #[.pointer (some ⟨p, 0, none⟩)]) w4).mono fun e w' ⟨he, hb⟩ => ⟨_, he, rfl, hb⟩) (fun u w' ⟨_, hb⟩ => Y4.out.trans (hb.mono Y4.out.size)) fun u w5 hr => ?_
    obtain ⟨rfl, hb5⟩ := hr
    have Y5 := Lib.hid (Y4.out.trans (hb5.mono Y4.out.size))
    clear hb5
    simp only [Act.put, List.setIfInBounds_toArray, List.set_cons_zero, List.set_cons_succ, List.getElem_toArray, List.getElem_cons_zero, List.getElem_cons_succ]
    refine pe_value (w' := w5) _ (.pointer (some ⟨g.b, 21, none⟩)) rfl rfl (by go_simp) Y5.out ?_
    simp only [Act.put, List.setIfInBounds_toArray, List.set_cons_zero, List.set_cons_succ, List.getElem_toArray, List.getElem_cons_zero, List.getElem_cons_succ]
    refine pe_value (w' := w5) _ (.pointer (some ⟨g.b, 25, none⟩)) rfl rfl (by go_simp) Y5.out ?_
    simp only [Act.put, List.setIfInBounds_toArray, List.set_cons_zero, List.set_cons_succ, List.getElem_toArray, List.getElem_cons_zero, List.getElem_cons_succ]
    have H5 := Lib.hid (H3.out.on Y5.out)
    obtain ⟨_, _, _, _, e4⟩ := H5.out.cells
    have f4 := H5.out.blk.blk.frz 25
    refine pe_last _ rfl ?_
    simp only [List.getElem_toArray, List.getElem_cons_zero, List.getElem_cons_succ]
    go_wp2_with fail
    go_end0
    exact ⟨rfl, HFIN.out w5 w5 _ Y5.out (World.ownsRow_nil _ _ _ _) (Keeps.refl _ _) fun b hb => by cases hb⟩
  · injection hsl with e1 _ e3
    subst e1 e3
    have HMX := Lib.hid hmx
    have HRQ := Lib.hid (rowr_of_own (t := 191) encX_len vx0 H3.out.row)
    have HQG := Lib.hid (show q ≠ g.b from fun e => H3.out.gr (by rw [e]; rfl))
    have HQP := Lib.hid (show q ≠ p from fun e => by have := (H.out.row.lt q rfl).2; have := HP.out; omega)
    clear hh hcp hmx
    refine planE_abs (fun wx => wx.heap[p]? = w3.heap[p]? ∧ wx.heap[g.b]? = w3.heap[g.b]?) 9 [(true, 0), (true, 1), (true, 2), (true, 3), (true, 4), (true, 5), (false, 6), (false, 7), (false, 8), (false, 9)] (by kernel_rfl) (by kernel_rfl) (fun _ _ d _ _ h => by cases d <;> exact h) fun w4 hs4 => ⟨by rw [hs4.heap]; exact ⟨rfl, rfl⟩, ?_⟩
    have Y4 := Lib.hid (hs4.below w3.heap.size)
    have HZ4 := Lib.hid hs4.heap
    clear hs4
    iterate 6 (refine pe_run _ ?_ rfl rfl ?_ ?_; rotate_left; (focus (intro w' hS; have c0 := (World.cell?_of_block (a := ⟨p, 0, none⟩) hS.1).trans (HCD.out w3 rfl).1; have c1 := (World.cell?_of_block (a := ⟨g.b, 25, none⟩) hS.2).trans (HCD.out w3 rfl).2; go_simp; exact rfl)); simp only [Act.put, List.setIfInBounds_toArray, List.set_cons_zero, List.set_cons_succ, List.getElem_toArray, List.getElem_cons_zero, List.getElem_cons_succ])
    have HR4 := Lib.hid (HRQ.out.on (show w4.heap[q]? = w3.heap[q]? by rw [HZ4.out]))
    refine pe_call (R := fun u w' => u = .slice (some ⟨q, 0, none⟩) (L.filter fun x => !decide (x.1 ≤ M)).length wc ∧ Keep q w4 w' ∧ RowR 4 encX 191 w' q 0 (L.filter fun x => !decide (x.1 ≤ M)).length wc (fun i => (L.filter fun x => !decide (x.1 ≤ M)).getD i vx0)) _ rfl rfl (by go_simp)
      ((tdel_any L q 0 wc (.func (.func 160) #[] #[.pointer (some ⟨p, 0, none⟩)]) (fun x => decide (x.1 ≤ M)) w4 HR4.out HL.out fun x hx wx hk => ⟨_, _, _, rfl, own_below1, below1_anyI x p g M wx ?_ ?_ ?_ ?_⟩).mono fun e w' ⟨he, hk, hr⟩ => ⟨_, he, rfl, hk, hr⟩) (fun u w' ⟨_, hk, _⟩ => ?_) fun u w5 hr => ?_
    · exact (World.cell?_of_block (a := ⟨p, 0, none⟩) ((hk.block p (by rw [HZ4.out]; exact P3.out.lt) (Ne.symm HQP.out)).trans (by rw [HZ4.out]))).trans (HCD.out w3 rfl).1
    · exact (World.cell?_of_block (a := ⟨g.b, 24, none⟩) ((hk.block g.b (by rw [HZ4.out]; exact H3.out.blk.lt) (Ne.symm HQG.out)).trans (by rw [HZ4.out]))).trans (H3.out.blk.blk.get 3 (by omega))
    · exact Nat.lt_of_lt_of_le (by rw [HZ4.out]; exact P3.out.lt) hk.size
    · exact Nat.lt_of_lt_of_le (by rw [HZ4.out]; exact H3.out.blk.lt) hk.size
    · exact ⟨(hk.block p (by rw [HZ4.out]; exact P3.out.lt) (Ne.symm HQP.out)).trans (by rw [HZ4.out]), (hk.block g.b (by rw [HZ4.out]; exact H3.out.blk.lt) (Ne.symm HQG.out)).trans (by rw [HZ4.out])⟩
    obtain ⟨rfl, hk5, hr5⟩ := hr
    have K5 := Lib.hid hk5
    have R5 := Lib.hid hr5
    clear hk5 hr5
    simp only [Act.put, List.setIfInBounds_toArray, List.set_cons_zero, List.set_cons_succ, List.getElem_toArray, List.getElem_cons_zero, List.getElem_cons_succ]
    have HS5 := Lib.hid (show w5.heap[p]? = w3.heap[p]? ∧ w5.heap[g.b]? = w3.heap[g.b]? from ⟨(K5.out.block p (by rw [HZ4.out]; exact P3.out.lt) (Ne.symm HQP.out)).trans (by rw [HZ4.out]), (K5.out.block g.b (by rw [HZ4.out]; exact H3.out.blk.lt) (Ne.symm HQG.out)).trans (by rw [HZ4.out])⟩)
    refine pe_value (w' := w5) _ (.pointer (some ⟨g.b, 21, none⟩)) rfl rfl (by go_simp) HS5.out ?_
    simp only [Act.put, List.setIfInBounds_toArray, List.set_cons_zero, List.set_cons_succ, List.getElem_toArray, List.getElem_cons_zero, List.getElem_cons_succ]
    refine pe_value (w' := w5) _ (.pointer (some ⟨g.b, 25, none⟩)) rfl rfl (by go_simp) HS5.out ?_
    simp only [Act.put, List.setIfInBounds_toArray, List.set_cons_zero, List.set_cons_succ, List.getElem_toArray, List.getElem_cons_zero, List.getElem_cons_succ]
    have HB5 := Lib.hid (H3.out.blk.blk.of_heap (show w5.heap[g.b]? = w3.heap[g.b]? from (K5.out.block g.b (by rw [HZ4.out]; exact H3.out.blk.lt) (Ne.symm HQG.out)).trans (by rw [HZ4.out])))
    have e4 : w5.cell? ⟨g.b, 25, none⟩ = some (.slice (some ⟨q, 0, none⟩) L.length wc) := HB5.out.get 4 (by omega)
    have f4 := HB5.out.frz 25
    refine pe_last _ rfl ?_
    simp only [List.getElem_toArray, List.getElem_cons_zero, List.getElem_cons_succ]
    go_wp2_with fail
    go_end0
    refine ⟨rfl, HFIN.out w4 w5 _ Y4.out (own_of_rowr encX_len vx0 R5.out (Nat.zero_le _) HMX.out) ⟨K5.out.below (Nat.zero_le _) (Nat.zero_le _), fun b hb hl => K5.out.block b hl fun e => hb (by rw [e]; rfl)⟩ fun b hb => hb⟩
end Go.Proofs.YthajnkcipifhcaaGreatDoor
end
section
open Go Go.RowKit
namespace FF
open WW BB
theorem Keeps.low {A : Nat → Prop} {w w' : World} {n : Nat} (h : Keeps A w w') (hA : ∀ b, b < n → A b) (hn : n ≤ w.heap.size) : Below n w w' :=
  ⟨h.b0.os, h.b0.tape, h.b0.output, h.b0.size, fun k hk => h.block k (hA k hk) (Nat.lt_of_lt_of_le hk hn)⟩
end FF
namespace Go.Proofs.YthajnkcipifhcaaGreatDoor
open FF JJ CC MM WW BB
theorem notab_of {w : World} (hT : Tabs w) : ∀ b, w.heap.size ≤ b → NoTab b := fun b hb => ⟨fun e => by have := hT.l1; omega, fun e => by have := hT.l2; omega, fun e => by have := hT.l3; omega⟩
end Go.Proofs.YthajnkcipifhcaaGreatDoor
end
section
open Go Go.RowKit
namespace NO
open QU RR FF CC MM WW BB
/-- what a call leaves -/
def Next18 (At : (Nat → Prop) → World → Nat → Nat → Prop) (O : Nat → Prop) (w : World) (x me : Nat) (w' : World) : Prop :=
  ∃ O', At O' w' x me ∧ Keeps (fun b => ¬ O b) w w' ∧ ∀ b, O' b → O b ∨ w.heap.size ≤ b
theorem low18 {A : Nat → Prop} {w w' : World} {n : Nat} (h : Keeps A w w') (hA : ∀ b, b < n → A b) (hn : n ≤ w.heap.size) : Below n w w' :=
  ⟨h.b0.os, h.b0.tape, h.b0.output, h.b0.size, fun k hk => h.block k (hA k hk) (Nat.lt_of_lt_of_le hk hn)⟩
end NO
namespace Go.Proofs.YthajnkcipifhcaaGreatDoor
open NO QU RR FF CC MM WW BB
/-- what the law NodeStrange asks of the code: a new log, a node opened on it, which hears what isn't for it -/
structure Code18s where
  awake : ∀ w, Tabs w → Calls Tryz.prog 8 #[] w fun e w' => e = .returned (.bool true) ∧ Below w.heap.size w w'
  LogAt : (Nat → Prop) → World → Nat → Prop
  newlog : ∀ w, Calls Tryz.prog 11 #[] w fun e w' => ∃ l O, e = .returned (.pointer (some ⟨l, 0, none⟩)) ∧ LogAt O w' l ∧ (∀ b, O b → w.heap.size ≤ b) ∧ Below w.heap.size w w'
  At : (Nat → Prop) → World → Nat → Nat → Prop
  keep : ∀ {O w w' x me}, At O w x me → Keeps O w w' → At O w' x me
  open0 : ∀ (w : World) (l : Nat) (O : Nat → Prop) (me : Nat), me < 4 → Tabs w → (∀ b, O b → NoTab b) → LogAt O w l → Calls Tryz.prog 10 #[.string ⟨#[115]⟩, .int .i64 (me : Int), .int .i64 4, .pointer (some ⟨l, 0, none⟩)] w fun e w' => ∃ x, e = .returned (.tuple #[.pointer (some ⟨x, 0, none⟩), .int .i64 0]) ∧ Next18 At O w x me w'
  strange : ∀ (O : Nat → Prop) (w : World) (x me : Nat) (f : Nat → Value) (m : Mg), me < 4 → Tabs w → (∀ b, O b → NoTab b) → At O w x me → MgAt w f m → MemM m.x m.c m.s → m.few = true → ¬ (m.node = (me : Int) ∧ 0 ≤ m.fr ∧ m.fr ≤ 20) →
    Calls Tryz.prog 12 #[.pointer (some ⟨x, 0, none⟩), .agg (row 21 f)] w fun e w' => e = .returned (.tuple #[]) ∧ Next18 At O w x me w'
  send0 : ∀ O w x me, At O w x me → Calls Tryz.prog 13 #[.pointer (some ⟨x, 0, none⟩)] w fun e w' => (∃ a c, e = .returned (.slice a 0 c)) ∧ Next18 At O w x me w'
  view1 : ∀ O w x me, At O w x me → Calls Tryz.prog 14 #[.pointer (some ⟨x, 0, none⟩)] w fun e w' => e = .returned (.int .i64 1) ∧ Below w.heap.size w w'
  waits0 : ∀ O w x me, At O w x me → Calls Tryz.prog 15 #[.pointer (some ⟨x, 0, none⟩)] w fun e w' => e = .returned (.int .i64 0) ∧ Below w.heap.size w w'
  chain0 : ∀ O w x me, At O w x me → Calls Tryz.prog 16 #[.pointer (some ⟨x, 0, none⟩)] w fun e w' => (∃ a c, e = .returned (.slice a 0 c)) ∧ Below w.heap.size w w'
  state0 : ∀ O w x me, At O w x me → Calls Tryz.prog 17 #[.pointer (some ⟨x, 0, none⟩)] w fun e w' => e = .returned (.agg #[.int .i64 0, .int .i64 0]) ∧ Below w.heap.size w w'
  high0 : ∀ O w x me, Tabs w → At O w x me → Calls Tryz.prog 18 #[.pointer (some ⟨x, 0, none⟩)] w fun e w' => (∃ a c, e = .returned (.agg #[.int .i64 0, .string firstD, .slice a 0 c])) ∧ Below w.heap.size w w'
/-- the node behind calls of a law that began in w0 -/
def NoX (C : Code18s) (w0 : World) (x me : Nat) (w : World) : Prop := ∃ O, C.At O w x me ∧ (∀ b, O b → w0.heap.size ≤ b) ∧ Below w0.heap.size w0 w
theorem NoX.below {C : Code18s} {w0 w : World} {x me : Nat} (h : NoX C w0 x me w) : Below w0.heap.size w0 w := by obtain ⟨_, _, _, h⟩ := h; exact h
theorem NoX.on {C : Code18s} {w0 w w' : World} {x me : Nat} (h : NoX C w0 x me w) (hb : Below w.heap.size w w') : NoX C w0 x me w' := by
  obtain ⟨O, h1, h2, h3⟩ := h
  exact ⟨O, C.keep h1 (Keeps.of hb), h2, h3.trans (hb.mono h3.size)⟩
theorem NoX.next {C : Code18s} {w0 w w' : World} {x me : Nat} {O : Nat → Prop} (h2 : ∀ b, O b → w0.heap.size ≤ b) (h3 : Below w0.heap.size w0 w) (h : Next18 C.At O w x me w') : NoX C w0 x me w' := by
  obtain ⟨O', k1, k2, k3⟩ := h
  exact ⟨O', k1, fun b hb => (k3 b hb).elim (h2 b) (Nat.le_trans h3.size), h3.trans (low18 k2 (fun b hb hO => by have := h2 b hO; omega) h3.size)⟩
theorem notab18 {w : World} (hT : Tabs w) : ∀ b, w.heap.size ≤ b → NoTab b := fun b hb => ⟨fun e => by have := hT.l1; omega, fun e => by have := hT.l2; omega, fun e => by have := hT.l3; omega⟩
end Go.Proofs.YthajnkcipifhcaaGreatDoor
end
