/-
  The walk of the code's Make (cert), with what it answers in memory of its own.
-/
import Derived.Test.YtegkhhegapnkpaaDoorKECompact
import Derived.Test.YtegkhhegapnkpaaDoorKEText
import Derived.Test.YtegkhhegapnkpaaDoorKECopied
import Derived.Test.YtegkhhegapnkpaaDoorKJCopy
section
open Go Go.RowKit
namespace CC
open BB WW MM Go.Sort
theorem mkL_eq (L : List Sg) : cmpt (srt L) (srt L).length = mkL L := by unfold mkL; rw [srt_len]
theorem mkL_sub (L : List Sg) : ∀ x ∈ mkL L, x ∈ L := fun x hx => by
  obtain ⟨_, h⟩ := mkL_spec L
  have h1 : x ∈ ofN x.1 (mkL L) := by unfold ofN; rw [List.mem_filter]; exact ⟨hx, by simp⟩
  rw [h] at h1
  have h2 := List.mem_of_mem_take h1
  unfold ofN at h2
  exact (List.mem_filter.1 h2).1
theorem mkL_len (L : List Sg) : (mkL L).length ≤ L.length := by unfold mkL; exact cmpt_le _ _
end CC
namespace Go.Proofs.YtegkhhegapnkpaaDoor
open CC WW BB MM Go.Lib Go.Sort Go.Shelf
end Go.Proofs.YtegkhhegapnkpaaDoor
end
section
open Go Go.RowKit
namespace TA
open JJ CC BB WW MM Go.Sort
/-- what Make answers: all of it in memory from the call's beginning on -/
def Made14 (w : World) (v : Int) (k : ByteArray) (L : List Sg) (e : Ending) (w' : World) : Prop :=
  ∃ a0 cap, e = .returned (.agg #[.int .i64 v, .string k, .slice a0 (mkL L).length cap]) ∧ SigsNew w.heap.size w' (.slice a0 (mkL L).length cap) ((mkL L).map bare) ∧ Below w.heap.size w w'
end TA
namespace Go.Proofs.YtegkhhegapnkpaaDoor
open TA JJ CC WW BB MM Go.Lib Go.Sort Go.Shelf
set_option maxRecDepth 100000 in
set_option maxHeartbeats 8000000 in
theorem make14_sg (v : Int) (k : ByteArray) (sv : Value) (L : List Sg) (w : World) (hv : SgAt w sv L) (hl : L.length ≤ 20) (ht : ∀ x ∈ L, x.2.2.length ≤ 1000) :
    Calls Tryd.prog 113 #[.int .i64 v, .string k, sv] w (Made14 w v k L) := by
  have HV := Lib.hid hv
  have HL := Lib.hid hl
  have HT := Lib.hid ht
  clear hv hl ht
  obtain ⟨g, hg⟩ : ∃ g, w.heap.size = g := ⟨_, rfl⟩
  have k0 : Blk (w.alloc (.cells #[.int .i64 0, .string ⟨#[]⟩, .slice none 0 0] 24)) g 3 (cC (.int .i64 0) ⟨#[]⟩ (.slice none 0 0)) := Blk.new' hg.symm (cC_row _ _ _)
  have b0 := (Below.refl w.heap.size w).alloc (Nat.le_refl _) (.cells #[.int .i64 0, .string ⟨#[]⟩, .slice none 0 0] 24)
  go_enter Tryd.func113, Tryd.ntmps113
  go_wp2_with fail
  rw [hg] at b0
  have HG := Lib.hid hg
  clear hg
  generalize w.alloc (.cells #[.int .i64 0, .string ⟨#[]⟩, .slice none 0 0] 24) = w0 at *
  have K0 := Lib.hid k0
  have B0 := Lib.hid b0
  have HV0 := Lib.hid (HV.out.later (HG.out ▸ b0))
  clear k0 b0
  refine (sgclone_any L sv w0 HV0.out (by have := HL.out; omega)).mono ?_
  rintro e w1 ⟨v1, rfl, hs1, hb1⟩
  have HS1 := Lib.hid hs1
  have B1 := Lib.hid hb1
  clear hs1 hb1
  go_wp2_with fail
  refine (stable_any L v1 w0.heap.size w1 HS1.out B1.out.size HL.out).mono ?_
  rintro e w2 ⟨rfl, hs2, hb2⟩
  have HS2 := Lib.hid hs2
  have B2 := Lib.hid (B1.out.trans hb2)
  clear hs2 hb2
  go_wp2_with fail
  refine (compact_any (srt L) v1 w0.heap.size w2 HS2.out B2.out.size (by rw [srt_len]; exact HL.out)).mono ?_
  rintro e w3 ⟨v3, rfl, hs3, hb3⟩
  rw [mkL_eq] at hs3
  have B3 := Lib.hid (B2.out.trans hb3)
  -- the tags, as they came in
  have hv3 := HV0.out.later B3.out
  obtain ⟨a3, cap3, rfl, hcap3, hrow⟩ := hs3
  have HRO := Lib.hid hrow
  have HM := Lib.hid (show (mkL L).length ≤ 20 by have := mkL_len L; have := HL.out; omega)
  have HTG := Lib.hid (fun x (hx : x ∈ mkL L) => And.intro ((sg_tags HV0.out x (mkL_sub L x hx)).1.later B3.out) (And.intro (sg_tags HV.out x (mkL_sub L x hx)).2 (HT.out x (mkL_sub L x hx))))
  have K3 := Lib.hid (K0.out.below B3.out K0.out.lt)
  obtain ⟨M, hMM⟩ : ∃ M, mkL L = M := ⟨_, rfl⟩
  rw [hMM] at HRO HM HTG ⊢
  have HMM := Lib.hid hMM
  clear hrow hb3 hv3 HS1 HS2 B1 B2 hMM hcap3
  go_wp2_with fail
  rcases HRO.out with hM0 | ⟨b, o, rfl, hBb, hrow⟩
  · subst hM0
    go_loopw [17] (fun x wx => x = .int .i64 0 ∧ w3 = wx) (fun _ _ => 0)
    case atStart => exact ⟨rfl, rfl⟩
    case round =>
      obtain ⟨rfl, rfl⟩ := hrel
      have K4 := K3
      have HBA := Lib.hid (B0.out.trans (B3.out.mono (by have := B0.out.size; have := HG.out; omega)))
      have c0 : w3.cell? ⟨g, 0, none⟩ = some (.int .i64 0) := K4.out.get 0 (by omega)
      have g0 := K4.out.frz 0
      have c1 : w3.cell? ⟨g, 1, none⟩ = some (.string ⟨#[]⟩) := K4.out.get 1 (by omega)
      have g1 := K4.out.frz 1
      have c2 : w3.cell? ⟨g, 2, none⟩ = some (.slice none 0 0) := K4.out.get 2 (by omega)
      have g2 := K4.out.frz 2
      go_wp2_with fail
      have k5 := ((K4.out.set 0 (.int .i64 v)).set 1 (.string k)).set 2 (.slice a3 0 cap3)
      have q0 := k5.get 0 (by omega)
      have q1 := k5.get 1 (by omega)
      have q2 := k5.get 2 (by omega)
      rw [show put (put (put (cC (.int .i64 0) ⟨#[]⟩ (.slice none 0 0)) 0 (.int .i64 v)) 1 (.string k)) 2 (.slice a3 0 cap3) 0 = .int .i64 v from rfl] at q0
      rw [show put (put (put (cC (.int .i64 0) ⟨#[]⟩ (.slice none 0 0)) 0 (.int .i64 v)) 1 (.string k)) 2 (.slice a3 0 cap3) 1 = .string k from rfl] at q1
      rw [show put (put (put (cC (.int .i64 0) ⟨#[]⟩ (.slice none 0 0)) 0 (.int .i64 v)) 1 (.string k)) 2 (.slice a3 0 cap3) 2 = .slice a3 0 cap3 from rfl] at q2
      have hup := ((Upd.set w3 g 0 (.int .i64 v)).trans (Upd.set _ g 1 (.string k))).trans (Upd.set _ g 2 (.slice a3 0 cap3))
      refine bodyPost_ret (v := .agg #[.int .i64 v, .string k, .slice a3 0 cap3]) (by simp [results, Tryd.results113, go_sem, q0, q1, q2]) rfl ?_
      exact ⟨a3, cap3, by rw [HMM.out]; rfl, by rw [HMM.out]; exact ⟨a3, cap3, rfl, Or.inl rfl⟩, HG.out ▸ (HBA.out.trans (hup.below (Nat.le_refl _)))⟩
  · have HBB := Lib.hid (show g < b ∧ w0.heap.size ≤ b from ⟨Nat.lt_of_lt_of_le K0.out.lt hBb, hBb⟩)
    have HST := Lib.hid (show CopiedB M b o g w0.heap.size 0 w3 w3 (fun i => M.getD i s0) from ⟨fun j hj => absurd hj (Nat.not_lt_zero _), hrow, fun _ _ => rfl, fun j hj => by
      have hmem : M.getD j s0 ∈ M := by rw [List.getD_eq_getElem?_getD, List.getElem?_eq_getElem hj]; exact List.getElem_mem hj
      obtain ⟨h1, h2, _⟩ := HTG.out _ hmem
      refine ⟨h1, ?_⟩
      rcases h2 with h2 | h2
      · exact Or.inl h2
      · refine Or.inr fun c hc => ?_
        have h3 := h2 c hc
        rw [HG.out] at h3
        have h4 := HBB.out.1
        omega, Below.refl _ _, B3.out.size⟩)
    have HTL := Lib.hid (show ∀ j, j < M.length → (M.getD j s0).2.2.length ≤ 1000 from fun j hj => by
      have hmem : M.getD j s0 ∈ M := by rw [List.getD_eq_getElem?_getD, List.getElem?_eq_getElem hj]; exact List.getElem_mem hj
      exact (HTG.out _ hmem).2.2)
    clear hBb hrow HRO HTG
    go_loopw [17] (fun x wx => ∃ (i : Nat) (D : Nat → Sg), i ≤ M.length ∧ x = .int .i64 (i : Int) ∧ CopiedB M b o g w0.heap.size i w3 wx D) (fun x _ => M.length - (intOf x).toNat)
    case atStart => exact ⟨0, _, Nat.zero_le _, rfl, HST.out⟩
    case round =>
      obtain ⟨i, D, hi, rfl, hcp⟩ := hrel
      have HCP := Lib.hid hcp
      have i0 : (0 : Int) ≤ (i : Int) := by omega
      have ib : (i : Int) ≤ 20 := by have := HM.out; omega
      clear hcp
      by_cases hlt : i < M.length
      · have hlt' : (i : Int) < (M.length : Int) := by omega
        have HLT := Lib.hid hlt
        have a1 : wr.cell? ⟨b, o + i * 2 + 1, none⟩ = some (.slice (D i).2.1.1 (D i).2.2.length (D i).2.1.2) := HCP.out.row.at1 i hlt
        have HL1 := Lib.hid (show (D i).2.2.length ≤ 1000 by have h1 := congrArg Prod.snd (HCP.out.same i hlt); have h2 : (D i).2.2 = (M.getD i s0).2.2 := h1; rw [h2]; exact HTL.out i hlt)
        clear hi hlt
        go_wp2_with fail
        refine (tsclone_any (D i).2.2 _ wr (HCP.out.tags i HLT.out).1 HL1.out).mono ?_
        rintro e w5 ⟨ta, tc, rfl, hst, how, hb5⟩
        have HC5 := Lib.hid (HCP.out.on hb5)
        have HN5 := Lib.hid (show StrsNot b g w5 (.slice ta (D i).2.2.length tc) (D i).2.2 from ⟨hst, Or.inr fun c hc => by
          have h1 := how c hc
          have h2 := HCP.out.row.lt
          have h3 := HBB.out.1
          omega⟩)
        have c1 := HC5.out.row.at1 i HLT.out
        have f1 := HC5.out.row.f1 i HLT.out
        have HNX := Lib.hid (HC5.out.step HBB.out.2 HLT.out (ta, tc) HN5.out (fun c hc => Nat.le_trans HCP.out.size (how c hc)))
        clear hst how hb5 a1
        go_wp2_with fail
        go_roundw
        case rel => exact ⟨i + 1, _, by have := HLT.out; omega, by go_num, HNX.out⟩
        case measure => have := HLT.out; simp [intOf]; omega
      · obtain rfl : i = M.length := by omega
        have hlt' : ¬ (M.length : Int) < (M.length : Int) := by omega
        have K4 := Lib.hid (K0.out.below (B3.out.trans HCP.out.below) K0.out.lt)
        have HBA := Lib.hid (B0.out.trans ((B3.out.trans HCP.out.below).mono (by have := B0.out.size; have := HG.out; omega)))
        clear hi hlt
        have c0 : wr.cell? ⟨g, 0, none⟩ = some (.int .i64 0) := K4.out.get 0 (by omega)
        have g0 := K4.out.frz 0
        have c1 : wr.cell? ⟨g, 1, none⟩ = some (.string ⟨#[]⟩) := K4.out.get 1 (by omega)
        have g1 := K4.out.frz 1
        have c2 : wr.cell? ⟨g, 2, none⟩ = some (.slice none 0 0) := K4.out.get 2 (by omega)
        have g2 := K4.out.frz 2
        go_wp2_with fail
        have k5 := ((K4.out.set 0 (.int .i64 v)).set 1 (.string k)).set 2 (.slice (some ⟨b, o, none⟩) M.length cap3)
        have q0 := k5.get 0 (by omega)
        have q1 := k5.get 1 (by omega)
        have q2 := k5.get 2 (by omega)
        rw [show put (put (put (cC (.int .i64 0) ⟨#[]⟩ (.slice none 0 0)) 0 (.int .i64 v)) 1 (.string k)) 2 (.slice (some ⟨b, o, none⟩) M.length cap3) 0 = .int .i64 v from rfl] at q0
        rw [show put (put (put (cC (.int .i64 0) ⟨#[]⟩ (.slice none 0 0)) 0 (.int .i64 v)) 1 (.string k)) 2 (.slice (some ⟨b, o, none⟩) M.length cap3) 1 = .string k from rfl] at q1
        rw [show put (put (put (cC (.int .i64 0) ⟨#[]⟩ (.slice none 0 0)) 0 (.int .i64 v)) 1 (.string k)) 2 (.slice (some ⟨b, o, none⟩) M.length cap3) 2 = .slice (some ⟨b, o, none⟩) M.length cap3 from rfl] at q2
        have hup := ((Upd.set wr g 0 (.int .i64 v)).trans (Upd.set _ g 1 (.string k))).trans (Upd.set _ g 2 (.slice (some ⟨b, o, none⟩) M.length cap3))
        refine bodyPost_ret (v := .agg #[.int .i64 v, .string k, .slice (some ⟨b, o, none⟩) M.length cap3]) (by simp [results, Tryd.results113, go_sem, q0, q1, q2]) rfl ?_
        exact ⟨(some ⟨b, o, none⟩), cap3, by rw [HMM.out], by rw [HMM.out]; exact (HCP.out.done HBB.out.2 (by have := HBB.out.1; omega) hup).mono (by have := B0.out.size; have := HG.out; omega), HG.out ▸ (HBA.out.trans (hup.below (Nat.le_refl _)))⟩
end Go.Proofs.YtegkhhegapnkpaaDoor
end
