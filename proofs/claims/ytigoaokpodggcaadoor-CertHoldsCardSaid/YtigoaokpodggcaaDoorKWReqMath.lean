/-
  Plain lemmas: what is read has just these bytes; right requests come again.
-/
import Derived.Test.YtigoaokpodggcaaDoorKWList
import Derived.Test.YtigoaokpodggcaaDoorKLOpen
import Derived.Lib.UnsafeStr
import Derived.Lib.Buffer
section
open Go Go.RowKit
namespace WW
open BB
/-- a signature's bytes -/
def sigB (f : Int) (ts : List ByteArray) : ByteArray := num f ++ listB ts
/-- v is a slice of signatures -/
def SigsAt (w : World) (v : Value) (l : List (Int × List ByteArray)) : Prop :=
  ∃ a0 cap, v = .slice a0 l.length cap ∧ (l = [] ∨ ∃ b off, a0 = some ⟨b, off, none⟩ ∧ b < w.heap.size ∧
    ∀ i, i < l.length → ∃ tv, w.cell? ⟨b, off + i * 2, none⟩ = some (.int .i64 (l.getD i (0, [])).1) ∧ w.cell? ⟨b, off + i * 2 + 1, none⟩ = some tv ∧ StrsAt w tv (l.getD i (0, [])).2)
theorem SigsAt.later {w w' : World} {v : Value} {l : List (Int × List ByteArray)} (h : SigsAt w v l) (hb : Below w.heap.size w w') : SigsAt w' v l := by
  obtain ⟨a0, cap, rfl, h | ⟨b, off, rfl, hl, hc⟩⟩ := h
  · exact ⟨a0, cap, rfl, Or.inl h⟩
  · refine ⟨_, cap, rfl, Or.inr ⟨b, off, rfl, Nat.lt_of_lt_of_le hl hb.size, fun i hi => ?_⟩⟩
    obtain ⟨tv, h1, h2, h3⟩ := hc i hi
    exact ⟨tv, (hb.cell (p := ⟨b, off + i * 2, none⟩) hl).trans h1, (hb.cell (p := ⟨b, off + i * 2 + 1, none⟩) hl).trans h2, h3.later hb⟩
/-- the signatures' bytes -/
def sigsB (l : List (Int × List ByteArray)) : List ByteArray := l.map fun p => sigB p.1 p.2
theorem keep2 {w W w1 : World} {g : Nat} {v0 v1 : Value} {B : Nat} (h : W.cell? ⟨g, 0, none⟩ = some v0 ∧ W.cell? ⟨g, 1, none⟩ = some v1 ∧ Below B w W ∧ B ≤ W.heap.size) (hb : Below W.heap.size W w1) :
    w1.cell? ⟨g, 0, none⟩ = some v0 ∧ w1.cell? ⟨g, 1, none⟩ = some v1 ∧ Below B w w1 ∧ B ≤ w1.heap.size := by
  have hl := World.block_lt_of_cell? W _ h.1
  exact ⟨(hb.cell (p := ⟨g, 0, none⟩) hl).trans h.1, (hb.cell (p := ⟨g, 1, none⟩) hl).trans h.2.1, h.2.2.1.trans (hb.mono h.2.2.2), Nat.le_trans h.2.2.2 hb.size⟩
theorem flat_size (xs : List ByteArray) : (listB xs).size = 4 + (flat xs).length := by
  show (listL xs).toArray.size = _
  rw [List.size_toArray, listL, List.length_append]; rfl
end WW
namespace Go.Proofs.YtigoaokpodggcaaDoor
open WW BB
set_option maxRecDepth 100000 in
set_option maxHeartbeats 2000000 in
theorem sig_any (f : Int) (tv : Value) (ts : List ByteArray) (w : World) (hv : StrsAt w tv ts) (hs : (flat ts).length ≤ 500000) (hn : ts.length ≤ 1000) :
    Calls Tryd.prog 65 #[.agg #[.int .i64 f, tv]] w fun e w' => e = .returned (.string (sigB f ts)) ∧ Below w.heap.size w w' := by
  have h1 : ¬ 9223372036854775807 < (num f).size + (listB ts).size := by rw [num_size, flat_size]; omega
  have HV := Lib.hid hv
  have HS := Lib.hid hs
  have HN := Lib.hid hn
  obtain ⟨a0, cap, rfl, hx⟩ := hv
  clear hs hn hx
  go_enter Tryd.func65, Tryd.ntmps65
  go_wp2_with fail
  have c0 := cell_new w #[.int .i64 f, .slice a0 ts.length cap] 35 0 _ rfl
  have c1 := cell_new w #[.int .i64 f, .slice a0 ts.length cap] 35 1 _ rfl
  have b0 : Below w.heap.size w (w.alloc (.cells #[.int .i64 f, .slice a0 ts.length cap] 35)) := (Below.refl _ _).alloc (Nat.le_refl _) _
  generalize w.alloc (.cells #[.int .i64 f, .slice a0 ts.length cap] 35) = w0 at *
  have z0 := b0.size
  obtain ⟨g, hg⟩ : ∃ g, w.heap.size = g := ⟨_, rfl⟩
  rw [hg] at c0 c1 b0 z0 ⊢
  have HG := Lib.hid hg
  clear hg
  have hst : w0.drew.cell? ⟨g, 0, none⟩ = some (.int .i64 f) ∧ w0.drew.cell? ⟨g, 1, none⟩ = some (.slice a0 ts.length cap) ∧ Below g w w0.drew ∧ g ≤ w0.drew.heap.size := ⟨c0, c1, b0.drew, z0⟩
  go_region_held3 (fun w' => w'.cell? ⟨g, 0, none⟩ = some (.int .i64 f) ∧ w'.cell? ⟨g, 1, none⟩ = some (.slice a0 ts.length cap) ∧ Below g w w' ∧ g ≤ w'.heap.size)
    (first | exact hst | exact hk)
    (first
      | (go_at_call 44; refine (number_any _ _).mono ?_; rintro e w1 ⟨rfl, hb1⟩; have hk := keep2 (w := w) (g := g) (v0 := .int .i64 f) (v1 := .slice a0 ts.length cap) (B := g) (by assumption) hb1; have HK := Lib.hid hk.2.2.1)
      | (go_at_call 87; refine (liststr_any ts _ _ (HV.out.later (by rw [HG.out]; exact HK.out)) HS.out HN.out).mono ?_; rintro e w1 ⟨rfl, hb1⟩; have hk := keep2 (w := w) (g := g) (v0 := .int .i64 f) (v1 := .slice a0 ts.length cap) (B := g) (by assumption) hb1))
  go_wp2_with fail
  go_ret
  exact ⟨rfl, by rw [HG.out]; exact hk.2.2.1⟩
set_option maxRecDepth 100000 in
set_option maxHeartbeats 2000000 in
theorem listsig_any (l : List (Int × List ByteArray)) (v : Value) (w : World) (hv : SigsAt w v l) (hs : (flat (sigsB l)).length ≤ 500000) (hn : l.length ≤ 1000) (hsm : ∀ i, i < l.length → (flat (l.getD i (0, [])).2).length ≤ 500000 ∧ (l.getD i (0, [])).2.length ≤ 1000) :
    Calls Tryd.prog 64 #[v, .func (.func 65) #[] #[]] w fun e w' => e = .returned (.string (listB (sigsB l))) ∧ Below w.heap.size w w' := by
  have HV := Lib.hid hv
  have HS := Lib.hid hs
  have HN := Lib.hid hn
  have HM := Lib.hid hsm
  have hXL : (sigsB l).length = l.length := by simp [sigsB]
  have HXL := Lib.hid hXL
  obtain ⟨a0, cap, rfl, hx⟩ := hv
  clear hs hn hx hsm hXL
  go_enter Tryd.func64, Tryd.ntmps64
  go_wp2_with fail
  obtain ⟨b, hb⟩ : ∃ b, w.heap.size = b := ⟨_, rfl⟩
  have I0 : Lib.IsBuilder 111 5 b b [] (w.alloc (.cells #[.pointer none, .slice none 0 0] 111)) := by rw [← hb]; exact Lib.fresh_isBuilder _ _ w
  have b0 := (Below.refl w.heap.size w).alloc (Nat.le_refl _) (.cells #[.pointer none, .slice none 0 0] 111)
  have z0 : b < (w.alloc (.cells #[.pointer none, .slice none 0 0] 111)).heap.size := by rw [← hb]; simp
  have HB := Lib.hid hb
  rw [hb]
  clear hb
  generalize w.alloc (.cells #[.pointer none, .slice none 0 0] 111) = w1 at *
  refine (number_in l.length (by have := HN.out; omega) w1).mono ?_
  rintro e w2 ⟨rfl, hb2⟩
  have I2 := Lib.hid (isBuilder_on I0 hb2)
  have B2 := Lib.hid (b0.trans (hb2.mono b0.size))
  have Z2 := Lib.hid (Nat.lt_of_lt_of_le z0 hb2.size)
  clear I0 b0 z0 hb2
  go_wp2_with fail
  refine (writestr_any b b [] (be4 l.length) w2 I2.out (by show 0 + 4 ≤ _; omega) (Nat.le_of_lt Z2.out)).mono ?_
  rintro e w3 ⟨rfl, hI3, hb3⟩
  have L3 : Hid (LAt w b (sigsB l) 0 w3) := Lib.hid ⟨B2.out.trans (hb3.mono (by rw [HB.out]; exact Nat.le_refl _)), by rw [HXL.out]; simpa [flat, Lib.strCells_eq] using hI3, Nat.lt_of_lt_of_le Z2.out hb3.size⟩
  clear hI3 hb3 I2 B2 Z2
  go_wp2_with fail
  have L3' := L3.out
  clear L3
  go_loopw [14] (fun v wr => ∃ i : Nat, i ≤ l.length ∧ v = .int .i64 (i : Int) ∧ LAt w b (sigsB l) i wr) (fun v _ => l.length - (intOf v).toNat)
  case atStart => exact ⟨0, Nat.zero_le _, rfl, L3'⟩
  case round =>
    clear L3'
    clear w3
    obtain ⟨i, hi, rfl, hL⟩ := hrel
    have HL := Lib.hid hL
    by_cases hlt : i < l.length
    · have hlt' : (i : Int) < (l.length : Int) := by omega
      have i0 : (0 : Int) ≤ (i : Int) := by omega
      have ib : (i : Int) ≤ 1000 := by have := HN.out; omega
      obtain ⟨a1, cap1, he, hv | ⟨gb, off, rfl, hbw, hcell⟩⟩ := HV.out
      · rw [hv] at hlt; simp at hlt
      injection he with e1 _ e3
      subst e1 e3
      obtain ⟨tv, hc0, hc1, hts⟩ := hcell i hlt
      have hcl0 := (hL.below.cell (p := ⟨gb, off + i * 2, none⟩) hbw).trans hc0
      have hcl1 := (hL.below.cell (p := ⟨gb, off + i * 2 + 1, none⟩) hbw).trans hc1
      have HTS := Lib.hid (hts.later hL.below')
      have HFS := Lib.hid (flat_snoc (sigsB l) i (by rw [HXL.out]; exact hlt))
      have HLE := Lib.hid (flat_take_le (sigsB l) (i + 1))
      have hgs : (sigsB l).getD i ⟨#[]⟩ = sigB (l.getD i (0, [])).1 (l.getD i (0, [])).2 := by simp [sigsB, List.getD, List.getElem?_eq_getElem hlt]
      have HMi := Lib.hid (HM.out i hlt)
      obtain ⟨f, hf⟩ : ∃ f, (l.getD i (0, [])).1 = f := ⟨_, rfl⟩
      obtain ⟨ts, ht⟩ : ∃ ts, (l.getD i (0, [])).2 = ts := ⟨_, rfl⟩
      rw [hf] at hcl0 hgs
      rw [ht] at HTS HMi hgs
      obtain ⟨s, hs⟩ : ∃ s, sigB f ts = s := ⟨_, rfl⟩
      rw [hgs, hs] at HFS
      have HSS := Lib.hid hs
      have HLT := Lib.hid hlt
      obtain ⟨ta, tcap, htv, _⟩ := HTS.out
      subst htv
      clear hgs hf ht hs hL hi hlt hcell hbw hc0 hc1 hts
      have bA := (Below.refl wr.heap.size wr).alloc (Nat.le_refl _) (.cells #[.int .i64 f, .slice ta ts.length tcap] 35)
      have LA := Lib.hid (HL.out.on bA)
      have TA := Lib.hid (HTS.out.later bA)
      clear bA
      go_wp2_with fail
      generalize wr.alloc (.cells #[.int .i64 f, .slice ta ts.length tcap] 35) = wq at *
      refine (sig_any f _ ts wq TA.out HMi.out.1 HMi.out.2).mono ?_
      rintro e w4 ⟨rfl, hb4⟩
      rw [HSS.out]
      have L4 := Lib.hid (LA.out.on hb4)
      clear hb4
      go_wp2_with fail
      refine (writestr_any b b _ s w4 L4.out.bld (by have h1 := HLE.out; have h2 := HS.out; have h3 := HFS.out; rw [h3, List.length_append] at h1; have : s.data.toList.length = s.size := by rw [Array.length_toList]; rfl
                                                     rw [Lib.byteCells_length, List.length_append]; show 4 + _ + _ ≤ _; omega) (Nat.le_of_lt L4.out.lt)).mono ?_
      rintro e w5 ⟨rfl, hI5, hb5⟩
      have L5 : Hid (LAt w b (sigsB l) (i + 1) w5) := Lib.hid ⟨L4.out.below.trans (hb5.mono (by rw [HB.out]; exact Nat.le_refl _)), by rw [HFS.out, ← List.append_assoc, Lib.byteCells_append]; exact hI5, Nat.lt_of_lt_of_le L4.out.lt hb5.size⟩
      clear hI5 hb5 hcl0 hcl1
      go_wp2_with fail
      go_roundw
      case rel => exact ⟨i + 1, by have := HLT.out; omega, by go_num, L5.out⟩
      case measure => have := HLT.out; simp [intOf]; omega
    · obtain rfl : i = l.length := by omega
      have hlt' : ¬ (l.length : Int) < (l.length : Int) := by omega
      have hbs := hL.bld
      rw [← HXL.out, List.take_length] at hbs
      have HBS := Lib.hid hbs
      clear hL hi hlt hbs
      go_wp2_with fail
      refine (bstring_any b b _ wr HBS.out (be4_ne _ _)).mono ?_
      rintro e w4 ⟨rfl, hb4⟩
      go_wp2_with fail
      go_ret
      exact ⟨rfl, HL.out.below.trans (hb4.mono (by rw [HB.out]; exact Nat.le_refl _))⟩
end Go.Proofs.YtigoaokpodggcaaDoor
end
section
open Go Go.RowKit
namespace Go.Proofs.YtigoaokpodggcaaDoor
open CC WW BB
set_option maxRecDepth 100000 in
set_option maxHeartbeats 4000000 in
theorem eqsigs_any (l m : List (Int × List ByteArray)) (v u : Value) (w : World) (hv : SigsAt w v l) (hu : SigsAt w u m) (hl : l.length ≤ 1000) (hs : ∀ i, i < l.length → (l.getD i (0, [])).2.length ≤ 1000) :
    Calls Tryd.prog 53 #[v, u, .func (.func 54) #[] #[]] w fun e w' => e = .returned (.bool (decide (l = m))) ∧ Below w.heap.size w w' := by
  have HV := Lib.hid hv
  have HU := Lib.hid hu
  have HL := Lib.hid hl
  have HS := Lib.hid hs
  obtain ⟨a0, cap, rfl, hx⟩ := hv
  obtain ⟨b0, bap, rfl, hy⟩ := hu
  clear hl hx hy hs
  by_cases hlm : l.length = m.length
  · have HLM := Lib.hid hlm
    have t0 : ((l.length : Int) != (m.length : Int)) = false := by rw [hlm]; simp
    clear hlm
    obtain ⟨X, hX⟩ : ∃ X, decide (l = m) = X := ⟨_, rfl⟩
    have HX := Lib.hid hX
    rw [hX]
    clear hX
    go_enter Tryd.func53, Tryd.ntmps53
    go_wp2_with fail
    clear t0
    go_loopw [17] (fun v wr => ∃ i : Nat, i ≤ l.length ∧ v = .int .i64 (i : Int) ∧ (∀ j, j < i → l.getD j (0, []) = m.getD j (0, [])) ∧ Below w.heap.size w wr) (fun v _ => l.length - (intOf v).toNat)
    case atStart => exact ⟨0, Nat.zero_le _, rfl, fun j hj => absurd hj (Nat.not_lt_zero _), Below.refl _ _⟩
    case round =>
      obtain ⟨i, hi, rfl, hal, hb⟩ := hrel
      have HALL := Lib.hid hal
      have HB := Lib.hid hb
      have i0 : (0 : Int) ≤ (i : Int) := by omega
      have ib : (i : Int) ≤ 1000 := by have := HL.out; omega
      clear hal hb
      by_cases hlt : i < l.length
      · have hlt' : (i : Int) < (l.length : Int) := by omega
        have hlt2 : (i : Int) < (m.length : Int) := by rw [← HLM.out]; omega
        obtain ⟨a1, cap1, he, hv | ⟨gb, off, rfl, hbw, hcell⟩⟩ := HV.out
        · rw [hv] at hlt; simp at hlt
        injection he with e1 _ e3
        subst e1 e3
        obtain ⟨a2, cap2, he2, hv2 | ⟨gb2, off2, rfl, hbw2, hcell2⟩⟩ := HU.out
        · rw [hv2] at hlt2; simp at hlt2; omega
        injection he2 with e1 _ e3
        subst e1 e3
        obtain ⟨tv, hc0, hc1, hts⟩ := hcell i hlt
        obtain ⟨tu, hd0, hd1, htu⟩ := hcell2 i (by omega)
        have hcl0 : wr.cell? ⟨gb, off + i * 2, none⟩ = _ := (HB.out.cell (p := ⟨gb, off + i * 2, none⟩) hbw).trans hc0
        have hcl1 : wr.cell? ⟨gb, off + i * 2 + 1, none⟩ = _ := (HB.out.cell (p := ⟨gb, off + i * 2 + 1, none⟩) hbw).trans hc1
        have hdl0 : wr.cell? ⟨gb2, off2 + i * 2, none⟩ = _ := (HB.out.cell (p := ⟨gb2, off2 + i * 2, none⟩) hbw2).trans hd0
        have hdl1 : wr.cell? ⟨gb2, off2 + i * 2 + 1, none⟩ = _ := (HB.out.cell (p := ⟨gb2, off2 + i * 2 + 1, none⟩) hbw2).trans hd1
        have HTS := Lib.hid (hts.later HB.out)
        have HTU := Lib.hid (htu.later HB.out)
        have HSI := Lib.hid (HS.out i hlt)
        obtain ⟨p, hp⟩ : ∃ p, l.getD i (0, []) = p := ⟨_, rfl⟩
        obtain ⟨q, hq⟩ : ∃ q, m.getD i (0, []) = q := ⟨_, rfl⟩
        have HPQ := Lib.hid (And.intro hp hq)
        rw [hp] at hcl0 HTS HSI
        rw [hq] at hdl0 HTU
        obtain ⟨f, ts⟩ := p
        obtain ⟨g, us⟩ := q
        obtain ⟨ta, tcap, rfl, _⟩ := HTS.out
        obtain ⟨ua, ucap, rfl, _⟩ := HTU.out
        have HLT := Lib.hid hlt
        obtain ⟨Y, hY⟩ : ∃ Y, decide ((f, ts) = (g, us)) = Y := ⟨_, rfl⟩
        have HY := Lib.hid hY
        have b2 := Lib.hid (((Below.refl wr.heap.size wr).alloc (Nat.le_refl _) (.cells #[.int .i64 f, .slice ta ts.length tcap] 35)).alloc (by simp) (.cells #[.int .i64 g, .slice ua us.length ucap] 35))
        have b1 := (Below.refl wr.heap.size wr).alloc (Nat.le_refl _) (.cells #[.int .i64 f, .slice ta ts.length tcap] 35)
        have hel0 := (b1.cell (p := ⟨gb2, off2 + i * 2, none⟩) (World.block_lt_of_cell? wr _ hdl0)).trans hdl0
        have hel1 := (b1.cell (p := ⟨gb2, off2 + i * 2 + 1, none⟩) (World.block_lt_of_cell? wr _ hdl1)).trans hdl1
        clear hp hq hlt hi hcell hbw hcell2 hbw2 hc0 hc1 hd0 hd1 hts htu hY b1 hdl0 hdl1
        go_wp2_with fail
        refine (samesig_any f g _ _ ts us _ (HTS.out.later b2.out) (HTU.out.later b2.out) HSI.out).mono ?_
        rintro e w4 ⟨rfl, hb4⟩
        rw [HY.out]
        have B4 := Lib.hid (HB.out.trans ((b2.out.trans (hb4.mono b2.out.size)).mono HB.out.size))
        clear hb4 b2 hcl0 hcl1 hel0 hel1
        cases Y with
        | true =>
          go_wp2_with fail
          go_roundw
          case rel => exact ⟨i + 1, by have := HLT.out; omega, by go_num, fun j hj => if h : j = i then by subst h; rw [HPQ.out.1, HPQ.out.2]; exact of_decide_eq_true HY.out else HALL.out j (by omega), B4.out⟩
          case measure => have := HLT.out; simp [intOf]; omega
        | false =>
          go_wp2_with fail
          go_ret
          refine ⟨?_, B4.out⟩
          have hne : l ≠ m := list_ne_at (d := (0, [])) (i := i) (by rw [HPQ.out.1, HPQ.out.2]; exact of_decide_eq_false HY.out)
          rw [← HX.out]; simp [hne]
      · obtain rfl : i = l.length := by omega
        have hlt' : ¬ (l.length : Int) < (l.length : Int) := by omega
        clear hi hlt
        go_wp2_with fail
        go_ret
        refine ⟨?_, HB.out⟩
        have he : l = m := list_eq_at HLM.out HALL.out
        rw [← HX.out]; simp [he]
  · have t0 : ((l.length : Int) != (m.length : Int)) = true := by rw [bne_iff_ne]; omega
    have HLM := Lib.hid hlm
    clear hlm
    go_enter Tryd.func53, Tryd.ntmps53
    go_wp2_with fail
    go_ret
    refine ⟨?_, Below.refl _ _⟩
    have hne : l ≠ m := by rintro rfl; exact HLM.out rfl
    simp [hne]
set_option maxRecDepth 100000 in
set_option maxHeartbeats 4000000 in
/-- are two certificates the same? -/
theorem same_any (v v' : Int) (k k' : ByteArray) (x y : Value) (l m : List (Int × List ByteArray)) (w : World) (hx : SigsAt w x l) (hy : SigsAt w y m) (hl : l.length ≤ 1000) (hs : ∀ i, i < l.length → (l.getD i (0, [])).2.length ≤ 1000) :
    Calls Tryd.prog 30 #[.agg #[.int .i64 v, .string k, x], .agg #[.int .i64 v', .string k', y]] w fun e w' => e = .returned (.bool (decide (((v, k), l) = ((v', k'), m)))) ∧ Below w.heap.size w w' := by
  have HX := Lib.hid hx
  have HY := Lib.hid hy
  have HL := Lib.hid hl
  have HS := Lib.hid hs
  obtain ⟨a0, cap, rfl, _⟩ := hx
  obtain ⟨b0, bap, rfl, _⟩ := hy
  clear hl hs
  have b2 := Lib.hid (((Below.refl w.heap.size w).alloc (Nat.le_refl _) (.cells #[.int .i64 v, .string k, .slice a0 l.length cap] 24)).alloc (by simp) (.cells #[.int .i64 v', .string k', .slice b0 m.length bap] 24))
  by_cases hv : v = v'
  · by_cases hk : k = k'
    · subst hv hk
      obtain ⟨X, hX⟩ : ∃ X, decide (l = m) = X := ⟨_, rfl⟩
      have e1 : decide (((v, k), l) = ((v, k), m)) = X := by rw [← hX]; simp
      rw [e1]
      have HXX := Lib.hid hX
      have t0 : (v == v) = true := by simp
      have t1 : (k.toList == k.toList) = true := by simp
      clear hX e1
      go_enter Tryd.func30, Tryd.ntmps30
      go_wp2_with fail
      refine (eqsigs_any l m _ _ _ (HX.out.later b2.out) (HY.out.later b2.out) HL.out HS.out).mono ?_
      rintro e w2 ⟨rfl, hb2⟩
      rw [HXX.out]
      have B2 := Lib.hid (b2.out.trans (hb2.mono b2.out.size))
      clear hb2 b2
      go_wp2_with fail
      go_ret
      exact ⟨rfl, B2.out⟩
    · subst hv
      have t0 : (v == v) = true := by simp
      have t1 : (k.toList == k'.toList) = false := by rw [beq_eq_false_iff_ne]; exact fun h => hk (ba_toList h)
      have HK := Lib.hid hk
      clear hk
      go_enter Tryd.func30, Tryd.ntmps30
      go_wp2_with fail
      go_ret
      refine ⟨?_, b2.out⟩
      rw [show decide (((v, k), l) = ((v, k'), m)) = false by simp [HK.out]]; rfl
  · have t0 : (v == v') = false := by simpa using hv
    have HK := Lib.hid hv
    clear hv
    go_enter Tryd.func30, Tryd.ntmps30
    go_wp2_with fail
    go_ret
    refine ⟨?_, b2.out⟩
    rw [show decide (((v, k), l) = ((v', k'), m)) = false by simp [HK.out]]; rfl
end Go.Proofs.YtigoaokpodggcaaDoor
end
section
open Go Go.RowKit
namespace WW
open BB
theorem nil_size (s : ByteArray) (h : s.size = 0) : s = ⟨#[]⟩ := by
  cases s with
  | mk d =>
    have : d.size = 0 := h
    rw [Array.size_eq_zero_iff.1 this]
section
variable {P : Program} {ops : Array Oper} {Q : Exit → Act → World → Prop} {a : Act} {w : World} {rest : List Oper} {o : Oper}
theorem hold_ustr {x y : Operand} {tys : Array TypeId} (_ho : o.op = .call { callee := .builtin .unsafeString, args := #[x, y], argTypes := tys }) (h : Held (wpList P ops Q (o :: rest) a w)) : wpList P ops Q (o :: rest) a w := h
theorem wpl_ustr {x y : Operand} {pt it e : TypeId} (g n : Nat) (s : ByteArray) (hg : o.guard = none) (ho : o.op = .call { callee := .builtin .unsafeString, args := #[x, y], argTypes := #[pt, it] })
    (hx : a.eval x = .pointer (some ⟨g, 0, none⟩)) (hy : a.eval y = .int .i64 (n : Int)) (hp : P.underlying pt = some (.pointer e)) (hc : P.cellsOf e = 1) (hn : n = s.size) (h0 : 0 < n) (hn63 : n ≤ 9223372036854775807)
    (hb : TBlk e w g n (cb (sb s.data.toList)))
    (hK : ∀ w', (∀ B, B ≤ g → Below B w w') → wpList P ops Q rest (a.put o.dst (.string s)) w') : wpList P ops Q (o :: rest) a w := by
  unfold TBlk at hb
  have hl : s.data.toList.length = n := by rw [Array.length_toList]; exact hn.symm
  have h := Lib.run_unsafeString_row (P := P) w pt it o.type e hp hc g n (by unfold World.shape?; rw [hb]; simp [row_size]) s.data.toList (by intro h; rw [h] at hl; simp at hl; omega) (by omega) (by omega) (fun j x hx => by
    have hj : j < n := by
      rcases Nat.lt_or_ge j s.data.toList.length with h | h
      · omega
      · rw [List.getElem?_eq_none h] at hx; cases hx
    have : (⟨g, 0, none⟩ : Addr).add j = ⟨g, j, none⟩ := by unfold Addr.add; split <;> simp [*]
    rw [this]
    unfold World.cell?
    rw [hb]
    have hx' : s.data[j]? = some x := by simpa using hx
    simp [row_get _ _ _ hj, cb, sb, List.getD, hx'])
  rw [hl] at h
  refine wpl_value hg ?_ (hK _ fun B hB => Lib.below_freeze (Below.refl _ _) (p := ⟨g, 0, none⟩) hB n)
  simp [execOp, ho, resolve, invoke, hx, hy, builtin, h, Result.andThen]
end
end WW
namespace Go.Proofs.YtigoaokpodggcaaDoor
open WW BB
theorem winfo_byte : (Tryd.prog.info? 5).map (fun i => (i.zero, i.size, i.bytes)) = some (some (.int .u8 0), 1, 1) := by kernel_rfl
theorem wunder_bytes (w : World) : (underlying 39).run Tryd.prog w = .ok (.slice 5) w := by kernel_rfl
theorem wsize_byte (w : World) : (Go.sizeOf 5).run Tryd.prog w = .ok 1 w := by kernel_rfl
set_option maxRecDepth 100000 in
set_option maxHeartbeats 1000000 in
theorem slclone_any (s : ByteArray) (hs : s.size ≤ 1000000) (w : World) :
    Calls Tryd.prog 107 #[.string s] w fun e w' => e = .returned (.string s) ∧ Below w.heap.size w w' := by
  have HS := Lib.hid hs
  by_cases h0 : s.size = 0
  · obtain rfl := nil_size s h0
    clear hs
    go_enter Tryd.func107, Tryd.ntmps107
    go_wp2_with fail
    go_ret
    exact ⟨rfl, Below.refl _ _⟩
  · have t0 : ((s.size : Int) == 0) = false := by rw [beq_eq_false_iff_ne]; omega
    have H0 := Lib.hid h0
    clear hs h0
    go_enter Tryd.func107, Tryd.ntmps107
    go_wp2_with (with_reducible refine hold_make rfl ?_)
    refine wpl_make (.tmp 8) (.tmp 8) 39 5 (.int .u8 0) 1 s.size rfl rfl (by rfl) (by rfl) (by kernel_rfl) winfo_byte (by rfl) (by have := HS.out; omega) (by have := HS.out; omega) ?_
    refine abs_list (fun w' => Below w.heap.size w w' ∧ TBlk 5 w' w.heap.size s.size (fun _ => .int .u8 0)) ⟨(Below.refl _ _).alloc (Nat.le_refl _) _, TBlk.new' _ _ _ _ _ _ rfl (made_row _ _)⟩ ?_
    rintro w1 ⟨b1, k1⟩
    go_wp2_with (with_reducible refine hold_copy rfl ?_)
    refine wpl_copy_str_t (.tmp 10) (.tmp 11) w.heap.size 0 s.size s.size s.size s.size (fun _ => .int .u8 0) s rfl rfl (by rfl) (by rfl) (wunder_bytes _) (wsize_byte _) k1 (by omega) (by omega) ?_
    rintro w2 ⟨k2, u2⟩
    have b2 := b1.trans (u2.below (Nat.le_refl _))
    have k3 : TBlk 5 w2 w.heap.size s.size (cb (sb s.data.toList)) := by
      unfold TBlk at k2 ⊢
      rw [k2, row_congr _ _ (cb (sb s.data.toList)) fun i hi => by rw [if_pos (by omega)]; rfl]
    have H1 := Lib.hid k3
    clear k1 b1 k2 k3 u2
    have i0 : (0 : Int) < (s.size : Int) := by have := H0.out; omega
    go_wp2_with (with_reducible refine hold_ustr rfl ?_)
    refine wpl_ustr w.heap.size s.size s rfl rfl (by rfl) (by rfl) (by kernel_rfl) (by kernel_rfl) rfl (by have := H0.out; omega) (by have := HS.out; omega) H1.out ?_
    intro w3 h3
    have b3 := b2.trans (h3 _ (Nat.le_refl _))
    clear h3
    go_wp2_with fail
    go_ret
    exact ⟨rfl, b3⟩
set_option maxRecDepth 100000 in
theorem clone_any (s : ByteArray) (hs : s.size ≤ 1000000) (w : World) :
    Calls Tryd.prog 98 #[.string s] w fun e w' => e = .returned (.string s) ∧ Below w.heap.size w w' := by
  go_enter Tryd.func98, Tryd.ntmps98
  go_wp2_with fail
  refine (slclone_any s hs _).mono ?_
  rintro e w1 ⟨rfl, hb1⟩
  go_wp2_with fail
  go_ret
  exact ⟨rfl, hb1⟩
end Go.Proofs.YtigoaokpodggcaaDoor
end
section
open Go Go.RowKit
namespace WW
open BB
theorem Blk.cell_set {w : World} {p t o : Nat} {u v : Value} (h : w.cell? ⟨p, 0, none⟩ = some v) (hp : p ≠ t) : (w.setCell ⟨t, o, none⟩ u).cell? ⟨p, 0, none⟩ = some v :=
  (World.cell?_of_block (w := w) (Below.heap_setCell w ⟨t, o, none⟩ u p hp)).trans h
/-- what a cut leaves of the memory: block t alone has turned -/
def Cell1 (t n : Nat) (f : Nat → Value) (w w' : World) : Prop := Keep t w w' ∧ Blk w' t n f
theorem Cell1.call {t n : Nat} {f : Nat → Value} {w w1 w2 : World} (h : Cell1 t n f w w1) (hb : Below w1.heap.size w1 w2) : Cell1 t n f w w2 :=
  ⟨h.1.trans (keep_of_below hb (Nat.le_refl _) t), h.2.below hb h.2.lt⟩
theorem Cell1.store {t n : Nat} {f : Nat → Value} {w w1 : World} (h : Cell1 t n f w w1) (o : Nat) (u : Value) : Cell1 t n (put f o u) w (w1.setCell ⟨t, o, none⟩ u) :=
  ⟨h.1.trans (Upd.set _ _ _ _).keep, h.2.set o u⟩
theorem keep_cell {p : Nat} {v : Value} {w1 w2 : World} (h : w1.cell? ⟨p, 0, none⟩ = some v) (hb : Below w1.heap.size w1 w2) : w2.cell? ⟨p, 0, none⟩ = some v :=
  (hb.cell (p := ⟨p, 0, none⟩) (World.block_lt_of_cell? w1 _ h)).trans h
end WW
namespace Go.Proofs.YtigoaokpodggcaaDoor
open WW BB
set_option maxRecDepth 100000 in
set_option maxHeartbeats 2000000 in
theorem bytesc_short (b : ByteArray) (p : Nat) (N : Nat) (vr : Value) (w : World) (hN : b.size < N) (hp : w.cell? ⟨p, 0, none⟩ = some (.int .i64 N)) :
    Calls Tryd.prog 97 #[.string b, .pointer (some ⟨p, 0, none⟩), vr] w fun e w' => e = .returned (.tuple #[.string ⟨#[]⟩, .bool false]) ∧ w = w' := by
  have g4 : (b.size : Int) < (N : Int) := by omega
  clear hN
  go_enter Tryd.func97, Tryd.ntmps97
  go_wp2_with fail
  go_ret2
  exact ⟨rfl, rfl⟩
set_option maxRecDepth 100000 in
set_option maxHeartbeats 2000000 in
theorem bytesc_yes (b : ByteArray) (p q t o n N : Nat) (f : Nat → Value) (w : World) (hb : b.size ≤ 1000000) (hN : N ≤ b.size) (hpt : p ≠ t) (hqt : q ≠ t)
    (hp : w.cell? ⟨p, 0, none⟩ = some (.int .i64 N)) (hq : w.cell? ⟨q, 0, none⟩ = some (.pointer (some ⟨t, o, none⟩))) (ht : Blk w t n f) (ho : o < n) :
    Calls Tryd.prog 97 #[.string b, .pointer (some ⟨p, 0, none⟩), .pointer (some ⟨q, 0, none⟩)] w fun e w' =>
      e = .returned (.tuple #[.string (b.extract N b.size), .bool true]) ∧ Cell1 t n (put f o (.string (b.extract 0 N))) w w' := by
  have g4 : ¬ (b.size : Int) < (N : Int) := by omega
  have g5 : (N : Int) ≤ (b.size : Int) := by omega
  have g6 : (0 : Int) ≤ (N : Int) := by omega
  have HB := Lib.hid hb
  have HO := Lib.hid ho
  have HN := Lib.hid hN
  have hsx : (b.extract 0 N).size ≤ 1000000 := by simp; omega
  have HSX := Lib.hid hsx
  have T0 := Lib.hid (⟨Keep.refl t w, ht⟩ : Cell1 t n f w w)
  clear hb ho ht hsx
  go_enter Tryd.func97, Tryd.ntmps97
  go_wp2_with fail
  have hst : w.drew.cell? ⟨p, 0, none⟩ = some (.int .i64 N) ∧ w.drew.cell? ⟨q, 0, none⟩ = some (.pointer (some ⟨t, o, none⟩)) := ⟨hp, hq⟩
  have T1 : Hid (Cell1 t n f w w.drew) := Lib.hid ⟨(Same.drewN w 1 |>.upd t).keep, T0.out.2.same (Same.drewN w 1)⟩
  clear T0
  have S1 := Lib.hid hst.1
  have S2 := Lib.hid hst.2
  go_region_held3 (fun w' => w'.cell? ⟨p, 0, none⟩ = some (.int .i64 N) ∧ w'.cell? ⟨q, 0, none⟩ = some (.pointer (some ⟨t, o, none⟩)))
    (first | exact hst | exact hk | exact hks)
    ((go_at_call 98; refine (clone_any _ HSX.out _).mono ?_; rintro e w1 ⟨rfl, hb1⟩;
      have T2 := Lib.hid (T1.out.call hb1);
      have hk : w1.cell? ⟨p, 0, none⟩ = some (.int .i64 N) ∧ w1.cell? ⟨q, 0, none⟩ = some (.pointer (some ⟨t, o, none⟩)) := ⟨keep_cell S1.out hb1, keep_cell S2.out hb1⟩;
      have hks : (w1.setCell ⟨t, o, none⟩ (.string (b.extract 0 N))).cell? ⟨p, 0, none⟩ = some (.int .i64 N) ∧ (w1.setCell ⟨t, o, none⟩ (.string (b.extract 0 N))).cell? ⟨q, 0, none⟩ = some (.pointer (some ⟨t, o, none⟩)) := ⟨Blk.cell_set hk.1 hpt, Blk.cell_set hk.2 hqt⟩;
      have ct := T2.out.2.get o HO.out;
      have ft := T2.out.2.frz o;
      have TF := Lib.hid (T2.out.store o (.string (b.extract 0 N)))))
  obtain ⟨c1, c2⟩ := hks
  clear hk ct ft S1 S2 hst
  go_wp2_with fail
  go_ret2
  exact ⟨rfl, TF.out⟩
end Go.Proofs.YtigoaokpodggcaaDoor
end
section
open Go Go.RowKit
namespace WW
open BB
/-- the number that four bytes are -/
def rd4 (b : ByteArray) : Nat := (b.data.toList.getD 0 0).toNat * 16777216 + (b.data.toList.getD 1 0).toNat * 65536 + (b.data.toList.getD 2 0).toNat * 256 + (b.data.toList.getD 3 0).toNat
theorem or_words (x0 x1 x2 x3 : Nat) (h1 : x1 < 256) (h2 : x2 < 256) (h3 : x3 < 256) : ((x0 * 16777216 ||| x1 * 65536) ||| x2 * 256) ||| x3 = x0 * 16777216 + x1 * 65536 + x2 * 256 + x3 := by
  have e1 := Nat.two_pow_add_eq_or_of_lt (b := x1 * 65536) (i := 24) (by omega) x0
  have e2 := Nat.two_pow_add_eq_or_of_lt (b := x2 * 256) (i := 16) (by omega) (x0 * 256 + x1)
  have e3 := Nat.two_pow_add_eq_or_of_lt (b := x3) (i := 8) (by omega) (x0 * 65536 + x1 * 256 + x2)
  rw [show x0 * 16777216 = 2 ^ 24 * x0 by omega, ← e1, show 2 ^ 24 * x0 + x1 * 65536 = 2 ^ 16 * (x0 * 256 + x1) by omega, ← e2, show 2 ^ 16 * (x0 * 256 + x1) + x2 * 256 = 2 ^ 8 * (x0 * 65536 + x1 * 256 + x2) by omega, ← e3]
theorem or_u32 (a b : Nat) (ha : a < 4294967296) (hb : b < 4294967296) : bits .or .u32 (a : Int) (b : Int) = ((a ||| b : Nat) : Int) := by
  have := bvor (BitVec.ofNat 32 a) (BitVec.ofNat 32 b)
  rw [BitVec.toNat_or, BitVec.toNat_ofNat, BitVec.toNat_ofNat, Nat.mod_eq_of_lt ha, Nat.mod_eq_of_lt hb] at this
  exact this
theorem rd_word (x0 x1 x2 x3 : Nat) (h0 : x0 < 256) (h1 : x1 < 256) (h2 : x2 < 256) (h3 : x3 < 256) :
    IntKind.i64.wrap (bits .or .u32 (bits .or .u32 (bits .or .u32 (IntKind.u32.wrap (IntKind.u32.wrap (x0 : Int) * 16777216)) (IntKind.u32.wrap (IntKind.u32.wrap (x1 : Int) * 65536))) (IntKind.u32.wrap (IntKind.u32.wrap (x2 : Int) * 256))) (IntKind.u32.wrap (x3 : Int))) =
      ((x0 * 16777216 + x1 * 65536 + x2 * 256 + x3 : Nat) : Int) := by
  have w0 : IntKind.u32.wrap (IntKind.u32.wrap (x0 : Int) * 16777216) = ((x0 * 16777216 : Nat) : Int) := by rw [IntKind.wrap_u32', IntKind.wrap_u32']; omega
  have w1 : IntKind.u32.wrap (IntKind.u32.wrap (x1 : Int) * 65536) = ((x1 * 65536 : Nat) : Int) := by rw [IntKind.wrap_u32', IntKind.wrap_u32']; omega
  have w2 : IntKind.u32.wrap (IntKind.u32.wrap (x2 : Int) * 256) = ((x2 * 256 : Nat) : Int) := by rw [IntKind.wrap_u32', IntKind.wrap_u32']; omega
  have w3 : IntKind.u32.wrap (x3 : Int) = (x3 : Int) := by rw [IntKind.wrap_u32']; omega
  have e := or_words x0 x1 x2 x3 h1 h2 h3
  have e1 : x0 * 16777216 ||| x1 * 65536 = x0 * 16777216 + x1 * 65536 := by
    rw [show x0 * 16777216 = 2 ^ 24 * x0 by omega, ← Nat.two_pow_add_eq_or_of_lt (by omega)]
  have e2 : (x0 * 16777216 ||| x1 * 65536) ||| x2 * 256 = x0 * 16777216 + x1 * 65536 + x2 * 256 := by
    rw [e1, show x0 * 16777216 + x1 * 65536 = 2 ^ 16 * (x0 * 256 + x1) by omega, ← Nat.two_pow_add_eq_or_of_lt (by omega)]
  rw [w0, w1, w2, w3, or_u32 _ _ (by omega) (by omega), or_u32 _ _ (by rw [e1]; omega) (by omega), or_u32 _ _ (by rw [e2]; omega) (by omega), e]
  exact IntWalk.i64_in _ (by omega)
theorem get_byte (b : ByteArray) (i : Nat) (h : i < b.size) : b[i] = b.data.toList.getD i 0 := by
  show b.data[i] = _
  have hs : i < b.data.size := h
  simp only [List.getD_eq_getElem?_getD, Array.getElem?_toList, Array.getElem?_eq_getElem hs, Option.getD_some]
theorem rd4_code (b : ByteArray) (h0 : 0 < b.size) (h1 : 1 < b.size) (h2 : 2 < b.size) (h3 : 3 < b.size) :
    IntKind.i64.wrap (bits .or .u32 (bits .or .u32 (bits .or .u32 (IntKind.u32.wrap (IntKind.u32.wrap (b[0].toNat : Int) * 16777216)) (IntKind.u32.wrap (IntKind.u32.wrap (b[1].toNat : Int) * 65536))) (IntKind.u32.wrap (IntKind.u32.wrap (b[2].toNat : Int) * 256))) (IntKind.u32.wrap (b[3].toNat : Int))) = (rd4 b : Int) := by
  rw [rd_word _ _ _ _ (UInt8.toNat_lt _) (UInt8.toNat_lt _) (UInt8.toNat_lt _) (UInt8.toNat_lt _), get_byte, get_byte, get_byte, get_byte]
  rfl
theorem rd4_lt (b : ByteArray) : rd4 b < 4294967296 := by
  unfold rd4
  have h0 := UInt8.toNat_lt (b.data.toList.getD 0 0)
  have h1 := UInt8.toNat_lt (b.data.toList.getD 1 0)
  have h2 := UInt8.toNat_lt (b.data.toList.getD 2 0)
  have h3 := UInt8.toNat_lt (b.data.toList.getD 3 0)
  omega
/-- what is cut off: a number from lo to hi -/
def numSp (lo hi : Int) (b : ByteArray) : Option (ByteArray × Nat) := if b.size < 4 then none else if (rd4 b : Int) < lo ∨ hi < (rd4 b : Int) then none else some (b.extract 4 b.size, rd4 b)
end WW
namespace Go.Proofs.YtigoaokpodggcaaDoor
open WW BB
set_option maxRecDepth 100000 in
set_option maxHeartbeats 2000000 in
theorem numc_short (b : ByteArray) (vp vq vr : Value) (w : World) (h4 : b.size < 4) :
    Calls Tryd.prog 96 #[.string b, vp, vq, vr] w fun e w' => e = .returned (.tuple #[.string ⟨#[]⟩, .bool false]) ∧ w = w' := by
  have g4 : (b.size : Int) < 4 := by omega
  clear h4
  go_enter Tryd.func96, Tryd.ntmps96
  go_wp2_with fail
  go_ret2
  exact ⟨rfl, rfl⟩
set_option maxRecDepth 100000 in
set_option maxHeartbeats 2000000 in
theorem numc_out (b : ByteArray) (p q : Nat) (lo hi : Int) (w : World) (h4 : 4 ≤ b.size) (hout : (rd4 b : Int) < lo ∨ ¬ (rd4 b : Int) < lo ∧ hi < (rd4 b : Int))
    (hp : w.cell? ⟨p, 0, none⟩ = some (.int .i64 lo)) (hq : w.cell? ⟨q, 0, none⟩ = some (.int .i64 hi)) (vr : Value) :
    Calls Tryd.prog 96 #[.string b, .pointer (some ⟨p, 0, none⟩), .pointer (some ⟨q, 0, none⟩), vr] w fun e w' => e = .returned (.tuple #[.string ⟨#[]⟩, .bool false]) ∧ Same w w' := by
  have n0 : 0 < b.size := by omega
  have n1 : 1 < b.size := by omega
  have n2 : 2 < b.size := by omega
  have n3 : 3 < b.size := by omega
  have g0 : (0 : Int) < (b.size : Int) := by omega
  have g1 : (1 : Int) < (b.size : Int) := by omega
  have g2 : (2 : Int) < (b.size : Int) := by omega
  have g3 : (3 : Int) < (b.size : Int) := by omega
  have g4 : ¬ (b.size : Int) < 4 := by omega
  have E := Lib.hid (rd4_code b n0 n1 n2 n3)
  clear h4
  go_enter Tryd.func96, Tryd.ntmps96
  go_wp2_with fail
  refine quiet_abs (by kernel_rfl) (by kernel_rfl) fun w2 hs2 => ?_
  repeat still_step
  refine wpStill_nil ?_
  rw [E.out]
  have hp2 := (hs2.cell ⟨p, 0, none⟩).trans hp
  have hq2 := (hs2.cell ⟨q, 0, none⟩).trans hq
  clear hp hq
  have N0 : (0 : Int) ≤ (rd4 b : Int) := by omega
  obtain ⟨N, hN⟩ : ∃ N, rd4 b = N := ⟨_, rfl⟩
  rw [hN] at hout N0 ⊢
  rcases hout with h | ⟨h1, h⟩
  · go_wp2_with fail
    go_ret2
    exact ⟨rfl, hs2⟩
  · go_wp2_with fail
    go_ret2
    exact ⟨rfl, hs2⟩
set_option maxRecDepth 100000 in
set_option maxHeartbeats 2000000 in
theorem numc_yes (b : ByteArray) (p q r t o n : Nat) (lo hi : Int) (f : Nat → Value) (w : World) (h4 : 4 ≤ b.size) (hlo : ¬ (rd4 b : Int) < lo) (hhi : ¬ hi < (rd4 b : Int))
    (hp : w.cell? ⟨p, 0, none⟩ = some (.int .i64 lo)) (hq : w.cell? ⟨q, 0, none⟩ = some (.int .i64 hi)) (hr : w.cell? ⟨r, 0, none⟩ = some (.pointer (some ⟨t, o, none⟩)))
    (ht : Blk w t n f) (ho : o < n) :
    Calls Tryd.prog 96 #[.string b, .pointer (some ⟨p, 0, none⟩), .pointer (some ⟨q, 0, none⟩), .pointer (some ⟨r, 0, none⟩)] w fun e w' =>
      e = .returned (.tuple #[.string (b.extract 4 b.size), .bool true]) ∧ MS w t n (put f o (.int .i64 (rd4 b : Int))) w' := by
  have n0 : 0 < b.size := by omega
  have n1 : 1 < b.size := by omega
  have n2 : 2 < b.size := by omega
  have n3 : 3 < b.size := by omega
  have g0 : (0 : Int) < (b.size : Int) := by omega
  have g1 : (1 : Int) < (b.size : Int) := by omega
  have g2 : (2 : Int) < (b.size : Int) := by omega
  have g3 : (3 : Int) < (b.size : Int) := by omega
  have g4 : ¬ (b.size : Int) < 4 := by omega
  have E := Lib.hid (rd4_code b n0 n1 n2 n3)
  have HT := Lib.hid ht
  have HO := Lib.hid ho
  clear ht ho
  go_enter Tryd.func96, Tryd.ntmps96
  go_wp2_with fail
  refine quiet_abs (by kernel_rfl) (by kernel_rfl) fun w2 hs2 => ?_
  repeat still_step
  refine wpStill_nil ?_
  rw [E.out]
  have hp2 := (hs2.cell ⟨p, 0, none⟩).trans hp
  have hq2 := (hs2.cell ⟨q, 0, none⟩).trans hq
  have hr2 := (hs2.cell ⟨r, 0, none⟩).trans hr
  have ht2 := (HT.out.same hs2).get o HO.out
  have hf2 := (HT.out.same hs2).frz o
  have M2 := Lib.hid ((MS.mk HT.out).same hs2)
  clear hp hq hr hs2 HT
  have N0 : (0 : Int) ≤ (rd4 b : Int) := by omega
  obtain ⟨N, hN⟩ : ∃ N, rd4 b = N := ⟨_, rfl⟩
  have HN := Lib.hid hN
  rw [hN] at hlo hhi N0 ⊢
  clear hN
  go_wp2_with fail
  go_ret2
  refine ⟨rfl, ?_⟩
  rw [HN.out]
  exact M2.out.set o _
end Go.Proofs.YtigoaokpodggcaaDoor
end
section
open Go Go.RowKit
namespace WW
open BB
/-- what a cut with the answer x leaves -/
def Eff (t n : Nat) (f : Nat → Value) (w : World) {δ : Type} (eff : δ → (Nat → Value) → Nat → Value) (x : Option (ByteArray × δ)) (ok : Bool) (r : ByteArray) (w' : World) : Prop :=
  match x with
  | none => ok = false ∧ ∃ f', Cell1 t n f' w w'
  | some (r', d) => ok = true ∧ r = r' ∧ Cell1 t n (eff d f) w w'
/-- v cuts off what Sp says, and puts it into block t -/
def CutTo (P : Program) (t n : Nat) (v : Value) (W : World) {δ : Type} (Sp : ByteArray → Option (ByteArray × δ)) (eff : δ → (Nat → Value) → Nat → Value) : Prop :=
  ∀ f b w, b.size ≤ 1000000 → Keep t W w → Blk w t n f → Cut P v b w (Eff t n f w eff (Sp b))
theorem CutTo.later {P : Program} {t n : Nat} {v : Value} {W W' : World} {δ : Type} {Sp : ByteArray → Option (ByteArray × δ)} {eff : δ → (Nat → Value) → Nat → Value} (h : CutTo P t n v W Sp eff) (hk : Keep t W W') : CutTo P t n v W' Sp eff :=
  fun f b w hb hw ht => h f b w hb (hk.trans hw) ht
theorem keep_cell2 {t p : Nat} {v : Value} {w1 w2 : World} (h : w1.cell? ⟨p, 0, none⟩ = some v) (hp : p ≠ t) (hk : Keep t w1 w2) : w2.cell? ⟨p, 0, none⟩ = some v :=
  (World.cell?_of_block (w := w1) (hk.block p (World.block_lt_of_cell? w1 _ h) hp)).trans h
/-- a number put into cell o -/
def putN (o : Nat) (d : Nat) (f : Nat → Value) : Nat → Value := put f o (.int .i64 (d : Int))
/-- a text put into cell o -/
def putS (o : Nat) (d : ByteArray) (f : Nat → Value) : Nat → Value := put f o (.string d)
/-- so many bytes -/
def bytesSp (N : Nat) (b : ByteArray) : Option (ByteArray × ByteArray) := if b.size < N then none else some (b.extract N b.size, b.extract 0 N)
/-- a text whose length fits -/
def textSp (fits : Nat → Bool) (b : ByteArray) : Option (ByteArray × ByteArray) :=
  match numSp 0 2147483647 b with
  | none => none
  | some (r, N) => if fits N then bytesSp N r else none
theorem cell_at (w : World) (u : Value) (t : TypeId) (b : Nat) (hb : b = w.heap.size) : (w.alloc (.cells #[u] t)).cell? ⟨b, 0, none⟩ = some u := by
  subst hb
  have : (w.alloc (.cells #[u] t)).heap[w.heap.size]? = some (.cells #[u] t) := by show (w.heap.push _)[w.heap.size]? = _; simp
  unfold World.cell?; rw [this]; simp
theorem cell_old {w : World} {p : Nat} {v : Value} {o : Obj} (h : w.cell? ⟨p, 0, none⟩ = some v) : (w.alloc o).cell? ⟨p, 0, none⟩ = some v :=
  keep_cell h ((Below.refl _ _).alloc (Nat.le_refl _) _)
theorem Blk.cell1 (w : World) (u : Value) (t : TypeId) : Blk (w.alloc (.cells #[u] t)) w.heap.size 1 (fun _ => u) := Blk.new' rfl (by rfl)
theorem textSp_none (fits : Nat → Bool) (b : ByteArray) (h : numSp 0 2147483647 b = none) : textSp fits b = none := by unfold textSp; rw [h]
theorem textSp_some (fits : Nat → Bool) (b : ByteArray) {r : ByteArray} {d : Nat} (h : numSp 0 2147483647 b = some (r, d)) : textSp fits b = if fits d = true then bytesSp d r else none := by unfold textSp; rw [h]
/-- a closure is made that cuts off what Sp says -/
def Makes (P : Program) (t n : Nat) (w : World) {δ : Type} (Sp : ByteArray → Option (ByteArray × δ)) (eff : δ → (Nat → Value) → Nat → Value) (e : Ending) (w' : World) : Prop :=
  ∃ k env, e = .returned (.func (.func k) #[] env) ∧ Below w.heap.size w w' ∧ CutTo P t n (.func (.func k) #[] env) w' Sp eff
/-- fv tells whether a length fits -/
def FitsV (P : Program) (t : Nat) (fv : Value) (W : World) (fits : Nat → Bool) : Prop :=
  ∀ (d : Nat) w, Keep t W w → CallsV P fv #[.int .i64 (d : Int)] w fun e w' => e = .returned (.bool (fits d)) ∧ Below w.heap.size w w'
end WW
namespace Go.Proofs.YtigoaokpodggcaaDoor
open WW BB
theorem own_num : Own Tryd.prog 96 := ⟨_, Tryd.func96, by kernel_rfl, by kernel_rfl⟩
theorem own_bytes : Own Tryd.prog 97 := ⟨_, Tryd.func97, by kernel_rfl, by kernel_rfl⟩
/-- the closure that cuts a number off into cell o of block t -/
theorem num_to (t n o p q r : Nat) (lo hi : Int) (ho : o < n) (W : World) (hp : W.cell? ⟨p, 0, none⟩ = some (.int .i64 lo)) (hq : W.cell? ⟨q, 0, none⟩ = some (.int .i64 hi)) (hr : W.cell? ⟨r, 0, none⟩ = some (.pointer (some ⟨t, o, none⟩)))
    (p1 : p ≠ t) (q1 : q ≠ t) (r1 : r ≠ t) :
    CutTo Tryd.prog t n (.func (.func 96) #[] #[.pointer (some ⟨p, 0, none⟩), .pointer (some ⟨q, 0, none⟩), .pointer (some ⟨r, 0, none⟩)]) W (numSp lo hi) (putN o) := by
  intro f b w hb hk ht
  refine ⟨_, _, rfl, own_num, ?_⟩
  have hp := keep_cell2 hp p1 hk
  have hq := keep_cell2 hq q1 hk
  have hr := keep_cell2 hr r1 hk
  unfold numSp
  by_cases h4 : b.size < 4
  · rw [if_pos h4]
    refine (numc_short b _ _ _ w h4).mono ?_
    rintro e w' ⟨rfl, rfl⟩
    exact ⟨false, _, rfl, rfl, f, Keep.refl _ _, ht⟩
  · rw [if_neg h4]
    by_cases hr2 : (rd4 b : Int) < lo ∨ hi < (rd4 b : Int)
    · rw [if_pos hr2]
      refine (numc_out b p q lo hi w (by omega) (by omega) hp hq _).mono ?_
      rintro e w' ⟨rfl, hs⟩
      exact ⟨false, _, rfl, rfl, f, (hs.upd t).keep, ht.same hs⟩
    · rw [if_neg hr2]
      refine (numc_yes b p q r t o n lo hi f w (by omega) (by omega) (by omega) hp hq hr ht ho).mono ?_
      rintro e w' ⟨rfl, hm⟩
      exact ⟨true, _, rfl, rfl, rfl, hm.2.keep, hm.1⟩
theorem bytes_to (t n o p q N : Nat) (ho : o < n) (W : World) (hp : W.cell? ⟨p, 0, none⟩ = some (.int .i64 N)) (hq : W.cell? ⟨q, 0, none⟩ = some (.pointer (some ⟨t, o, none⟩))) (p1 : p ≠ t) (q1 : q ≠ t) :
    CutTo Tryd.prog t n (.func (.func 97) #[] #[.pointer (some ⟨p, 0, none⟩), .pointer (some ⟨q, 0, none⟩)]) W (bytesSp N) (putS o) := by
  intro f b w hb hk ht
  refine ⟨_, _, rfl, own_bytes, ?_⟩
  have hp := keep_cell2 hp p1 hk
  have hq := keep_cell2 hq q1 hk
  unfold bytesSp
  by_cases h : b.size < N
  · rw [if_pos h]
    refine (bytesc_short b p N _ w h hp).mono ?_
    rintro e w' ⟨rfl, rfl⟩
    exact ⟨false, _, rfl, rfl, f, Keep.refl _ _, ht⟩
  · rw [if_neg h]
    refine (bytesc_yes b p q t o n N f w hb (by omega) p1 q1 hp hq ht ho).mono ?_
    rintro e w' ⟨rfl, hc⟩
    exact ⟨true, _, rfl, rfl, rfl, hc⟩
set_option maxRecDepth 100000 in
/-- cutNumber -/
theorem mk_num (t o n : Nat) (lo hi : Int) (w : World) (ho : o < n) (ht : t < w.heap.size) :
    Calls Tryd.prog 78 #[.pointer (some ⟨t, o, none⟩), .int .i64 lo, .int .i64 hi] w (Makes Tryd.prog t n w (numSp lo hi) (putN o)) := by
  have HO := Lib.hid ho
  have HT := Lib.hid ht
  clear ho ht
  go_enter Tryd.func78, Tryd.ntmps78
  go_wp2_with fail
  go_ret
  have b1 := (Below.refl w.heap.size w).alloc (Nat.le_refl _) (.cells #[.pointer (some ⟨t, o, none⟩)] 101)
  have b2 := b1.alloc b1.size (.cells #[.int .i64 lo] 3)
  have b3 := b2.alloc b2.size (.cells #[.int .i64 hi] 3)
  have := HT.out
  exact ⟨_, _, rfl, b3, num_to t n o (w.heap.size + 1) (w.heap.size + 2) w.heap.size lo hi HO.out _ (cell_old (cell_at _ _ _ _ (by simp))) (cell_at _ _ _ _ (by simp)) (cell_old (cell_old (cell_at _ _ _ _ rfl))) (by omega) (by omega) (by omega)⟩
set_option maxRecDepth 100000 in
/-- cutBytes -/
theorem mk_bytes (t o n N : Nat) (w : World) (ho : o < n) (ht : t < w.heap.size) :
    Calls Tryd.prog 79 #[.pointer (some ⟨t, o, none⟩), .int .i64 N] w (Makes Tryd.prog t n w (bytesSp N) (putS o)) := by
  have HO := Lib.hid ho
  have HT := Lib.hid ht
  clear ho ht
  go_enter Tryd.func79, Tryd.ntmps79
  go_wp2_with fail
  go_ret
  have b1 := (Below.refl w.heap.size w).alloc (Nat.le_refl _) (.cells #[.pointer (some ⟨t, o, none⟩)] 103)
  have b2 := b1.alloc b1.size (.cells #[.int .i64 (N : Int)] 3)
  have := HT.out
  exact ⟨_, _, rfl, b2, bytes_to t n o (w.heap.size + 1) w.heap.size N HO.out _ (cell_at _ _ _ _ (by simp)) (cell_old (cell_at _ _ _ _ rfl)) (by omega) (by omega)⟩
end Go.Proofs.YtigoaokpodggcaaDoor
end
section
open Go Go.RowKit
namespace WW
open BB
theorem order_cons {P : Program} {E : World → Prop} {Q : Bool → ByteArray → World → Prop} {v : Value} {vs : List Value} {t n : Nat} {W w : World} {δ : Type} {Sp : ByteArray → Option (ByteArray × δ)} {eff : δ → (Nat → Value) → Nat → Value} {f : Nat → Value} {b : ByteArray}
    (h : CutTo P t n v W Sp eff) (hb : b.size ≤ 1000000) (hk : Keep t W w) (ht : Blk w t n f) (hE : ∀ w', Keep t w w' → E w')
    (hno : Sp b = none → ∀ f' w', Cell1 t n f' w w' → Q false ⟨#[]⟩ w') (hyes : ∀ r d, Sp b = some (r, d) → ∀ w', Cell1 t n (eff d f) w w' → OrderWp P E Q vs r w') : OrderWp P E Q (v :: vs) b w := by
  refine (h f b w hb hk ht).mono fun ok r w' he => ?_
  unfold Eff at he
  rcases hs : Sp b with _ | ⟨r', d⟩
  · rw [hs] at he
    obtain ⟨rfl, f', hc⟩ := he
    exact ⟨hE w' hc.1, hno hs f' w' hc⟩
  · rw [hs] at he
    obtain ⟨rfl, rfl, hc⟩ := he
    exact ⟨hE w' hc.1, hyes _ d hs w' hc⟩
theorem numSp_size {lo hi : Int} {b r : ByteArray} {d : Nat} (h : numSp lo hi b = some (r, d)) : r.size ≤ b.size := by
  unfold numSp at h
  split at h
  · cases h
  · split at h
    · cases h
    · injection h with h; injection h with h1 h2; rw [← h1]; simp
theorem bytesSp_size {N : Nat} {b r d : ByteArray} (h : bytesSp N b = some (r, d)) : r.size ≤ b.size := by
  unfold bytesSp at h
  split at h
  · cases h
  · injection h with h; injection h with h1 h2; rw [← h1]; simp
theorem textSp_size {fits : Nat → Bool} {b r d : ByteArray} (h : textSp fits b = some (r, d)) : r.size ≤ b.size := by
  unfold textSp at h
  rcases hn : numSp 0 2147483647 b with _ | ⟨r1, N⟩
  · rw [hn] at h; cases h
  · rw [hn] at h
    dsimp only at h
    split at h
    · exact Nat.le_trans (bytesSp_size h) (numSp_size hn)
    · cases h
/-- a request -/
def reqSp (b : ByteArray) : Option (ByteArray × (Nat × Nat × ByteArray)) :=
  match numSp 0 3 b with
  | none => none
  | some (r1, c) =>
    match numSp 1 2147483647 r1 with
    | none => none
    | some (r2, q) =>
      match textSp (fun d => decide (d ≤ 40)) r2 with
      | none => none
      | some (r3, s) => some (r3, (c, q, s))
def putReq (o : Nat) (d : Nat × Nat × ByteArray) (f : Nat → Value) : Nat → Value := putS (o + 2) d.2.2 (putN (o + 1) d.2.1 (putN o d.1 f))
theorem InRow_keep {w w' : World} {t gc : Nat} {l : List Value} (h : ∀ i, i < l.length → w.cell? ⟨gc, i, none⟩ = some (l.getD i .nilFunc)) (hg : gc ≠ t) (hl : gc < w.heap.size) (hk : Keep t w w') : ∀ i, i < l.length → w'.cell? ⟨gc, i, none⟩ = some (l.getD i .nilFunc) :=
  fun i hi => (World.cell?_of_block (w := w) (hk.block gc hl hg)).trans (h i hi)
end WW
namespace Go.Proofs.YtigoaokpodggcaaDoor
open WW BB
theorem own_order : Own Tryd.prog 95 := ⟨_, Tryd.func95, by kernel_rfl, by kernel_rfl⟩
/-- a closure that tells whether a length fits is made -/
def MakesFit (P : Program) (t : Nat) (w : World) (fits : Nat → Bool) (e : Ending) (w' : World) : Prop := ∃ k env, e = .returned (.func (.func k) #[] env) ∧ Below w.heap.size w w' ∧ FitsV P t (.func (.func k) #[] env) w' fits
set_option maxRecDepth 100000 in
theorem mk_order (gc len cap : Nat) (w : World) :
    Calls Tryd.prog 77 #[.slice (some ⟨gc, 0, none⟩) len cap] w fun e w' => e = .returned (.func (.func 95) #[] #[.pointer (some ⟨w.heap.size, 0, none⟩)]) ∧ Below w.heap.size w w' ∧ w'.cell? ⟨w.heap.size, 0, none⟩ = some (.slice (some ⟨gc, 0, none⟩) len cap) := by
  go_enter Tryd.func77, Tryd.ntmps77
  go_wp2_with fail
  go_ret
  exact ⟨rfl, (Below.refl w.heap.size w).alloc (Nat.le_refl _) _, cell_at _ _ _ _ rfl⟩
theorem req_to (t o n gc bx cap : Nat) (W : World) {v1 v2 v3 : Value} (h1 : CutTo Tryd.prog t n v1 W (numSp 0 3) (putN o)) (h2 : CutTo Tryd.prog t n v2 W (numSp 1 2147483647) (putN (o + 1)))
    (h3 : CutTo Tryd.prog t n v3 W (textSp fun d => decide (d ≤ 40)) (putS (o + 2))) (hE : InRow gc [v1, v2, v3] W) (hb : W.cell? ⟨bx, 0, none⟩ = some (.slice (some ⟨gc, 0, none⟩) 3 cap)) (gt : gc ≠ t) (gl : gc < W.heap.size) (bt : bx ≠ t) :
    CutTo Tryd.prog t n (.func (.func 95) #[] #[.pointer (some ⟨bx, 0, none⟩)]) W reqSp (putReq o) := by
  intro f b w hs hk ht
  refine ⟨_, _, rfl, own_order, ?_⟩
  refine order_any [v1, v2, v3] bx gc cap _ b w (by simp) (keep_cell2 hb bt hk) (InRow_keep hE gt gl hk) ?_
  have hEk : ∀ w1, Keep t w w1 → InRow gc [v1, v2, v3] w1 := fun w1 h1 => InRow_keep hE gt gl (hk.trans h1)
  unfold reqSp
  refine order_cons h1 hs hk ht hEk (fun hno f' w1 c1 => ?_) (fun r1 d1 hy1 w1 c1 => ?_)
  · rw [hno]; exact ⟨rfl, f', c1⟩
  rw [hy1]
  have s1 := numSp_size hy1
  refine order_cons h2 (by omega) (hk.trans c1.1) c1.2 (fun w2 h2 => hEk w2 (c1.1.trans h2)) (fun hno f' w2 c2 => ?_) (fun r2 d2 hy2 w2 c2 => ?_)
  · dsimp only; rw [hno]; exact ⟨rfl, f', c1.1.trans c2.1, c2.2⟩
  dsimp only
  rw [hy2]
  have s2 := numSp_size hy2
  refine order_cons h3 (by omega) (hk.trans (c1.1.trans c2.1)) c2.2 (fun w3 h3 => hEk w3 ((c1.1.trans c2.1).trans h3)) (fun hno f' w3 c3 => ?_) (fun r3 d3 hy3 w3 c3 => ?_)
  · dsimp only; rw [hno]; exact ⟨rfl, f', (c1.1.trans c2.1).trans c3.1, c3.2⟩
  dsimp only
  rw [hy3]
  exact ⟨rfl, rfl, (c1.1.trans c2.1).trans c3.1, c3.2⟩
end Go.Proofs.YtigoaokpodggcaaDoor
end
section
open Go Go.RowKit
namespace WW
open BB
/-- what is read -/
def reqRd (b : ByteArray) : Option (Nat × Nat × ByteArray) :=
  match reqSp b with
  | none => none
  | some (r, d) => if r.size = 0 then some d else none
def reqAns : Option (Nat × Nat × ByteArray) → Value
  | none => .tuple #[.agg #[.int .i64 0, .int .i64 0, .string ⟨#[]⟩], .int .i64 2]
  | some d => .tuple #[.agg #[.int .i64 (d.1 : Int), .int .i64 (d.2.1 : Int), .string d.2.2], .int .i64 0]
/-- a zero request's cells -/
def rz : Nat → Value := fun i => if i < 2 then .int .i64 0 else .string ⟨#[]⟩
theorem rz_row : #[Value.int .i64 0, .int .i64 0, .string ⟨#[]⟩] = row 3 rz := by rfl
/-- three requests beside each other -/
structure Three (w0 : World) (a : Nat) (w : World) : Prop where
  below : Below w0.heap.size w0 w
  ra : Blk w a 3 rz
  rx : Blk w (a + 1) 3 rz
  rn : Blk w (a + 1 + 1) 3 rz
theorem three_mk (w : World) (a : Nat) (ha : w.heap.size = a) (t : TypeId) : Three w a (((w.alloc (.cells #[.int .i64 0, .int .i64 0, .string ⟨#[]⟩] t)).alloc (.cells #[.int .i64 0, .int .i64 0, .string ⟨#[]⟩] t)).alloc (.cells #[.int .i64 0, .int .i64 0, .string ⟨#[]⟩] t)) := by
  have b1 := (Below.refl w.heap.size w).alloc (Nat.le_refl _) (.cells #[.int .i64 0, .int .i64 0, .string ⟨#[]⟩] t)
  have b2 := b1.alloc b1.size (.cells #[.int .i64 0, .int .i64 0, .string ⟨#[]⟩] t)
  exact ⟨b2.alloc b2.size _, ((Blk.new' (by omega) rz_row).alloc _).alloc _, (Blk.new' (by simp; omega) rz_row).alloc _, Blk.new' (by simp; omega) rz_row⟩
theorem set3 {w : World} {a : Nat} {f : Nat → Value} (h : Blk w a 3 f) (u0 u1 u2 : Value) :
    (((w.setCell ⟨a, 0, none⟩ u0).setCell ⟨a, 1, none⟩ u1).setCell ⟨a, 2, none⟩ u2).cell? ⟨a, 0, none⟩ = some u0 ∧
    (((w.setCell ⟨a, 0, none⟩ u0).setCell ⟨a, 1, none⟩ u1).setCell ⟨a, 2, none⟩ u2).cell? ⟨a, 1, none⟩ = some u1 ∧
    (((w.setCell ⟨a, 0, none⟩ u0).setCell ⟨a, 1, none⟩ u1).setCell ⟨a, 2, none⟩ u2).cell? ⟨a, 2, none⟩ = some u2 := by
  have k := ((h.set 0 u0).set 1 u1).set 2 u2
  exact ⟨k.get 0 (by omega), k.get 1 (by omega), k.get 2 (by omega)⟩
theorem Three.on {w0 w w' : World} {a : Nat} (h : Three w0 a w) (hb : Below w.heap.size w w') : Three w0 a w' :=
  ⟨h.below.trans (hb.mono h.below.size), h.ra.below hb h.ra.lt, h.rx.below hb h.rx.lt, h.rn.below hb h.rn.lt⟩
end WW
namespace Go.Proofs.YtigoaokpodggcaaDoor
open WW BB
end Go.Proofs.YtigoaokpodggcaaDoor
end
section
open Go Go.RowKit
namespace WW
open BB
theorem ba_ext {a b : ByteArray} (h : a.data.toList = b.data.toList) : a = b := ByteArray.ext (Array.toList_inj.1 h)
theorem ba_list (a : ByteArray) : a.data.toList.length = a.size := by rw [Array.length_toList]; rfl
theorem be4_list (n : Nat) : (be4 n).data.toList = [UInt8.ofNat (n / 16777216), UInt8.ofNat (n / 65536), UInt8.ofNat (n / 256), UInt8.ofNat n] := rfl
theorem rd4_be4 (n : Nat) (h : n < 4294967296) (r : ByteArray) : rd4 (be4 n ++ r) = n := by
  unfold rd4
  rw [ByteArray.data_append, Array.toList_append, be4_list]
  simp only [List.cons_append, List.nil_append, List.getD_cons_zero, List.getD_cons_succ, UInt8.toNat_ofNat']
  have d1 : n / 65536 / 256 = n / 16777216 := Nat.div_div_eq_div_mul n 65536 256
  have d2 : n / 256 / 256 = n / 65536 := Nat.div_div_eq_div_mul n 256 256
  omega
theorem drop_be4 (n : Nat) (r : ByteArray) : (be4 n ++ r).extract 4 (be4 n ++ r).size = r := by
  apply ba_ext
  have hr := ba_list r
  have hs : (be4 n ++ r).size = 4 + r.size := by rw [ByteArray.size_append]; rfl
  rw [hs, ByteArray.data_extract, Array.toList_extract, ByteArray.data_append, Array.toList_append, be4_list, List.extract_eq_take_drop]
  show List.take (4 + r.size - 4) r.data.toList = r.data.toList
  exact List.take_of_length_le (by omega)
theorem numSp_put (lo hi : Int) (n : Nat) (h : n < 4294967296) (r : ByteArray) : numSp lo hi (be4 n ++ r) = if (n : Int) < lo ∨ hi < (n : Int) then none else some (r, n) := by
  unfold numSp
  rw [if_neg (by rw [ByteArray.size_append]; show ¬ 4 + r.size < 4; omega), rd4_be4 n h, drop_be4]
theorem list4 (l : List UInt8) (h : 4 ≤ l.length) : ∃ a b c d r, l = a :: b :: c :: d :: r := by
  match l, h with
  | a :: b :: c :: d :: r, _ => exact ⟨a, b, c, d, r, rfl⟩
theorem u8_of (x : UInt8) (n : Nat) (h : n % 256 = x.toNat) : UInt8.ofNat n = x := by
  apply UInt8.toNat_inj.1; simp [h]
theorem numSp_sound {lo hi : Int} {b r : ByteArray} {N : Nat} (h : numSp lo hi b = some (r, N)) : b = be4 N ++ r ∧ lo ≤ (N : Int) ∧ (N : Int) ≤ hi := by
  unfold numSp at h
  split at h
  · cases h
  · split at h
    · cases h
    · rename_i h4 hr
      injection h with h; injection h with h1 h2
      refine ⟨?_, by omega, by omega⟩
      apply ba_ext
      have hl := ba_list b
      obtain ⟨x0, x1, x2, x3, t, ht⟩ := list4 b.data.toList (by omega)
      have hN : N = x0.toNat * 16777216 + x1.toNat * 65536 + x2.toNat * 256 + x3.toNat := by
        rw [← h2]; unfold rd4; rw [ht]; rfl
      have l0 := UInt8.toNat_lt x0
      have l1 := UInt8.toNat_lt x1
      have l2 := UInt8.toNat_lt x2
      have l3 := UInt8.toNat_lt x3
      have e0 : UInt8.ofNat (N / 16777216) = x0 := u8_of _ _ (by omega)
      have e1 : UInt8.ofNat (N / 65536) = x1 := u8_of _ _ (by omega)
      have e2 : UInt8.ofNat (N / 256) = x2 := u8_of _ _ (by omega)
      have e3 : UInt8.ofNat N = x3 := u8_of _ _ (by omega)
      rw [ByteArray.data_append, Array.toList_append, be4_list, e0, e1, e2, e3, ← h1, ByteArray.data_extract, Array.toList_extract, ht, List.extract_eq_take_drop]
      have hs : b.size = t.length + 4 := by rw [← hl, ht]; simp
      simp [hs]
theorem bytesSp_put (s r : ByteArray) : bytesSp s.size (s ++ r) = some (r, s) := by
  unfold bytesSp
  rw [if_neg (by rw [ByteArray.size_append]; omega)]
  congr 2
  · apply ba_ext
    have hr := ba_list r
    have hs := ba_list s
    rw [ByteArray.data_extract, Array.toList_extract, ByteArray.data_append, Array.toList_append, ByteArray.size_append, List.extract_eq_take_drop, List.drop_left' hs]
    exact List.take_of_length_le (by omega)
  · apply ba_ext
    have hs := ba_list s
    rw [ByteArray.data_extract, Array.toList_extract, ByteArray.data_append, Array.toList_append, List.extract_eq_take_drop, List.drop_zero, Nat.sub_zero, List.take_left' hs]
theorem bytesSp_sound {N : Nat} {b r s : ByteArray} (h : bytesSp N b = some (r, s)) : b = s ++ r ∧ s.size = N := by
  unfold bytesSp at h
  split at h
  · cases h
  · injection h with h; injection h with h1 h2
    constructor
    · apply ba_ext
      rw [← h1, ← h2, ByteArray.data_append, Array.toList_append, ByteArray.data_extract, ByteArray.data_extract, Array.toList_extract, Array.toList_extract, List.extract_eq_take_drop, List.extract_eq_take_drop]
      have := ba_list b
      rw [List.drop_zero, Nat.sub_zero, List.take_of_length_le (l := b.data.toList.drop N) (by simp), List.take_append_drop]
    · rw [← h2]; simp; omega
end WW
end
