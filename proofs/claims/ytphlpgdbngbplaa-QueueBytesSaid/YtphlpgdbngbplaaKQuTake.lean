/-
  The walk of take: one of the code's queue is taken out; what a lane that is written leaves (layer 17).
-/
import Derived.Test.YtphlpgdbngbplaaKQuPop
import Derived.Test.YtphlpgdbngbplaaKQuMem
import Derived.ArgAppend
section
open Go Go.RowKit
namespace Go.Proofs.Ytphlpgdbngbplaa
open QU RR FF WW BB
/-- what Pop answers -/
def PopAns (F S : List Mv) (D i : Int) (A : Nat → Prop) (w : World) (e : Ending) (w' : World) : Prop :=
  ∃ v1 v2 F' S' f B, e = .returned (.tuple #[.agg #[v1, v2, .int .i64 D], .agg (row 21 f), .bool B]) ∧ popQ ⟨F.map Prod.fst, S.map Prod.fst, D⟩ i = ⟨F'.map Prod.fst, S'.map Prod.fst, D⟩ ∧
    (∀ x ∈ F' ++ S', x ∈ F ++ S) ∧ GRow 21 encMv mv0 (fun c => A c ∨ w.heap.size ≤ c) w' v1 F' ∧ GRow 21 encMv mv0 (fun c => A c ∨ w.heap.size ≤ c) w' v2 S' ∧ Below w.heap.size w w' ∧
    ((B = false ∧ F ++ S = [] ∧ f = zM) ∨ (B = true ∧ F ++ S ≠ [] ∧ f = ((F ++ S).getD (i % ((F.length + S.length : Nat) : Int)).toNat mv0).2))
set_option maxRecDepth 100000 in
set_option maxHeartbeats 64000000 in
theorem rpop17_any (F S : List Mv) (D i : Int) (A : Nat → Prop) (a1 a2 : Option Addr) (c1 c2 : Nat) (w : World)
    (hF : GRow 21 encMv mv0 A w (.slice a1 F.length c1) F) (hS : GRow 21 encMv mv0 A w (.slice a2 S.length c2) S) (h1 : ∀ x ∈ F, ∀ i, i < 21 → (x.2 i).oneCell' = true) (h2 : ∀ x ∈ S, ∀ i, i < 21 → (x.2 i).oneCell' = true)
    (hl : F.length ≤ 64 ∧ S.length ≤ 64) (hi : -9223372036854775808 ≤ i ∧ i ≤ 9223372036854775807) :
    Calls Try.prog 13 #[.agg #[.slice a1 F.length c1, .slice a2 S.length c2, .int .i64 D], .int .i64 i] w (PopAns F S D i A w) := by
  have HF := Lib.hid hF
  have HS := Lib.hid hS
  have HO1 := Lib.hid h1
  have HO2 := Lib.hid h2
  have HL := Lib.hid hl
  have HI := Lib.hid hi
  have l1 := hl.1
  have l2 := hl.2
  clear hF hS h1 h2 hl hi
  have X0 := Lib.hid (pp_mk w w.heap.size rfl (.slice a1 F.length c1) (.slice a2 S.length c2) (.int .i64 D) 29 42)
  go_enter Try.func13, Try.ntmps13
  go_upto_region 1 with fail
  obtain ⟨g, hg⟩ : ∃ g, w.heap.size = g := ⟨_, rfl⟩
  have HG := Lib.hid hg
  obtain ⟨w0, hw0⟩ : ∃ w0, ((w.alloc (.cells #[.slice a1 F.length c1, .slice a2 S.length c2, .int .i64 D] 29)).alloc (.cells #[.slice none 0 0, .slice none 0 0, .int .i64 0] 29)).alloc (.cells #[.int .i64 0, .int .i64 0, .int .i64 0, .int .i64 0, .string ⟨#[]⟩, .int .i64 0, .int .i64 0, .int .i64 0, .string ⟨#[]⟩, .slice none 0 0, .slice none 0 0, .int .i64 0, .string ⟨#[]⟩, .slice none 0 0, .int .i64 0, .slice none 0 0, .int .i64 0, .int .i64 0, .string ⟨#[]⟩, .int .i64 0, .string ⟨#[]⟩] 42) = w0 := ⟨_, rfl⟩
  rw [hw0, hg] at X0
  rw [hw0]
  simp only [hg]
  clear hw0 hg
  refine plan_abs (fun wx => Below w0.heap.size w0 wx) [(true, 1), (true, 2), (true, 4), (true, 5), (false, 0), (false, 3), (false, 6), (true, 7)] (by kernel_rfl) (by kernel_rfl) (fun _ _ d _ _ h => by cases d <;> exact h) fun w1 hs1 => ⟨hs1.below _, ?_⟩
  have Y1 := Lib.hid (hs1.below w0.heap.size)
  have X1 := Lib.hid (X0.out.on Y1.out)
  clear hs1
  iterate 4 (refine pl_run _ ?_ rfl rfl ?_ ?_; rotate_left; (focus (intro w' hS; obtain ⟨q0, q1, q2⟩ := cells3 (X0.out.on hS).a; go_simp; exact rfl)); simp only [Act.put, List.setIfInBounds_toArray, List.set_cons_zero, List.set_cons_succ, List.getElem_toArray, List.getElem_cons_zero, List.getElem_cons_succ])
  obtain ⟨ti, i1, i2, i3, i4⟩ := info_parts info_msg17
  obtain ⟨a3, c3, w2, a4, c4, w3, hr2, hr3, hb2, hb3, hrow⟩ := two_rowsG (k := 21) (enc := encMv) encMv_len (by decide) (d0 := mv0) (P := Try.prog) (w := w1) (t := 27) (ty := 27) (e := 42) (i := ti) (bytes := 272) und_msgs17 i1 i2 i3 i4 rfl (HF.out.later X1.out.below) (HS.out.later X1.out.below) (cellsMv_one HO1.out) (cellsMv_one HO2.out) (by have := HL.out; omega) (by decide)
  refine pl_value (w' := w1.alloc (.cells #[] 42)) _ (.slice (some ⟨w1.heap.size, 0, none⟩) 0 0) rfl rfl (by go_simp) (Y1.out.trans (((Below.refl _ _).alloc (Nat.le_refl _) _).mono Y1.out.size)) ?_
  simp only [Act.put, List.setIfInBounds_toArray, List.set_cons_zero, List.set_cons_succ, List.getElem_toArray, List.getElem_cons_zero]
  refine pl_value (w' := w2) _ (.slice a3 F.length c3) rfl rfl (JJ.run_op_append _ _ _ rfl _ _ rfl rfl hr2) (Y1.out.trans (hb2.mono Y1.out.size)) ?_
  simp only [Act.put, List.setIfInBounds_toArray, List.set_cons_zero, List.set_cons_succ, List.getElem_toArray, List.getElem_cons_zero, List.getElem_cons_succ]
  refine pl_value (w' := w3) _ (.slice a4 (F.length + S.length) c4) rfl rfl (JJ.run_op_append _ _ _ rfl _ _ rfl rfl hr3) (Y1.out.trans (hb3.mono Y1.out.size)) ?_
  simp only [Act.put, List.setIfInBounds_toArray, List.set_cons_zero, List.set_cons_succ, List.getElem_toArray, List.getElem_cons_zero, List.getElem_cons_succ]
  iterate 1 (refine pl_run _ ?_ rfl rfl ?_ ?_; rotate_left; (focus (intro w' hS; go_simp; exact rfl)); simp only [Act.put, List.setIfInBounds_toArray, List.set_cons_zero, List.set_cons_succ, List.getElem_toArray, List.getElem_cons_zero, List.getElem_cons_succ])
  refine pl_end ?_
  have X3 := Lib.hid (X1.out.on hb3)
  have HALL := Lib.hid (show GRow 21 encMv mv0 (fun c => w1.heap.size ≤ c) w3 (.slice a4 (F ++ S).length c4) (F ++ S) by rw [List.length_append] at hrow ⊢; exact grow_of_own encMv_len mv0 (by rw [List.length_append]; exact hrow))
  clear hr2 hr3 hb2 hb3 hrow i1 i2 i3 i4
  obtain ⟨n, hn⟩ : ∃ n, F.length + S.length = n := ⟨_, rfl⟩
  have HN := Lib.hid hn
  have nb : (n : Int) ≤ 128 := by omega
  have HNL := Lib.hid (show (F ++ S).length = n by rw [List.length_append]; exact hn)
  rw [HNL.out] at HALL
  rw [hn]
  clear hn
  by_cases h0 : n = 0
  · have e0 : ((n : Int) == 0) = true := by rw [beq_iff_eq]; omega
    have HE := Lib.hid (show F = [] ∧ S = [] from ⟨List.eq_nil_of_length_eq_zero (by have := HN.out; omega), List.eq_nil_of_length_eq_zero (by have := HN.out; omega)⟩)
    clear h0
    go_wp2_with (with_reducible refine hold_load (.tmp 2) rfl ?_)
    refine wpl_load (.tmp 2) g 0 3 3 _ rfl rfl (by rfl) (agg_q17 _) (size_q17 _) X3.out.a.cells (by omega) ?_
    simp only [Nat.zero_add]
    go_wp2_with (with_reducible refine hold_store (.tmp 4) (.tmp 22) rfl ?_)
    refine wpl_store (.tmp 4) (.tmp 22) (g + 1) 0 3 3 _ (rowL [.slice a1 F.length c1, .slice a2 S.length c2, .int .i64 D]) rfl rfl (by rfl) (by rfl) (size_q17 _) X3.out.b (by omega) (fun i hi => by
      match i, hi with
      | 0, _ => rfl
      | 1, _ => rfl
      | 2, _ => rfl) ?_
    intro w4 h4
    have B4 := Lib.hid (h4.1.congr (rowL [.slice a1 F.length c1, .slice a2 S.length c2, .int .i64 D]) fun i hi => by rw [if_pos ⟨Nat.zero_le _, by omega⟩]; rfl)
    have U4 := Lib.hid h4.2
    have C4 := Lib.hid (X3.out.c.upd h4.2 (by omega))
    clear h4
    go_wp2_with (with_reducible refine hold_store (.tmp 5) (.tmp 23) rfl ?_)
    refine wpl_store (.tmp 5) (.tmp 23) (g + 1 + 1) 0 21 21 _ zM rfl rfl (by rfl) (by rfl) (size_msg _) C4.out (by omega) zM_one ?_
    intro w5 h5
    have C5 := Lib.hid (h5.1.congr zM fun i hi => by rw [if_pos ⟨Nat.zero_le _, by omega⟩]; rfl)
    have B5 := Lib.hid (B4.out.upd h5.2 (by omega))
    have U5 := Lib.hid h5.2
    clear h5
    go_wp2_with fail
    have BF := X3.out.below.trans ((U4.out.below (by have := HG.out; omega)).trans (U5.out.below (by have := HG.out; omega)))
    refine bodyPost_ret (v := .tuple #[.agg (row 3 (rowL [.slice a1 F.length c1, .slice a2 S.length c2, .int .i64 D])), .agg (row 21 zM), .bool false]) (results_row23 (b := g + 1) (N := 3) (m := 3) (b2 := g + 1 + 1) (N2 := 21) (m2 := 21) Try.results13 (by simp) (by simp) (by simp) (agg_q17 _) (size_q17 _) B5.out.cells (Nat.le_refl _) (agg_msg _) (size_msg _) C5.out.cells (Nat.le_refl _)) rfl ?_
    refine ⟨_, _, F, S, zM, false, rfl, ?_, fun x hx => hx, (HF.out.later BF).more fun _ h => Or.inl h, (HS.out.later BF).more fun _ h => Or.inl h, BF, .inl ⟨rfl, by rw [HE.out.1, HE.out.2]; rfl, rfl⟩⟩
    rw [pop_keep, keepP_end, keepS_end, HE.out.1, HE.out.2]; rfl
  · have e0 : ((n : Int) == 0) = false := by rw [beq_eq_false_iff_ne]; omega
    have HN0 := Lib.hid h0
    have nz : ¬ (n : Int) = 0 := by omega
    have n0 : (0 : Int) < (n : Int) := by omega
    obtain ⟨r, hr⟩ : ∃ r, i.tmod (n : Int) = r := ⟨_, rfl⟩
    obtain ⟨ix, hix⟩ : ∃ ix : Nat, (i % (n : Int)).toNat = ix := ⟨_, rfl⟩
    have hxe : i % (n : Int) = (ix : Int) := by rw [← hix]; have := Int.emod_nonneg i nz; omega
    have HIXN := Lib.hid (show ix < n by have := Int.emod_lt_of_pos i n0; omega)
    have HIXE := Lib.hid (show (i % ((F.length + S.length : Nat) : Int)).toNat = ix by rw [HN.out]; exact hix)
    have hrb : -(n : Int) < r ∧ r < (n : Int) := by
      rw [← hr]
      refine ⟨?_, Int.tmod_lt_of_pos i n0⟩
      have := Int.lt_tmod_of_pos i n0
      omega
    have r0 := hrb.1
    have r1 := hrb.2
    have r2 : r + (n : Int) ≤ 256 := by omega
    have r3 : 0 ≤ r + (n : Int) := by omega
    have hr2 : (r + (n : Int)).tmod (n : Int) = (ix : Int) := by
      rw [Int.tmod_eq_emod_of_nonneg r3, ← hr, Int.tmod_eq_emod]
      split
      · rw [show i % (n : Int) - ((0 : Nat) : Int) + (n : Int) = i % (n : Int) + (n : Int) by omega, Int.add_emod_right, Int.emod_emod]; exact hxe
      · rw [show i % (n : Int) - ((n : Int).natAbs : Int) + (n : Int) = i % (n : Int) by omega, Int.emod_emod]; exact hxe
    have hr3 : (r + (n : Int)) % (n : Int) = (ix : Int) := by rw [← Int.tmod_eq_emod_of_nonneg r3]; exact hr2
    have hi1 := HI.out.1
    have hi2 := HI.out.2
    have w1' : IntKind.i64.wrap r = r := by rw [IntKind.wrap_i64]; omega
    have w2' : IntKind.i64.wrap (r + (n : Int)) = r + (n : Int) := by rw [IntKind.wrap_i64]; omega
    have w3' : IntKind.i64.wrap (ix : Int) = (ix : Int) := by rw [IntKind.wrap_i64]; have := HIXN.out; omega
    clear h0 hix hxe hrb
    obtain ⟨q0, q1, q2⟩ := cells3 X3.out.a
    go_wp2_with (with_reducible refine hold_store (.tmp 9) (.tmp 33) rfl ?_)
    clear q0 q1 q2 hr hr2 hr3 hi1 hi2 w1' w2' w3' r0 r1 r2 r3
    obtain ⟨y, hy⟩ : ∃ y, w3.heap.size = y := ⟨_, rfl⟩
    have HYE := Lib.hid hy
    have Z4 := Lib.hid (show Blk (w3.alloc (.cells #[.slice none 0 0, .slice none 0 0, .int .i64 0] 29)) y 3 (rowL [.slice none 0 0, .slice none 0 0, .int .i64 0]) from Blk.new' hy.symm (row3_ _ _ _))
    have A4 := Lib.hid (show Below y w3 (w3.alloc (.cells #[.slice none 0 0, .slice none 0 0, .int .i64 0] 29)) from hy ▸ (Below.refl w3.heap.size w3).alloc (Nat.le_refl _) (.cells #[.slice none 0 0, .slice none 0 0, .int .i64 0] 29))
    have HGY := Lib.hid (show g + 1 + 1 < y by have := X3.out.c.lt; omega)
    simp only [hy]
    clear hy
    refine wpl_store (.tmp 9) (.tmp 33) y 0 3 3 _ (rowL [.slice none 0 0, .slice none 0 0, .int .i64 D]) rfl rfl (by rfl) (by rfl) (size_q17 _) Z4.out (by omega) (fun i hi => by
      match i, hi with
      | 0, _ => rfl
      | 1, _ => rfl
      | 2, _ => rfl) ?_
    intro w4 h4
    have X4 := Lib.hid (h4.1.congr (rowL [.slice none 0 0, .slice none 0 0, .int .i64 D]) fun i hi => by rw [if_pos ⟨Nat.zero_le _, by omega⟩]; rfl)
    have B4 := Lib.hid (A4.out.trans (h4.2.below (Nat.le_refl _)))
    clear h4 Z4 A4
    obtain ⟨ab, ao, rfl, hlo, hab, hac⟩ : ∃ ab ao, a4 = some ⟨ab, ao, none⟩ ∧ w1.heap.size ≤ ab ∧ ab < w3.heap.size ∧ ∀ i, i < (F ++ S).length → ∀ j u, (encMv ((F ++ S).getD i mv0))[j]? = some u → w3.cell? ⟨ab, ao + i * 21 + j, none⟩ = some u := by
      obtain ⟨a', c', he, h | ⟨b', o', h1, h2, h3, h4⟩⟩ := HALL.out
      · exfalso; have := HNL.out; rw [h] at this; have := HN0.out; simp at *; omega
      · injection he with e1 _ _
        exact ⟨b', o', e1.trans h1, h2, h3, h4⟩
    have HCA := Lib.hid (show ∀ k, k < n → ∀ wx, Below y w3 wx → ∀ j, j < 21 → wx.cell? ⟨ab, ao + k * 21 + j, none⟩ = some (((F ++ S).getD k mv0).2 j) from fun k hk wx hb j hj => by
      rw [hb.cell (p := ⟨ab, ao + k * 21 + j, none⟩) (by have := HYE.out; show ab < y; omega)]
      exact hac k (by rw [HNL.out]; exact hk) j _ (encMv_at _ hj))
    have HAB := Lib.hid (show g + 1 + 1 < ab by have := X1.out.c.lt; omega)
    clear hlo hab hac
    have HONE := Lib.hid (show ∀ k, k < n → ∀ j, j < 21 → (((F ++ S).getD k mv0).2 j).oneCell' = true from fun k hk j hj => by
      have hm : (F ++ S).getD k mv0 ∈ F ++ S := by
        rw [List.getD_eq_getElem?_getD, List.getElem?_eq_getElem (by rw [HNL.out]; exact hk)]; exact List.getElem_mem _
      rcases List.mem_append.1 hm with h | h
      · exact HO1.out _ h j hj
      · exact HO2.out _ h j hj)
    go_wp2_with fail
    go_loopw [10] (fun x wr => ∃ (k : Nat) (L1 L2 : List Mv) (x1 : Option Addr) (y1 : Nat) (x2 : Option Addr) (y2 : Nat), k ≤ n ∧ x = .int .i64 (k : Int) ∧ Below y w3 wr ∧ Blk wr y 3 (rowL [.slice x1 L1.length y1, .slice x2 L2.length y2, .int .i64 D]) ∧ wr.ownsRow (y + 1) 42 21 (.slice x1 L1.length y1) L1.length (cellsG encMv L1) ∧ wr.ownsRow (y + 1) 42 21 (.slice x2 L2.length y2) L2.length (cellsG encMv L2) ∧ (∀ c, (Value.slice x1 L1.length y1).ownBlock = some c → (Value.slice x2 L2.length y2).ownBlock = some c → False) ∧ L1 = keepP mv0 (F ++ S) ix F.length k ∧ L2 = keepS mv0 (F ++ S) ix F.length k) (fun x _ => n - (intOf x).toNat)
    case atStart => exact ⟨0, [], [], none, 0, none, 0, Nat.zero_le _, rfl, B4.out, X4.out, World.ownsRow_nil _ _ _ _, World.ownsRow_nil _ _ _ _, (fun c hc => by cases hc), rfl, rfl⟩
    case round =>
      obtain ⟨k, L1, L2, x1, y1, x2, y2, hk, rfl, hby, hx, hr1, hr2, hnb, hl1, hl2⟩ := hrel
      have HBY := Lib.hid hby
      have HX := Lib.hid hx
      have HR1 := Lib.hid hr1
      have HR2 := Lib.hid hr2
      have HNB := Lib.hid hnb
      have HL1 := Lib.hid hl1
      have HL2 := Lib.hid hl2
      have HKN := Lib.hid hk
      have k0 : (0 : Int) ≤ (k : Int) := by omega
      have kb : (k : Int) ≤ 128 := by omega
      clear hk hby hx hr1 hr2 hnb hl1 hl2
      by_cases hlt : k < n
      · have hlt' : (k : Int) < (n : Int) := by omega
        have HLT := Lib.hid hlt
        have HLL := Lib.hid (show L1.length ≤ 128 ∧ L2.length ≤ 128 by
          have h1 := keepP_len mv0 (F ++ S) ix F.length k
          have h2 := keepS_len mv0 (F ++ S) ix F.length k
          rw [← HL1.out] at h1
          rw [← HL2.out] at h2
          omega)
        clear hlt
        by_cases hne : k = ix
        · have e1 : ((k : Int) == (ix : Int)) = true := by rw [beq_iff_eq]; omega
          have HNE := Lib.hid hne
          clear hne
          go_wp2_with fail
          go_roundw
          case rel => exact ⟨k + 1, L1, L2, x1, y1, x2, y2, HLT.out, by go_num, HBY.out, HX.out, HR1.out, HR2.out, HNB.out, by rw [HL1.out, keepP_no mv0 (F ++ S) (fun h => h.1 HNE.out)], by rw [HL2.out, keepS_no mv0 (F ++ S) (fun h => h.1 HNE.out)]⟩
          case measure => have := HLT.out; simp [intOf]; omega
        · have e1 : ((k : Int) == (ix : Int)) = false := by rw [beq_eq_false_iff_ne]; omega
          have HNE := Lib.hid hne
          obtain ⟨⟨b, m⟩, hbm⟩ : ∃ x, (F ++ S).getD k mv0 = x := ⟨_, rfl⟩
          have HM0 := Lib.hid hbm
          have HAM := Lib.hid (show ∀ wx, Below y w3 wx → ∀ j, j < 21 → wx.cell? ⟨ab, ao + k * 21 + j, none⟩ = some (m j) from fun wx hb j hj => by have h := HCA.out k HLT.out wx hb j hj; rw [hbm] at h; exact h)
          have HM1 := Lib.hid (show ∀ j, j < 21 → (m j).oneCell' = true from fun j hj => by have h := HONE.out k HLT.out j hj; rw [hbm] at h; exact h)
          obtain ⟨q0, q1, q2⟩ := cells3 ((X3.out.a).below HBY.out (by have := HGY.out; omega))
          clear hne hbm
          by_cases hkf : k < F.length
          · have hkf' : (k : Int) < (F.length : Int) := by omega
            have HKF := Lib.hid hkf
            clear hkf
            go_upto_region 12 with fail
            clear q0 q1 q2 e1
            have HC12 := Lib.hid (show ∀ wx, (Blk wx y 3 (rowL [.slice x1 L1.length y1, .slice x2 L2.length y2, .int .i64 D]) ∧ ∀ j, j < 21 → wx.cell? ⟨ab, ao + k * 21 + j, none⟩ = some (m j)) → (wx.cell? ⟨y, 0, none⟩ = some (.slice x1 L1.length y1) ∧ wx.cell? ⟨y, 1, none⟩ = some (.slice x2 L2.length y2) ∧ wx.cell? ⟨y, 2, none⟩ = some (.int .i64 D)) from fun wx h => cells3 h.1)
            refine planE_abs (fun wx => Blk wx y 3 (rowL [.slice x1 L1.length y1, .slice x2 L2.length y2, .int .i64 D]) ∧ ∀ j, j < 21 → wx.cell? ⟨ab, ao + k * 21 + j, none⟩ = some (m j)) 9 [(true, 0), (true, 1), (true, 2), (true, 3), (true, 4), (true, 5), (false, 6), (false, 7), (true, 8), (false, 9)] (by kernel_rfl) (by kernel_rfl) (fun _ _ d _ _ h => by cases d <;> exact h) fun w8 hs8 => ⟨⟨HX.out.same hs8, fun j hj => (hs8.cell _).trans (HAM.out _ HBY.out j hj)⟩, ?_⟩
            have HX8 := Lib.hid (HX.out.same hs8)
            have B8 := Lib.hid (HBY.out.trans (hs8.below y))
            have R18 := Lib.hid (row_keep HR1.out fun c hc => (hs8.below wr.heap.size).block c (HR1.out.lt c hc).2)
            have R28 := Lib.hid (row_keep HR2.out fun c hc => (hs8.below wr.heap.size).block c (HR2.out.lt c hc).2)
            have HY8 := Lib.hid (HX8.out.lt)
            clear hs8
            iterate 5 (refine pe_run _ ?_ rfl rfl ?_ ?_; rotate_left; (focus (intro w' hS; obtain ⟨q0, q1, q2⟩ := HC12.out w' hS; go_simp; exact rfl)); simp only [Act.put, List.setIfInBounds_toArray, List.set_cons_zero, List.set_cons_succ, List.getElem_toArray, List.getElem_cons_zero, List.getElem_cons_succ])
            refine pe_run _ (.agg #[m 0, m 1, m 2, m 3, m 4, m 5, m 6, m 7, m 8, m 9, m 10, m 11, m 12, m 13, m 14, m 15, m 16, m 17, m 18, m 19, m 20]) rfl rfl (fun w' hS => run_op_load_at (ad := .tmp 51) (b := ab) (off := ao + k * 21) (m := 21) (f := m) rfl (by rfl) (agg_msg _) (size_msg _) hS.2) ?_
            simp only [Act.put, List.setIfInBounds_toArray, List.set_cons_zero, List.set_cons_succ, List.getElem_toArray, List.getElem_cons_zero, List.getElem_cons_succ]
            have A9 := Lib.hid ((Below.refl w8.heap.size w8).alloc (Nat.le_refl _) (.cells #[m 0, m 1, m 2, m 3, m 4, m 5, m 6, m 7, m 8, m 9, m 10, m 11, m 12, m 13, m 14, m 15, m 16, m 17, m 18, m 19, m 20] 42))
            have L9 := Lib.hid (show Blk (w8.alloc (.cells #[m 0, m 1, m 2, m 3, m 4, m 5, m 6, m 7, m 8, m 9, m 10, m 11, m 12, m 13, m 14, m 15, m 16, m 17, m 18, m 19, m 20] 42)) w8.heap.size 21 m from Blk.new' rfl (row21_ m).symm)
            have X9 := Lib.hid (HX8.out.below A9.out HY8.out)
            refine pe_value (w' := w8.alloc (.cells #[m 0, m 1, m 2, m 3, m 4, m 5, m 6, m 7, m 8, m 9, m 10, m 11, m 12, m 13, m 14, m 15, m 16, m 17, m 18, m 19, m 20] 42)) _ (.slice (some ⟨w8.heap.size, 0, none⟩) 1 1) rfl rfl (by go_simp) ⟨X9.out, HAM.out _ (B8.out.trans (A9.out.mono (by have := HY8.out; omega)))⟩ ?_
            simp only [Act.put, List.setIfInBounds_toArray, List.set_cons_zero, List.set_cons_succ, List.getElem_toArray, List.getElem_cons_zero, List.getElem_cons_succ]
            obtain ⟨n8, hn8⟩ : ∃ n8, w8.heap.size = n8 := ⟨_, rfl⟩
            obtain ⟨w9, hw9⟩ : ∃ w9, w8.alloc (.cells #[m 0, m 1, m 2, m 3, m 4, m 5, m 6, m 7, m 8, m 9, m 10, m 11, m 12, m 13, m 14, m 15, m 16, m 17, m 18, m 19, m 20] 42) = w9 := ⟨_, rfl⟩
            rw [hw9] at A9 L9 X9 ⊢
            rw [hn8] at L9 ⊢
            have R19 := Lib.hid (row_keep R18.out fun c hc => A9.out.block c (R18.out.lt c hc).2)
            have R29 := Lib.hid (row_keep R28.out fun c hc => A9.out.block c (R28.out.lt c hc).2)
            have B9 := Lib.hid (B8.out.trans (A9.out.mono (by have := HY8.out; omega)))
            have Y9 := Lib.hid (show y + 1 ≤ w9.heap.size by have := X9.out.lt; omega)
            clear hw9 hn8
            obtain ⟨ti, i1, i2, i3, i4⟩ := info_parts info_msg17
            obtain ⟨v', w10, hrun, hown, hgr, _, hloc⟩ := run_append_own_at (P := Try.prog) (w := w9) (y + 1) 27 27 42 ti _ 21 272 und_msgs17 i1 i2 i3 i4 rfl (by decide) _ L1.length (cellsG encMv L1) R19.out ⟨n8, 0, none⟩ 1 1 [m 0, m 1, m 2, m 3, m 4, m 5, m 6, m 7, m 8, m 9, m 10, m 11, m 12, m 13, m 14, m 15, m 16, m 17, m 18, m 19, m 20] rfl (fun j u hj => by
              have hj21 : j < 21 := (List.getElem?_eq_some_iff.1 hj).1
              rw [Addr.add_lit, Nat.zero_add, L9.out.get j hj21]
              have h21 : [m 0, m 1, m 2, m 3, m 4, m 5, m 6, m 7, m 8, m 9, m 10, m 11, m 12, m 13, m 14, m 15, m 16, m 17, m 18, m 19, m 20] = encMv (b, m) := rfl
              rw [h21, encMv_at (b, m) hj21] at hj
              exact hj) (fun u hu => by
              have hu : u ∈ cellsG encMv [(b, m)] := by unfold cellsG; simpa [encMv, row21_] using hu
              exact cellsMv_one (fun x hx i hi => by rw [List.mem_singleton.1 hx]; exact HM1.out i hi) u hu) (by have := HLL.out; unfold maxLen; omega) (by have := HLL.out; omega) Y9.out
            obtain ⟨ua, uc, rfl⟩ : ∃ ua uc, v' = .slice ua (L1.length + 1) uc := by
              rcases hown.2 with ⟨_, h0⟩ | ⟨q, cp, cur, rfl, _⟩
              · omega
              · exact ⟨_, _, rfl⟩
            have HG10 := Lib.hid hgr
            have HLOC := Lib.hid (show ∀ c, (Value.slice ua (L1.length + 1) uc).ownBlock = some c → (Value.slice x1 L1.length y1).ownBlock = some c ∨ c = w9.heap.size from fun c hc => by
              rcases hloc with h | h
              · exact Or.inl (h ▸ hc)
              · rw [h] at hc; injection hc with hc; exact Or.inr hc.symm)
            have HOW := Lib.hid (show w10.ownsRow (y + 1) 42 21 (.slice ua (L1.length + 1) uc) (L1 ++ [(b, m)]).length (cellsG encMv (L1 ++ [(b, m)])) by
              rw [cellsG_snoc, List.length_append]; exact hown)
            have X10 := Lib.hid (X9.out.of_heap (hgr.block y X9.out.lt (fun e => by have := (R19.out.lt y e.symm).1; omega)))
            have RO10 := Lib.hid (row_keep R29.out fun c hc => hgr.block c (R29.out.lt c hc).2 fun e => HNB.out c e.symm hc)
            have B10 := Lib.hid (B9.out.grown hgr (by have := Y9.out; omega) (fun c hc => by have := (R19.out.lt c hc).1; omega))
            refine pe_value (w' := w10) _ (.slice ua (L1.length + 1) uc) rfl rfl (JJ.run_op_append _ _ _ rfl _ _ rfl rfl hrun) ⟨X10.out, HAM.out _ B10.out⟩ ?_
            clear hrun hown hgr hloc i1 i2 i3 i4
            simp only [Act.put, List.setIfInBounds_toArray, List.set_cons_zero, List.set_cons_succ, List.getElem_toArray, List.getElem_cons_zero, List.getElem_cons_succ]
            iterate 1 (refine pe_run _ ?_ rfl rfl ?_ ?_; rotate_left; (focus (intro w' hS; go_simp; exact rfl)); simp only [Act.put, List.setIfInBounds_toArray, List.set_cons_zero, List.set_cons_succ, List.getElem_toArray, List.getElem_cons_zero, List.getElem_cons_succ])
            refine pe_last _ rfl ?_
            simp only [List.getElem_toArray, List.getElem_cons_zero, List.getElem_cons_succ]
            obtain ⟨q0, q1, q2⟩ := cells3 X10.out
            have f1 := X10.out.frz 0
            go_wp2_with fail
            clear q0 q1 q2 f1
            have U11 := Lib.hid (Upd.set w10 y 0 (.slice ua (L1.length + 1) uc))
            have X11 := Lib.hid (show Blk (w10.setCell ⟨y, 0, none⟩ (.slice ua (L1.length + 1) uc)) y 3 (rowL [.slice ua (L1.length + 1) uc, .slice x2 L2.length y2, .int .i64 D]) from (X10.out.set 0 _).congr _ fun j hj => by
              match j, hj with
              | 0, _ => rfl
              | 1, _ => rfl
              | 2, _ => rfl)
            have HOWX := Lib.hid (show (w10.setCell ⟨y, 0, none⟩ (.slice ua (L1.length + 1) uc)).ownsRow (y + 1) 42 21 (.slice ua (L1 ++ [(b, m)]).length uc) (L1 ++ [(b, m)]).length (cellsG encMv (L1 ++ [(b, m)])) by
              have h := row_keep HOW.out fun c hc => U11.out.block c (by have := (HOW.out.lt c hc).1; omega)
              have hl : (L1 ++ [(b, m)]).length = L1.length + 1 := by simp
              rw [hl] at h ⊢; exact h)
            go_roundw
            case rel =>
              refine ⟨k + 1, L1 ++ [(b, m)], L2, ua, uc, x2, y2, HLT.out, by go_num, B10.out.trans (U11.out.below (Nat.le_refl _)), ?_, HOWX.out, (row_keep RO10.out fun c hc => U11.out.block c (by have := (RO10.out.lt c hc).1; omega)), fun c hc hc2 => ?_, by rw [HL1.out, keepP_yes mv0 (F ++ S) HNE.out HKF.out, HM0.out], by rw [HL2.out, keepS_no mv0 (F ++ S) (fun h => h.2 HKF.out)]⟩
              · rw [List.length_append]; exact X11.out
              · have hc : (Value.slice ua (L1.length + 1) uc).ownBlock = some c := by rw [show (L1 ++ [(b, m)]).length = L1.length + 1 by simp] at hc; exact hc
                rcases HLOC.out c hc with h | h
                · exact HNB.out c h hc2
                · subst h; exact absurd (R29.out.lt _ hc2).2 (Nat.lt_irrefl _)
            case measure => have := HLT.out; simp [intOf]; omega
          · have hkf' : ¬ (k : Int) < (F.length : Int) := by omega
            have HKF := Lib.hid hkf
            clear hkf
            go_upto_region 13 with fail
            clear q0 q1 q2 e1
            have HC12 := Lib.hid (show ∀ wx, (Blk wx y 3 (rowL [.slice x1 L1.length y1, .slice x2 L2.length y2, .int .i64 D]) ∧ ∀ j, j < 21 → wx.cell? ⟨ab, ao + k * 21 + j, none⟩ = some (m j)) → (wx.cell? ⟨y, 0, none⟩ = some (.slice x1 L1.length y1) ∧ wx.cell? ⟨y, 1, none⟩ = some (.slice x2 L2.length y2) ∧ wx.cell? ⟨y, 2, none⟩ = some (.int .i64 D)) from fun wx h => cells3 h.1)
            refine planE_abs (fun wx => Blk wx y 3 (rowL [.slice x1 L1.length y1, .slice x2 L2.length y2, .int .i64 D]) ∧ ∀ j, j < 21 → wx.cell? ⟨ab, ao + k * 21 + j, none⟩ = some (m j)) 9 [(true, 0), (true, 1), (true, 2), (true, 3), (true, 4), (true, 5), (false, 6), (false, 7), (true, 8), (false, 9)] (by kernel_rfl) (by kernel_rfl) (fun _ _ d _ _ h => by cases d <;> exact h) fun w8 hs8 => ⟨⟨HX.out.same hs8, fun j hj => (hs8.cell _).trans (HAM.out _ HBY.out j hj)⟩, ?_⟩
            have HX8 := Lib.hid (HX.out.same hs8)
            have B8 := Lib.hid (HBY.out.trans (hs8.below y))
            have R18 := Lib.hid (row_keep HR1.out fun c hc => (hs8.below wr.heap.size).block c (HR1.out.lt c hc).2)
            have R28 := Lib.hid (row_keep HR2.out fun c hc => (hs8.below wr.heap.size).block c (HR2.out.lt c hc).2)
            have HY8 := Lib.hid (HX8.out.lt)
            clear hs8
            iterate 5 (refine pe_run _ ?_ rfl rfl ?_ ?_; rotate_left; (focus (intro w' hS; obtain ⟨q0, q1, q2⟩ := HC12.out w' hS; go_simp; exact rfl)); simp only [Act.put, List.setIfInBounds_toArray, List.set_cons_zero, List.set_cons_succ, List.getElem_toArray, List.getElem_cons_zero, List.getElem_cons_succ])
            refine pe_run _ (.agg #[m 0, m 1, m 2, m 3, m 4, m 5, m 6, m 7, m 8, m 9, m 10, m 11, m 12, m 13, m 14, m 15, m 16, m 17, m 18, m 19, m 20]) rfl rfl (fun w' hS => run_op_load_at (ad := .tmp 60) (b := ab) (off := ao + k * 21) (m := 21) (f := m) rfl (by rfl) (agg_msg _) (size_msg _) hS.2) ?_
            simp only [Act.put, List.setIfInBounds_toArray, List.set_cons_zero, List.set_cons_succ, List.getElem_toArray, List.getElem_cons_zero, List.getElem_cons_succ]
            have A9 := Lib.hid ((Below.refl w8.heap.size w8).alloc (Nat.le_refl _) (.cells #[m 0, m 1, m 2, m 3, m 4, m 5, m 6, m 7, m 8, m 9, m 10, m 11, m 12, m 13, m 14, m 15, m 16, m 17, m 18, m 19, m 20] 42))
            have L9 := Lib.hid (show Blk (w8.alloc (.cells #[m 0, m 1, m 2, m 3, m 4, m 5, m 6, m 7, m 8, m 9, m 10, m 11, m 12, m 13, m 14, m 15, m 16, m 17, m 18, m 19, m 20] 42)) w8.heap.size 21 m from Blk.new' rfl (row21_ m).symm)
            have X9 := Lib.hid (HX8.out.below A9.out HY8.out)
            refine pe_value (w' := w8.alloc (.cells #[m 0, m 1, m 2, m 3, m 4, m 5, m 6, m 7, m 8, m 9, m 10, m 11, m 12, m 13, m 14, m 15, m 16, m 17, m 18, m 19, m 20] 42)) _ (.slice (some ⟨w8.heap.size, 0, none⟩) 1 1) rfl rfl (by go_simp) ⟨X9.out, HAM.out _ (B8.out.trans (A9.out.mono (by have := HY8.out; omega)))⟩ ?_
            simp only [Act.put, List.setIfInBounds_toArray, List.set_cons_zero, List.set_cons_succ, List.getElem_toArray, List.getElem_cons_zero, List.getElem_cons_succ]
            obtain ⟨n8, hn8⟩ : ∃ n8, w8.heap.size = n8 := ⟨_, rfl⟩
            obtain ⟨w9, hw9⟩ : ∃ w9, w8.alloc (.cells #[m 0, m 1, m 2, m 3, m 4, m 5, m 6, m 7, m 8, m 9, m 10, m 11, m 12, m 13, m 14, m 15, m 16, m 17, m 18, m 19, m 20] 42) = w9 := ⟨_, rfl⟩
            rw [hw9] at A9 L9 X9 ⊢
            rw [hn8] at L9 ⊢
            have R19 := Lib.hid (row_keep R18.out fun c hc => A9.out.block c (R18.out.lt c hc).2)
            have R29 := Lib.hid (row_keep R28.out fun c hc => A9.out.block c (R28.out.lt c hc).2)
            have B9 := Lib.hid (B8.out.trans (A9.out.mono (by have := HY8.out; omega)))
            have Y9 := Lib.hid (show y + 1 ≤ w9.heap.size by have := X9.out.lt; omega)
            clear hw9 hn8
            obtain ⟨ti, i1, i2, i3, i4⟩ := info_parts info_msg17
            obtain ⟨v', w10, hrun, hown, hgr, _, hloc⟩ := run_append_own_at (P := Try.prog) (w := w9) (y + 1) 27 27 42 ti _ 21 272 und_msgs17 i1 i2 i3 i4 rfl (by decide) _ L2.length (cellsG encMv L2) R29.out ⟨n8, 0, none⟩ 1 1 [m 0, m 1, m 2, m 3, m 4, m 5, m 6, m 7, m 8, m 9, m 10, m 11, m 12, m 13, m 14, m 15, m 16, m 17, m 18, m 19, m 20] rfl (fun j u hj => by
              have hj21 : j < 21 := (List.getElem?_eq_some_iff.1 hj).1
              rw [Addr.add_lit, Nat.zero_add, L9.out.get j hj21]
              have h21 : [m 0, m 1, m 2, m 3, m 4, m 5, m 6, m 7, m 8, m 9, m 10, m 11, m 12, m 13, m 14, m 15, m 16, m 17, m 18, m 19, m 20] = encMv (b, m) := rfl
              rw [h21, encMv_at (b, m) hj21] at hj
              exact hj) (fun u hu => by
              have hu : u ∈ cellsG encMv [(b, m)] := by unfold cellsG; simpa [encMv, row21_] using hu
              exact cellsMv_one (fun x hx i hi => by rw [List.mem_singleton.1 hx]; exact HM1.out i hi) u hu) (by have := HLL.out; unfold maxLen; omega) (by have := HLL.out; omega) Y9.out
            obtain ⟨ua, uc, rfl⟩ : ∃ ua uc, v' = .slice ua (L2.length + 1) uc := by
              rcases hown.2 with ⟨_, h0⟩ | ⟨q, cp, cur, rfl, _⟩
              · omega
              · exact ⟨_, _, rfl⟩
            have HG10 := Lib.hid hgr
            have HLOC := Lib.hid (show ∀ c, (Value.slice ua (L2.length + 1) uc).ownBlock = some c → (Value.slice x2 L2.length y2).ownBlock = some c ∨ c = w9.heap.size from fun c hc => by
              rcases hloc with h | h
              · exact Or.inl (h ▸ hc)
              · rw [h] at hc; injection hc with hc; exact Or.inr hc.symm)
            have HOW := Lib.hid (show w10.ownsRow (y + 1) 42 21 (.slice ua (L2.length + 1) uc) (L2 ++ [(b, m)]).length (cellsG encMv (L2 ++ [(b, m)])) by
              rw [cellsG_snoc, List.length_append]; exact hown)
            have X10 := Lib.hid (X9.out.of_heap (hgr.block y X9.out.lt (fun e => by have := (R29.out.lt y e.symm).1; omega)))
            have RO10 := Lib.hid (row_keep R19.out fun c hc => hgr.block c (R19.out.lt c hc).2 fun e => HNB.out c hc e.symm)
            have B10 := Lib.hid (B9.out.grown hgr (by have := Y9.out; omega) (fun c hc => by have := (R29.out.lt c hc).1; omega))
            refine pe_value (w' := w10) _ (.slice ua (L2.length + 1) uc) rfl rfl (JJ.run_op_append _ _ _ rfl _ _ rfl rfl hrun) ⟨X10.out, HAM.out _ B10.out⟩ ?_
            clear hrun hown hgr hloc i1 i2 i3 i4
            simp only [Act.put, List.setIfInBounds_toArray, List.set_cons_zero, List.set_cons_succ, List.getElem_toArray, List.getElem_cons_zero, List.getElem_cons_succ]
            iterate 1 (refine pe_run _ ?_ rfl rfl ?_ ?_; rotate_left; (focus (intro w' hS; go_simp; exact rfl)); simp only [Act.put, List.setIfInBounds_toArray, List.set_cons_zero, List.set_cons_succ, List.getElem_toArray, List.getElem_cons_zero, List.getElem_cons_succ])
            refine pe_last _ rfl ?_
            simp only [List.getElem_toArray, List.getElem_cons_zero, List.getElem_cons_succ]
            obtain ⟨q0, q1, q2⟩ := cells3 X10.out
            have f1 := X10.out.frz 1
            go_wp2_with fail
            clear q0 q1 q2 f1
            have U11 := Lib.hid (Upd.set w10 y 1 (.slice ua (L2.length + 1) uc))
            have X11 := Lib.hid (show Blk (w10.setCell ⟨y, 1, none⟩ (.slice ua (L2.length + 1) uc)) y 3 (rowL [.slice x1 L1.length y1, .slice ua (L2.length + 1) uc, .int .i64 D]) from (X10.out.set 1 _).congr _ fun j hj => by
              match j, hj with
              | 0, _ => rfl
              | 1, _ => rfl
              | 2, _ => rfl)
            have HOWX := Lib.hid (show (w10.setCell ⟨y, 1, none⟩ (.slice ua (L2.length + 1) uc)).ownsRow (y + 1) 42 21 (.slice ua (L2 ++ [(b, m)]).length uc) (L2 ++ [(b, m)]).length (cellsG encMv (L2 ++ [(b, m)])) by
              have h := row_keep HOW.out fun c hc => U11.out.block c (by have := (HOW.out.lt c hc).1; omega)
              have hl : (L2 ++ [(b, m)]).length = L2.length + 1 := by simp
              rw [hl] at h ⊢; exact h)
            go_roundw
            case rel =>
              refine ⟨k + 1, L1, L2 ++ [(b, m)], x1, y1, ua, uc, HLT.out, by go_num, B10.out.trans (U11.out.below (Nat.le_refl _)), ?_, (row_keep RO10.out fun c hc => U11.out.block c (by have := (RO10.out.lt c hc).1; omega)), HOWX.out, fun c hc hc2 => ?_, by rw [HL1.out, keepP_no mv0 (F ++ S) (fun h => HKF.out h.2)], by rw [HL2.out, keepS_yes mv0 (F ++ S) HNE.out HKF.out, HM0.out]⟩
              · rw [List.length_append]; exact X11.out
              · have hc2 : (Value.slice ua (L2.length + 1) uc).ownBlock = some c := by rw [show (L2 ++ [(b, m)]).length = L2.length + 1 by simp] at hc2; exact hc2
                rcases HLOC.out c hc2 with h | h
                · exact HNB.out c hc h
                · subst h; exact absurd (R19.out.lt _ hc).2 (Nat.lt_irrefl _)
            case measure => have := HLT.out; simp [intOf]; omega
      · obtain rfl : k = n := by have := HKN.out; omega
        have hlt' : ¬ (k : Int) < (k : Int) := by omega
        clear hlt
        have ix0 : (0 : Int) ≤ (ix : Int) := by omega
        have ixn : (ix : Int) < (k : Int) := by have := HIXN.out; omega
        obtain ⟨⟨b, m⟩, hbm⟩ : ∃ x, (F ++ S).getD ix mv0 = x := ⟨_, rfl⟩
        have HM0 := Lib.hid hbm
        have HAM := Lib.hid (show ∀ wx, Below y w3 wx → ∀ j, j < 21 → wx.cell? ⟨ab, ao + ix * 21 + j, none⟩ = some (m j) from fun wx hb j hj => by have h := HCA.out ix HIXN.out wx hb j hj; rw [hbm] at h; exact h)
        have HM1 := Lib.hid (show ∀ j, j < 21 → (m j).oneCell' = true from fun j hj => by have h := HONE.out ix HIXN.out j hj; rw [hbm] at h; exact h)
        clear hbm
        go_upto_region 14 with fail
        refine plan_abs (fun wx => Blk wx y 3 (rowL [.slice x1 L1.length y1, .slice x2 L2.length y2, .int .i64 D]) ∧ ∀ j, j < 21 → wx.cell? ⟨ab, ao + ix * 21 + j, none⟩ = some (m j)) [(true, 0), (true, 1), (true, 2), (true, 3), (true, 4), (false, 5), (false, 6), (true, 7)] (by kernel_rfl) (by kernel_rfl) (fun _ _ d _ _ h => by cases d <;> exact h) fun w8 hs8 => ⟨⟨HX.out.same hs8, fun j hj => (hs8.cell _).trans (HAM.out _ HBY.out j hj)⟩, ?_⟩
        have X8 := Lib.hid (HX.out.same hs8)
        have B8 := Lib.hid (HBY.out.trans (hs8.below y))
        have R18 := Lib.hid (row_keep HR1.out fun c hc => (hs8.below wr.heap.size).block c (HR1.out.lt c hc).2)
        have R28 := Lib.hid (row_keep HR2.out fun c hc => (hs8.below wr.heap.size).block c (HR2.out.lt c hc).2)
        clear hs8
        iterate 4 (refine pl_run _ ?_ rfl rfl ?_ ?_; rotate_left; (focus (intro w' hS; obtain ⟨q0, q1, q2⟩ := cells3 hS.1; go_simp; exact rfl)); simp only [Act.put, List.setIfInBounds_toArray, List.set_cons_zero, List.set_cons_succ, List.getElem_toArray, List.getElem_cons_zero, List.getElem_cons_succ])
        refine pl_run _ (.agg (row 21 m)) rfl rfl (fun w' hS => run_op_load_at (ad := .tmp 68) (b := ab) (off := ao + ix * 21) (m := 21) (f := m) rfl (by rfl) (agg_msg _) (size_msg _) hS.2) ?_
        simp only [Act.put, List.setIfInBounds_toArray, List.set_cons_zero, List.set_cons_succ, List.getElem_toArray, List.getElem_cons_zero, List.getElem_cons_succ]
        refine pl_storeQ (ad := .tmp 4) (x := .tmp 65) (b := g + 1) (m := 3) (g := rowL [.slice x1 L1.length y1, .slice x2 L2.length y2, .int .i64 D]) _ rfl rfl rfl (by rfl) (by rfl) (size_q17 _) (X3.out.b.below B8.out (by have := HGY.out; omega)) (fun i hi => by
          match i, hi with
          | 0, _ => rfl
          | 1, _ => rfl
          | 2, _ => rfl) fun w9 Z9 U9 => ?_
        have B9 := Lib.hid Z9
        have V9 := Lib.hid U9
        have X9 := Lib.hid (X8.out.upd U9 (by have := HGY.out; omega))
        have R19 := Lib.hid (row_keep R18.out fun c hc => U9.block c (by have := (R18.out.lt c hc).1; have := HGY.out; omega))
        have R29 := Lib.hid (row_keep R28.out fun c hc => U9.block c (by have := (R28.out.lt c hc).1; have := HGY.out; omega))
        refine ⟨⟨X9.out, fun j hj => ?_⟩, ?_⟩
        · exact (World.cell?_of_block (w := w8) (a := ⟨ab, ao + ix * 21 + j, none⟩) (U9.block ab (by have := HAB.out; omega))).trans (HAM.out _ B8.out j hj)
        clear Z9 U9
        simp only [Act.put, List.getElem_toArray, List.getElem_cons_zero, List.getElem_cons_succ]
        have C9 := Lib.hid (((X3.out.c.below B8.out (by have := HGY.out; omega)) : Blk w8 (g + 1 + 1) 21 zM).upd V9.out (by omega))
        refine pl_storeQ (ad := .tmp 5) (x := .tmp 69) (b := g + 1 + 1) (m := 21) (g := m) _ rfl rfl rfl (by rfl) (by rfl) (size_msg _) C9.out HM1.out fun w10 Z10 U10 => ?_
        have C10 := Lib.hid Z10
        have V10 := Lib.hid U10
        have X10 := Lib.hid (X9.out.upd U10 (by have := HGY.out; omega))
        have BB10 := Lib.hid (B9.out.upd U10 (by omega))
        have R110 := Lib.hid (row_keep R19.out fun c hc => U10.block c (by have := (R19.out.lt c hc).1; have := HGY.out; omega))
        have R210 := Lib.hid (row_keep R29.out fun c hc => U10.block c (by have := (R29.out.lt c hc).1; have := HGY.out; omega))
        refine ⟨⟨X10.out, fun j hj => ?_⟩, ?_⟩
        · exact ((World.cell?_of_block (w := w9) (a := ⟨ab, ao + ix * 21 + j, none⟩) (U10.block ab (by have := HAB.out; omega))).trans (World.cell?_of_block (w := w8) (a := ⟨ab, ao + ix * 21 + j, none⟩) (V9.out.block ab (by have := HAB.out; omega)))).trans (HAM.out _ B8.out j hj)
        clear Z10 U10
        simp only [Act.put, List.getElem_toArray, List.getElem_cons_zero, List.getElem_cons_succ]
        iterate 1 (refine pl_run _ ?_ rfl rfl ?_ ?_; rotate_left; (focus (intro w' hS; go_simp; exact rfl)); simp only [Act.put, List.setIfInBounds_toArray, List.set_cons_zero, List.set_cons_succ, List.getElem_toArray, List.getElem_cons_zero, List.getElem_cons_succ])
        refine pl_end ?_
        go_wp2_with fail
        have BF : Below w.heap.size w w10 := X3.out.below.trans (((B8.out.mono (by have := HYE.out; have := X3.out.below.size; omega)).trans (V9.out.below (by have := HG.out; omega))).trans (V10.out.below (by have := HG.out; omega)))
        refine bodyPost_ret (v := .tuple #[.agg (row 3 (rowL [.slice x1 L1.length y1, .slice x2 L2.length y2, .int .i64 D])), .agg (row 21 m), .bool true]) (results_row23 (b := g + 1) (N := 3) (m := 3) (b2 := g + 1 + 1) (N2 := 21) (m2 := 21) Try.results13 (by simp) (by simp) (by simp) (agg_q17 _) (size_q17 _) BB10.out.cells (Nat.le_refl _) (agg_msg _) (size_msg _) C10.out.cells (Nat.le_refl _)) rfl ?_
        have hyw : w.heap.size ≤ y + 1 := by have := HG.out; have := HGY.out; omega
        refine ⟨_, _, L1, L2, m, true, rfl, ?_, fun x hx => ?_, (grow_of_own encMv_len mv0 R110.out).more fun c hc => Or.inr (Nat.le_trans hyw hc), (grow_of_own encMv_len mv0 R210.out).more fun c hc => Or.inr (Nat.le_trans hyw hc), BF, .inr ⟨rfl, ?_, ?_⟩⟩
        · rw [pop_keep, HIXE.out, HN.out, ← HL1.out, ← HL2.out]
        · rcases List.mem_append.1 hx with h | h
          · rw [HL1.out] at h; exact mem_keepP (by rw [HNL.out]; exact Nat.le_refl _) h
          · rw [HL2.out] at h; exact mem_keepS (by rw [HNL.out]; exact Nat.le_refl _) h
        · intro h; have h1 := HNL.out; rw [h] at h1; have := HN0.out; simp at h1; omega
        · rw [HIXE.out, HM0.out]
end Go.Proofs.Ytphlpgdbngbplaa
end
section
open Go Go.RowKit
namespace Go.Proofs.Ytphlpgdbngbplaa
open QU RR FF WW BB
/-- behind calls of a law that began in w0: both queues are ⟨F, S, D⟩ by their bytes; the messages lie where they lay at first -/
def TwQ (C : Code17) (w0 : World) (y g : Nat) (F S : List Mv) (D : Int) (v1 v2 : Value) (w : World) : Prop :=
  ∃ O, C.At O w g ⟨F.map Prod.fst, S.map Prod.fst, D⟩ ∧ (∀ b, O b → w0.heap.size ≤ b ∧ b ≠ y) ∧ Below w0.heap.size w0 w ∧ Blk w y 3 (rowL [v1, v2, .int .i64 D]) ∧ w0.heap.size ≤ y ∧
    GRow 21 encMv mv0 (fun c => ¬ O c ∧ c ≠ y) w v1 F ∧ GRow 21 encMv mv0 (fun c => ¬ O c ∧ c ≠ y) w v2 S
theorem TwQ.below {C : Code17} {w0 w : World} {y g : Nat} {F S : List Mv} {D : Int} {v1 v2 : Value} (h : TwQ C w0 y g F S D v1 v2 w) : Below w0.heap.size w0 w := by obtain ⟨_, _, _, h, _⟩ := h; exact h
theorem TwQ.box {C : Code17} {w0 w : World} {y g : Nat} {F S : List Mv} {D : Int} {v1 v2 : Value} (h : TwQ C w0 y g F S D v1 v2 w) : Blk w y 3 (rowL [v1, v2, .int .i64 D]) := by obtain ⟨_, _, _, _, h, _⟩ := h; exact h
theorem TwQ.qx {C : Code17} {w0 w : World} {y g : Nat} {F S : List Mv} {D : Int} {v1 v2 : Value} (h : TwQ C w0 y g F S D v1 v2 w) : QuX C w0 g ⟨F.map Prod.fst, S.map Prod.fst, D⟩ w := by
  obtain ⟨O, h1, h2, h3, _⟩ := h; exact ⟨O, h1, fun b hb => (h2 b hb).1, h3⟩
theorem TwQ.on {C : Code17} {w0 w w' : World} {y g : Nat} {F S : List Mv} {D : Int} {v1 v2 : Value} (h : TwQ C w0 y g F S D v1 v2 w) (hb : Below w.heap.size w w') : TwQ C w0 y g F S D v1 v2 w' := by
  obtain ⟨O, h1, h2, h3, h4, h5, h6, h7⟩ := h
  exact ⟨O, C.keep h1 (Keeps.of hb), h2, h3.trans (hb.mono h3.size), h4.below hb h4.lt, h5, h6.later hb, h7.later hb⟩
/-- the rows behind a change of what is held -/
theorem grow_swap {A A' : Nat → Prop} {w w' : World} {v : Value} {L : List Mv} (h : GRow 21 encMv mv0 A w v L) (hk : Keeps A w w') (hA : ∀ b, b < w.heap.size → A b → A' b) : GRow 21 encMv mv0 A' w' v L := by
  obtain ⟨a0, cap, rfl, h | ⟨b, off, rfl, ha, hl, hc⟩⟩ := h
  · exact ⟨a0, cap, rfl, .inl h⟩
  · exact ⟨_, cap, rfl, .inr ⟨b, off, rfl, hA b hl ha, Nat.lt_of_lt_of_le hl hk.b0.size, fun i hi j u hu => (World.cell?_of_block (w := w) (a := ⟨b, off + i * 21 + j, none⟩) (hk.block b ha hl)).trans (hc i hi j u hu)⟩⟩
/-- what a call on the code's queue leaves of the reference's: the state in which both differ for a moment -/
def TwD (C : Code17) (w0 : World) (y g : Nat) (q : Qu) (F S : List Mv) (D : Int) (v1 v2 : Value) (w : World) : Prop :=
  ∃ O, C.At O w g q ∧ (∀ b, O b → w0.heap.size ≤ b ∧ b ≠ y) ∧ Below w0.heap.size w0 w ∧ Blk w y 3 (rowL [v1, v2, .int .i64 D]) ∧ w0.heap.size ≤ y ∧
    GRow 21 encMv mv0 (fun c => ¬ O c ∧ c ≠ y) w v1 F ∧ GRow 21 encMv mv0 (fun c => ¬ O c ∧ c ≠ y) w v2 S
theorem TwQ.diff {C : Code17} {w0 w : World} {y g : Nat} {F S : List Mv} {D : Int} {v1 v2 : Value} (h : TwQ C w0 y g F S D v1 v2 w) : TwD C w0 y g ⟨F.map Prod.fst, S.map Prod.fst, D⟩ F S D v1 v2 w := h
theorem TwD.meet {C : Code17} {w0 w : World} {y g : Nat} {q : Qu} {F S : List Mv} {D : Int} {v1 v2 : Value} (h : TwD C w0 y g q F S D v1 v2 w) (e : q = ⟨F.map Prod.fst, S.map Prod.fst, D⟩) : TwQ C w0 y g F S D v1 v2 w := by subst e; exact h
theorem TwD.below {C : Code17} {w0 w : World} {y g : Nat} {q : Qu} {F S : List Mv} {D : Int} {v1 v2 : Value} (h : TwD C w0 y g q F S D v1 v2 w) : Below w0.heap.size w0 w := by obtain ⟨_, _, _, h, _⟩ := h; exact h
theorem TwD.box {C : Code17} {w0 w : World} {y g : Nat} {q : Qu} {F S : List Mv} {D : Int} {v1 v2 : Value} (h : TwD C w0 y g q F S D v1 v2 w) : Blk w y 3 (rowL [v1, v2, .int .i64 D]) := by obtain ⟨_, _, _, _, h, _⟩ := h; exact h
theorem TwD.on {C : Code17} {w0 w w' : World} {y g : Nat} {q : Qu} {F S : List Mv} {D : Int} {v1 v2 : Value} (h : TwD C w0 y g q F S D v1 v2 w) (hb : Below w.heap.size w w') : TwD C w0 y g q F S D v1 v2 w' := by
  obtain ⟨O, h1, h2, h3, h4, h5, h6, h7⟩ := h
  exact ⟨O, C.keep h1 (Keeps.of hb), h2, h3.trans (hb.mono h3.size), h4.below hb h4.lt, h5, h6.later hb, h7.later hb⟩
/-- a call on the code's queue -/
theorem TwD.next {C : Code17} {w0 w w' : World} {y g : Nat} {F S : List Mv} {D : Int} {v1 v2 : Value} {q' : Qu} {O : Nat → Prop} (h2 : ∀ b, O b → w0.heap.size ≤ b ∧ b ≠ y) (h3 : Below w0.heap.size w0 w) (h4 : Blk w y 3 (rowL [v1, v2, .int .i64 D])) (h5 : w0.heap.size ≤ y)
    (h6 : GRow 21 encMv mv0 (fun c => ¬ O c ∧ c ≠ y) w v1 F) (h7 : GRow 21 encMv mv0 (fun c => ¬ O c ∧ c ≠ y) w v2 S) (hn : Next17 C.At O w g q' w') : TwD C w0 y g q' F S D v1 v2 w' := by
  obtain ⟨O', k1, k2, k3⟩ := hn
  have hk : Keeps (fun c => ¬ O c ∧ c ≠ y) w w' := k2.sub fun b hb _ => hb.1
  have hA : ∀ b, b < w.heap.size → (¬ O b ∧ b ≠ y) → ¬ O' b ∧ b ≠ y := fun b hb h => ⟨fun ho => (k3 b ho).elim h.1 fun h' => by omega, h.2⟩
  refine ⟨O', k1, fun b hb => ?_, h3.trans (low17 k2 (fun b hb hO => by have := (h2 b hO).1; omega) h3.size), h4.of_heap (k2.block y (fun hO => (h2 y hO).2 rfl) h4.lt), h5, grow_swap h6 hk hA, grow_swap h7 hk hA⟩
  rcases k3 b hb with h | h
  · exact h2 b h
  · exact ⟨Nat.le_trans h3.size h, fun e => by have := h4.lt; omega⟩
theorem twd_push (C : Code17) {w0 w : World} {y g : Nat} {F S : List Mv} {D : Int} {v1 v2 : Value} {t q : Qu} {n : Int} (b : ByteArray) (hq : pushQ t b = (q, n)) (h : TwD C w0 y g t F S D v1 v2 w) (hi : InvQ t) (hd : t.dropped ≤ 1000000) (hb : b.size ≤ 1000000) :
    Calls Try.prog 11 #[.pointer (some ⟨g, 0, none⟩), .string b] w fun e w' => e = .returned (.int .i64 n) ∧ TwD C w0 y g q F S D v1 v2 w' := by
  obtain ⟨O, h1, h2, h3, h4, h5, h6, h7⟩ := h
  have := C.push O w g t b h1 hi hd hb
  rw [hq] at this
  exact this.mono fun _ _ ⟨he, hn⟩ => ⟨he, TwD.next h2 h3 h4 h5 h6 h7 hn⟩
theorem twd_pop (C : Code17) {w0 w : World} {y g : Nat} {F S : List Mv} {D : Int} {v1 v2 : Value} {t : Qu} (i : Int) (h : TwD C w0 y g t F S D v1 v2 w) (hi : InvQ t) (hr : -9223372036854775808 ≤ i ∧ i ≤ 9223372036854775807) :
    Calls Try.prog 14 #[.pointer (some ⟨g, 0, none⟩), .int .i64 i] w fun e w' => ∃ f B, e = .returned (.tuple #[.agg (row 21 f), .bool B]) ∧ Popped t i f B w' ∧ TwD C w0 y g (popQ t i) F S D v1 v2 w' := by
  obtain ⟨O, h1, h2, h3, h4, h5, h6, h7⟩ := h
  exact (C.pop O w g t i h1 hi hr).mono fun _ _ ⟨f, B, he, hp, hn⟩ => ⟨f, B, he, hp, TwD.next h2 h3 h4 h5 h6 h7 hn⟩
theorem twd_clear (C : Code17) {w0 w : World} {y g : Nat} {F S : List Mv} {D : Int} {v1 v2 : Value} {t : Qu} (h : TwD C w0 y g t F S D v1 v2 w) (hi : InvQ t) :
    Calls Try.prog 15 #[.pointer (some ⟨g, 0, none⟩)] w fun e w' => e = .returned (.tuple #[]) ∧ TwD C w0 y g (clearQ t) F S D v1 v2 w' := by
  obtain ⟨O, h1, h2, h3, h4, h5, h6, h7⟩ := h
  exact (C.clear O w g t h1 hi).mono fun _ _ ⟨he, hn⟩ => ⟨he, TwD.next h2 h3 h4 h5 h6 h7 hn⟩
/-- the box is written, with rows that lay apart or are new -/
theorem twd_put0 {C : Code17} {w0 w w1 w' : World} {y g : Nat} {q : Qu} {F' S' : List Mv} {D D' : Int} {v1 v2 u1 u2 : Value} {O : Nat → Prop} (k1 : C.At O w g q) (k2 : ∀ b, O b → w0.heap.size ≤ b ∧ b ≠ y) (k3 : Below w0.heap.size w0 w) (k4 : Blk w y 3 (rowL [v1, v2, .int .i64 D])) (k5 : w0.heap.size ≤ y)
    (r1 : GRow 21 encMv mv0 (fun c => (¬ O c ∧ c ≠ y) ∨ w.heap.size ≤ c) w1 u1 F') (r2 : GRow 21 encMv mv0 (fun c => (¬ O c ∧ c ≠ y) ∨ w.heap.size ≤ c) w1 u2 S') (hb : Below w.heap.size w w1)
    (hu : Upd y w1 w') (hB : Blk w' y 3 (rowL [u1, u2, .int .i64 D'])) : C.At O w' g q ∧ (∀ b, O b → w0.heap.size ≤ b ∧ b ≠ y) ∧ Below w0.heap.size w0 w' ∧ Blk w' y 3 (rowL [u1, u2, .int .i64 D']) ∧ w0.heap.size ≤ y ∧
    GRow 21 encMv mv0 (fun c => ¬ O c ∧ c ≠ y) w' u1 F' ∧ GRow 21 encMv mv0 (fun c => ¬ O c ∧ c ≠ y) w' u2 S' := by
  have hyw := k4.lt
  have hA : ∀ c, ((¬ O c ∧ c ≠ y) ∨ w.heap.size ≤ c) → ¬ O c ∧ c ≠ y := fun c hc => hc.elim id fun h => ⟨fun ho => by have := C.lt k1 c ho; omega, by omega⟩
  have hk1 := C.keep k1 (Keeps.of hb)
  refine ⟨C.keep hk1 (Keeps.upd hu fun b hb => (k2 b hb).2), k2, k3.trans ((hb.mono k3.size).trans (hu.below k5)), hB, k5, ?_, ?_⟩
  · exact (r1.more hA).keep (A' := fun c => c ≠ y) (Keeps.upd hu fun b hb => hb) fun b hb => hb.2
  · exact (r2.more hA).keep (A' := fun c => c ≠ y) (Keeps.upd hu fun b hb => hb) fun b hb => hb.2
theorem twd_put {C : Code17} {w0 w w1 w' : World} {y g : Nat} {q : Qu} {F' S' : List Mv} {D D' : Int} {v1 v2 u1 u2 : Value} {O : Nat → Prop} (k1 : C.At O w g q) (k2 : ∀ b, O b → w0.heap.size ≤ b ∧ b ≠ y) (k3 : Below w0.heap.size w0 w) (k4 : Blk w y 3 (rowL [v1, v2, .int .i64 D])) (k5 : w0.heap.size ≤ y)
    (r1 : GRow 21 encMv mv0 (fun c => (¬ O c ∧ c ≠ y) ∨ w.heap.size ≤ c) w1 u1 F') (r2 : GRow 21 encMv mv0 (fun c => (¬ O c ∧ c ≠ y) ∨ w.heap.size ≤ c) w1 u2 S') (hb : Below w.heap.size w w1)
    (hu : Upd y w1 w') (hB : Blk w' y 3 (rowL [u1, u2, .int .i64 D'])) : TwD C w0 y g q F' S' D' u1 u2 w' := ⟨O, twd_put0 k1 k2 k3 k4 k5 r1 r2 hb hu hB⟩
end Go.Proofs.Ytphlpgdbngbplaa
end
section
open Go Go.RowKit
namespace Go.Proofs.Ytphlpgdbngbplaa
open FF JJ CC MM WW BB
set_option maxRecDepth 100000 in
set_option maxHeartbeats 8000000 in
theorem sdel_any (O : List ByteArray) (gb cap : Nat) (cur : Array Value) (w : World) (hh : w.heap[gb]? = some (.cells cur 9 (0, 0))) (hcap : O.length ≤ cap) (hmax : cap ≤ maxLen) (hsz : cur.size = cap) (htk : cur.toList.take (O.length) = O.map Value.string) (i : Nat) (hi : i < O.length) (h8 : O.length ≤ 1000) :
    Calls Try.prog 44 #[.slice (some ⟨gb, 0, none⟩) O.length cap, .int .i64 (i : Int), .int .i64 ((i : Int) + 1)] w fun e w' => e = .returned (.slice (some ⟨gb, 0, none⟩) (O.length - 1) cap) ∧ Keep gb w w' ∧
      ∃ cur', w'.heap[gb]? = some (.cells cur' 9 (0, 0)) ∧ cur'.size = cap ∧ cur'.toList.take ((O.length - 1)) = (O.eraseIdx i).map Value.string := by
  have HHH := Lib.hid hh
  have HCAP := Lib.hid hcap
  have HMAX := Lib.hid hmax
  have HSZ := Lib.hid hsz
  have HTK := Lib.hid htk
  have HI := Lib.hid hi
  have H8 := Lib.hid h8
  obtain ⟨n, hn⟩ : ∃ n, O.length = n := ⟨_, rfl⟩
  have HN := Lib.hid hn
  rw [hn] at hcap hi h8 ⊢
  have t1 : ((i : Int) == (i : Int) + 1) = false := by simp; omega
  have l0 : (0 : Int) ≤ (i : Int) := by omega
  have l1 : (i : Int) + 1 ≤ (n : Int) := by omega
  have l2 : (n : Int) ≤ (cap : Int) := by omega
  have l3 : (i : Int) ≤ (n : Int) := by omega
  have l4 : (i : Int) ≤ 1000 := by omega
  have l5 : (i : Int) ≤ (cap : Int) := by omega
  have l6 : (i : Int) + 1 ≤ (cap : Int) := by omega
  have l7 : (0 : Int) ≤ (i : Int) + 1 := by omega
  clear hh hcap hmax hsz htk hi h8 hn
  obtain ⟨ti, i1, i2, i3, i4⟩ := info_parts (show (Try.prog.info? 9).map (fun i => (i.zero, i.size, i.bytes)) = some (some (.string ⟨#[]⟩), 1, 16) by kernel_rfl)
  have ISZ := Lib.hid i3
  have IIN := Lib.hid i1
  obtain ⟨news, hnw⟩ : ∃ news, (O.map Value.string).drop ((i + 1)) = news := ⟨_, rfl⟩
  have HNW := Lib.hid hnw
  obtain ⟨X, hX⟩ : ∃ X, (cur.toList.take (i) ++ news ++ cur.toList.drop (i + news.length)).toArray = X := ⟨_, rfl⟩
  have HX := Lib.hid hX
  have HNL := Lib.hid (show news.length = (n - (i + 1)) by rw [← hnw, List.length_drop, List.length_map, HN.out])
  have HN1 := Lib.hid (show ∀ u ∈ news, u.oneCell' = true from fun u hu => by obtain ⟨x, _, rfl⟩ := List.mem_map.1 (List.mem_of_mem_drop (hnw ▸ hu)); rfl)
  have HXS := Lib.hid (show X.size = cap by
    rw [← hX]
    have h1 := HNL.out
    have h2 := HSZ.out
    have h3 := HCAP.out
    have h4 := HI.out
    have h5 := HN.out
    have h6 : cur.toList.length = cap := by simpa using h2
    simp only [List.size_toArray, List.length_append, List.length_take, List.length_drop, h6, h1]
    omega)
  have HXT := Lib.hid (show X.toList.take ((n - 1)) = (O.eraseIdx i).map Value.string by
    rw [← hX, List.eraseIdx_eq_take_drop_succ, List.map_append, List.map_take, List.map_drop, hnw, ← HTK.out, HN.out]
    have h1 := HNL.out
    have h2 := HSZ.out
    have h3 := HCAP.out
    have h4 := HI.out
    have h5 := HN.out
    have h6 : cur.toList.length = cap := by simpa using h2
    have e1 : (cur.toList.take (i) ++ news).length = (n - 1) := by
      rw [List.length_append, List.length_take, h6, h1]; omega
    rw [← e1, List.take_left', List.take_take, Nat.min_eq_left (by omega)]
    rfl)
  have HNR := Lib.hid (show ∀ j u, news[j]? = some u → w.drew.cell? ((⟨gb, (i + 1), none⟩ : Addr).add j) = some u from fun j u hj => by
    have hlt : j < news.length := (List.getElem?_eq_some_iff.1 hj).1
    have h1 := HNL.out
    have h4 := HI.out
    have h5 := HN.out
    rw [← HNW.out, List.getElem?_drop, ← HTK.out, List.getElem?_take_of_lt (by omega), Array.getElem?_toList] at hj
    have e : (⟨gb, (i + 1), none⟩ : Addr).add j = ⟨gb, (i + 1) + j, none⟩ := by unfold Addr.add; split <;> simp [*]
    rw [e]
    show w.cell? _ = _
    unfold World.cell?; rw [HHH.out]; simpa using hj)
  have HFT := Lib.hid (show i + news.length ≤ cur.size by
    have h1 := HNL.out
    have h2 := HSZ.out
    have h3 := HCAP.out
    have h4 := HI.out
    have h5 := HN.out
    omega)
  have HRM := Lib.hid (show i + (n - (i + 1)) ≤ cap by have := HCAP.out; have := HI.out; have := HN.out; omega)
  have HW1 := Lib.hid (show (w.drew.setRow gb X).heap[gb]? = some (.cells X 9 (0, 0)) from setRow_heap w.drew gb cur X _ _ (show w.drew.heap[gb]? = _ from HHH.out))
  have HK1 := Lib.hid (show Keep gb w (w.drew.setRow gb X) from ⟨by simp [World.setRow], fun k _ hb => by
    show (w.heap.modify gb _)[k]? = _
    rw [Array.getElem?_modify, if_neg (fun h => hb h.symm)], rfl, rfl, rfl⟩)
  have HCL := Lib.hid (fun (ln : Nat) (hln : ln = 1) (ty : TypeId) => run_clearK (P := Try.prog) (w.drew.setRow gb X) 36 9 ty (.string ⟨#[]⟩) (by kernel_rfl) (fun _ => by kernel_rfl) gb ((n - 1)) ln (cap - (n - 1)) 1 (by omega) (by subst hln; simp [Builtin.zeroCells, Value.cells]) (fun u hu => by
      subst hln
      simp only [Builtin.zeroCells, Value.cells, Array.toList_map, List.mem_map] at hu
      obtain ⟨q, hq, rfl⟩ := hu
      have : q < 1 := by simpa using hq
      match q, this with
      | 0, _ => rfl)
    (fun j hj => by
      have h1 := HXS.out
      have h2 := HCAP.out
      have h3 := HI.out
      have h4 := HN.out
      unfold World.cell?
      rw [HW1.out]
      simp [Array.getElem?_eq_getElem (show (n - 1) + j < X.size by omega)])
    (fun j hj => by unfold World.frozen?; rw [HW1.out]; simp))
  have HAP1 := Lib.hid (fun (hc : i + 1 = cap) (ty : TypeId) => show (Builtin.append_ #[36, 36] ty #[.slice (some ⟨gb, 0, none⟩) i cap, .slice (some ⟨gb, 0, none⟩) (n - (i + 1)) 0]).run Try.prog w.drew = .ok (.slice (some ⟨gb, 0, none⟩) (n - 1) cap) (w.drew.setRow gb X) from by
      have h := run_append_room (P := Try.prog) (w := w.drew) 36 ty 9 ti (by kernel_rfl) IIN.out gb i cap cur (show w.drew.heap[gb]? = _ from HHH.out) ⟨gb, 0, none⟩ (n - (i + 1)) 0 news (by rw [ISZ.out, Nat.mul_one]; exact HNL.out) (fun j u hj => by have h1 := HNL.out; rw [show n - (i + 1) = 0 by have := HCAP.out; have := HN.out; omega] at h1; rw [List.eq_nil_of_length_eq_zero (l := news) (by simpa using h1)] at hj; simp at hj) HN1.out HRM.out (by rw [ISZ.out, Nat.mul_one]; exact HFT.out)
      rw [ISZ.out, Nat.mul_one, HX.out, show i + (n - (i + 1)) = n - 1 by have := HI.out; have := HN.out; omega] at h
      exact h)
  have HAP2 := Lib.hid (fun (ty : TypeId) => show (Builtin.append_ #[36, 36] ty #[.slice (some ⟨gb, 0, none⟩) i cap, .slice (some ⟨gb, (i + 1), none⟩) (n - (i + 1)) (cap - (i + 1))]).run Try.prog w.drew = .ok (.slice (some ⟨gb, 0, none⟩) (n - 1) cap) (w.drew.setRow gb X) from by
      have h := run_append_room (P := Try.prog) (w := w.drew) 36 ty 9 ti (by kernel_rfl) IIN.out gb i cap cur (show w.drew.heap[gb]? = _ from HHH.out) ⟨gb, (i + 1), none⟩ (n - (i + 1)) (cap - (i + 1)) news (by rw [ISZ.out, Nat.mul_one]; exact HNL.out) HNR.out HN1.out HRM.out (by rw [ISZ.out, Nat.mul_one]; exact HFT.out)
      rw [ISZ.out, Nat.mul_one, HX.out, show i + (n - (i + 1)) = n - 1 by have := HI.out; have := HN.out; omega] at h
      exact h)
  go_enter Try.func44, Try.ntmps44
  go_wp2_with fail
  go_still_tail 6, (by kernel_rfl)
  change wpList _ _ _ _ _ w.drew
  go_wp2_with (with_reducible refine hold_app rfl ?_)
  · have hc : cap = i + 1 := by omega
    have HQ := HAP1.out hc.symm
    rw [hc] at HQ
    refine wpl_value rfl (show (execOp _ _).run _ _ = .ok (.value (.slice (some ⟨gb, 0, none⟩) (n - 1) (i + 1))) (w.drew.setRow gb X) from by simp [execOp, resolve, invoke, builtin, Act.eval, HQ, Result.andThen]) ?_
    clear HQ
    have m1 : ((n - 1 : Nat) : Int) ≤ (n : Int) := by have := HI.out; have := HN.out; omega
    have m2 : (0 : Int) ≤ ((n - 1 : Nat) : Int) := by omega
    have m3 : (n : Int) ≤ (((i + 1) : Nat) : Int) := by have := HCAP.out; have := HN.out; omega
    go_wp2_with (with_reducible refine hold_clear rfl ?_)
    have HQ := HCL.out (n - (n - 1)) (by have := HI.out; have := HN.out; omega)
    rw [hc] at HQ
    refine wpl_value rfl (show (execOp _ _).run _ _ = .ok (.value (.tuple #[])) _ from by simp [execOp, resolve, invoke, builtin, Act.eval, HQ, Result.andThen]; rfl) ?_
    clear HQ
    obtain ⟨cur', e1, e2, e3⟩ := cells_past gb 9 (Builtin.zeroCells (Value.cells (.string ⟨#[]⟩)) (n - (n - 1))).toList ((n - 1)) (w.drew.setRow gb X) X HW1.out
    have E1 := Lib.hid e1
    have E2 := Lib.hid e2
    have E3 := Lib.hid e3
    have EK := Lib.hid (HK1.out.trans (keepC gb (Builtin.zeroCells (Value.cells (.string ⟨#[]⟩)) (n - (n - 1))).toList ((n - 1)) (w.drew.setRow gb X)))
    clear e1 e2 e3
    go_wp2_with fail
    go_ret
    exact ⟨by first | rfl | rw [hc]; rfl, EK.out, cur', E1.out, E2.out.trans HXS.out, by rw [take_same E3.out]; exact HXT.out⟩
  · have HQ := HAP2.out
    refine wpl_value rfl (show (execOp _ _).run _ _ = .ok (.value (.slice (some ⟨gb, 0, none⟩) (n - 1) cap)) (w.drew.setRow gb X) from by simp [execOp, resolve, invoke, builtin, Act.eval, HQ, Result.andThen]) ?_
    clear HQ
    have m1 : ((n - 1 : Nat) : Int) ≤ (n : Int) := by have := HI.out; have := HN.out; omega
    have m2 : (0 : Int) ≤ ((n - 1 : Nat) : Int) := by omega
    have m3 : (n : Int) ≤ ((cap : Nat) : Int) := by have := HCAP.out; have := HN.out; omega
    go_wp2_with (with_reducible refine hold_clear rfl ?_)
    have HQ := HCL.out (n - (n - 1)) (by have := HI.out; have := HN.out; omega)
    refine wpl_value rfl (show (execOp _ _).run _ _ = .ok (.value (.tuple #[])) _ from by simp [execOp, resolve, invoke, builtin, Act.eval, HQ, Result.andThen]; rfl) ?_
    clear HQ
    obtain ⟨cur', e1, e2, e3⟩ := cells_past gb 9 (Builtin.zeroCells (Value.cells (.string ⟨#[]⟩)) (n - (n - 1))).toList ((n - 1)) (w.drew.setRow gb X) X HW1.out
    have E1 := Lib.hid e1
    have E2 := Lib.hid e2
    have E3 := Lib.hid e3
    have EK := Lib.hid (HK1.out.trans (keepC gb (Builtin.zeroCells (Value.cells (.string ⟨#[]⟩)) (n - (n - 1))).toList ((n - 1)) (w.drew.setRow gb X)))
    clear e1 e2 e3
    go_wp2_with fail
    go_ret
    exact ⟨by first | rfl | rw [hc]; rfl, EK.out, cur', E1.out, E2.out.trans HXS.out, by rw [take_same E3.out]; exact HXT.out⟩
end Go.Proofs.Ytphlpgdbngbplaa
end
section
open Go Go.RowKit
namespace QU
open RR FF JJ WW BB
/-- a row of strings that isn't empty -/
theorem row_partsU {w : World} {e : TypeId} {v : Value} {D : List ByteArray} (h : w.ownsRow 0 e 1 v D.length (D.map Value.string)) (h0 : 0 < D.length) :
    ∃ q cap cur, v = .slice (some ⟨q, 0, none⟩) D.length cap ∧ w.heap[q]? = some (.cells cur e (0, 0)) ∧ D.length ≤ cap ∧ cap ≤ maxLen ∧ cur.size = cap ∧ cur.toList.take D.length = D.map Value.string := by
  rcases h.2 with ⟨_, h1⟩ | ⟨g, cap, cur, rfl, _, hh, hn, hcm, hsz, htk⟩
  · omega
  · exact ⟨g, cap, cur, rfl, hh, hn, hcm, by omega, by rw [Nat.mul_one] at htk; exact htk⟩
theorem row_cellU {w : World} {e : TypeId} {D : List ByteArray} {q : Nat} {cur : Array Value} (hh : w.heap[q]? = some (.cells cur e (0, 0))) (ht : cur.toList.take D.length = D.map Value.string) {i : Nat} (hi : i < D.length) : w.cell? ⟨q, i, none⟩ = some (.string (D.getD i ⟨#[]⟩)) := by
  have h1 : (D.map Value.string)[i]? = some (.string (D.getD i ⟨#[]⟩)) := by
    rw [List.getElem?_map, List.getElem?_eq_getElem hi, List.getD_eq_getElem?_getD, List.getElem?_eq_getElem hi]; rfl
  rw [← ht, List.getElem?_take_of_lt hi, Array.getElem?_toList] at h1
  unfold World.cell?; rw [hh]; simpa using h1
theorem row_makeU {w : World} {e : TypeId} {D : List ByteArray} {q cap : Nat} {cur : Array Value} (hh : w.heap[q]? = some (.cells cur e (0, 0))) (hn : D.length ≤ cap) (hm : cap ≤ maxLen) (hs : cur.size = cap) (ht : cur.toList.take D.length = D.map Value.string) :
    w.ownsRow 0 e 1 (.slice (some ⟨q, 0, none⟩) D.length cap) D.length (D.map Value.string) :=
  ⟨by simp, .inr ⟨q, cap, cur, rfl, Nat.zero_le _, hh, hn, hm, by omega, by rw [Nat.mul_one]; exact ht⟩⟩
theorem keeps_keep {b : Nat} {w w' : World} (h : Keep b w w') : Keeps (fun c => c ≠ b) w w' := ⟨h.below (Nat.zero_le _) (Nat.zero_le _), fun c hc hl => h.block c hl hc⟩
end QU
namespace Go.Proofs.Ytphlpgdbngbplaa
open QU RR FF JJ CC MM WW BB
section
variable {w w2 : World} {g : Nat} {t : Qu} {v1 v2 v' : Value} {L : List ByteArray}
/-- the first lane is written -/
theorem QM.lane1 (h : QM w g t v1 v2) (hr : w2.ownsRow 0 9 1 v' L.length (L.map Value.string)) (hk : Keeps (fun b => v1.ownBlock ≠ some b) w w2) (hloc : ∀ b, v'.ownBlock = some b → v1.ownBlock = some b ∨ w.heap.size ≤ b) :
    QM (w2.setCell ⟨g, 0, none⟩ v') g ⟨L, t.second, t.dropped⟩ v' v2 ∧ Keeps (fun b => ¬ OwnQ g v1 v2 b) w (w2.setCell ⟨g, 0, none⟩ v') ∧ ∀ b, OwnQ g v' v2 b → OwnQ g v1 v2 b ∨ w.heap.size ≤ b := by
  have hu := Upd.set w2 g 0 v'
  have hg : ∀ b, v'.ownBlock = some b → b ≠ g := fun b hb e => by
    subst e
    rcases hloc b hb with h1 | h1
    · exact h.g1 h1
    · have := h.blk.lt; omega
  have h2g : w2.heap[g]? = w.heap[g]? := hk.block g h.g1 h.blk.lt
  refine ⟨⟨?_, row_keep hr fun c hc => hu.block c (hg c hc), row_keep h.r2 fun c hc => (hu.block c fun e => h.g2 (e ▸ hc)).trans (hk.block c (fun e => h.ne c e hc) (h.r2.lt c hc).2), fun e => hg g e rfl, h.g2, fun b hb hb2 => ?_⟩, ?_, ?_⟩
  · refine ((h.blk.of_heap h2g).set 0 v').congr _ fun i hi => ?_
    match i, hi with
    | 0, _ => rfl
    | 1, _ => rfl
    | 2, _ => rfl
  · rcases hloc b hb with h1 | h1
    · exact h.ne b h1 hb2
    · have := (h.r2.lt b hb2).2; omega
  · exact (hk.sub fun b hb _ e => hb (.inr (.inl e))).trans (Keeps.upd' hu fun c => c (.inl rfl))
  · rintro b (hb | hb | hb)
    · exact .inl (.inl hb)
    · exact (hloc b hb).imp (fun e => .inr (.inl e)) id
    · exact .inl (.inr (.inr hb))
/-- the second lane is written -/
theorem QM.lane2 (h : QM w g t v1 v2) (hr : w2.ownsRow 0 9 1 v' L.length (L.map Value.string)) (hk : Keeps (fun b => v2.ownBlock ≠ some b) w w2) (hloc : ∀ b, v'.ownBlock = some b → v2.ownBlock = some b ∨ w.heap.size ≤ b) :
    QM (w2.setCell ⟨g, 1, none⟩ v') g ⟨t.first, L, t.dropped⟩ v1 v' ∧ Keeps (fun b => ¬ OwnQ g v1 v2 b) w (w2.setCell ⟨g, 1, none⟩ v') ∧ ∀ b, OwnQ g v1 v' b → OwnQ g v1 v2 b ∨ w.heap.size ≤ b := by
  have hu := Upd.set w2 g 1 v'
  have hg : ∀ b, v'.ownBlock = some b → b ≠ g := fun b hb e => by
    subst e
    rcases hloc b hb with h1 | h1
    · exact h.g2 h1
    · have := h.blk.lt; omega
  have h2g : w2.heap[g]? = w.heap[g]? := hk.block g h.g2 h.blk.lt
  refine ⟨⟨?_, row_keep h.r1 fun c hc => (hu.block c fun e => h.g1 (e ▸ hc)).trans (hk.block c (fun e => h.ne c hc e) (h.r1.lt c hc).2), row_keep hr fun c hc => hu.block c (hg c hc), h.g1, fun e => hg g e rfl, fun b hb hb2 => ?_⟩, ?_, ?_⟩
  · refine ((h.blk.of_heap h2g).set 1 v').congr _ fun i hi => ?_
    match i, hi with
    | 0, _ => rfl
    | 1, _ => rfl
    | 2, _ => rfl
  · rcases hloc b hb2 with h1 | h1
    · exact h.ne b hb h1
    · have := (h.r1.lt b hb).2; omega
  · exact (hk.sub fun b hb _ e => hb (.inr (.inr e))).trans (Keeps.upd' hu fun c => c (.inl rfl))
  · rintro b (hb | hb | hb)
    · exact .inl (.inl hb)
    · exact .inl (.inr (.inl hb))
    · exact (hloc b hb).imp (fun e => .inr (.inr e)) id
end
/-- the queue behind one that was taken out -/
def takeQ (t : Qu) (i : Nat) : Qu := if i < t.first.length then ⟨t.first.eraseIdx i, t.second, t.dropped⟩ else ⟨t.first, t.second.eraseIdx (i - t.first.length), t.dropped⟩
set_option maxRecDepth 100000 in
set_option maxHeartbeats 4000000 in
theorem takeM17 {w : World} {g : Nat} {t : Qu} {v1 v2 : Value} (h : QM w g t v1 v2) (hI : InvQ t) (i : Nat) (hi : i < (allQ t).length) :
    Calls Try.prog 36 #[.pointer (some ⟨g, 0, none⟩), .int .i64 (i : Int)] w fun e w' => e = .returned (.string ((allQ t).getD i ⟨#[]⟩)) ∧ ∃ u1 u2, QM w' g (takeQ t i) u1 u2 ∧ Keeps (fun b => ¬ OwnQ g v1 v2 b) w w' ∧ ∀ b, OwnQ g u1 u2 b → OwnQ g v1 v2 b ∨ w.heap.size ≤ b := by
  have HM := Lib.hid h
  have l1 := hI.l1
  have l2 := hI.l2
  have hil : (i : Int) ≤ 128 := by unfold allQ at hi; rw [List.length_append] at hi; omega
  have hi0 : (0 : Int) ≤ (i : Int) := by omega
  clear hI
  by_cases hf : i < t.first.length
  · obtain ⟨q, cap, cur, rfl, hh, hn, hm, hs, ht⟩ := row_partsU h.r1 (by omega)
    have HE := Lib.hid (show (allQ t).getD i ⟨#[]⟩ = t.first.getD i ⟨#[]⟩ by unfold allQ; simp [List.getD, List.getElem?_append_left hf])
    have HT := Lib.hid (show takeQ t i = ⟨t.first.eraseIdx i, t.second, t.dropped⟩ by unfold takeQ; rw [if_pos hf])
    have c1 := row_cellU hh ht hf
    obtain ⟨c0, _, _⟩ := RR.cells3 h.blk
    have HD := Lib.hid (sdel_any t.first q cap cur w hh hn hm hs ht i hf (by omega))
    have HN := Lib.hid hn
    have HX := Lib.hid hm
    have hil2 : (i : Int) < (t.first.length : Int) := by omega
    have hd : ¬ ((t.first.length : Int) ≤ (i : Int)) := by omega
    have HF := Lib.hid hf
    clear h hh hn hm hs ht hf hi l1 l2
    go_enter Try.func36, Try.ntmps36
    go_wp2_with fail
    refine HD.out.mono ?_
    rintro e w2 ⟨rfl, hk, cur', hh', hs', ht'⟩
    have HL := Lib.hid (show (t.first.eraseIdx i).length = t.first.length - 1 by rw [List.length_eraseIdx, if_pos HF.out])
    have HR := Lib.hid (show w2.ownsRow 0 9 1 (.slice (some ⟨q, 0, none⟩) (t.first.length - 1) cap) (t.first.eraseIdx i).length ((t.first.eraseIdx i).map Value.string) from by
      have := row_makeU (D := t.first.eraseIdx i) hh' (by have := HN.out; have := HL.out; omega) HX.out hs' (by rw [HL.out]; exact ht')
      rw [HL.out] at this ⊢; exact this)
    have HK := Lib.hid (show Keeps (fun b => (Value.slice (some ⟨q, 0, none⟩) t.first.length cap).ownBlock ≠ some b) w w2 from (keeps_keep hk).sub fun b hb _ e => hb (by rw [e]; rfl))
    have HG := Lib.hid ((HM.out.blk).of_heap (HK.out.block g HM.out.g1 HM.out.blk.lt))
    obtain ⟨e0, _, _⟩ := RR.cells3 HG.out
    have f0 := HG.out.frz 0
    clear hk hh' hs' ht' c0 c1
    go_wp2_with fail
    go_ret
    obtain ⟨k1, k2, k3⟩ := HM.out.lane1 HR.out HK.out fun b hb => .inl hb
    exact ⟨by rw [HE.out]; rfl, _, _, by rw [HT.out]; exact k1, k2, k3⟩
  · obtain ⟨m, rfl⟩ : ∃ m, i = t.first.length + m := ⟨i - t.first.length, by omega⟩
    have hf2 : m < t.second.length := by unfold allQ at hi; rw [List.length_append] at hi; omega
    obtain ⟨q, cap, cur, rfl, hh, hn, hm, hs, ht⟩ := row_partsU h.r2 (by omega)
    have HE := Lib.hid (show (allQ t).getD (t.first.length + m) ⟨#[]⟩ = t.second.getD m ⟨#[]⟩ by unfold allQ; simp [List.getD, List.getElem?_append_right])
    have HT := Lib.hid (show takeQ t (t.first.length + m) = ⟨t.first, t.second.eraseIdx m, t.dropped⟩ by unfold takeQ; rw [if_neg (by omega), Nat.add_sub_cancel_left])
    have c1 := row_cellU hh ht hf2
    obtain ⟨c0, c2, _⟩ := RR.cells3 h.blk
    obtain ⟨a, c, rfl⟩ := row_shapeU h.r1
    have HD := Lib.hid (sdel_any t.second q cap cur w hh hn hm hs ht m hf2 (by omega))
    have HN := Lib.hid hn
    have HX := Lib.hid hm
    have hil2 : (m : Int) < (t.second.length : Int) := by omega
    have hd : ((t.first.length : Int) ≤ ((t.first.length + m : Nat) : Int)) := by omega
    have hw : IntKind.i64.wrap (((t.first.length + m : Nat) : Int) - (t.first.length : Int)) = (m : Int) := by rw [show ((t.first.length + m : Nat) : Int) - (t.first.length : Int) = (m : Int) by omega]; exact IntWalk.i64_in _ (by omega)
    have m0 : (0 : Int) ≤ (m : Int) := by omega
    have m1 : (m : Int) ≤ 128 := by omega
    have HF := Lib.hid hf2
    obtain ⟨I, hI⟩ : ∃ I : Int, ((t.first.length + m : Nat) : Int) = I := ⟨_, rfl⟩
    rw [hI] at hd hw hil hi0 ⊢
    clear h hh hn hm hs ht hf hf2 hi l1 l2 hI
    go_enter Try.func36, Try.ntmps36
    go_wp2_with fail
    refine HD.out.mono ?_
    rintro e w2 ⟨rfl, hk, cur', hh', hs', ht'⟩
    have HL := Lib.hid (show (t.second.eraseIdx m).length = t.second.length - 1 by rw [List.length_eraseIdx, if_pos HF.out])
    have HR := Lib.hid (show w2.ownsRow 0 9 1 (.slice (some ⟨q, 0, none⟩) (t.second.length - 1) cap) (t.second.eraseIdx m).length ((t.second.eraseIdx m).map Value.string) from by
      have := row_makeU (D := t.second.eraseIdx m) hh' (by have := HN.out; have := HL.out; omega) HX.out hs' (by rw [HL.out]; exact ht')
      rw [HL.out] at this ⊢; exact this)
    have HK := Lib.hid (show Keeps (fun b => (Value.slice (some ⟨q, 0, none⟩) t.second.length cap).ownBlock ≠ some b) w w2 from (keeps_keep hk).sub fun b hb _ e => hb (by rw [e]; rfl))
    have HG := Lib.hid ((HM.out.blk).of_heap (HK.out.block g HM.out.g2 HM.out.blk.lt))
    obtain ⟨_, e1, _⟩ := RR.cells3 HG.out
    have f1 := HG.out.frz 1
    clear hk hh' hs' ht' c0 c1 c2
    go_wp2_with fail
    go_ret
    obtain ⟨k1, k2, k3⟩ := HM.out.lane2 HR.out HK.out fun b hb => .inl hb
    exact ⟨by rw [HE.out]; rfl, _, _, by rw [HT.out]; exact k1, k2, k3⟩
end Go.Proofs.Ytphlpgdbngbplaa
end
