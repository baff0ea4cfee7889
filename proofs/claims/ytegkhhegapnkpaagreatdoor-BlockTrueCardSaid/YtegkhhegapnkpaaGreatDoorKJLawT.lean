/-
  The walk of the law BlockTrue.
-/
import Derived.Test.YtegkhhegapnkpaaGreatDoorKJLawD
import Derived.Test.YtegkhhegapnkpaaGreatDoorKJDig
import Derived.Test.YtegkhhegapnkpaaGreatDoorKPlanE
import Derived.Test.YtegkhhegapnkpaaGreatDoorKJRow
import Derived.Test.YtegkhhegapnkpaaGreatDoorKWCutR
open Go Go.RowKit
namespace JJ
open CC BB WW MM Go.Sort
/-- the certificate's box, in block y, and the votes of the j first nodes in it -/
structure CS (wy : World) (tS tT : TypeId) (v : Int) (K s T : ByteArray) (n j : Nat) (u : Value) (wr : World) : Prop where
  below : Below wy.heap.size wy wr
  box : Blk wr wy.heap.size 3 (cC (.int .i64 v) K u)
  sigs : ∃ L : List Sg, L.map bare = votesJ s n T j ∧ wr.ownsRow (wy.heap.size + 1) tS 2 u j (cellsS L) ∧ ∀ x ∈ L, wr.ownsRow (wy.heap.size + 1) tT 1 (tvS x) x.2.2.length (x.2.2.map Value.string)
theorem CS.sigsAt {wy wr : World} {tS tT : TypeId} {v : Int} {K s T : ByteArray} {n j : Nat} {u : Value} (h : CS wy tS tT v K s T n j u wr) : SigsAt wr u (votesJ s n T j) := by
  obtain ⟨L, h1, h2, h3⟩ := h.sigs
  have hlen : j = L.length := by have := congrArg List.length h1; rw [List.length_map, votesJ_len] at this; exact this.symm
  rw [← h1]
  rw [hlen] at h2
  obtain ⟨a0, cap, rfl, _, h4 | ⟨b, o, rfl, _, hr⟩⟩ := sgs_of_own h2
  · subst h4; exact ⟨a0, cap, rfl, Or.inl rfl⟩
  · exact sigs_of_sg ⟨_, cap, rfl, Or.inr ⟨b, o, rfl, hr.lt, fun i hi => ⟨hr.at0 i hi, hr.at1 i hi, strs_own (h3 _ (getD_mem hi))⟩⟩⟩
theorem row_apart {e e' : TypeId} {w w' : World} {B B' c c' : Nat} {v : Value} {n n' : Nat} {xs xs' : List Value} {v' : Value} (h : w.ownsRow B e c v n xs) (h' : w'.ownsRow B' e' c' v' n' xs') (hs : w.heap.size ≤ B') : ∀ b, v'.ownBlock = some b → some b ≠ v.ownBlock := fun b hb e => by
  have h1 := (h.lt b e.symm).2
  have h2 := (h'.lt b hb).1
  omega
theorem cellsS_snoc (L : List Sg) (x : Sg) : cellsS (L ++ [x]) = cellsS L ++ [.int .i64 x.1, tvS x] := by
  unfold cellsS; rw [List.map_append, List.flatten_append]; simp [encS]
theorem cells2_new (w : World) (k : Int) (x : Value) (t : TypeId) : ∀ j u, [Value.int .i64 k, x][j]? = some u → (w.alloc (.cells #[.int .i64 k, x] t)).cell? ((⟨w.heap.size, 0, none⟩ : Addr).add j) = some u := by
  intro j u hj
  match j, hj with
  | 0, hj => simp at hj; subst hj; rw [Addr.add_lit]; exact cell_new w _ t 0 _ rfl
  | 1, hj => simp at hj; subst hj; rw [Addr.add_lit]; exact cell_new w _ t 1 _ rfl
  | j + 2, hj => simp at hj
theorem cells2_one (k : Int) (a : Option Addr) (n c : Nat) : ∀ u ∈ [Value.int .i64 k, .slice a n c], u.oneCell' = true := by
  intro u hu
  simp only [List.mem_cons, List.not_mem_nil, or_false] at hu
  rcases hu with rfl | rfl <;> rfl
end JJ
namespace Go.Proofs.YtegkhhegapnkpaaGreatDoor
open JJ CC WW BB MM
set_option maxRecDepth 100000 in
set_option maxHeartbeats 8000000 in
theorem lawe_big (a b : Nat) (rv : Value) (l : List Rq) (m : Nat) (w : World) (hr : ReqsAt w rv l) (h : 20 < l.length) (hT : Tabs w) :
    Calls Tryz.prog 3 #[.agg #[.int .u8 (a : Int), .int .u8 (b : Int)], rv, .int .u8 (m : Int)] w fun e w' => e = .returned (.bool true) ∧ Below w.heap.size w w' := by
  have HT := Lib.hid hT
  obtain ⟨a0, cap, rfl, _⟩ := hr
  have t1 : (20 : Int) < (l.length : Int) := by omega
  clear hT h
  have b1 := Lib.hid ((Below.refl w.heap.size w).alloc (Nat.le_refl _) (.cells #[.int .u8 (a : Int), .int .u8 (b : Int)] 22))
  go_enter Tryz.func3, Tryz.ntmps3
  go_wp2_with fail
  refine (awake6_any _ (tabs_on HT.out b1.out)).mono ?_
  rintro e w2 ⟨rfl, hb2⟩
  have B2 := Lib.hid (b1.out.trans (hb2.mono b1.out.size))
  clear hb2 b1
  go_wp2_with fail
  refine (awake6_any _ (tabs_on HT.out B2.out)).mono ?_
  rintro e w4 ⟨rfl, hb4⟩
  have B4 := Lib.hid (B2.out.trans (hb4.mono B2.out.size))
  clear hb4
  go_wp2_with fail
  go_ret
  exact ⟨rfl, B4.out⟩
set_option maxRecDepth 100000 in
set_option maxHeartbeats 32000000 in
theorem lawe_in (a b : Nat) (rv : Value) (l : List Rq) (m : Nat) (w : World) (hr : ReqsAt w rv l) (h : l.length ≤ 20) (h64 : ∀ r ∈ l, In64 (keyR r)) (ha : a < 256) (hb : b < 256) (hm : m < 256) (hT : Tabs w) :
    Calls Tryz.prog 3 #[.agg #[.int .u8 (a : Int), .int .u8 (b : Int)], rv, .int .u8 (m : Int)] w fun e w' => e = .returned (.bool true) ∧ Below w.heap.size w w' := by
  have HT := Lib.hid hT
  have HR := Lib.hid hr
  have HL := Lib.hid h
  have H64 := Lib.hid h64
  have HAB := Lib.hid (And.intro ha (And.intro hb hm))
  obtain ⟨a0, cap, rfl, _⟩ := hr
  have t1 : ¬ (20 : Int) < (l.length : Int) := by omega
  clear hT h h64 ha hb hm
  obtain ⟨g, hg⟩ : ∃ g, w.heap.size = g := ⟨_, rfl⟩
  have HG := Lib.hid hg
  have X0 := Lib.hid (show BoxAt w w.heap.size [.int .u8 (a : Int), .int .u8 (b : Int)] (w.alloc (.cells #[.int .u8 (a : Int), .int .u8 (b : Int)] 22)) from box_mk w [.int .u8 (a : Int), .int .u8 (b : Int)] 22)
  go_enter Tryz.func3, Tryz.ntmps3
  go_wp2_with fail
  rw [hg] at X0
  clear hg
  generalize w.alloc (.cells #[.int .u8 (a : Int), .int .u8 (b : Int)] 22) = w0 at *
  refine (awake6_any _ (tabs_on HT.out X0.out.below)).mono ?_
  rintro e w2 ⟨rfl, hb2⟩
  have X2 := Lib.hid (X0.out.on hb2)
  clear hb2 X0
  go_wp2_with fail
  clear t1
  go_loopw [7] (fun x wx => ∃ i : Nat, i ≤ l.length ∧ x = .int .i64 (i : Int) ∧ (∀ j, j < i → rightR (l.getD j r0).1 (l.getD j r0).2.1 (l.getD j r0).2.2) ∧ BoxAt w g [.int .u8 (a : Int), .int .u8 (b : Int)] wx) (fun x _ => l.length - (intOf x).toNat)
  case atStart => exact ⟨0, Nat.zero_le _, rfl, fun j hj => absurd hj (Nat.not_lt_zero _), X2.out⟩
  case round =>
    obtain ⟨i, hi, rfl, hall, hx⟩ := hrel
    have HALL := Lib.hid hall
    have XR := Lib.hid hx
    have i0 : (0 : Int) ≤ (i : Int) := by omega
    have ib : (i : Int) ≤ 20 := by have := HL.out; omega
    clear hall hx
    by_cases hlt : i < l.length
    · have hlt' : (i : Int) < (l.length : Int) := by omega
      have HLT := Lib.hid hlt
      obtain ⟨a1, cap1, he, hv | ⟨gb, off, rfl, hbw, hcell⟩⟩ := HR.out
      · rw [hv] at hlt; simp at hlt
      injection he with e1 _ e3
      subst e1 e3
      obtain ⟨hc0, hc1, hc2⟩ := hcell i hlt
      have hcl0 : wr.cell? ⟨gb, off + i * 3, none⟩ = _ := (XR.out.below.cell (p := ⟨gb, off + i * 3, none⟩) hbw).trans hc0
      have hcl1 : wr.cell? ⟨gb, off + i * 3 + 1, none⟩ = _ := (XR.out.below.cell (p := ⟨gb, off + i * 3 + 1, none⟩) hbw).trans hc1
      have hcl2 : wr.cell? ⟨gb, off + i * 3 + 2, none⟩ = _ := (XR.out.below.cell (p := ⟨gb, off + i * 3 + 2, none⟩) hbw).trans hc2
      obtain ⟨r, hr⟩ : ∃ r, l.getD i r0 = r := ⟨_, rfl⟩
      have HRR := Lib.hid hr
      rw [show l.getD i (0, 0, ⟨#[]⟩) = r from hr] at hcl0 hcl1 hcl2
      clear hr hlt hi hcell hbw hc0 hc1 hc2
      go_wp2_with fail
      refine (rightreq_any r.1 r.2.1 r.2.2 wr).mono ?_
      rintro e w5 ⟨rfl, hb5⟩
      have X5 := Lib.hid (XR.out.on hb5)
      clear hb5 hcl0 hcl1 hcl2
      by_cases hok : rightR r.1 r.2.1 r.2.2
      · rw [show decide (rightR r.1 r.2.1 r.2.2) = true by simpa using hok]
        have HOK := Lib.hid hok
        clear hok
        go_wp2_with fail
        go_roundw
        case rel => exact ⟨i + 1, by have := HLT.out; omega, by go_num, fun j hj => if h : j = i then by subst h; rw [HRR.out]; exact HOK.out else HALL.out j (by omega), X5.out⟩
        case measure => have := HLT.out; simp [intOf]; omega
      · rw [show decide (rightR r.1 r.2.1 r.2.2) = false by simpa using hok]
        clear hok
        go_wp2_with fail
        go_ret
        exact ⟨rfl, X5.out.below⟩
    · obtain rfl : i = l.length := by omega
      have hlt' : ¬ (l.length : Int) < (l.length : Int) := by omega
      have HRI := Lib.hid (show ∀ r ∈ l, rightR r.1 r.2.1 r.2.2 from fun r hr => by
        obtain ⟨i, hi, rfl⟩ := List.getElem_of_mem hr
        have := HALL.out i hi
        rw [show l.getD i r0 = l[i] by simp [List.getD, List.getElem?_eq_getElem hi]] at this
        exact this)
      clear hi hlt
      have q0 := XR.out.cell 0 _ rfl
      have q1 := XR.out.cell 1 _ rfl
      have m0 : (0 : Int) ≤ (m : Int) := by omega
      have m1 : (m : Int) ≤ 255 := by have := HAB.out; omega
      have a0' : (0 : Int) ≤ (a : Int) := by omega
      have a1' : (a : Int) ≤ 255 := by have := HAB.out; omega
      have b0' : (0 : Int) ≤ (b : Int) := by omega
      have b1' : (b : Int) ≤ 255 := by have := HAB.out; omega
      go_upto_region 10 with fail
      obtain ⟨n, hn⟩ : ∃ n : Nat, (1 + (m : Int) % 7) = (n : Int) := ⟨1 + m % 7, by omega⟩
      rw [hn]
      have HN := Lib.hid (show 1 ≤ n ∧ n ≤ 7 by omega)
      have HNI := Lib.hid (show 1 ≤ (n : Int) ∧ (n : Int) ≤ 7 by omega)
      obtain ⟨v, hv⟩ : ∃ v : Int, 1 + (a : Int) = v := ⟨_, rfl⟩
      have HVV := Lib.hid (show 1 ≤ v ∧ v ≤ 256 by omega)
      rw [hv]
      clear hn q0 q1 hv m0 m1 a0' a1'
      obtain ⟨F, hF⟩ : ∃ F, firstD = F := ⟨_, rfl⟩
      have HFF := Lib.hid hF
      have HFZ := Lib.hid (show F.size = 32 by rw [← hF]; exact firstD_size)
      go_wp2_with fail
      refine (rfirst_any wr).mono ?_
      rintro e w3 ⟨rfl, hb3⟩
      rw [hF]
      have X3 := Lib.hid (XR.out.on hb3)
      clear hb3 hF
      go_wp2_with fail
      refine (make6_any v (n : Int) 0 F (.slice none 0 0) _ [] l w3 (sigs_nil _) (HR.out.later X3.out.below) (by simp) (by simp) (by have := HL.out; omega) H64.out).mono ?_
      rintro e w4 ⟨d0, dc, e0, ec, rfl, hs4, hr4, hb4⟩
      have X4 := Lib.hid (X3.out.on hb4)
      have HR4 := Lib.hid hr4
      obtain ⟨p, hp⟩ : ∃ p, leaderI v (n : Int) = p := ⟨_, rfl⟩
      obtain ⟨A, hA⟩ : ∃ A, onceN 3 l = A := ⟨_, rfl⟩
      rw [hp, hA]
      rw [hA] at hr4
      have HP := Lib.hid hp
      have HA := Lib.hid hA
      have HRA := Lib.hid hr4
      have HRT := Lib.hid (show rightBlock v p 0 F [] A = true by rw [← hp, ← hA, ← HFF.out]; exact first_right ⟨HVV.out.1, by have := HVV.out; omega⟩ HNI.out HRI.out)
      clear hb4 hs4 hr4 hp hA HR4
      go_upto_region 11 with fail
      have YA := Lib.hid (show BoxAt w4 w4.heap.size [.int .i64 v, .int .i64 p, .int .i64 0, .string F, .slice d0 0 dc, .slice e0 A.length ec] (w4.alloc (.cells #[.int .i64 v, .int .i64 p, .int .i64 0, .string F, .slice d0 0 dc, .slice e0 A.length ec] 32)) from box_mk w4 [.int .i64 v, .int .i64 p, .int .i64 0, .string F, .slice d0 0 dc, .slice e0 A.length ec] 32)
      have X5 := Lib.hid (show BoxAt w g [.int .u8 (a : Int), .int .u8 (b : Int)] (w4.alloc (.cells #[.int .i64 v, .int .i64 p, .int .i64 0, .string F, .slice d0 0 dc, .slice e0 A.length ec] 32)) from X4.out.on ((Below.refl _ _).alloc (Nat.le_refl _) _))
      have R5 := Lib.hid (HRA.out.later YA.out.below)
      generalize w4.alloc (.cells #[.int .i64 v, .int .i64 p, .int .i64 0, .string F, .slice d0 0 dc, .slice e0 A.length ec] 32) = w5 at *
      obtain ⟨ya, hya⟩ : ∃ ya, w4.heap.size = ya := ⟨_, rfl⟩
      rw [hya] at YA ⊢
      clear hya X4 HRA X3
      have HSA := Lib.hid (fun wx => (show SigsAt wx (.slice d0 0 dc) [] from ⟨d0, dc, rfl, Or.inl rfl⟩))
      have HSM := Lib.hid (right_smallB6 HRT.out)
      obtain ⟨K, hK⟩ : ∃ K, digD v p 0 F A = K := ⟨_, rfl⟩
      have HKZ := Lib.hid (show K.size = 32 by rw [← hK]; exact digD_size _ _ _ _ _)
      have HKK := Lib.hid hK
      have c0 := YA.out.cell 0 _ rfl
      have c1 := YA.out.cell 1 _ rfl
      have c2 := YA.out.cell 2 _ rfl
      have c3 := YA.out.cell 3 _ rfl
      have c4 := YA.out.cell 4 _ rfl
      have c5 := YA.out.cell 5 _ rfl
      go_wp2_with fail
      refine (rbdigest_any v p 0 F _ _ [] A w5 (HSA.out w5) R5.out HSM.out.1 HSM.out.2.1 HSM.out.2.2.1).mono ?_
      rintro e w6 ⟨rfl, hb6⟩
      rw [hK]
      have YA6 := Lib.hid (YA.out.on hb6)
      have X6 := Lib.hid (X5.out.on hb6)
      have R6 := Lib.hid (R5.out.later hb6)
      clear c0 c1 c2 c3 c4 c5 hb6 hK X5 R5 YA
      go_upto_region 12 with fail
      obtain ⟨T, hT⟩ : ∃ T, textB v K = T := ⟨_, rfl⟩
      have HTT := Lib.hid hT
      clear hT
      have C7 := Lib.hid (show CS w6 38 9 v K ⟨#[115]⟩ T n 0 (.slice none 0 0) (w6.alloc (.cells #[.int .i64 v, .string K, .slice none 0 0] 30)) from
        ⟨(Below.refl _ _).alloc (Nat.le_refl _) _, Blk.new' rfl (cC_row _ _ _), ⟨[], rfl, World.ownsRow_nil _ _ _ _, by simp⟩⟩)
      generalize w6.alloc (.cells #[.int .i64 v, .string K, .slice none 0 0] 30) = w7 at *
      obtain ⟨y, hy⟩ : ∃ y, w6.heap.size = y := ⟨_, rfl⟩
      have HY := Lib.hid hy
      rw [hy]
      clear hy
      have n1 : (1 : Int) ≤ (n : Int) := HNI.out.1
      have n7 : (n : Int) ≤ 7 := HNI.out.2
      obtain ⟨q, hq⟩ : ∃ q : Nat, n - (n - 1) / 3 = q := ⟨_, rfl⟩
      have HQ := Lib.hid hq
      have HQN := Lib.hid (show q ≤ n ∧ q ≤ 7 by have := HN.out; omega)
      have hqi : (n : Int) - ((n : Int) - 1) / 3 = (q : Int) := by have := HN.out; omega
      have hqt : (n : Int) - ((n : Int) - 1).tdiv 3 = (q : Int) := by rw [Int.tdiv_eq_ediv_of_nonneg (by omega)]; exact hqi
      have HQI := Lib.hid (And.intro hqi hqt)
      clear hq hqi hqt
      go_wp2_with fail
      go_loopw [12] (fun x wx => ∃ (j : Nat) (u : Value), j ≤ q ∧ x = .int .i64 (j : Int) ∧ CS w6 38 9 v K ⟨#[115]⟩ T n j u wx) (fun x _ => q - (intOf x).toNat)
      case atStart => exact ⟨0, _, Nat.zero_le _, rfl, C7.out⟩
      case round =>
        obtain ⟨j, u, hj, rfl, hcs⟩ := hrel
        have HCS := Lib.hid hcs
        have HJ := Lib.hid hj
        have j0 : (0 : Int) ≤ (j : Int) := by omega
        have jb : (j : Int) ≤ 7 := by have := HQN.out; omega
        clear hcs hj
        by_cases hlt2 : j < q
        · have t4 : (j : Int) < (n : Int) - ((n : Int) - 1) / 3 := by rw [HQI.out.1]; omega
          go_upto_region 15 with fail
          have HLT := Lib.hid hlt2
          have hbox := HCS.out.box
          rw [HY.out] at hbox
          have YLTR := Lib.hid hbox.lt
          have c1 : wr.cell? ⟨y, 1, none⟩ = some (.string K) := hbox.get 1 (by omega)
          have c2 : wr.cell? ⟨y, 2, none⟩ = some u := hbox.get 2 (by omega)
          have HBX := Lib.hid hbox
          obtain ⟨L, hL1, hL2, hL3⟩ := HCS.out.sigs
          rw [HY.out] at hL2 hL3
          have HL1 := Lib.hid hL1
          have HL2 := Lib.hid hL2
          have HL3 := Lib.hid hL3
          clear hL1 hL2 hL3 hbox hlt2 t4
          refine planE_abs (fun wx => Below wr.heap.size wr wx) 16 [(true, 0), (true, 1), (true, 4), (true, 7), (true, 8), (true, 9), (true, 10), (true, 2), (true, 5), (true, 11), (false, 3), (false, 6), (false, 12), (false, 13), (false, 14), (true, 15), (false, 16)] (by kernel_rfl) (by kernel_rfl) (fun _ _ d _ _ h => by cases d <;> exact h) fun w2 hs2 => ⟨hs2.below _, ?_⟩
          have B2 := Lib.hid (hs2.below wr.heap.size)
          have YLT := Lib.hid YLTR.out
          clear hs2
          (refine pe_run _ ?_ rfl rfl ?_ ?_; rotate_left; (focus (intro w' hS; have e1 := (hS.cell (p := ⟨y, 1, none⟩) YLT.out).trans c1; have e2 := (hS.cell (p := ⟨y, 2, none⟩) YLT.out).trans c2; go_simp; exact rfl)); simp only [Act.put, List.setIfInBounds_toArray, List.set_cons_zero, List.set_cons_succ, List.getElem_toArray, List.getElem_cons_zero])
          iterate 9 (refine pe_run _ ?_ rfl rfl ?_ ?_; rotate_left; (focus (intro w' hS; have e1 := (hS.cell (p := ⟨y, 1, none⟩) YLT.out).trans c1; have e2 := (hS.cell (p := ⟨y, 2, none⟩) YLT.out).trans c2; go_simp; exact rfl)); simp only [Act.put, List.setIfInBounds_toArray, List.set_cons_zero, List.set_cons_succ, List.getElem_toArray, List.getElem_cons_zero, List.getElem_cons_succ])
          have S2 := Lib.hid (row_keep HL2.out fun c hc => B2.out.block c (HL2.out.lt c hc).2)
          have A3 := Lib.hid ((Below.refl w2.heap.size w2).alloc (Nat.le_refl _) (.cells #[] 38))
          have O3 := Lib.hid (World.ownsRow_made (e := 38) (size := 2) w2 #[] 0 (Nat.le_refl w2.heap.size) (Nat.zero_le _) rfl)
          have S3 := Lib.hid (row_keep S2.out fun c hc => A3.out.block c (S2.out.lt c hc).2)
          have B3 := Lib.hid (B2.out.trans (A3.out.mono B2.out.size))
          refine pe_value (w' := w2.alloc (.cells #[] 38)) _ (.slice (some ⟨w2.heap.size, 0, none⟩) 0 0) rfl rfl (by go_simp) B3.out ?_
          simp only [Act.put, List.setIfInBounds_toArray, List.set_cons_zero, List.set_cons_succ, List.getElem_toArray, List.getElem_cons_zero, List.getElem_cons_succ]
          obtain ⟨ti, i1, i2, i3, i4⟩ := info_parts info_sig
          have HQJ := Lib.hid (show j ≤ maxLen ∧ j * 32 ≤ 140737488355328 ∧ j + 1 ≤ maxLen ∧ (j + 1) * 32 ≤ 140737488355328 from by unfold maxLen; omega)
          obtain ⟨v4, w4', hr4, ho4, hg4⟩ := run_append_row (P := Tryz.prog) (w := w2.alloc (.cells #[] 38)) w2.heap.size 28 28 38 ti (.agg #[.int .i64 0, .slice none 0 0]) 2 32 und_sigs i1 i2 i3 i4 rfl (by decide) _ O3.out u j (y + 1) (cellsS L) S3.out (cellsS_one L) HQJ.out.1 HQJ.out.2.1 (by simp)
          have O4 := Lib.hid ho4
          have G4 := Lib.hid (A3.out.grown hg4 A3.out.size (fun k hk => (O3.out.lt k hk).1))
          have B4 := Lib.hid (B2.out.trans (G4.out.mono B2.out.size))
          refine pe_value (w' := w4') _ v4 rfl rfl (run_op_append _ _ _ rfl _ _ rfl rfl hr4) B4.out ?_
          simp only [Act.put, List.setIfInBounds_toArray, List.set_cons_zero, List.set_cons_succ, List.getElem_toArray, List.getElem_cons_zero, List.getElem_cons_succ]
          clear hr4 ho4 hg4
          refine pe_call (R := fun x w' => ∃ ta tc, x = .agg #[.int .i64 (j : Int), .slice ta n tc] ∧ w'.ownsRow w4'.heap.size 9 1 (.slice ta n tc) n ((tagsTo ⟨#[115]⟩ (j : Int) (textB v K) n).map Value.string) ∧ Below w4'.heap.size w4' w') _ rfl rfl (by go_simp) ((rsign_any ⟨#[115]⟩ (j : Int) n v K w4' (by decide) (by have := HKZ.out; omega) (by have := HN.out; omega)).mono fun e w' h => ?_) (fun x w' h => ?_) (fun x w5' h => ?_)
          · obtain ⟨ta, tc, rfl, h1, h2⟩ := h
            exact ⟨_, rfl, ta, tc, rfl, h1, h2⟩
          · obtain ⟨ta, tc, _, _, h2⟩ := h
            exact B4.out.trans (h2.mono B4.out.size)
          · obtain ⟨ta, tc, rfl, htg, hb5⟩ := h
            simp only [Act.put, List.setIfInBounds_toArray, List.set_cons_zero, List.set_cons_succ, List.getElem_toArray, List.getElem_cons_zero, List.getElem_cons_succ]
            have B5 := Lib.hid (B4.out.trans (hb5.mono B4.out.size))
            have O5 := Lib.hid (row_keep O4.out fun c hc => hb5.block c (O4.out.lt c hc).2)
            have TG5 := Lib.hid htg
            have A6 := Lib.hid ((Below.refl w5'.heap.size w5').alloc (Nat.le_refl _) (.cells #[.int .i64 (j : Int), .slice ta n tc] 38))
            have O6 := Lib.hid (row_keep O5.out fun c hc => A6.out.block c (O5.out.lt c hc).2)
            have TG6 := Lib.hid (row_keep TG5.out fun c hc => A6.out.block c (TG5.out.lt c hc).2)
            have B6 := Lib.hid (B5.out.trans (A6.out.mono B5.out.size))
            have Z6 := Lib.hid (show w2.heap.size ≤ (w5'.alloc (.cells #[.int .i64 (j : Int), .slice ta n tc] 38)).heap.size from Nat.le_trans G4.out.size (Nat.le_trans hb5.size A6.out.size))
            have E45 := Lib.hid hb5
            clear htg hb5
            refine pe_value (w' := w5'.alloc (.cells #[.int .i64 (j : Int), .slice ta n tc] 38)) _ (.slice (some ⟨w5'.heap.size, 0, none⟩) 1 1) rfl rfl (by go_simp) B6.out ?_
            simp only [Act.put, List.setIfInBounds_toArray, List.set_cons_zero, List.set_cons_succ, List.getElem_toArray, List.getElem_cons_zero, List.getElem_cons_succ]
            obtain ⟨u', w7', hr7, ho7, hg7, _⟩ := run_append_own (P := Tryz.prog) (w5'.alloc (.cells #[.int .i64 (j : Int), .slice ta n tc] 38)) w2.heap.size 28 28 38 ti (.agg #[.int .i64 0, .slice none 0 0]) 2 32 und_sigs i1 i2 i3 i4 rfl (by decide) v4 j (cellsS L) O6.out ⟨w5'.heap.size, 0, none⟩ 1 1 [.int .i64 (j : Int), .slice ta n tc] rfl (cells2_new w5' _ _ _) (cells2_one _ _ _ _) HQJ.out.2.2.1 HQJ.out.2.2.2 Z6.out
            have O7 := Lib.hid ho7
            have HG7 := Lib.hid hg7
            have G67 := Lib.hid (((G4.out.trans (E45.out.mono G4.out.size)).trans (A6.out.mono (Nat.le_trans G4.out.size E45.out.size))).grown hg7 Z6.out (fun k hk => (O6.out.lt k hk).1))
            have B7 := Lib.hid (B2.out.trans (G67.out.mono B2.out.size))
            refine pe_value (w' := w7') _ u' rfl rfl (run_op_append _ _ _ rfl _ _ rfl rfl hr7) B7.out ?_
            simp only [Act.put, List.setIfInBounds_toArray, List.set_cons_zero, List.set_cons_succ, List.getElem_toArray, List.getElem_cons_zero, List.getElem_cons_succ]
            have TG7 := Lib.hid (row_keep TG6.out fun c hc => hg7.block c (TG6.out.lt c hc).2 (row_apart O4.out TG5.out (Nat.le_refl _) c hc))
            have BX7 := Lib.hid (HBX.out.below B7.out HBX.out.lt)
            have HL37 := Lib.hid (fun x (hx : x ∈ L) => row_keep (HL3.out x hx) fun c hc => B7.out.block c ((HL3.out x hx).lt c hc).2)
            obtain ⟨a', c', rfl⟩ : ∃ a' c', u' = .slice a' (j + 1) c' := by
              rcases ho7.2 with ⟨_, h0⟩ | ⟨q, cp, cur, rfl, _⟩
              · omega
              · exact ⟨_, _, rfl⟩
            clear hr7 ho7 hg7
            refine pe_run _ ?_ rfl rfl ?_ ?_; rotate_left
            · intro w' hS; go_simp; exact rfl
            simp only [Act.put, List.setIfInBounds_toArray, List.set_cons_zero, List.set_cons_succ, List.getElem_toArray, List.getElem_cons_zero, List.getElem_cons_succ]
            have c0 : w7'.cell? ⟨y, 0, none⟩ = some (.int .i64 v) := BX7.out.get 0 (by omega)
            have f0 := BX7.out.frz 0
            have c1 : w7'.cell? ⟨y, 1, none⟩ = some (.string K) := BX7.out.get 1 (by omega)
            have f1 := BX7.out.frz 1
            have c2 : w7'.cell? ⟨y, 2, none⟩ = some u := BX7.out.get 2 (by omega)
            have f2 := BX7.out.frz 2
            refine pe_last _ rfl ?_
            simp only [List.getElem_toArray, List.getElem_cons_zero, List.getElem_cons_succ]
            go_wp2_with fail
            have HUP := Lib.hid (((Upd.set w7' y 0 (.int .i64 v)).trans (Upd.set _ y 1 (.string K))).trans (Upd.set _ y 2 (.slice a' (j + 1) c')))
            have HBL := Lib.hid (((BX7.out.set 0 (.int .i64 v)).set 1 (.string K)).set 2 (.slice a' (j + 1) c'))
            go_roundw
            case rel =>
              refine ⟨j + 1, .slice a' (j + 1) c', by have := HLT.out; omega, by go_num, ?_, ?_, ?_⟩
              · exact (HCS.out.below.trans (B7.out.mono HCS.out.below.size)).trans (HUP.out.below (by rw [HY.out]; exact Nat.le_refl _))
              · rw [HY.out]
                exact HBL.out.congr _ fun i hi => by
                  match i, hi with
                  | 0, _ => rfl
                  | 1, _ => rfl
                  | 2, _ => rfl
              · have hy2 : y + 1 ≤ w2.heap.size := Nat.le_trans YLT.out B2.out.size
                have hy4 : y + 1 ≤ w4'.heap.size := Nat.le_trans hy2 G4.out.size
                rw [HY.out]
                refine ⟨L ++ [((j : Int), (ta, tc), tagsTo ⟨#[115]⟩ (j : Int) (textB v K) n)], ?_, ?_, ?_⟩
                · rw [List.map_append, HL1.out, votesJ_succ, ← HTT.out]; rfl
                · rw [cellsS_snoc]
                  have e9 : tvS ((j : Int), (ta, tc), tagsTo ⟨#[115]⟩ (j : Int) (textB v K) n) = .slice ta n tc := by unfold tvS; rw [tags_len]
                  rw [e9]
                  exact own_base (row_keep O7.out fun c hc => HUP.out.block c (by have := (O7.out.lt c hc).1; omega)) hy2
                · intro x hx
                  rcases List.mem_append.1 hx with hx | hx
                  · exact row_keep (HL37.out x hx) fun c hc => HUP.out.block c (by have := ((HL37.out x hx).lt c hc).1; omega)
                  · obtain rfl : x = _ := by simpa using hx
                    have e9 : tvS ((j : Int), (ta, tc), tagsTo ⟨#[115]⟩ (j : Int) (textB v K) n) = .slice ta n tc := by unfold tvS; rw [tags_len]
                    rw [e9]
                    show World.ownsRow _ _ _ _ _ (tagsTo ⟨#[115]⟩ (j : Int) (textB v K) n).length ((tagsTo ⟨#[115]⟩ (j : Int) (textB v K) n).map Value.string)
                    rw [tags_len]
                    exact own_base (row_keep TG7.out fun c hc => HUP.out.block c (by have := (TG7.out.lt c hc).1; omega)) hy4
            case measure => have := HLT.out; simp [intOf]; omega
        · obtain rfl : j = q := by have := HJ.out; omega
          have v1 : (1 : Int) ≤ v := HVV.out.1
          have v256 : v ≤ 256 := HVV.out.2
          have t4 : ¬ (j : Int) < (n : Int) - ((n : Int) - 1) / 3 := by rw [HQI.out.1]; omega
          have XR9 := Lib.hid (X6.out.on (HCS.out.below))
          have YA9 := Lib.hid (YA6.out.on (HCS.out.below))
          have R9 := Lib.hid (R6.out.later (HCS.out.below))
          have hbox := HCS.out.box
          rw [HY.out] at hbox
          have y0 : wr.cell? ⟨y, 0, none⟩ = some (.int .i64 v) := hbox.get 0 (by omega)
          have y1 : wr.cell? ⟨y, 1, none⟩ = some (.string K) := hbox.get 1 (by omega)
          have y2 : wr.cell? ⟨y, 2, none⟩ = some u := hbox.get 2 (by omega)
          have q1 := XR9.out.cell 1 _ rfl
          have HSG := Lib.hid HCS.out.sigsAt
          clear hbox hlt2
          go_wp2_with fail
          obtain ⟨v2, hv2⟩ : ∃ v2 : Int, v + 1 + (b : Int) = v2 := ⟨_, rfl⟩
          have HV2 := Lib.hid (show v < v2 ∧ v2 ≤ 1000000 by omega)
          rw [hv2]
          have HVL := Lib.hid (votesJ_len ⟨#[115]⟩ n T j)
          clear hv2 y0 y1 y2 q1 t4
          refine (make6_any v2 (n : Int) v K u (.slice none 0 0) (votesJ ⟨#[115]⟩ n T j) [] wr HSG.out (reqs_nil _) (by rw [votesJ_len]; have := HQN.out; omega) (fun p hp => by
            obtain ⟨k, _, rfl⟩ := votesJ_mem hp
            show (tagsTo ⟨#[115]⟩ (k : Int) T n).length ≤ 1000
            rw [tags_len]; have := HN.out; omega) (by simp) (by simp)).mono ?_
          rintro e w12 ⟨f0, fc, h0, hc, rfl, hs12, hr12, hb12⟩
          have YA12 := Lib.hid (YA9.out.on hb12)
          have XB12 := Lib.hid (XR9.out.on hb12).below
          have R12 := Lib.hid (R9.out.later hb12)
          have HS12 := Lib.hid hs12
          have HR12 := Lib.hid hr12
          obtain ⟨p2, hp2⟩ : ∃ p2, leaderI v2 (n : Int) = p2 := ⟨_, rfl⟩
          rw [hp2]
          have HP2 := Lib.hid hp2
          obtain ⟨V, hV⟩ : ∃ V, votesJ ⟨#[115]⟩ n T j = V := ⟨_, rfl⟩
          have HRT2 := Lib.hid (show rightBlock v2 p2 v K V (onceN 3 []) = true by rw [← hp2, ← hV]; exact next_right HVV.out.1 HV2.out HN.out HQN.out.1 HKZ.out)
          have HHO := Lib.hid (fun (i : Nat) (hi : i < n) => (show certHolds ⟨#[115]⟩ (i : Int) (n : Int) v K V = true by
            rw [← hV, ← HTT.out, ← HQ.out]
            exact votesJ_holds HN.out ⟨HVV.out.1, by have := HVV.out; omega⟩ HKZ.out i hi))
          obtain ⟨C, hC⟩ : ∃ C : List Rq, onceN 3 [] = C := ⟨_, rfl⟩
          have HTW := Lib.hid (show twiceR C = false by rw [← hC]; exact onceN_twice 3 [])
          rw [hV] at HS12 ⊢
          rw [hC] at HR12 HRT2 ⊢
          clear hs12 hr12 hb12 hp2 hV hC YA9 R9
          go_upto_region 17 with fail
          have A13 := Lib.hid ((Below.refl w12.heap.size w12).alloc (Nat.le_refl _) (.cells #[.int .i64 v2, .int .i64 p2, .int .i64 v, .string K, .slice f0 V.length fc, .slice h0 C.length hc] 32))
          have S13 := Lib.hid (show BS w4 ya [.int .i64 v, .int .i64 p, .int .i64 0, .string F, .slice d0 0 dc, .slice e0 A.length ec] w12.heap.size [.int .i64 v2, .int .i64 p2, .int .i64 v, .string K, .slice f0 V.length fc, .slice h0 C.length hc] (w12.alloc (.cells #[.int .i64 v2, .int .i64 p2, .int .i64 v, .string K, .slice f0 V.length fc, .slice h0 C.length hc] 32)) from
            ⟨YA12.out.on A13.out, (box_mk w12 [.int .i64 v2, .int .i64 p2, .int .i64 v, .string K, .slice f0 V.length fc, .slice h0 C.length hc] 32).cell, by simp⟩)
          have BW13 := Lib.hid (XB12.out.trans (A13.out.mono XB12.out.size))
          have R13 := Lib.hid (R12.out.later A13.out)
          have SS13 := Lib.hid (HS12.out.later A13.out)
          have SR13 := Lib.hid (HR12.out.later A13.out)
          generalize w12.alloc (.cells #[.int .i64 v2, .int .i64 p2, .int .i64 v, .string K, .slice f0 V.length fc, .slice h0 C.length hc] 32) = w13 at *
          obtain ⟨yb, hyb⟩ : ∃ yb, w12.heap.size = yb := ⟨_, rfl⟩
          rw [hyb] at S13 ⊢
          clear hyb A13 YA12 R12 HS12 HR12 XB12
          have HSM2 := Lib.hid (right_smallB6 HRT2.out)
          have HTA := Lib.hid (show twiceR A = false by rw [← HA.out]; exact onceN_twice 3 l)
          have WA := Lib.hid (fun (i : Nat) (hi : i < n) wx (hb : Below w13.heap.size w13 wx) => well_ok ⟨#[115]⟩ (i : Int) (n : Int) v p 0 F _ _ [] A wx (HSA.out wx) (R13.out.later hb) (by decide) HSM.out HRT.out HTA.out HNI.out ⟨by omega, by omega⟩ HP.out.symm (by rw [← HFF.out]; exact first_holds _ _ _) (tabs_on HT.out (BW13.out.trans (hb.mono BW13.out.size))))
          have WB := Lib.hid (fun (i : Nat) (hi : i < n) wx (hb : Below w13.heap.size w13 wx) => well_ok ⟨#[115]⟩ (i : Int) (n : Int) v2 p2 v K _ _ V C wx (SS13.out.later hb) (SR13.out.later hb) (by decide) HSM2.out HRT2.out HTW.out HNI.out ⟨by omega, by omega⟩ HP2.out.symm (HHO.out i hi) (tabs_on HT.out (BW13.out.trans (hb.mono BW13.out.size))))
          go_wp2_with fail
          go_loopw [14] (fun x wx => ∃ i : Nat, i ≤ n ∧ x = .int .i64 (i : Int) ∧ BS w4 ya [.int .i64 v, .int .i64 p, .int .i64 0, .string F, .slice d0 0 dc, .slice e0 A.length ec] yb [.int .i64 v2, .int .i64 p2, .int .i64 v, .string K, .slice f0 V.length fc, .slice h0 C.length hc] wx ∧ Below w13.heap.size w13 wx) (fun x _ => n - (intOf x).toNat)
          case atStart => exact ⟨0, Nat.zero_le _, rfl, S13.out, Below.refl _ _⟩
          case round =>
            obtain ⟨i, hi, rfl, hS, hB⟩ := hrel
            have SR := Lib.hid hS
            have BR := Lib.hid hB
            have HI := Lib.hid hi
            have i0 : (0 : Int) ≤ (i : Int) := by omega
            have ib : (i : Int) ≤ 7 := by omega
            clear hS hB
            by_cases hlt3 : i < n
            · have t5 : (i : Int) < (n : Int) := by omega
              have HLT := Lib.hid hlt3
              obtain ⟨⟨q0, q1, q2, q3, q4, q5⟩, y0, y1, y2, y3, y4, y5⟩ := cells6 SR.out
              clear hi hlt3
              go_wp2_with fail
              refine (WA.out i HLT.out wr BR.out).mono ?_
              rintro e w14 ⟨rfl, hb14⟩
              have S14 := Lib.hid (SR.out.on hb14)
              have B14 := Lib.hid (BR.out.trans (hb14.mono BR.out.size))
              clear hb14 q0 q1 q2 q3 q4 q5 y0 y1 y2 y3 y4 y5
              obtain ⟨⟨q0, q1, q2, q3, q4, q5⟩, y0, y1, y2, y3, y4, y5⟩ := cells6 S14.out
              go_wp2_with fail
              refine (WB.out i HLT.out w14 B14.out).mono ?_
              rintro e w15 ⟨rfl, hb15⟩
              have S15 := Lib.hid (S14.out.on hb15)
              have B15 := Lib.hid (B14.out.trans (hb15.mono B14.out.size))
              clear hb15 q0 q1 q2 q3 q4 q5 y0 y1 y2 y3 y4 y5
              go_wp2_with fail
              go_roundw
              case rel => exact ⟨i + 1, by have := HLT.out; omega, by go_num, S15.out, B15.out⟩
              case measure => have := HLT.out; simp [intOf]; omega
            · obtain rfl : i = n := by omega
              have t5 : ¬ (i : Int) < (i : Int) := by omega
              clear hi hlt3
              have CA := Lib.hid (fun wx (hb : Below w13.heap.size w13 wx) => HKK.out ▸ bdigest_any v p 0 F _ _ [] A wx (HSA.out wx) (R13.out.later hb) HSM.out.1 HSM.out.2.1 HSM.out.2.2.1 (tabs_on HT.out (BW13.out.trans (hb.mono BW13.out.size))))
              go_upto_region 22 with fail
              refine plan_abs (fun wx => BS w4 ya [.int .i64 v, .int .i64 p, .int .i64 0, .string F, .slice d0 0 dc, .slice e0 A.length ec] yb [.int .i64 v2, .int .i64 p2, .int .i64 v, .string K, .slice f0 V.length fc, .slice h0 C.length hc] wx) [(true, 0), (true, 2), (false, 1), (false, 3), (true, 4), (true, 5)] (by kernel_rfl) (by kernel_rfl) (fun _ _ d _ _ h => by cases d <;> exact h) fun w16 hs16 => ⟨SR.out.same hs16, ?_⟩
              have S16 := Lib.hid (SR.out.same hs16)
              have B16 := Lib.hid (BR.out.trans ((hs16.below wr.heap.size).mono BR.out.size))
              clear hs16
              iterate 2 (refine pl_run _ ?_ rfl rfl ?_ ?_; rotate_left; (focus (intro w' hS; obtain ⟨⟨q0, q1, q2, q3, q4, q5⟩, y0, y1, y2, y3, y4, y5⟩ := cells6 hS; go_simp; exact rfl)); simp only [Act.put, List.setIfInBounds_toArray, List.set_cons_zero, List.set_cons_succ, List.getElem_toArray, List.getElem_cons_zero, List.getElem_cons_succ])
              refine pl_call1 _ rfl rfl (by go_simp) (parent_any v2 p2 v K f0 h0 V.length fc C.length hc w16) (fun w' hb => S16.out.on hb) fun w17 hb17 => ?_
              have S17 := Lib.hid (S16.out.on hb17)
              have B17 := Lib.hid (B16.out.trans (hb17.mono B16.out.size))
              clear hb17
              simp only [Act.put, List.setIfInBounds_toArray, List.set_cons_zero, List.set_cons_succ, List.getElem_toArray, List.getElem_cons_zero, List.getElem_cons_succ]
              refine pl_call1 _ rfl rfl (by go_simp) (CA.out w17 B17.out) (fun w' hb => S17.out.on hb) fun w18 hb18 => ?_
              have B18 := Lib.hid (B17.out.trans (hb18.mono B17.out.size))
              have BWF := Lib.hid (BW13.out.trans (B18.out.mono BW13.out.size))
              clear hb18
              simp only [Act.put, List.setIfInBounds_toArray, List.set_cons_zero, List.set_cons_succ, List.getElem_toArray, List.getElem_cons_zero, List.getElem_cons_succ]
              iterate 2 (refine pl_run _ ?_ rfl rfl ?_ ?_; rotate_left; (focus (intro w' hS; obtain ⟨⟨q0, q1, q2, q3, q4, q5⟩, y0, y1, y2, y3, y4, y5⟩ := cells6 hS; go_simp; exact rfl)); simp only [Act.put, List.setIfInBounds_toArray, List.set_cons_zero, List.set_cons_succ, List.getElem_toArray, List.getElem_cons_zero, List.getElem_cons_succ])
              refine pl_end ?_
              go_wp2_with fail
              go_ret
              exact ⟨rfl, BWF.out⟩
theorem lawe_card (a b : Nat) (rv : Value) (l : List Rq) (m : Nat) (w : World) (ha : a < 256) (hb : b < 256) (hr : ReqsAt w rv l) (_hl : l.length ≤ 9223372036854775807) (h64 : ∀ r ∈ l, In64 (keyR r)) (hm : m < 256) (hT : Tabs w) :
    Calls Tryz.prog 3 #[.agg #[.int .u8 (a : Int), .int .u8 (b : Int)], rv, .int .u8 (m : Int)] w fun e w' => e = .returned (.bool true) ∧ Below w.heap.size w w' := by
  by_cases h : 20 < l.length
  · exact lawe_big a b rv l m w hr h hT
  · exact lawe_in a b rv l m w hr (by omega) h64 ha hb hm hT
end Go.Proofs.YtegkhhegapnkpaaGreatDoor
