/-
  What comes in to the laws of tallies, opened.
-/
import Derived.Test.YtegkhhegapnkpaaDoorKTaRefC
import Derived.Test.YtegkhhegapnkpaaDoorKEOpen
import Derived.Test.YtegkhhegapnkpaaDoorKERefS
import Derived.Test.YtegkhhegapnkpaaDoorKFAdopt
import Derived.Lib.SmallJoins
section
open Go Go.RowKit
namespace TA
open RR FF JJ CC MM WW BB
/-- how many certificates there were -/
def madeN (n : Nat) (who : List Nat) : Int := if quorumI (n : Int) ≤ (who.length : Int) then 1 else 0
theorem who_len {n : Nat} {who : List Nat} (h : who.Nodup) (hk : ∀ k ∈ who, k < n) : who.length ≤ n := by
  have := List.Nodup.length_le_of_subset (l₂ := List.range n) h fun u hu => List.mem_range.2 (hk u hu)
  simpa using this
theorem cast_at (who : List Nat) (j : Nat) (h : j < who.length) : (who.map fun (k : Nat) => (k : Int)).getD j 0 = ((who.getD j 0 : Nat) : Int) := by
  rw [List.getD_eq_getElem?_getD, List.getElem?_map, List.getElem?_eq_getElem h, List.getD_eq_getElem?_getD, List.getElem?_eq_getElem h]; rfl
theorem mem_take14 {who : List Nat} {j : Nat} (h : j < who.length) (k : Nat) : decide (k ∈ who.take (j + 1)) = (decide (k ∈ who.take j) || decide (((who.getD j 0 : Nat) : Int) = (k : Int))) := by
  rw [List.take_add_one, List.getElem?_eq_getElem h, List.getD_eq_getElem?_getD, List.getElem?_eq_getElem h, Bool.eq_iff_iff, Bool.or_eq_true, decide_eq_true_iff, decide_eq_true_iff, decide_eq_true_iff, List.mem_append]
  show _ ∨ k ∈ [who[j]] ↔ _ ∨ ((who[j] : Nat) : Int) = (k : Int)
  rw [List.mem_singleton]
  constructor
  · exact fun h => h.imp id fun e => by rw [e]
  · exact fun h => h.imp id fun e => by omega
end TA
namespace Go.Proofs.YtegkhhegapnkpaaDoor
open TA RR FF JJ CC MM WW BB
set_option maxRecDepth 100000 in
set_option maxHeartbeats 32000000 in
theorem lawA14 (C : Code14) (a : Nat) (l : List Nat) (wv : Value) (b : Nat) (w : World) (ha : a < 256) (hb : b < 256) (hT : Tabs w) (hv : NatsAt w wv l) :
    Calls Tryd.prog 12 #[.int .u8 (a : Int), wv, .int .u8 (b : Int)] w fun e w' => e = .returned (.bool true) ∧ Below w.heap.size w w' := by
  have HT := Lib.hid hT
  have HAB := Lib.hid (And.intro ha hb)
  obtain ⟨ad, cap, rfl, hlm, h256, hx⟩ := hv
  have HX := Lib.hid hx
  have H256 := Lib.hid h256
  clear hT ha hb hx h256
  go_enter Tryd.func12, Tryd.ntmps12
  go_wp2_with fail
  refine (awake14_any C w HT.out).mono ?_
  rintro e w1 ⟨rfl, hb1⟩
  have B1 := Lib.hid hb1
  clear hb1
  by_cases h30 : (30 : Int) < (l.length : Int)
  · have t1 : decide ((30 : Int) < (l.length : Int)) = true := decide_eq_true h30
    clear h30
    go_wp2_with fail
    refine (awake14_any C w1 (tabs_on HT.out B1.out)).mono ?_
    rintro e wz ⟨rfl, hbz⟩
    have BZ := Lib.hid (B1.out.trans (hbz.mono B1.out.size))
    go_wp2_with fail
    go_ret
    exact ⟨rfl, BZ.out⟩
  have t1 : decide ((30 : Int) < (l.length : Int)) = false := decide_eq_false h30
  have HL30 := Lib.hid (show l.length ≤ 30 by omega)
  obtain ⟨n, hn⟩ : ∃ n : Nat, (1 + (a : Int) % 7) = (n : Int) := ⟨1 + a % 7, by omega⟩
  have HN := Lib.hid (show 1 ≤ n ∧ n ≤ 7 by omega)
  have n1 : (1 : Int) ≤ (n : Int) := by omega
  have n7 : (n : Int) ≤ 7 := by omega
  have nz : ¬ (n : Int) = 0 := by omega
  obtain ⟨v, hv⟩ : ∃ v : Int, 1 + (b : Int) = v := ⟨_, rfl⟩
  have HVV := Lib.hid (show 1 ≤ v ∧ v ≤ 1000000 by have := HAB.out; omega)
  have a0' : (0 : Int) ≤ (a : Int) := by omega
  have a1' : (a : Int) ≤ 255 := by have := HAB.out; omega
  have b0' : (0 : Int) ≤ (b : Int) := by omega
  have b1' : (b : Int) ≤ 255 := by have := HAB.out; omega
  clear h30
  go_wp2_with fail
  clear t1 a0' a1' b0' b1' hn hv
  refine (first_any w1 (tabs_on HT.out B1.out)).mono ?_
  rintro e w2 ⟨rfl, hb2⟩
  have B2 := Lib.hid (B1.out.trans (hb2.mono B1.out.size))
  have hfd := cert_f1 0 firstD (.slice none 0 0)
  obtain ⟨F, hF⟩ : ∃ F, firstD = F := ⟨_, rfl⟩
  have HF := Lib.hid hF
  have HFZ := Lib.hid (show F.size = 32 by rw [← hF]; exact firstD_size)
  rw [hF] at hfd ⊢
  clear hb2 hF
  go_wp2_with fail
  clear hfd
  refine (ta_new C w w2 ⟨#[115]⟩ 0 (n : Int) B2.out (by decide)).mono ?_
  rintro e w3 ⟨g, rfl, h3, _⟩
  have H3 := Lib.hid (h3.less (Z' := fun b => (Value.slice none 0 0).ownBlock = some b) fun b h => by cases h)
  clear h3
  obtain ⟨X, hX⟩ : ∃ X, textB v F = X := ⟨_, rfl⟩
  have HXE := Lib.hid hX
  have HXZ := Lib.hid (show X.size ≤ 100000 by rw [← hX, textB_size]; have := HFZ.out; omega)
  have HTX := Lib.hid (fun wx => hX ▸ text5_any v F (by have := HFZ.out; omega) wx)
  clear hX
  obtain ⟨f, hf⟩ : ∃ f, faultsI (n : Int) = f := ⟨_, rfl⟩
  have HQI := Lib.hid (show quorumI (n : Int) = (n : Int) - ((n : Int) - 1) / 3 by unfold quorumI faultsI; rw [if_neg (by omega), if_neg (by omega)])
  clear hf
  go_wp2_with fail
  go_loopw [11, 12, 13] (fun x y z wr => ∃ (i : Nat) (who : List Nat), i ≤ l.length ∧ z = .int .i64 (i : Int) ∧ y = .int .i64 (madeN n who) ∧ TaX C w (fun b => x.ownBlock = some b) g (TA14 ⟨#[115]⟩ n v who) wr ∧ wr.ownsRow w3.heap.size 3 1 x who.length ((who.map fun (k : Nat) => (k : Int)).map (Value.int .i64)) ∧ (InvTa (TA14 ⟨#[115]⟩ n v who) ∧ who.Nodup ∧ ∀ k ∈ who, k < n) ∧ w3.heap.size ≤ wr.heap.size) (fun _ _ z _ => l.length - (intOf z).toNat)
  case atStart => exact ⟨0, [], Nat.zero_le _, rfl, by unfold madeN; rw [if_neg (by have := HQI.out; have := HN.out; show ¬ quorumI (n : Int) ≤ 0; omega)], H3.out, World.ownsRow_nil _ _ _ _, ⟨inv_newT _ _ _, List.nodup_nil, fun k hk => by cases hk⟩, Nat.le_refl _⟩
  case round =>
    obtain ⟨i, who, hi, rfl, rfl, hst, hrow, hwho, hzr⟩ := hrel
    have HST := Lib.hid hst
    have HROW := Lib.hid hrow
    have HWHO := Lib.hid hwho
    have HII := Lib.hid hi
    have HZR := Lib.hid hzr
    have HWL := Lib.hid (who_len hwho.2.1 hwho.2.2)
    have i0 : (0 : Int) ≤ (i : Int) := by omega
    have ib : (i : Int) ≤ 30 := by have := HL30.out; omega
    obtain ⟨M, hM⟩ : ∃ M, madeN n who = M := ⟨_, rfl⟩
    have HMD := Lib.hid hM
    rw [hM]
    obtain ⟨xa, xc, rfl⟩ := row_shape14 hrow
    clear hst hrow hwho hi hzr hM
    by_cases hlt : i < l.length
    · have hlt' : (i : Int) < (l.length : Int) := by omega
      have HLT := Lib.hid hlt
      obtain ⟨gb, off, rfl, hbw, hcell⟩ : ∃ b off, ad = some ⟨b, off, none⟩ ∧ b < w.heap.size ∧ ∀ i, i < l.length → w.cell? ⟨b, off + i, none⟩ = some (.int .u8 (l.getD i 0 : Int)) := by
        rcases HX.out with h | h
        · rw [h] at hlt; simp at hlt
        · exact h
      have ci := (HST.out.below.cell (p := ⟨gb, off + i, none⟩) hbw).trans (hcell i hlt)
      obtain ⟨wi, hwi⟩ : ∃ wi, l.getD i 0 = wi := ⟨_, rfl⟩
      have w0' : (0 : Int) ≤ (wi : Int) := by omega
      have w1' : (wi : Int) ≤ 255 := by have := H256.out _ (CC.getD_mem' l 0 i hlt); omega
      rw [hwi] at ci
      obtain ⟨k, hk⟩ : ∃ k : Nat, k = wi % n := ⟨_, rfl⟩
      have m1 : (wi : Int).tmod (n : Int) = (k : Int) := by rw [hk]; rfl
      have m2 : (wi : Int) % (n : Int) = (k : Int) := by rw [hk]; rfl
      have HKN := Lib.hid (show k < n by rw [hk]; exact Nat.mod_lt _ (by have := HN.out; omega))
      clear hwi hk hlt hbw hcell
      go_wp2_with fail
      clear m1 m2 ci w0' w1'
      refine (HTX.out wr).mono ?_
      rintro e w4 ⟨rfl, hb4⟩
      have Y4 := Lib.hid hb4
      have H4 := Lib.hid (HST.out.on hb4)
      clear hb4
      go_wp2_with fail
      refine (sign_ok ⟨#[115]⟩ (k : Int) n X (among_mk (by have := HN.out; omega) (by have := HN.out; omega) (by omega) (by have := HKN.out; omega)) (by decide) HXZ.out w4 (tabs_on HT.out H4.out.below)).mono ?_
      rintro e w5 ⟨bt, hbl, rfl, hbt, hb5⟩
      have A6 := (Below.refl w5.heap.size w5).alloc (Nat.le_refl _) (.cells #[.int .i64 (k : Int), .slice (some ⟨bt, 0, none⟩) n n] 98)
      have HDT := Lib.hid ((tags_dep hbt).on (Keeps.of A6))
      have HBT := Lib.hid (And.intro hbl (Nat.lt_of_lt_of_le hbt.lt A6.size))
      have Y6 := Lib.hid (Y4.out.trans ((hb5.trans (A6.mono hb5.size)).mono Y4.out.size))
      have L6 := Lib.hid (show Blk (w5.alloc (.cells #[.int .i64 (k : Int), .slice (some ⟨bt, 0, none⟩) n n] 98)) w5.heap.size 2 (rowL [.int .i64 (k : Int), .slice (some ⟨bt, 0, none⟩) n n]) from Blk.new' rfl (row2_ _ _))
      clear hbl hbt hb5 A6
      go_upto_region 14 with fail
      obtain ⟨y, hy⟩ : ∃ y, w5.heap.size = y := ⟨_, rfl⟩
      obtain ⟨w6, hw6⟩ : ∃ w6, w5.alloc (.cells #[.int .i64 (k : Int), .slice (some ⟨bt, 0, none⟩) n n] 98) = w6 := ⟨_, rfl⟩
      rw [hw6] at HDT HBT Y6 L6 ⊢
      rw [hy] at L6 ⊢
      clear hw6 hy
      go_wp2_with fail
      go_loopw [17, 18] (fun x z wx => ∃ j : Nat, j ≤ who.length ∧ z = .int .i64 (j : Int) ∧ x = .bool (decide (k ∈ who.take j)) ∧ Below w6.heap.size w6 wx) (fun _ z _ => who.length - (intOf z).toNat)
      case atStart => exact ⟨0, Nat.zero_le _, rfl, rfl, Below.refl _ _⟩
      case round =>
        obtain ⟨j, hj, rfl, rfl, hbj⟩ := hrel
        have HBJ := Lib.hid hbj
        have HJ := Lib.hid hj
        have j0 : (0 : Int) ≤ (j : Int) := by omega
        have jb : (j : Int) ≤ 7 := by have := HWL.out; have := HN.out; omega
        obtain ⟨D, hD⟩ : ∃ D, decide (k ∈ who.take j) = D := ⟨_, rfl⟩
        have HD := Lib.hid hD
        rw [hD]
        clear hj hbj hD
        by_cases hjt : j < who.length
        · have hjt' : (j : Int) < (who.length : Int) := by omega
          have HJT := Lib.hid hjt
          have HSN := Lib.hid (mem_take14 hjt k)
          have R7 := Lib.hid (row_keep HROW.out fun c hc => (Y6.out.trans (HBJ.out.mono Y6.out.size)).block c (HROW.out.lt c hc).2)
          obtain ⟨q, rfl, hq, hqc⟩ := own_int14 (V := who.map fun (k : Nat) => (k : Int)) (by rw [List.length_map]; exact R7.out) j (by rw [List.length_map]; exact hjt)
          have p0 := hqc wr rfl
          rw [cast_at who j hjt] at p0
          obtain ⟨u, hu⟩ : ∃ u : Int, ((who.getD j 0 : Nat) : Int) = u := ⟨_, rfl⟩
          rw [hu] at p0 HSN
          clear hjt hqc hq hu
          cases D with
          | true =>
            go_wp2_with fail
            go_roundw
            case rel => exact ⟨j + 1, by have := HJT.out; omega, by go_num, by rw [HSN.out, HD.out]; rfl, HBJ.out⟩
            case measure => have := HJT.out; simp [intOf]; omega
          | false =>
            obtain ⟨Q, hQ⟩ : ∃ Q, (u == (k : Int)) = Q := ⟨_, rfl⟩
            have HQ := Lib.hid hQ
            go_wp2_with fail
            go_roundw
            case rel => exact ⟨j + 1, by have := HJT.out; omega, by go_num, by rw [HSN.out, HD.out, ← HQ.out]; rfl, HBJ.out⟩
            case measure => have := HJT.out; simp [intOf]; omega
        · obtain rfl : j = who.length := by have := HJ.out; omega
          have hjt' : ¬ (who.length : Int) < (who.length : Int) := by omega
          have HD := Lib.hid (show decide (k ∈ who) = D by have := HD.out; rw [List.take_length] at this; exact this)
          clear hjt
          obtain ⟨wq, hwq⟩ : ∃ wq, wq = wr := ⟨_, rfl⟩
          rw [← hwq] at HBJ ⊢
          clear hwq
          have YQ := Lib.hid (Y6.out.trans (HBJ.out.mono Y6.out.size))
          have RQ := Lib.hid (row_keep HROW.out fun c hc => YQ.out.block c (HROW.out.lt c hc).2)
          have LQ := Lib.hid (L6.out.below HBJ.out L6.out.lt)
          have HDQ := Lib.hid (HDT.out.on (Keeps.of HBJ.out))
          have ZQ := Lib.hid (Nat.le_trans HZR.out YQ.out.size)
          have HSQ := Lib.hid ((HST.out.more YQ.out (fun b => b = bt) (fun b hb => by rw [hb]; exact Nat.le_trans Y4.out.size HBT.out.1)).less (Z' := fun b => (Value.slice xa who.length xc).ownBlock = some b ∨ b = bt) fun b hb => hb.imp id fun h => ⟨h, by rw [h]; exact Nat.lt_of_lt_of_le HBT.out.2 HBJ.out.size⟩)
          have HVA := Lib.hid (show vA ⟨#[115]⟩ n v k = (v, F, (k : Int), tagsTo ⟨#[115]⟩ (k : Int) X n) by unfold vA; rw [HF.out, HXE.out])
          have HVO := Lib.hid (show Vote14 (TA14 ⟨#[115]⟩ n v who) (v, F, (k : Int), tagsTo ⟨#[115]⟩ (k : Int) X n) from HVA.out ▸ all_vote HVV.out HN.out HKN.out (by decide))
          have HAD0 := Lib.hid (show addT (TA14 ⟨#[115]⟩ n v who) (v, F, (k : Int), tagsTo ⟨#[115]⟩ (k : Int) X n) = TA14 ⟨#[115]⟩ n v (if k ∈ who then who else who ++ [k]) from HVA.out ▸ all_add HVV.out HN.out HKN.out HWL.out)
          have HTD0 := Lib.hid (show toldT (TA14 ⟨#[115]⟩ n v who) (v, F, (k : Int), tagsTo ⟨#[115]⟩ (k : Int) X n) = decide (k ∉ who ∧ (who.length : Int) + 1 = quorumI (n : Int)) from HVA.out ▸ all_told HVV.out HN.out HKN.out HWL.out)
          cases D with
          | true =>
            have HKW := Lib.hid (of_decide_eq_true HD.out)
            have HAD := Lib.hid (show addT (TA14 ⟨#[115]⟩ n v who) (v, F, (k : Int), tagsTo ⟨#[115]⟩ (k : Int) X n) = TA14 ⟨#[115]⟩ n v (who) by rw [HAD0.out, if_pos HKW.out])
            have HTD := Lib.hid (show toldT (TA14 ⟨#[115]⟩ n v who) (v, F, (k : Int), tagsTo ⟨#[115]⟩ (k : Int) X n) = false by rw [HTD0.out]; exact decide_eq_false fun h => h.1 HKW.out)
            have HIA := Lib.hid HWHO.out.1
            have HQ := Lib.hid HSQ.out
            obtain ⟨d0, d1⟩ := cells2 LQ.out
            go_wp2_with fail
            clear d0 d1
            refine (ta_add C w wq _ g (TA14 ⟨#[115]⟩ n v who) (v, F, (k : Int), tagsTo ⟨#[115]⟩ (k : Int) X n) (.slice (some ⟨bt, 0, none⟩) n n) HT.out HQ.out HWHO.out.1 (fun c => c = bt) HDQ.out (fun c hc => .inr (.inr hc)) HVO.out).mono ?_
            rintro e w8 ⟨cv, rfl, h8, hk8, hc8⟩
            obtain ⟨c1, c2, sa, sn, sc, rfl, _⟩ := cert_shape hc8
            rw [HTD.out]
            have H8 := Lib.hid (show TaX C w _ g (TA14 ⟨#[115]⟩ n v (who)) w8 from HAD.out ▸ h8)
            have R8 := Lib.hid (row_keep RQ.out fun c hc => hk8.block c (.inl hc) (RQ.out.lt c hc).2)
            have Z8 := Lib.hid (Nat.le_trans ZQ.out hk8.b0.size)
            clear h8 hk8 hc8
            have A9 := Lib.hid ((Below.refl w8.heap.size w8).alloc (Nat.le_refl _) (.cells #[.int .i64 c1, .string c2, .slice sa sn sc] 24))
            have H9 := Lib.hid (H8.out.on A9.out)
            have HLN := Lib.hid (show Calls Tryd.prog 61 #[.pointer (some ⟨g, 0, none⟩)] (w8.alloc (.cells #[.int .i64 c1, .string c2, .slice sa sn sc] 24)) fun e w' => e = .returned (.int .i64 (who.length : Int)) ∧ Below (w8.alloc (.cells #[.int .i64 c1, .string c2, .slice sa sn sc] 24)).heap.size (w8.alloc (.cells #[.int .i64 c1, .string c2, .slice sa sn sc] 24)) w' by
              have h := ta_len C w _ _ g _ H9.out HIA.out
              rw [show (TA14 ⟨#[115]⟩ n v (who)).votes.length = who.length by exact List.length_map _] at h
              exact h)
            go_wp2_with fail
            refine HLN.out.mono ?_
            rintro e w10 ⟨rfl, hb10⟩
            have s2 : ((who.length : Int) != (who.length : Int)) = false := by simp
            have Y10 := Lib.hid (A9.out.trans (hb10.mono A9.out.size))
            clear hb10
            go_wp2_with fail
            go_roundw
            case rel => exact ⟨i + 1, who, by have := HLT.out; omega, by go_num, by rw [HMD.out], (H8.out.on Y10.out).less (fun b hb => .inl hb), row_keep R8.out fun c hc => Y10.out.block c (R8.out.lt c hc).2, HWHO.out, Nat.le_trans Z8.out Y10.out.size⟩
            case measure => have := HLT.out; simp [intOf]; omega
          | false =>
            have HKW := Lib.hid (of_decide_eq_false HD.out)
            have HAD := Lib.hid (show addT (TA14 ⟨#[115]⟩ n v who) (v, F, (k : Int), tagsTo ⟨#[115]⟩ (k : Int) X n) = TA14 ⟨#[115]⟩ n v (who ++ [k]) by rw [HAD0.out, if_neg HKW.out])
            obtain ⟨QB, hQB⟩ : ∃ QB, decide ((who.length : Int) + 1 = quorumI (n : Int)) = QB := ⟨_, rfl⟩
            have HQD := Lib.hid hQB
            have HTD := Lib.hid (show toldT (TA14 ⟨#[115]⟩ n v who) (v, F, (k : Int), tagsTo ⟨#[115]⟩ (k : Int) X n) = QB by rw [HTD0.out, ← hQB]; exact decide_eq_decide.2 ⟨fun h => h.2, fun h => ⟨HKW.out, h⟩⟩)
            clear hQB
            have HIA := Lib.hid (show InvTa (TA14 ⟨#[115]⟩ n v (who ++ [k])) from HAD.out ▸ HWHO.out.1.add _)
            have HWH2 := Lib.hid (show (who ++ [k]).Nodup ∧ ∀ j ∈ who ++ [k], j < n from ⟨List.nodup_append.2 ⟨HWHO.out.2.1, List.pairwise_singleton _ _, fun a ha b hb e => HKW.out (by rw [List.mem_singleton.1 hb] at e; exact e ▸ ha)⟩, fun j hj => (List.mem_append.1 hj).elim (HWHO.out.2.2 j) fun h => by rw [List.mem_singleton.1 h]; exact HKN.out⟩)
            -- who, anew
            have A1 := Lib.hid ((Below.refl wq.heap.size wq).alloc (Nat.le_refl _) (.cells #[] 3))
            have O1 := Lib.hid (World.ownsRow_made (base := wq.heap.size) (e := 3) (size := 1) wq #[] 0 (Nat.le_refl _) (Nat.zero_le _) rfl)
            have hfl := own_flat14 (show wq.ownsRow w3.heap.size 3 1 (.slice xa who.length xc) who.length _ from RQ.out) A1.out
            obtain ⟨ti, i1, i2, i3, i4⟩ := info_parts info_int
            obtain ⟨v1, w11, hrun1, hown1, hgr1, hloc1⟩ := run_append_arg0 (P := Tryd.prog) (w := wq.alloc (.cells #[] 3)) wq.heap.size 107 107 3 ti _ 1 8 (by kernel_rfl) i1 i2 i3 i4 rfl (by decide) wq.heap.size O1.out xa who.length xc ((who.map fun (k : Nat) => (k : Int)).map (Value.int .i64)) (by simp) hfl.1 hfl.2 (fun u hu => by obtain ⟨x, _, rfl⟩ := List.mem_map.1 hu; rfl) (by have := HWL.out; have := HN.out; unfold maxLen; omega) (by have := HWL.out; have := HN.out; omega) A1.out.size
            obtain ⟨va, vc, rfl⟩ := row_shape14 hown1
            have B11 := Lib.hid (A1.out.grown hgr1 A1.out.size (fun j hj => by cases hj; exact Nat.le_refl _))
            have A2 := Lib.hid ((Below.refl w11.heap.size w11).alloc (Nat.le_refl _) (.cells #[.int .i64 (k : Int)] 3))
            obtain ⟨u2, w12, hrun2, hown2, hgr2, _, hloc2⟩ := run_append_own_at (P := Tryd.prog) (w := w11.alloc (.cells #[.int .i64 (k : Int)] 3)) wq.heap.size 107 107 3 ti _ 1 8 (by kernel_rfl) i1 i2 i3 i4 rfl (by decide) _ who.length ((who.map fun (k : Nat) => (k : Int)).map (Value.int .i64)) (row_keep hown1 fun c hc => A2.out.block c (hown1.lt c hc).2) ⟨w11.heap.size, 0, none⟩ 1 1 [.int .i64 (k : Int)] rfl (cells1_new14 _ _ _) (by intro u hu; rw [List.mem_singleton.1 hu]; rfl) (by have := HWL.out; have := HN.out; unfold maxLen; omega) (by have := HWL.out; have := HN.out; omega) (Nat.le_trans B11.out.size A2.out.size)
            obtain ⟨xa2, xc2, rfl⟩ := row_shape14 hown2
            have B12 := Lib.hid ((B11.out.trans (A2.out.mono B11.out.size)).grown hgr2 (Nat.le_trans B11.out.size A2.out.size) (fun j hj => (hown1.lt j hj).1))
            have HOW := Lib.hid (show w12.ownsRow wq.heap.size 3 1 (.slice xa2 (who.length + 1) xc2) (who ++ [k]).length (((who ++ [k]).map fun (k : Nat) => (k : Int)).map (Value.int .i64)) by
              rw [List.map_append, List.map_append, List.length_append]; exact hown2)
            clear hown1 hgr1 hloc1 hown2 hgr2 hloc2 i1 i2 i3 i4 hfl
            go_upto_region 21 with (first
              | (at_builtin; refine wpl_append_run14 rfl _ _ _ rfl hrun1 ?_)
              | (at_builtin; refine wpl_append_run14 rfl _ _ _ rfl hrun2 ?_))
            clear hrun1 hrun2
            have HQ := Lib.hid ((HSQ.out.more B12.out (fun b => (Value.slice xa2 (who.length + 1) xc2).ownBlock = some b) (fun b hb => (HOW.out.lt b hb).1)).less (Z' := fun b => (Value.slice xa2 (who.length + 1) xc2).ownBlock = some b ∨ b = bt) fun b hb => hb.elim (fun h => .inr ⟨h, (HOW.out.lt b h).2⟩) fun h => .inl (.inr h))
            have RQ := Lib.hid (own_base HOW.out ZQ.out)
            have LQ := Lib.hid (LQ.out.below B12.out LQ.out.lt)
            have HDQ := Lib.hid (HDQ.out.on (Keeps.of B12.out))
            have ZQ := Lib.hid (Nat.le_trans ZQ.out B12.out.size)
            clear YQ B11 B12 A1 A2 O1 HSQ HBJ
            obtain ⟨wq0, hwq0⟩ : ∃ wq0, w12 = wq0 := ⟨_, rfl⟩
            clear hwq0 wq0
            obtain ⟨d0, d1⟩ := cells2 LQ.out
            go_wp2_with fail
            clear d0 d1
            refine (ta_add C w w12 _ g (TA14 ⟨#[115]⟩ n v who) (v, F, (k : Int), tagsTo ⟨#[115]⟩ (k : Int) X n) (.slice (some ⟨bt, 0, none⟩) n n) HT.out HQ.out HWHO.out.1 (fun c => c = bt) HDQ.out (fun c hc => .inr (.inr hc)) HVO.out).mono ?_
            rintro e w8 ⟨cv, rfl, h8, hk8, hc8⟩
            obtain ⟨c1, c2, sa, sn, sc, rfl, _⟩ := cert_shape hc8
            rw [HTD.out]
            have H8 := Lib.hid (show TaX C w _ g (TA14 ⟨#[115]⟩ n v (who ++ [k])) w8 from HAD.out ▸ h8)
            have R8 := Lib.hid (row_keep RQ.out fun c hc => hk8.block c (.inl hc) (RQ.out.lt c hc).2)
            have Z8 := Lib.hid (Nat.le_trans ZQ.out hk8.b0.size)
            clear h8 hk8 hc8
            have A9 := Lib.hid ((Below.refl w8.heap.size w8).alloc (Nat.le_refl _) (.cells #[.int .i64 c1, .string c2, .slice sa sn sc] 24))
            have H9 := Lib.hid (H8.out.on A9.out)
            have HLN := Lib.hid (show Calls Tryd.prog 61 #[.pointer (some ⟨g, 0, none⟩)] (w8.alloc (.cells #[.int .i64 c1, .string c2, .slice sa sn sc] 24)) fun e w' => e = .returned (.int .i64 ((who.length + 1 : Nat) : Int)) ∧ Below (w8.alloc (.cells #[.int .i64 c1, .string c2, .slice sa sn sc] 24)).heap.size (w8.alloc (.cells #[.int .i64 c1, .string c2, .slice sa sn sc] 24)) w' by
              have h := ta_len C w _ _ g _ H9.out HIA.out
              rw [show (TA14 ⟨#[115]⟩ n v (who ++ [k])).votes.length = (who.length + 1) by rw [show (TA14 ⟨#[115]⟩ n v (who ++ [k])).votes.length = (who ++ [k]).length from List.length_map _, List.length_append]; rfl] at h
              exact h)
            cases HQB : QB with
            | true =>
              have HM0 := Lib.hid (show M = 0 by
                rw [← HMD.out]; unfold madeN; rw [if_neg]
                have h1 := of_decide_eq_true (HQD.out.trans HQB)
                omega)
              have HM1 := Lib.hid (show madeN n (who ++ [k]) = 1 by
                unfold madeN; rw [if_pos]
                have h1 := of_decide_eq_true (HQD.out.trans HQB)
                rw [List.length_append]; push_cast; show quorumI (n : Int) ≤ (who.length : Int) + 1; omega)
              have hm0 := HM0.out
              subst hm0
              have s1 : (who.length : Int) + 1 = (n : Int) - ((n : Int) - 1) / 3 := by rw [← HQI.out]; exact of_decide_eq_true (HQD.out.trans HQB)
              have s1b : ((who.length : Int) + 1 == (n : Int) - ((n : Int) - 1) / 3) = true := by rw [beq_iff_eq]; exact s1
              go_wp2_with fail
              refine HLN.out.mono ?_
              rintro e w10 ⟨rfl, hb10⟩
              have s2 : ((((who.length + 1 : Nat) : Int)) != (((who.length + 1 : Nat) : Int))) = false := by simp
              have s3 : (((who.length : Int) + 1) != ((who.length : Int) + 1)) = false := by simp
              have Y10 := Lib.hid (A9.out.trans (hb10.mono A9.out.size))
              clear hb10
              go_wp2_with fail
              go_roundw
              case rel => exact ⟨i + 1, who ++ [k], by have := HLT.out; omega, by go_num, by rw [HM1.out], (H8.out.on Y10.out).less (fun b hb => .inl hb), row_keep R8.out fun c hc => Y10.out.block c (R8.out.lt c hc).2, ⟨HIA.out, HWH2.out⟩, Nat.le_trans Z8.out Y10.out.size⟩
              case measure => have := HLT.out; simp [intOf]; omega
            | false =>
              have HM1 := Lib.hid (show madeN n (who ++ [k]) = M by
                have h1 := of_decide_eq_false (HQD.out.trans HQB)
                rw [← HMD.out]; unfold madeN
                rw [List.length_append]; push_cast
                by_cases h2 : quorumI (n : Int) ≤ (who.length : Int)
                · rw [if_pos h2, if_pos (by show _ ≤ (who.length : Int) + 1; omega)]
                · rw [if_neg h2, if_neg (by show ¬ _ ≤ (who.length : Int) + 1; omega)])
              have s1 : ¬ (who.length : Int) + 1 = (n : Int) - ((n : Int) - 1) / 3 := by rw [← HQI.out]; exact of_decide_eq_false (HQD.out.trans HQB)
              have s1b : ((who.length : Int) + 1 == (n : Int) - ((n : Int) - 1) / 3) = false := by rw [beq_eq_false_iff_ne]; exact s1
              go_wp2_with fail
              refine HLN.out.mono ?_
              rintro e w10 ⟨rfl, hb10⟩
              have s2 : ((((who.length + 1 : Nat) : Int)) != (((who.length + 1 : Nat) : Int))) = false := by simp
              have s3 : (((who.length : Int) + 1) != ((who.length : Int) + 1)) = false := by simp
              have Y10 := Lib.hid (A9.out.trans (hb10.mono A9.out.size))
              clear hb10
              go_wp2_with fail
              go_roundw
              case rel => exact ⟨i + 1, who ++ [k], by have := HLT.out; omega, by go_num, by rw [HM1.out], (H8.out.on Y10.out).less (fun b hb => .inl hb), row_keep R8.out fun c hc => Y10.out.block c (R8.out.lt c hc).2, ⟨HIA.out, HWH2.out⟩, Nat.le_trans Z8.out Y10.out.size⟩
              case measure => have := HLT.out; simp [intOf]; omega
    · obtain rfl : i = l.length := by have := HII.out; omega
      have hlt' : ¬ (l.length : Int) < (l.length : Int) := by omega
      have hm1 : M ≤ 1 := by rw [← HMD.out]; unfold madeN; split <;> omega
      have hm2 : decide (M ≤ 1) = true := decide_eq_true hm1
      clear hlt
      go_wp2_with fail
      go_ret
      exact ⟨rfl, HST.out.below⟩
end Go.Proofs.YtegkhhegapnkpaaDoor
end
section
open Go Go.RowKit
namespace TA
theorem wf_i6414 {n : Int} (h : (Lit.int .i64 n).wf = true) : I64 n := by
  simp [Lit.wf, IntKind.min, IntKind.max, IntKind.signed, IntKind.bits] at h
  exact ⟨by omega, by omega⟩
end TA
namespace Go.Proofs.YtegkhhegapnkpaaDoor
open TA RR FF CC WW BB Go.WideShapes Go.ChangeShapes Go.Deep
section
variable {H : Type} {enc : TypeId × Value → H} {W : World} {v : Value} {d : DataW H} {p : List MemPlace}
theorem cells_op14 : Tryd.prog.cellsOf 100 = 5 := by kernel_rfl
set_option maxRecDepth 100000 in
theorem openv_pair14 (hval : Value.okWide Tryd.prog W .any 0 89 v) (h : DataW.Trod enc Tryd.prog W 0 (fun _ => true) true 89 v d p) : ∃ a b, v = .agg #[.int .i64 a, .int .i64 b] ∧ I64 a ∧ I64 b := by
  obtain ⟨a, b, rfl, _, _, h1, h2⟩ := Go.WideMaps.open_pair (k := 89) (e := 3) ⟨Tryd.underlying89, by kernel_rfl, by kernel_rfl, by kernel_rfl⟩ Tryd.underlying3 hval h
  exact ⟨a, b, rfl, wf_i6414 h1, wf_i6414 h2⟩
set_option maxRecDepth 100000 in
/-- a signature, its node's number of 64 bits -/
theorem open_sig14 {fuel : Nat} {cs : List Value} {x : DataW H × List MemPlace} (h : TrodW enc W fuel 98 cs x) : ∃ f tv ts, cs = [.int .i64 f, tv] ∧ StrsAt W tv ts ∧ ts.length ≤ 9223372036854775807 ∧ I64 f := by
  obtain ⟨y0, y1, n, _, hl, h0, h1⟩ := trod_struct2 Tryd.underlying98 h
  rw [cells_sig] at hl
  match cs, hl with
  | [u0, u1], _ =>
    obtain ⟨f, hf, _, wf⟩ := DataW.trod_int Tryd.underlying3 h0
    obtain ⟨tv, ts, htv, hts, hm⟩ := open_strs h1
    have e0 : [u0] = [.int .i64 f] := hf
    have e1 : [u1] = [tv] := htv
    simp only [List.cons.injEq, and_true] at e0 e1
    exact ⟨f, tv, ts, by rw [e0, e1], hts, hm, wf_i6414 wf⟩
set_option maxRecDepth 100000 in
theorem open_op14 {fuel : Nat} {cs : List Value} {x : DataW H × List MemPlace} (h : TrodW enc W fuel 100 cs x) : ∃ o : Vw, cs = encW o ∧ StrsAt W o.2.1 o.1.2.2.2 ∧ MemV o.1 := by
  obtain ⟨y0, y1, y2, y3, n, _, hl, h0, h1, h2, h3⟩ := Joins.trod_struct4 Tryd.underlying100 h
  rw [cells_op14] at hl
  match cs, hl with
  | [u0, u1, u2, u3, u4], _ =>
    obtain ⟨a, e0, _, wa⟩ := DataW.trod_int Tryd.underlying3 h0
    obtain ⟨s, e1, _, hm⟩ := DataW.trod_string Tryd.underlying9 h1
    obtain ⟨f, tv, ts, e2, hts, hl2, wf⟩ := open_sig14 (cs := [u2, u3]) h2
    obtain ⟨b, e3, _⟩ := DataW.trod_bool Tryd.underlying4 h3
    have e0 : [u0] = [.int .i64 a] := e0
    have e1 : [u1] = [.string s] := e1
    have e3 : [u4] = [.bool b] := e3
    simp only [List.cons.injEq, and_true] at e0 e1 e2 e3
    exact ⟨((a, s, f, ts), tv, b), by rw [e0, e1, e2.1, e2.2, e3]; rfl, hts, wf_i6414 wa, wf, len_max hm, hl2⟩
set_option maxRecDepth 100000 in
theorem openv_ops14 (hval : Value.okWide Tryd.prog W .any 0 90 v) (h : DataW.Trod enc Tryd.prog W 0 (fun _ => true) true 90 v d p) : ∃ l : List Vw, OpsA W v l ∧ MemA l := by
  obtain ⟨s0, len, scap, rfl⟩ := okWide_slice Tryd.underlying90 hval
  obtain ⟨fuel, hf⟩ := h
  obtain ⟨a0, cap, l, hc, hm, hl⟩ := open_each (α := Vw) 5 vw0 (fun cs' a => cs' = encW a ∧ StrsAt W a.2.1 a.1.2.2.2 ∧ MemV a.1) Tryd.underlying90 cells_op14 (by omega) hf (fun n cs' y hy => open_op14 hy)
  have hc : [Value.slice s0 len scap] = [.slice a0 l.length cap] := hc
  simp only [List.cons.injEq, and_true] at hc
  rw [hc]
  refine ⟨l, ⟨a0, cap, rfl, ?_⟩, hm, fun o ho => ?_⟩
  · rcases hl with hl | ⟨b, off, hb, hlt, hx⟩
    · exact Or.inl hl
    · refine Or.inr ⟨b, off, hb, hlt, fun i hi => ?_⟩
      obtain ⟨cs', h1, ⟨rfl, h2, _⟩, h4⟩ := hx i hi
      exact ⟨h4 0 (by omega), h4 1 (by omega), h4 2 (by omega), h4 3 (by omega), h4 4 (by omega), h2⟩
  · rcases hl with hl | ⟨b, off, hb, hlt, hx⟩
    · subst hl; cases ho
    · obtain ⟨i, hi, rfl⟩ := List.getElem_of_mem ho
      obtain ⟨cs', h1, ⟨_, _, h2⟩, h4⟩ := hx i hi
      rw [List.getD_eq_getElem?_getD, List.getElem?_eq_getElem hi] at h2
      exact h2
end
end Go.Proofs.YtegkhhegapnkpaaDoor
end
