/-
  The walk of the reference's Holds.
-/
import Derived.Test.YtigoaokpodggcaaDoorKERight
import Derived.Test.YtigoaokpodggcaaDoorKEText
import Derived.Test.YtigoaokpodggcaaDoorKMHolds
import Derived.Test.YtigoaokpodggcaaDoorKLLawC
import Derived.Test.YtigoaokpodggcaaDoorKWCutR
section
open Go Go.RowKit
namespace CC
open MM WW BB
/-- the nodes whose signatures hold, of the first i -/
def goodTo (P : Int × List ByteArray → Bool) (l : List (Int × List ByteArray)) (i : Nat) : List Int := ((l.take i).filter P).map fun p => p.1
theorem good_snoc (P : Int × List ByteArray → Bool) (l : List (Int × List ByteArray)) (i : Nat) (h : i < l.length) : goodTo P l (i + 1) = if P (l.getD i (0, [])) = true then goodTo P l i ++ [(l.getD i (0, [])).1] else goodTo P l i := by
  unfold goodTo
  rw [List.take_succ_eq_append_getElem h, List.filter_append, List.map_append]
  have e : l.getD i (0, []) = l[i] := by simp [List.getD, List.getElem?_eq_getElem h]
  rw [e]
  by_cases hp : P l[i] = true <;> simp [hp]
theorem good_len (P : Int × List ByteArray → Bool) (l : List (Int × List ByteArray)) (i : Nat) : (goodTo P l i).length ≤ l.length := by
  unfold goodTo
  rw [List.length_map]
  have := List.length_filter_le P (l.take i)
  rw [List.length_take] at this
  omega
/-- the nodes whose signatures hold -/
def goodL (s : ByteArray) (d n v : Int) (k : ByteArray) (l : List (Int × List ByteArray)) : List Int :=
  if rightCert v k l = true then goodTo (fun p => holdsB s d n (textB v k) p.1 p.2) l l.length else []
/-- does it hold? -/
def certHolds (s : ByteArray) (d n v : Int) (k : ByteArray) (l : List (Int × List ByteArray)) : Bool :=
  if v = 0 then decide (k = firstD ∧ l = []) else decide (quorumI n ≤ ((goodL s d n v k l).length : Int))
structure GAt (w : World) (e : TypeId) (out : List Int) (u : Value) (wr : World) : Prop where
  below : Below w.heap.size w wr
  own : wr.ownsRow w.heap.size e 1 u out.length (out.map (Value.int .i64))
theorem GAt.on {w w1 w2 : World} {e : TypeId} {out : List Int} {u : Value} (h : GAt w e out u w1) (hb : Below w1.heap.size w1 w2) : GAt w e out u w2 :=
  ⟨h.below.trans (hb.mono h.below.size), row_keep h.own fun c hc => hb.block c (h.own.lt c hc).2⟩
end CC
namespace Go.Proofs.YtigoaokpodggcaaDoor
open CC MM WW BB
theorem tabs_on {w w' : World} (h : Tabs w) (hb : Below w.heap.size w w') : Tabs w' := h.below hb (Nat.le_refl _)
theorem holds5_is (s : ByteArray) (d n : Int) (t : ByteArray) (f : Int) (tv : Value) (ts : List ByteArray) (b : Bool) (h : holdsB s d n t f ts = b) (w : World) (hv : StrsAt w tv ts) (hn : ts.length ≤ 1000) (hs : s.size ≤ 1000) (ht : t.size ≤ 100000) (hT : Tabs w) :
    Calls Tryd.prog 27 #[.string s, .int .i64 d, .int .i64 n, .string t, .agg #[.int .i64 f, tv]] w fun e w' => e = .returned (.bool b) ∧ Below w.heap.size w w' := h ▸ holds_any s d n t f tv ts w hv (by omega) hs ht hT
set_option maxRecDepth 100000 in
set_option maxHeartbeats 8000000 in
theorem good_any (s : ByteArray) (d n v : Int) (k : ByteArray) (sv : Value) (l : List (Int × List ByteArray)) (w : World) (hv : SigsAt w sv l) (hs : s.size ≤ 1000) (hk : k.size ≤ 1000) (hsm : SmallS l) (hz : (certB v k l).size ≤ 1000000) (hT : Tabs w) :
    Calls Tryd.prog 10 #[.string s, .int .i64 d, .int .i64 n, .agg #[.int .i64 v, .string k, sv]] w fun e w' => ∃ v', e = .returned v' ∧ IntsAt w' v' (goodL s d n v k l) ∧ Below w.heap.size w w' := by
  have HV := Lib.hid hv
  have HS := Lib.hid hs
  have HK := Lib.hid hk
  have HSM := Lib.hid hsm
  have HZ := Lib.hid hz
  have HT := Lib.hid hT
  obtain ⟨a0, cap, rfl, _⟩ := hv
  clear hs hk hsm hz hT
  obtain ⟨G, hG⟩ : ∃ G, goodL s d n v k l = G := ⟨_, rfl⟩
  obtain ⟨R, hR⟩ : ∃ R, rightCert v k l = R := ⟨_, rfl⟩
  have HG := Lib.hid hG
  have HR := Lib.hid hR
  rw [hG]
  clear hG hR
  have b1 := Lib.hid ((Below.refl w.heap.size w).alloc (Nat.le_refl _) (.cells #[.int .i64 v, .string k, .slice a0 l.length cap] 24))
  have q0 := cell_new w #[.int .i64 v, .string k, .slice a0 l.length cap] 24 0 _ rfl
  have q1 := cell_new w #[.int .i64 v, .string k, .slice a0 l.length cap] 24 1 _ rfl
  have q2 := cell_new w #[.int .i64 v, .string k, .slice a0 l.length cap] 24 2 _ rfl
  go_enter Tryd.func10, Tryd.ntmps10
  go_wp2_with fail
  obtain ⟨w1, hw1⟩ : ∃ w1, w.alloc (.cells #[.int .i64 v, .string k, .slice a0 l.length cap] 24) = w1 := ⟨_, rfl⟩
  rw [hw1] at q0 q1 q2 b1 ⊢
  clear hw1
  obtain ⟨g, hg⟩ : ∃ g, w.heap.size = g := ⟨_, rfl⟩
  have HGG := Lib.hid hg
  rw [hg] at q0 q1 q2 ⊢
  clear hg
  refine (cright_any v k _ l _ (HV.out.later b1.out) HK.out HSM.out HZ.out).mono ?_
  rintro e w2 ⟨rfl, hb2⟩
  rw [HR.out]
  have B2 := Lib.hid (b1.out.trans (hb2.mono b1.out.size))
  have q0 := (hb2.cell (p := ⟨g, 0, none⟩) (World.block_lt_of_cell? w1 _ q0)).trans q0
  have q1 := (hb2.cell (p := ⟨g, 1, none⟩) (World.block_lt_of_cell? w1 _ q1)).trans q1
  have q2 := (hb2.cell (p := ⟨g, 2, none⟩) (World.block_lt_of_cell? w1 _ q2)).trans q2
  clear hb2 b1
  cases R with
  | false =>
    clear q0 q1 q2
    go_wp2_with fail
    go_ret
    refine ⟨_, rfl, ?_, B2.out⟩
    rw [← HG.out, goodL, HR.out, if_neg (by decide)]
    exact ints_own (e := 3) (base := 0) ⟨rfl, Or.inl ⟨rfl, rfl⟩⟩
  | true =>
    go_wp2_with fail
    refine (text5_any v k (by have := HK.out; omega) w2).mono ?_
    rintro e w3 ⟨rfl, hb3⟩
    obtain ⟨T, hT⟩ : ∃ T, textB v k = T := ⟨_, rfl⟩
    have HTT := Lib.hid hT
    rw [hT]
    clear hT
    have HTZ := Lib.hid (show T.size ≤ 100000 by rw [← HTT.out, textB_size]; have := HK.out; omega)
    have B3 := Lib.hid (B2.out.trans (hb3.mono B2.out.size))
    have q2 := (hb3.cell (p := ⟨g, 2, none⟩) (World.block_lt_of_cell? w2 _ q2)).trans q2
    clear hb3 B2 q0 q1
    have HV3 := Lib.hid (HV.out.later B3.out)
    have HT3 := Lib.hid (tabs_on HT.out B3.out)
    obtain ⟨P, hP⟩ : ∃ P : Int × List ByteArray → Bool, (fun p => holdsB s d n T p.1 p.2) = P := ⟨_, rfl⟩
    have HP := Lib.hid hP
    have HGP := Lib.hid (show goodTo P l l.length = G by rw [← HG.out, goodL, HR.out, if_pos rfl, HTT.out, hP])
    clear hP
    go_wp2_with fail
    go_loopw [10, 24] (fun u x wr => ∃ (i : Nat) (u' : Value), i ≤ l.length ∧ x = .int .i64 (i : Int) ∧ u = u' ∧ GAt w3 3 (goodTo P l i) u' wr) (fun _ x _ => l.length - (intOf x).toNat)
    case atStart => exact ⟨0, _, Nat.zero_le _, rfl, rfl, ⟨Below.refl _ _, rfl, Or.inl ⟨rfl, rfl⟩⟩⟩
    case round =>
      obtain ⟨i, u, hi, rfl, rfl, hO⟩ := hrel
      have HO := Lib.hid hO
      have i0 : (0 : Int) ≤ (i : Int) := by omega
      by_cases hlt : i < l.length
      · have hlt' : (i : Int) < (l.length : Int) := by omega
        have ib : (i : Int) ≤ 1000 := by have := HSM.out.1; omega
        obtain ⟨a1, cap1, he, hv | ⟨gb, off, rfl, hbw, hcell⟩⟩ := HV3.out
        · rw [hv] at hlt; simp at hlt
        injection he with e1 _ e3
        subst e1 e3
        obtain ⟨tv, hc0, hc1, hts⟩ := hcell i hlt
        have hcl0 : wr.cell? ⟨gb, off + i * 2, none⟩ = _ := (HO.out.below.cell (p := ⟨gb, off + i * 2, none⟩) hbw).trans hc0
        have hcl1 : wr.cell? ⟨gb, off + i * 2 + 1, none⟩ = _ := (HO.out.below.cell (p := ⟨gb, off + i * 2 + 1, none⟩) hbw).trans hc1
        have HTS := Lib.hid (hts.later HO.out.below)
        have HSI := Lib.hid (HSM.out.2.2 i hlt).2
        have HSN := Lib.hid (good_snoc P l i hlt)
        obtain ⟨p, hp⟩ : ∃ p, l.getD i (0, []) = p := ⟨_, rfl⟩
        rw [hp] at hcl0 HTS HSI HSN
        obtain ⟨f, ts⟩ := p
        obtain ⟨ta, tcap, rfl, _⟩ := HTS.out
        have HLT := Lib.hid hlt
        have HOL := Lib.hid (good_len P l i)
        obtain ⟨out, hout⟩ : ∃ out, goodTo P l i = out := ⟨_, rfl⟩
        rw [hout] at HO HSN HOL
        have HT0 := Lib.hid hout
        obtain ⟨H, hH⟩ : ∃ H, P (f, ts) = H := ⟨_, rfl⟩
        have HH := Lib.hid (show holdsB s d n T f ts = H by rw [← hH, ← HP.out])
        rw [hH] at HSN
        have b2 := Lib.hid ((Below.refl wr.heap.size wr).alloc (Nat.le_refl _) (.cells #[.int .i64 f, .slice ta ts.length tcap] 35))
        have c0 := cell_new wr #[.int .i64 f, .slice ta ts.length tcap] 35 0 _ rfl
        clear hp hlt hi hcell hbw hc0 hc1 hts hH hO hout
        go_wp2_with fail
        obtain ⟨wa, hwa⟩ : ∃ wa, wr.alloc (.cells #[.int .i64 f, .slice ta ts.length tcap] 35) = wa := ⟨_, rfl⟩
        rw [hwa] at b2 c0 ⊢
        clear hwa hcl0 hcl1
        have OA := Lib.hid (HO.out.on b2.out)
        refine (holds5_is s d n T f _ ts H HH.out wa (HTS.out.later b2.out) HSI.out HS.out HTZ.out (tabs_on (tabs_on HT3.out HO.out.below) b2.out)).mono ?_
        rintro e w4 ⟨rfl, hb4⟩
        have O4 := Lib.hid (OA.out.on hb4)
        have c0 := (hb4.cell (p := ⟨wr.heap.size, 0, none⟩) (World.block_lt_of_cell? wa _ c0)).trans c0
        clear hb4 OA b2 HO
        cases H with
        | true =>
          obtain ⟨ti, i1, i2, i3, i4⟩ := info_parts info_int
          have cx := cell_new w4 #[.int .i64 f] 3 0 _ rfl
          have bal := (Below.refl w4.heap.size w4).alloc (Nat.le_refl _) (.cells #[.int .i64 f] 3)
          have hown2 := (O4.out.on bal).own
          have hbs := (O4.out.on bal).below.size
          go_wp2_with (at_builtin; refine wpList_append_own _ rfl _ _ 28 rfl w3.heap.size 3 ti (.int .i64 0) 1 8 (by kernel_rfl) i1 i2 i3 i4 rfl (by decide) u10 out.length (out.map (Value.int .i64)) rfl hown2 ⟨w4.heap.size, 0, none⟩ 1 1 [.int .i64 f] rfl rfl ?c1 ?c2 ?c3 ?c4 hbs ?_)
          case c1 =>
            intro j u hj
            match j, hj with
            | 0, hj => simp at hj; subst hj; rw [Addr.add_lit]; exact cx
            | j + 1, hj => simp at hj
          case c2 => intro u hu; simp at hu; subst hu; rfl
          case c3 => have := HOL.out; have := HSM.out.1; unfold maxLen; omega
          case c4 => have := HOL.out; have := HSM.out.1; omega
          intro v' w' hown' hgr _
          have hb' : Below w3.heap.size w3 w' := (O4.out.on bal).below.grown hgr (by have := (O4.out.on bal).below.size; omega) (fun k hk => (hown2.lt k hk).1)
          have HB' := Lib.hid hb'
          have HOW' := Lib.hid hown'
          clear hb' hown' hgr hown2 bal cx hbs c0
          go_wp2_with fail
          go_roundw
          case rel => exact ⟨i + 1, _, by have := HLT.out; omega, by go_num, rfl, ⟨HB'.out, by
            rw [show goodTo P l (i + 1) = out ++ [f] by simpa using HSN.out, List.map_append, List.length_append]; exact HOW'.out⟩⟩
          case measure => have := HLT.out; simp [intOf]; omega
        | false =>
          clear c0
          go_wp2_with fail
          go_roundw
          case rel => exact ⟨i + 1, _, by have := HLT.out; omega, by go_num, rfl, by rw [show goodTo P l (i + 1) = out by simpa using HSN.out]; exact O4.out⟩
          case measure => have := HLT.out; simp [intOf]; omega
      · obtain rfl : i = l.length := by omega
        have hlt' : ¬ (l.length : Int) < (l.length : Int) := by omega
        rw [HGP.out] at HO
        clear hi hlt hO
        go_wp2_with fail
        go_ret
        exact ⟨_, rfl, ints_own HO.out.own, B3.out.trans (HO.out.below.mono B3.out.size)⟩
end Go.Proofs.YtigoaokpodggcaaDoor
end
section
open Go Go.RowKit
namespace CC
open MM WW BB
theorem sigs_nil (w : World) : SigsAt w (.slice none 0 0) [] := ⟨none, 0, rfl, Or.inl rfl⟩
end CC
namespace Go.Proofs.YtigoaokpodggcaaDoor
open CC MM WW BB
set_option maxRecDepth 100000 in
set_option maxHeartbeats 8000000 in
theorem chold_zero (s : ByteArray) (d n : Int) (k : ByteArray) (sv : Value) (l : List (Int × List ByteArray)) (w : World) (hv : SigsAt w sv l) (hsm : l.length ≤ 1000 ∧ ∀ i, i < l.length → (l.getD i (0, [])).2.length ≤ 1000) (hT : Tabs w) :
    Calls Tryd.prog 12 #[.string s, .int .i64 d, .int .i64 n, .agg #[.int .i64 0, .string k, sv]] w fun e w' => e = .returned (.bool (decide (k = firstD ∧ l = []))) ∧ Below w.heap.size w w' := by
  have HV := Lib.hid hv
  have HSM := Lib.hid hsm
  have HT := Lib.hid hT
  obtain ⟨a0, cap, rfl, _⟩ := hv
  clear hsm hT
  obtain ⟨X, hX⟩ : ∃ X, decide (k = firstD ∧ l = []) = X := ⟨_, rfl⟩
  have HX := Lib.hid (show decide ((((0 : Int), k), l) = ((0, firstD), [])) = X by rw [← hX]; simp)
  rw [hX]
  clear hX
  have b1 := ((Below.refl w.heap.size w).alloc (Nat.le_refl _) (.cells #[.int .i64 0, .string k, .slice a0 l.length cap] 24))
  have q0 := cell_new w #[.int .i64 0, .string k, .slice a0 l.length cap] 24 0 _ rfl
  have q1 := cell_new w #[.int .i64 0, .string k, .slice a0 l.length cap] 24 1 _ rfl
  have q2 := cell_new w #[.int .i64 0, .string k, .slice a0 l.length cap] 24 2 _ rfl
  go_enter Tryd.func12, Tryd.ntmps12
  go_wp2_with fail
  obtain ⟨w1, hw1⟩ : ∃ w1, w.alloc (.cells #[.int .i64 0, .string k, .slice a0 l.length cap] 24) = w1 := ⟨_, rfl⟩
  rw [hw1] at q0 q1 q2 b1 ⊢
  clear hw1
  obtain ⟨g, hg⟩ : ∃ g, w.heap.size = g := ⟨_, rfl⟩
  have z1 := b1.size
  rw [hg] at q0 q1 q2 b1 z1 ⊢
  have HGG := Lib.hid hg
  clear hg
  have hst := start3 (w := w) q0 q1 q2 b1 z1
  have HV' := Lib.hid (fun (wx : World) (hb : Below g w wx) => HV.out.later (by rw [HGG.out]; exact hb))
  have HT' := Lib.hid (fun (wx : World) (hb : Below g w wx) => tabs_now HT.out HGG.out hb)
  clear b1 q0 q1 q2
  go_region_held3 (fun w' => w'.cell? ⟨g, 0, none⟩ = some (.int .i64 0) ∧ w'.cell? ⟨g, 1, none⟩ = some (.string k) ∧ w'.cell? ⟨g, 2, none⟩ = some (.slice a0 l.length cap) ∧ Below g w w' ∧ g ≤ w'.heap.size)
    (first | exact hst | exact hk)
    (first
      | (go_at_call 22; refine (first_any _ (HT'.out _ (by first | exact hst.2.2.2.1 | exact HK.out))).mono ?_; rintro e w2 ⟨rfl, hb2⟩; have hk := keep3 (w := w) (g := g) (v0 := .int .i64 0) (v1 := .string k) (v2 := .slice a0 l.length cap) (B := g) (by assumption) hb2; have HK := Lib.hid hk.2.2.2.1)
      | (go_at_call 30; refine (same_any 0 0 k firstD _ _ l [] _ (HV'.out _ HK.out) (sigs_nil _) HSM.out.1 HSM.out.2).mono ?_; rintro e w3 ⟨rfl, hb3⟩; rw [HX.out]; have hk := keep3 (w := w) (g := g) (v0 := .int .i64 0) (v1 := .string k) (v2 := .slice a0 l.length cap) (B := g) (by assumption) hb3))
  go_wp2_with fail
  go_ret
  exact ⟨rfl, by rw [HGG.out]; exact hk.2.2.2.1⟩
set_option maxRecDepth 100000 in
set_option maxHeartbeats 8000000 in
theorem chold_more (s : ByteArray) (d n v : Int) (k : ByteArray) (sv : Value) (l : List (Int × List ByteArray)) (w : World) (hv : SigsAt w sv l) (h0 : v ≠ 0) (hn : n ≤ 9223372036854775807) (hs : s.size ≤ 1000) (hk : k.size ≤ 1000) (hsm : SmallS l) (hz : (certB v k l).size ≤ 1000000) (hT : Tabs w) :
    Calls Tryd.prog 12 #[.string s, .int .i64 d, .int .i64 n, .agg #[.int .i64 v, .string k, sv]] w fun e w' => e = .returned (.bool (decide (quorumI n ≤ ((goodL s d n v k l).length : Int)))) ∧ Below w.heap.size w w' := by
  have HV := Lib.hid hv
  have HS := Lib.hid hs
  have HK := Lib.hid hk
  have HN := Lib.hid hn
  have HSM := Lib.hid hsm
  have HZ := Lib.hid hz
  have HT := Lib.hid hT
  have t0 : (v == 0) = false := by simpa using h0
  obtain ⟨a0, cap, rfl, _⟩ := hv
  clear hs hk hsm hz hT hn h0
  obtain ⟨G, hG⟩ : ∃ G, goodL s d n v k l = G := ⟨_, rfl⟩
  have HG := Lib.hid hG
  rw [hG]
  clear hG
  have b1 := Lib.hid ((Below.refl w.heap.size w).alloc (Nat.le_refl _) (.cells #[.int .i64 v, .string k, .slice a0 l.length cap] 24))
  go_enter Tryd.func12, Tryd.ntmps12
  go_wp2_with fail
  refine (good_any s d n v k _ l _ (HV.out.later b1.out) HS.out HK.out HSM.out HZ.out (tabs_on HT.out b1.out)).mono ?_
  rintro e w2 ⟨v', rfl, hI, hb2⟩
  rw [HG.out] at hI
  obtain ⟨ga, gcap, rfl, _, _⟩ := hI
  have B2 := Lib.hid (b1.out.trans (hb2.mono b1.out.size))
  clear hb2 b1
  go_wp2_with fail
  refine (cquorum_any n HN.out w2).mono ?_
  rintro e w' ⟨rfl, rfl⟩
  obtain ⟨q, hq⟩ : ∃ q, quorumI n = q := ⟨_, rfl⟩
  rw [hq]
  go_wp2_with fail
  go_ret
  exact ⟨by rw [hq]; rfl, B2.out⟩
theorem chold_any (s : ByteArray) (d n v : Int) (k : ByteArray) (sv : Value) (l : List (Int × List ByteArray)) (w : World) (hv : SigsAt w sv l) (hn : n ≤ 9223372036854775807) (hs : s.size ≤ 1000) (hk : k.size ≤ 1000) (hsm : SmallS l) (hz : (certB v k l).size ≤ 1000000) (hT : Tabs w) :
    Calls Tryd.prog 12 #[.string s, .int .i64 d, .int .i64 n, .agg #[.int .i64 v, .string k, sv]] w fun e w' => e = .returned (.bool (certHolds s d n v k l)) ∧ Below w.heap.size w w' := by
  unfold certHolds
  by_cases h0 : v = 0
  · subst h0
    rw [if_pos rfl]
    exact chold_zero s d n k sv l w hv ⟨hsm.1, fun i hi => (hsm.2.2 i hi).2⟩ hT
  · rw [if_neg h0]
    exact chold_more s d n v k sv l w hv h0 hn hs hk hsm hz hT
theorem chold_is (b : Bool) (s : ByteArray) (d n v : Int) (k : ByteArray) (sv : Value) (l : List (Int × List ByteArray)) (hb : certHolds s d n v k l = b) (w : World) (hv : SigsAt w sv l) (hn : n ≤ 9223372036854775807) (hs : s.size ≤ 1000) (hk : k.size ≤ 1000) (hsm : SmallS l) (hz : (certB v k l).size ≤ 1000000) (hT : Tabs w) :
    Calls Tryd.prog 12 #[.string s, .int .i64 d, .int .i64 n, .agg #[.int .i64 v, .string k, sv]] w fun e w' => e = .returned (.bool b) ∧ Below w.heap.size w w' := hb ▸ chold_any s d n v k sv l w hv hn hs hk hsm hz hT
theorem cert_f1 (v : Int) (k : ByteArray) (s : Value) (w : World) : (Instr.field 24 (.agg #[.int .i64 v, .string k, s]) 1).run Tryd.prog w = .ok (.string k) w := by kernel_rfl
theorem cert_f0 (v : Int) (k : ByteArray) (s : Value) (w : World) : (Instr.field 24 (.agg #[.int .i64 v, .string k, s]) 0).run Tryd.prog w = .ok (.int .i64 v) w := by kernel_rfl
theorem cert_f2 (v : Int) (k : ByteArray) (s : Value) (w : World) : (Instr.field 24 (.agg #[.int .i64 v, .string k, s]) 2).run Tryd.prog w = .ok s w := by kernel_rfl
set_option maxRecDepth 100000 in
set_option maxHeartbeats 2000000 in
theorem awake5_any (w : World) (hT : Tabs w) : Calls Tryd.prog 8 #[] w fun e w' => e = .returned (.bool true) ∧ Below w.heap.size w w' := by
  have HT := Lib.hid hT
  clear hT
  go_enter Tryd.func8, Tryd.ntmps8
  go_wp2_with fail
  refine (first_any w HT.out).mono ?_
  rintro e w1 ⟨rfl, hb1⟩
  have B1 := Lib.hid hb1
  clear hb1
  go_wp2_with fail
  refine (chold_zero _ 0 1 firstD _ [] w1 (sigs_nil _) ⟨by simp, by simp⟩ (tabs_on HT.out B1.out)).mono ?_
  rintro e w2 ⟨rfl, hb2⟩
  rw [show decide (firstD = firstD ∧ ([] : List (Int × List ByteArray)) = []) = true by simp]
  have B2 := Lib.hid (B1.out.trans (hb2.mono B1.out.size))
  clear hb2
  go_wp2_with fail
  refine (first_any w2 (tabs_on HT.out B2.out)).mono ?_
  rintro e w3 ⟨rfl, hb3⟩
  have B3 := Lib.hid (B2.out.trans (hb3.mono B2.out.size))
  have hz : (firstD.size : Int) = 32 := by rw [firstD_size]; rfl
  have hfd := cert_f1 0 firstD (.slice none 0 0)
  clear hb3
  go_wp2_with fail
  go_ret
  exact ⟨rfl, B3.out⟩
end Go.Proofs.YtigoaokpodggcaaDoor
end
section
open Go Go.RowKit
namespace CC
open MM WW BB
/-- nobody's signatures are asked for, by the first thing that is wrong -/
def BadG (R : Bool) (n d : Int) : Prop := R = false ∨ R = true ∧ (n < 1 ∨ 1 ≤ n ∧ (7 < n ∨ n ≤ 7 ∧ (d < 0 ∨ 0 ≤ d ∧ n ≤ d)))
theorem badG_or (R : Bool) (n d : Int) : BadG R n d ∨ R = true ∧ 1 ≤ n ∧ n ≤ 7 ∧ 0 ≤ d ∧ d < n := by
  unfold BadG
  cases R
  · exact Or.inl (Or.inl rfl)
  · by_cases h1 : n < 1
    · exact Or.inl (Or.inr ⟨rfl, Or.inl h1⟩)
    · by_cases h2 : 7 < n
      · exact Or.inl (Or.inr ⟨rfl, Or.inr ⟨by omega, Or.inl h2⟩⟩)
      · by_cases h3 : d < 0
        · exact Or.inl (Or.inr ⟨rfl, Or.inr ⟨by omega, Or.inr ⟨by omega, Or.inl h3⟩⟩⟩)
        · by_cases h4 : n ≤ d
          · exact Or.inl (Or.inr ⟨rfl, Or.inr ⟨by omega, Or.inr ⟨by omega, Or.inr ⟨by omega, h4⟩⟩⟩⟩)
          · exact Or.inr ⟨rfl, by omega, by omega, by omega, by omega⟩
theorem among_no {x n : Int} (h : n < 1 ∨ 7 < n ∨ x < 0 ∨ n ≤ x) : amongB x n = false := by
  rcases hb : amongB x n with _ | _
  · rfl
  · have := among_of hb; omega
theorem goodL_bad (s : ByteArray) (d n v : Int) (k : ByteArray) (l : List (Int × List ByteArray)) (h : BadG (rightCert v k l) n d) : goodL s d n v k l = [] := by
  unfold goodL
  rcases h with h | ⟨h, h2⟩
  · rw [h, if_neg (by decide)]
  · rw [if_pos h]
    have hA : amongB d n = false := among_no (by omega)
    have : (fun p : Int × List ByteArray => holdsB s d n (textB v k) p.1 p.2) = fun _ => false := by
      funext p; unfold holdsB; rw [hA, Bool.false_and]
    rw [this]
    unfold goodTo
    simp
theorem right_sig {v : Int} {k : ByteArray} {l : List (Int × List ByteArray)} (h : rightCert v k l = true) (i : Nat) (hi : i < l.length) : 0 ≤ (l.getD i (0, [])).1 ∧ (l.getD i (0, [])).1 < 7 ∧ (∀ t ∈ (l.getD i (0, [])).2, t.size = 16) ∧ (l.getD i (0, [])).2.length ≤ 7 := by
  unfold rightCert at h
  simp only [Bool.and_eq_true, decide_eq_true_eq] at h
  obtain ⟨_, h5⟩ := h
  rw [okTo_iff] at h5
  have := h5.1 i hi
  unfold rightSig at this
  simp only [Bool.and_eq_true, decide_eq_true_eq, List.all_eq_true] at this
  obtain ⟨a, ⟨b, c⟩, e⟩ := this
  rw [List.take_of_length_le (by omega)] at a
  exact ⟨b, c, a, e⟩
/-- of a right signature -/
theorem holds_right (s : ByteArray) (d n : Int) (t : ByteArray) (f : Int) (ts : List ByteArray) (hd : 1 ≤ n ∧ n ≤ 7 ∧ 0 ≤ d ∧ d < n) (hf : 0 ≤ f ∧ f < 7) (h16 : ∀ t ∈ ts, t.size = 16) :
    holdsB s d n t f ts = (decide (f < n) && (decide ((ts.length : Int) = n) && ((ts.getD d.toNat ⟨#[]⟩).toList == (tagB s f d t).toList))) := by
  unfold holdsB
  have h1 : amongB d n = true := among_mk hd.1 hd.2.1 hd.2.2.1 hd.2.2.2
  have h2 : amongB f n = decide (f < n) := by
    by_cases h : f < n
    · rw [among_mk hd.1 hd.2.1 hf.1 h]; simp [h]
    · rw [among_no (by omega)]; simp [h]
  have h3 : shapedB ts n = decide ((ts.length : Int) = n) := by
    unfold shapedB
    rw [show ts.all (fun t => decide (t.size = 16)) = true by rw [List.all_eq_true]; intro x hx; simpa using h16 x hx, Bool.and_true]
  rw [h1, h2, h3, Bool.true_and]
theorem keep5 {w W w1 : World} {p0 p1 p2 p3 p4 : Nat × Nat} {v0 v1 v2 v3 v4 : Value} {B : Nat} (h : W.cell? ⟨p0.1, p0.2, none⟩ = some v0 ∧ W.cell? ⟨p1.1, p1.2, none⟩ = some v1 ∧ W.cell? ⟨p2.1, p2.2, none⟩ = some v2 ∧ W.cell? ⟨p3.1, p3.2, none⟩ = some v3 ∧ W.cell? ⟨p4.1, p4.2, none⟩ = some v4 ∧ Below B w W ∧ B ≤ W.heap.size) (hb : Below W.heap.size W w1) :
    w1.cell? ⟨p0.1, p0.2, none⟩ = some v0 ∧ w1.cell? ⟨p1.1, p1.2, none⟩ = some v1 ∧ w1.cell? ⟨p2.1, p2.2, none⟩ = some v2 ∧ w1.cell? ⟨p3.1, p3.2, none⟩ = some v3 ∧ w1.cell? ⟨p4.1, p4.2, none⟩ = some v4 ∧ Below B w w1 ∧ B ≤ w1.heap.size := by
  obtain ⟨h0, h1, h2, h3, h4, h5, h6⟩ := h
  exact ⟨(hb.cell (p := ⟨p0.1, p0.2, none⟩) (World.block_lt_of_cell? W _ h0)).trans h0, (hb.cell (p := ⟨p1.1, p1.2, none⟩) (World.block_lt_of_cell? W _ h1)).trans h1, (hb.cell (p := ⟨p2.1, p2.2, none⟩) (World.block_lt_of_cell? W _ h2)).trans h2,
    (hb.cell (p := ⟨p3.1, p3.2, none⟩) (World.block_lt_of_cell? W _ h3)).trans h3, (hb.cell (p := ⟨p4.1, p4.2, none⟩) (World.block_lt_of_cell? W _ h4)).trans h4, h5.trans (hb.mono h6), Nat.le_trans h6 hb.size⟩
end CC
namespace Go.Proofs.YtigoaokpodggcaaDoor
open CC MM WW BB
theorem rightcert5_is (v : Int) (k : ByteArray) (sv : Value) (l : List (Int × List ByteArray)) (b : Bool) (hb : rightCert v k l = b) (w : World) (hv : SigsAt w sv l) (hn : MemS l) :
    Calls Tryd.prog 28 #[.agg #[.int .i64 v, .string k, sv]] w fun e w' => e = .returned (.bool b) ∧ Below w.heap.size w w' := hb ▸ rightcert_any v k sv l w hv hn
set_option maxRecDepth 100000 in
set_option maxHeartbeats 8000000 in
theorem rgood_bad (s : ByteArray) (d n v : Int) (k : ByteArray) (sv : Value) (l : List (Int × List ByteArray)) (w : World) (hv : SigsAt w sv l) (hn : MemS l) (h : BadG (rightCert v k l) n d) :
    Calls Tryd.prog 11 #[.string s, .int .i64 d, .int .i64 n, .agg #[.int .i64 v, .string k, sv]] w fun e w' => e = .returned (.slice none 0 0) ∧ Below w.heap.size w w' := by
  have HV := Lib.hid hv
  have HN := Lib.hid hn
  obtain ⟨a0, cap, rfl, _⟩ := hv
  clear hn
  have b1 := Lib.hid ((Below.refl w.heap.size w).alloc (Nat.le_refl _) (.cells #[.int .i64 v, .string k, .slice a0 l.length cap] 24))
  rcases h with hr | ⟨hr, h | ⟨h1, h | ⟨h2, h | ⟨h3, h⟩⟩⟩⟩
  all_goals
    have HR := Lib.hid hr
    clear hr
    go_enter Tryd.func11, Tryd.ntmps11
    go_wp2_with fail
    refine (rightcert5_is v k _ l _ HR.out _ (HV.out.later b1.out) HN.out).mono ?_
    rintro e w2 ⟨rfl, hb2⟩
    have B2 := Lib.hid (b1.out.trans (hb2.mono b1.out.size))
    clear hb2 b1
    go_wp2_with fail
    go_ret
    exact ⟨rfl, B2.out⟩
set_option maxRecDepth 100000 in
set_option maxHeartbeats 16000000 in
theorem rgood_ok (s : ByteArray) (d n v : Int) (k : ByteArray) (sv : Value) (l : List (Int × List ByteArray)) (w : World) (hv : SigsAt w sv l) (hR : rightCert v k l = true) (hd : 1 ≤ n ∧ n ≤ 7 ∧ 0 ≤ d ∧ d < n) (hs : s.size ≤ 1000) :
    Calls Tryd.prog 11 #[.string s, .int .i64 d, .int .i64 n, .agg #[.int .i64 v, .string k, sv]] w fun e w' => ∃ v', e = .returned v' ∧ IntsAt w' v' (goodL s d n v k l) ∧ Below w.heap.size w w' := by
  obtain ⟨hsm, hk, hl7, hmem⟩ := right_small hR
  have HV := Lib.hid hv
  have HS := Lib.hid hs
  have HK := Lib.hid hk
  have HSM := Lib.hid hsm
  have HMM := Lib.hid hmem
  have HL7 := Lib.hid hl7
  have HR := Lib.hid hR
  have HD := Lib.hid hd
  have HSG := Lib.hid (right_sig hR)
  obtain ⟨n1, n7, d0, dn⟩ := hd
  obtain ⟨a0, cap, rfl, _⟩ := hv
  clear hs hk hsm hR hmem hl7
  obtain ⟨G, hG⟩ : ∃ G, goodL s d n v k l = G := ⟨_, rfl⟩
  have HG := Lib.hid hG
  rw [hG]
  clear hG
  have b1 := Lib.hid ((Below.refl w.heap.size w).alloc (Nat.le_refl _) (.cells #[.int .i64 v, .string k, .slice a0 l.length cap] 24))
  have q0 := cell_new w #[.int .i64 v, .string k, .slice a0 l.length cap] 24 0 _ rfl
  have q1 := cell_new w #[.int .i64 v, .string k, .slice a0 l.length cap] 24 1 _ rfl
  have q2 := cell_new w #[.int .i64 v, .string k, .slice a0 l.length cap] 24 2 _ rfl
  go_enter Tryd.func11, Tryd.ntmps11
  go_wp2_with fail
  obtain ⟨w1, hw1⟩ : ∃ w1, w.alloc (.cells #[.int .i64 v, .string k, .slice a0 l.length cap] 24) = w1 := ⟨_, rfl⟩
  rw [hw1] at q0 q1 q2 b1 ⊢
  clear hw1
  obtain ⟨g, hg⟩ : ∃ g, w.heap.size = g := ⟨_, rfl⟩
  rw [hg] at q0 q1 q2 ⊢
  clear hg
  refine (rightcert5_is v k _ l true HR.out _ (HV.out.later b1.out) HMM.out).mono ?_
  rintro e w3 ⟨rfl, hb2⟩
  have B3 := Lib.hid (b1.out.trans (hb2.mono b1.out.size))
  have q0 := (hb2.cell (p := ⟨g, 0, none⟩) (World.block_lt_of_cell? w1 _ q0)).trans q0
  have q1 := (hb2.cell (p := ⟨g, 1, none⟩) (World.block_lt_of_cell? w1 _ q1)).trans q1
  have q2 := (hb2.cell (p := ⟨g, 2, none⟩) (World.block_lt_of_cell? w1 _ q2)).trans q2
  clear hb2 b1
  have HQ := Lib.hid (And.intro q0 (And.intro q1 q2))
  have HV3 := Lib.hid (HV.out.later B3.out)
  obtain ⟨T, hT⟩ : ∃ T, textB v k = T := ⟨_, rfl⟩
  have HTT := Lib.hid hT
  have HTZ := Lib.hid (show T.size ≤ 100000 by rw [← hT, textB_size]; have := HK.out; omega)
  obtain ⟨P, hP⟩ : ∃ P : Int × List ByteArray → Bool, (fun p => holdsB s d n T p.1 p.2) = P := ⟨_, rfl⟩
  have HP := Lib.hid hP
  have HGP := Lib.hid (show goodTo P l l.length = G by rw [← HG.out, goodL, HR.out, if_pos rfl, HTT.out, hP])
  clear hP hT
  go_wp2_with fail
  clear q0 q1 q2
  go_loopw [9, 10] (fun u x wr => ∃ (i : Nat) (u' : Value), i ≤ l.length ∧ x = .int .i64 (i : Int) ∧ u = u' ∧ GAt w3 3 (goodTo P l i) u' wr) (fun _ x _ => l.length - (intOf x).toNat)
  case atStart => exact ⟨0, _, Nat.zero_le _, rfl, rfl, ⟨Below.refl _ _, rfl, Or.inl ⟨rfl, rfl⟩⟩⟩
  case round =>
    obtain ⟨i, u, hi, rfl, rfl, hO⟩ := hrel
    have HO := Lib.hid hO
    have i0 : (0 : Int) ≤ (i : Int) := by omega
    have q2 := (HO.out.below.cell (p := ⟨g, 2, none⟩) (World.block_lt_of_cell? w3 _ HQ.out.2.2)).trans HQ.out.2.2
    by_cases hlt : i < l.length
    · have hlt' : (i : Int) < (l.length : Int) := by omega
      have ib : (i : Int) ≤ 1000 := by have := HSM.out.1; omega
      obtain ⟨a1, cap1, he, hv | ⟨gb, off, rfl, hbw, hcell⟩⟩ := HV3.out
      · rw [hv] at hlt; simp at hlt
      injection he with e1 _ e3
      subst e1 e3
      obtain ⟨tv, hc0, hc1, hts⟩ := hcell i hlt
      have hcl0 : wr.cell? ⟨gb, off + i * 2, none⟩ = _ := (HO.out.below.cell (p := ⟨gb, off + i * 2, none⟩) hbw).trans hc0
      have hcl1 : wr.cell? ⟨gb, off + i * 2 + 1, none⟩ = _ := (HO.out.below.cell (p := ⟨gb, off + i * 2 + 1, none⟩) hbw).trans hc1
      have HTS := Lib.hid (hts.later HO.out.below)
      have HSN := Lib.hid (good_snoc P l i hlt)
      have HSI := Lib.hid (HSG.out i hlt)
      obtain ⟨p, hp⟩ : ∃ p, l.getD i (0, []) = p := ⟨_, rfl⟩
      rw [hp] at hcl0 HTS HSN HSI
      obtain ⟨f, ts⟩ := p
      have HPF := Lib.hid (show P (f, ts) = (decide (f < n) && (decide ((ts.length : Int) = n) && ((ts.getD d.toNat ⟨#[]⟩).toList == (tagB s f d T).toList))) by rw [← HP.out]; exact holds_right s d n T f ts HD.out ⟨HSI.out.1, HSI.out.2.1⟩ HSI.out.2.2.1)
      have f0 : 0 ≤ f := HSI.out.1
      have f7 : f < 7 := HSI.out.2.1
      obtain ⟨ta, tcap, rfl, htx⟩ := HTS.out
      clear htx
      have HLT := Lib.hid hlt
      have HOL := Lib.hid (good_len P l i)
      obtain ⟨out, hout⟩ : ∃ out, goodTo P l i = out := ⟨_, rfl⟩
      rw [hout] at HO HSN HOL
      have b2 := Lib.hid ((Below.refl wr.heap.size wr).alloc (Nat.le_refl _) (.cells #[.int .i64 f, .slice ta ts.length tcap] 35))
      have c0 := cell_new wr #[.int .i64 f, .slice ta ts.length tcap] 35 0 _ rfl
      have c1 := cell_new wr #[.int .i64 f, .slice ta ts.length tcap] 35 1 _ rfl
      clear hp hlt hi hcell hbw hc0 hc1 hts hO hout
      go_wp2_with fail
      obtain ⟨wa, hwa⟩ : ∃ wa, wr.alloc (.cells #[.int .i64 f, .slice ta ts.length tcap] 35) = wa := ⟨_, rfl⟩
      rw [hwa] at b2 c0 c1 ⊢
      clear hwa hcl0 hcl1 q2
      obtain ⟨gs, hgs⟩ : ∃ gs, wr.heap.size = gs := ⟨_, rfl⟩
      rw [hgs] at c0 c1 ⊢
      clear hgs
      have OA := Lib.hid (HO.out.on b2.out)
      have TA := Lib.hid (HTS.out.later b2.out)
      have q0 := (OA.out.below.cell (p := ⟨g, 0, none⟩) (World.block_lt_of_cell? w3 _ HQ.out.1)).trans HQ.out.1
      have q1 := (OA.out.below.cell (p := ⟨g, 1, none⟩) (World.block_lt_of_cell? w3 _ HQ.out.2.1)).trans HQ.out.2.1
      clear HO b2
      by_cases hfn : f < n
      · by_cases hln : (ts.length : Int) = n
        · have t1 : ((ts.length : Int) == n) = true := by simp [hln]
          obtain ⟨kk, rfl⟩ := Int.eq_ofNat_of_zero_le d0
          have hkk : kk < ts.length := by omega
          obtain ⟨ta2, tcap2, he2, htn | ⟨tb, toff, rfl, htb, htc⟩⟩ := TA.out
          · rw [htn] at hkk; simp at hkk
          injection he2 with e1 _ e3
          subst e1 e3
          have ct := htc kk hkk
          have HPF2 := Lib.hid (show P (f, ts) = ((ts.getD kk ⟨#[]⟩).toList == (tagB s f (kk : Int) T).toList) by rw [HPF.out]; simp [hfn, hln])
          obtain ⟨u, hu⟩ : ∃ u, ts.getD kk ⟨#[]⟩ = u := ⟨_, rfl⟩
          rw [hu] at ct HPF2
          obtain ⟨G2, hG2⟩ : ∃ G2, tagB s f (kk : Int) T = G2 := ⟨_, rfl⟩
          have HG2 := Lib.hid hG2
          rw [hG2] at HPF2
          have HFF := Lib.hid (show (0 : Int) ≤ f ∧ f ≤ 20 by omega)
          have HKK := Lib.hid (show (0 : Int) ≤ (kk : Int) ∧ (kk : Int) ≤ 20 by omega)
          have hkl : (kk : Int) < (ts.length : Int) := by omega
          have hst : wa.drew.cell? ⟨g, 0, none⟩ = some (.int .i64 v) ∧ wa.drew.cell? ⟨g, 1, none⟩ = some (.string k) ∧ wa.drew.cell? ⟨gs, 0, none⟩ = some (.int .i64 f) ∧ wa.drew.cell? ⟨gs, 1, none⟩ = some (.slice (some ⟨tb, toff, none⟩) ts.length tcap) ∧ wa.drew.cell? ⟨tb, toff + kk, none⟩ = some (.string u) ∧ Below wa.heap.size wa wa.drew ∧ wa.heap.size ≤ wa.drew.heap.size := ⟨q0, q1, c0, c1, ct, (Below.refl _ _).drew, Nat.le_refl _⟩
          clear q0 q1 c0 c1 ct hu hG2 htc htb
          rcases hH : (u.toList == G2.toList) with _ | _
          all_goals
            have HPN := Lib.hid (show P (f, ts) = _ from HPF2.out.trans hH)
            go_region_held3 (fun w' => w'.cell? ⟨g, 0, none⟩ = some (.int .i64 v) ∧ w'.cell? ⟨g, 1, none⟩ = some (.string k) ∧ w'.cell? ⟨gs, 0, none⟩ = some (.int .i64 f) ∧ w'.cell? ⟨gs, 1, none⟩ = some (.slice (some ⟨tb, toff, none⟩) ts.length tcap) ∧ w'.cell? ⟨tb, toff + kk, none⟩ = some (.string u) ∧ Below wa.heap.size wa w' ∧ wa.heap.size ≤ w'.heap.size)
              (first | exact hst | exact hk)
              (first
                | (go_at_call 25; refine (rtext5_any v k (by have := HK.out; omega) _).mono ?_; rintro e w4 ⟨rfl, hb4⟩; rw [HTT.out]; have hk := keep5 (w := wa) (p0 := (g, 0)) (p1 := (g, 1)) (p2 := (gs, 0)) (p3 := (gs, 1)) (p4 := (tb, toff + kk)) (v0 := .int .i64 v) (v1 := .string k) (v2 := .int .i64 f) (v3 := .slice (some ⟨tb, toff, none⟩) ts.length tcap) (v4 := .string u) (B := wa.heap.size) (by assumption) hb4)
                | (go_at_call 29; refine (rtag_any s f (kk : Int) T HS.out HTZ.out _).mono ?_; rintro e w4 ⟨rfl, hb4⟩; rw [HG2.out]; have hk := keep5 (w := wa) (p0 := (g, 0)) (p1 := (g, 1)) (p2 := (gs, 0)) (p3 := (gs, 1)) (p4 := (tb, toff + kk)) (v0 := .int .i64 v) (v1 := .string k) (v2 := .int .i64 f) (v3 := .slice (some ⟨tb, toff, none⟩) ts.length tcap) (v4 := .string u) (B := wa.heap.size) (by assumption) hb4))
          · have O4 := Lib.hid (OA.out.on hk.2.2.2.2.2.1)
            clear hst hk OA HTS TA
            go_wp2_with fail
            go_roundw
            case rel => exact ⟨i + 1, _, by have := HLT.out; omega, by go_num, rfl, by rw [show goodTo P l (i + 1) = out by rw [HSN.out, HPN.out]; rfl]; exact O4.out⟩
            case measure => have := HLT.out; simp [intOf]; omega
          · have O4 := Lib.hid (OA.out.on hk.2.2.2.2.2.1)
            have c0 := hk.2.2.1
            clear hst hk OA HTS TA
            rename World => w4
            obtain ⟨ti, i1, i2, i3, i4⟩ := info_parts info_int
            have cx := cell_new w4 #[.int .i64 f] 3 0 _ rfl
            have bal := (Below.refl w4.heap.size w4).alloc (Nat.le_refl _) (.cells #[.int .i64 f] 3)
            have hown2 := (O4.out.on bal).own
            have hbs := (O4.out.on bal).below.size
            go_wp2_with (at_builtin; refine wpList_append_own _ rfl _ _ 28 rfl w3.heap.size 3 ti (.int .i64 0) 1 8 (by kernel_rfl) i1 i2 i3 i4 rfl (by decide) u9 out.length (out.map (Value.int .i64)) rfl hown2 ⟨w4.heap.size, 0, none⟩ 1 1 [.int .i64 f] rfl rfl ?c1 ?c2 ?c3 ?c4 hbs ?_)
            case c1 =>
              intro j u hj
              match j, hj with
              | 0, hj => simp at hj; subst hj; rw [Addr.add_lit]; exact cx
              | j + 1, hj => simp at hj
            case c2 => intro u hu; simp at hu; subst hu; rfl
            case c3 => have := HOL.out; have := HSM.out.1; unfold maxLen; omega
            case c4 => have := HOL.out; have := HSM.out.1; omega
            intro v' w' hown' hgr _
            have hb' : Below w3.heap.size w3 w' := (O4.out.on bal).below.grown hgr (by have := (O4.out.on bal).below.size; omega) (fun k hk => (hown2.lt k hk).1)
            have HB' := Lib.hid hb'
            have HOW' := Lib.hid hown'
            clear hb' hown' hgr hown2 bal cx hbs c0
            go_wp2_with fail
            go_roundw
            case rel => exact ⟨i + 1, _, by have := HLT.out; omega, by go_num, rfl, ⟨HB'.out, by
              rw [show goodTo P l (i + 1) = out ++ [f] by rw [HSN.out, HPN.out]; rfl, List.map_append, List.length_append]; exact HOW'.out⟩⟩
            case measure => have := HLT.out; simp [intOf]; omega
        · have t1 : ((ts.length : Int) == n) = false := by simpa using hln
          have HPN := Lib.hid (show P (f, ts) = false by rw [HPF.out]; simp [hln])
          clear hln
          go_quiet (fail)
          go_wp2_with fail
          go_roundw
          case rel => exact ⟨i + 1, _, by have := HLT.out; omega, by go_num, rfl, by rw [show goodTo P l (i + 1) = out by rw [HSN.out, HPN.out]; rfl]; exact OA.out.on ((Same.drewN _ _).below _)⟩
          case measure => have := HLT.out; simp [intOf]; omega
      · have HPN := Lib.hid (show P (f, ts) = false by rw [HPF.out]; simp [hfn])
        go_quiet (fail)
        go_wp2_with fail
        go_roundw
        case rel => exact ⟨i + 1, _, by have := HLT.out; omega, by go_num, rfl, by rw [show goodTo P l (i + 1) = out by rw [HSN.out, HPN.out]; rfl]; exact OA.out.on ((Same.drewN _ _).below _)⟩
        case measure => have := HLT.out; simp [intOf]; omega
    · obtain rfl : i = l.length := by omega
      have hlt' : ¬ (l.length : Int) < (l.length : Int) := by omega
      rw [HGP.out] at HO
      clear hi hlt hO
      go_wp2_with fail
      go_ret
      exact ⟨_, rfl, ints_own HO.out.own, B3.out.trans (HO.out.below.mono B3.out.size)⟩
theorem rgood_any (s : ByteArray) (d n v : Int) (k : ByteArray) (sv : Value) (l : List (Int × List ByteArray)) (w : World) (hv : SigsAt w sv l) (hn : MemS l) (hs : s.size ≤ 1000) :
    Calls Tryd.prog 11 #[.string s, .int .i64 d, .int .i64 n, .agg #[.int .i64 v, .string k, sv]] w fun e w' => ∃ v', e = .returned v' ∧ IntsAt w' v' (goodL s d n v k l) ∧ Below w.heap.size w w' := by
  rcases badG_or (rightCert v k l) n d with h | ⟨hR, hd⟩
  · refine (rgood_bad s d n v k sv l w hv hn h).mono ?_
    rintro e w' ⟨rfl, hb⟩
    refine ⟨_, rfl, ?_, hb⟩
    rw [goodL_bad s d n v k l h]
    exact ints_own (e := 3) (base := 0) ⟨rfl, Or.inl ⟨rfl, rfl⟩⟩
  · exact rgood_ok s d n v k sv l w hv hR hd hs
end Go.Proofs.YtigoaokpodggcaaDoor
end
section
open Go Go.RowKit
namespace CC
open MM WW BB
theorem certHolds_zero (s : ByteArray) (d n : Int) (k : ByteArray) (l : List (Int × List ByteArray)) : certHolds s d n 0 k l = ((k.toList == firstD.toList) && decide (l.length = 0)) := by
  unfold certHolds
  rw [if_pos rfl]
  by_cases h : k = firstD
  · subst h
    by_cases h2 : l = []
    · simp [h2]
    · have : ¬ l.length = 0 := fun h => h2 (List.eq_nil_of_length_eq_zero h)
      simp [h2]
  · have : (k.toList == firstD.toList) = false := by rw [beq_eq_false_iff_ne]; exact fun e => h (ba_toList e)
    rw [this]; simp [h]
theorem quorum_pos (n : Int) : 1 ≤ quorumI n := by
  unfold quorumI faultsI
  split <;> omega
theorem certHolds_bad (s : ByteArray) (d n v : Int) (k : ByteArray) (l : List (Int × List ByteArray)) (h : rightCert v k l = false) : certHolds s d n v k l = false := by
  by_cases h0 : v = 0
  · subst h0
    rw [certHolds_zero]
    by_cases hk : k = firstD
    · by_cases hl : l.length = 0
      · obtain rfl := List.eq_nil_of_length_eq_zero hl
        subst hk
        have : rightCert 0 firstD [] = true := by
          unfold rightCert
          simp only [firstD_size]
          rfl
        rw [this] at h; cases h
      · simp [hl]
    · have : (k.toList == firstD.toList) = false := by rw [beq_eq_false_iff_ne]; exact fun e => hk (ba_toList e)
      rw [this]; rfl
  · unfold certHolds goodL
    rw [if_neg h0, h, if_neg (by decide)]
    have := quorum_pos n
    simp; omega
end CC
namespace Go.Proofs.YtigoaokpodggcaaDoor
open CC MM WW BB
set_option maxRecDepth 100000 in
set_option maxHeartbeats 8000000 in
theorem rhold_zero (s : ByteArray) (d n : Int) (k : ByteArray) (sv : Value) (l : List (Int × List ByteArray)) (w : World) (hv : SigsAt w sv l) (hR : rightCert 0 k l = true) :
    Calls Tryd.prog 13 #[.string s, .int .i64 d, .int .i64 n, .agg #[.int .i64 0, .string k, sv]] w fun e w' => e = .returned (.bool (certHolds s d n 0 k l)) ∧ Below w.heap.size w w' := by
  obtain ⟨hsm, hk, hl7, hmem⟩ := right_small hR
  rw [certHolds_zero]
  have HV := Lib.hid hv
  have HMM := Lib.hid hmem
  have HR := Lib.hid hR
  obtain ⟨a0, cap, rfl, _⟩ := hv
  clear hsm hR hmem hl7 hk
  have b1 := Lib.hid ((Below.refl w.heap.size w).alloc (Nat.le_refl _) (.cells #[.int .i64 0, .string k, .slice a0 l.length cap] 24))
  have q1 := cell_new w #[.int .i64 0, .string k, .slice a0 l.length cap] 24 1 _ rfl
  have q0 := cell_new w #[.int .i64 0, .string k, .slice a0 l.length cap] 24 0 _ rfl
  have q2 := cell_new w #[.int .i64 0, .string k, .slice a0 l.length cap] 24 2 _ rfl
  obtain ⟨F, hF⟩ : ∃ F, firstD = F := ⟨_, rfl⟩
  have HF := Lib.hid (fun wx => hF ▸ rfirst_any wx)
  rw [hF]
  clear hF
  go_enter Tryd.func13, Tryd.ntmps13
  go_wp2_with fail
  obtain ⟨w1, hw1⟩ : ∃ w1, w.alloc (.cells #[.int .i64 0, .string k, .slice a0 l.length cap] 24) = w1 := ⟨_, rfl⟩
  rw [hw1] at q0 q1 q2 b1 ⊢
  clear hw1
  have HV1 := Lib.hid (HV.out.later b1.out)
  obtain ⟨g, hg⟩ : ∃ g, w.heap.size = g := ⟨_, rfl⟩
  rw [hg] at q0 q1 q2 ⊢
  clear hg
  refine (rightcert5_is 0 k _ l true HR.out _ HV1.out HMM.out).mono ?_
  rintro e w3 ⟨rfl, hb2⟩
  have B3 := Lib.hid (b1.out.trans (hb2.mono b1.out.size))
  have q0 : w3.cell? ⟨g, 0, none⟩ = some (.int .i64 0) := (hb2.cell (p := ⟨g, 0, none⟩) (World.block_lt_of_cell? w1 _ q0)).trans q0
  have q1 : w3.cell? ⟨g, 1, none⟩ = some (.string k) := (hb2.cell (p := ⟨g, 1, none⟩) (World.block_lt_of_cell? w1 _ q1)).trans q1
  have q2 : w3.cell? ⟨g, 2, none⟩ = some (.slice a0 l.length cap) := (hb2.cell (p := ⟨g, 2, none⟩) (World.block_lt_of_cell? w1 _ q2)).trans q2
  clear hb2 b1
  go_wp2_with fail
  have hst := start3 (w := w3) q0 q1 q2 (Below.refl _ _) (Nat.le_refl _)
  clear q0 q1 q2
  rcases hX : (k.toList == F.toList) with _ | _
  · refine one_call (a1 := ?a1) [0, 1] [3, 4, 5, 6, 7, 8, 9, 10] 2 _ 17 23 #[] (.string F) (fun w' => w'.cell? ⟨g, 0, none⟩ = some (.int .i64 0) ∧ w'.cell? ⟨g, 1, none⟩ = some (.string k) ∧ w'.cell? ⟨g, 2, none⟩ = some (.slice a0 l.length cap) ∧ Below w3.heap.size w3 w' ∧ w3.heap.size ≤ w'.heap.size) (by kernel_rfl) (by kernel_rfl) (fun _ _ d _ _ h => by cases d <;> exact h) rfl rfl rfl hst ?hread ?henter ?hcall ?htail
    case hread =>
      simp only [pick, List.filterMap, List.getElem?_toArray, List.getElem?_cons_zero, List.getElem?_cons_succ]
      iterate 2 (refine heldg_run ?_ rfl ?_ ?_; rotate_left; (focus (intro w' hS; obtain ⟨s0, s1, s2, _⟩ := hS; go_simp; exact rfl)); simp only [Act.put, List.setIfInBounds_toArray, List.set_cons_zero, List.set_cons_succ])
      exact rfl
    case henter => intro w'; go_simp
    case hcall =>
      intro w' hS
      refine (HF.out w').mono ?_
      rintro e w4 ⟨rfl, hb4⟩
      exact ⟨rfl, keep3 hS hb4⟩
    case htail =>
      simp only [pick, List.filterMap, List.getElem?_toArray, List.getElem?_cons_zero, List.getElem?_cons_succ, Act.put, List.setIfInBounds_toArray, List.set_cons_zero, List.set_cons_succ]
      iterate 8 (first | (refine heldg_skip rfl ?_; simp only [Act.put, List.setIfInBounds_toArray, List.set_cons_zero, List.set_cons_succ]) | (refine heldg_run ?_ rfl ?_ ?_; rotate_left; (focus (intro w' hS; obtain ⟨s0, s1, s2, _⟩ := hS; go_simp; exact rfl)); simp only [Act.put, List.setIfInBounds_toArray, List.set_cons_zero, List.set_cons_succ]))
      refine heldg_nil ?_
      intro w' hS
      have HBZ := Lib.hid hS.2.2.2.1
      clear hS hst
      go_wp2_with fail
      go_ret
      exact ⟨by rw [hX]; rfl, B3.out.trans (HBZ.out.mono B3.out.size)⟩
  · by_cases hl : l.length = 0
    · have t3 : ((l.length : Int) == 0) = true := by simp [hl]
      go_region_held3 (fun w' => w'.cell? ⟨g, 0, none⟩ = some (.int .i64 0) ∧ w'.cell? ⟨g, 1, none⟩ = some (.string k) ∧ w'.cell? ⟨g, 2, none⟩ = some (.slice a0 l.length cap) ∧ Below w3.heap.size w3 w' ∧ w3.heap.size ≤ w'.heap.size)
        (first | exact hst | exact hk)
        ((go_at_call 23; refine (HF.out _).mono ?_; rintro e w4 ⟨rfl, hb4⟩; have hk := keep3 (w := w3) (g := g) (v0 := .int .i64 0) (v1 := .string k) (v2 := .slice a0 l.length cap) (B := w3.heap.size) (by assumption) hb4))
      go_wp2_with fail
      go_ret
      exact ⟨by rw [hX]; simp [hl], B3.out.trans (hk.2.2.2.1.mono B3.out.size)⟩
    · have t3 : ((l.length : Int) == 0) = false := by rw [beq_eq_false_iff_ne]; omega
      go_region_held3 (fun w' => w'.cell? ⟨g, 0, none⟩ = some (.int .i64 0) ∧ w'.cell? ⟨g, 1, none⟩ = some (.string k) ∧ w'.cell? ⟨g, 2, none⟩ = some (.slice a0 l.length cap) ∧ Below w3.heap.size w3 w' ∧ w3.heap.size ≤ w'.heap.size)
        (first | exact hst | exact hk)
        ((go_at_call 23; refine (HF.out _).mono ?_; rintro e w4 ⟨rfl, hb4⟩; have hk := keep3 (w := w3) (g := g) (v0 := .int .i64 0) (v1 := .string k) (v2 := .slice a0 l.length cap) (B := w3.heap.size) (by assumption) hb4))
      go_wp2_with fail
      go_ret
      exact ⟨by rw [hX]; simp [hl], B3.out.trans (hk.2.2.2.1.mono B3.out.size)⟩
set_option maxRecDepth 100000 in
set_option maxHeartbeats 8000000 in
theorem rhold_more (s : ByteArray) (d n v : Int) (k : ByteArray) (sv : Value) (l : List (Int × List ByteArray)) (w : World) (hv : SigsAt w sv l) (hR : rightCert v k l = true) (h0 : v ≠ 0) (hs : s.size ≤ 1000) :
    Calls Tryd.prog 13 #[.string s, .int .i64 d, .int .i64 n, .agg #[.int .i64 v, .string k, sv]] w fun e w' => e = .returned (.bool (certHolds s d n v k l)) ∧ Below w.heap.size w w' := by
  obtain ⟨hsm, hk, hl7, hmem⟩ := right_small hR
  have HV := Lib.hid hv
  have HMM := Lib.hid hmem
  have HR := Lib.hid hR
  have HS := Lib.hid hs
  obtain ⟨a0, cap, rfl, _⟩ := hv
  have t0 : (v == 0) = false := by simpa using h0
  have H0 := Lib.hid h0
  clear hsm hR hmem hl7 hk hs h0
  have b1 := Lib.hid ((Below.refl w.heap.size w).alloc (Nat.le_refl _) (.cells #[.int .i64 v, .string k, .slice a0 l.length cap] 24))
  have q1 := cell_new w #[.int .i64 v, .string k, .slice a0 l.length cap] 24 1 _ rfl
  have q0 := cell_new w #[.int .i64 v, .string k, .slice a0 l.length cap] 24 0 _ rfl
  have q2 := cell_new w #[.int .i64 v, .string k, .slice a0 l.length cap] 24 2 _ rfl
  obtain ⟨X, hX⟩ : ∃ X, certHolds s d n v k l = X := ⟨_, rfl⟩
  have HX := Lib.hid hX
  rw [hX]
  clear hX
  go_enter Tryd.func13, Tryd.ntmps13
  go_wp2_with fail
  obtain ⟨w1, hw1⟩ : ∃ w1, w.alloc (.cells #[.int .i64 v, .string k, .slice a0 l.length cap] 24) = w1 := ⟨_, rfl⟩
  rw [hw1] at q0 q1 q2 b1 ⊢
  clear hw1
  have HV1 := Lib.hid (HV.out.later b1.out)
  obtain ⟨g, hg⟩ : ∃ g, w.heap.size = g := ⟨_, rfl⟩
  rw [hg] at q0 q1 q2 ⊢
  clear hg
  refine (rightcert5_is v k _ l true HR.out _ HV1.out HMM.out).mono ?_
  rintro e w3 ⟨rfl, hb2⟩
  have B3 := Lib.hid (b1.out.trans (hb2.mono b1.out.size))
  have q0 : w3.cell? ⟨g, 0, none⟩ = some (.int .i64 v) := (hb2.cell (p := ⟨g, 0, none⟩) (World.block_lt_of_cell? w1 _ q0)).trans q0
  have q1 : w3.cell? ⟨g, 1, none⟩ = some (.string k) := (hb2.cell (p := ⟨g, 1, none⟩) (World.block_lt_of_cell? w1 _ q1)).trans q1
  have q2 : w3.cell? ⟨g, 2, none⟩ = some (.slice a0 l.length cap) := (hb2.cell (p := ⟨g, 2, none⟩) (World.block_lt_of_cell? w1 _ q2)).trans q2
  clear hb2 b1
  have HV3 := Lib.hid (HV.out.later B3.out)
  by_cases hn : n < 1
  · have HBD := Lib.hid (show X = false by
      rw [← HX.out, certHolds, if_neg H0.out, goodL_bad s d n v k l (Or.inr ⟨HR.out, Or.inl hn⟩)]
      have := quorum_pos n; simp; omega)
    go_wp2_with fail
    go_ret
    exact ⟨by rw [HBD.out]; rfl, B3.out⟩
  · by_cases h7 : 7 < n
    · have HBD := Lib.hid (show X = false by
        rw [← HX.out, certHolds, if_neg H0.out, goodL_bad s d n v k l (Or.inr ⟨HR.out, Or.inr ⟨by omega, Or.inl h7⟩⟩)]
        have := quorum_pos n; simp; omega)
      go_wp2_with fail
      go_ret
      exact ⟨by rw [HBD.out]; rfl, B3.out⟩
    · go_wp2_with fail
      refine (rgood_any s d n v k _ l w3 HV3.out HMM.out HS.out).mono ?_
      rintro e w4 ⟨v', rfl, hI, hb4⟩
      obtain ⟨G, hG⟩ : ∃ G, goodL s d n v k l = G := ⟨_, rfl⟩
      rw [hG] at hI
      obtain ⟨ga, gcap, rfl, _, _⟩ := hI
      have B4 := Lib.hid (B3.out.trans (hb4.mono B3.out.size))
      have HG := Lib.hid (show X = decide (n - faultsI n ≤ (G.length : Int)) by
        rw [← HX.out, certHolds, if_neg H0.out, hG, quorumI, if_neg (by omega)])
      clear hb4 hG q0 q1 q2
      obtain ⟨fa, hfa⟩ : ∃ fa, faultsI n = fa := ⟨_, rfl⟩
      have f0 : 0 ≤ fa ∧ fa ≤ 2 := by rw [← hfa]; unfold faultsI; split <;> omega
      rw [hfa] at HG
      obtain ⟨f0, f2⟩ := f0
      go_wp2_with fail
      refine (rfaults_is n fa hfa (by omega) w4).mono ?_
      rintro e w' ⟨rfl, rfl⟩
      go_wp2_with fail
      go_ret
      exact ⟨by rw [HG.out]; rfl, B4.out⟩
set_option maxRecDepth 100000 in
set_option maxHeartbeats 2000000 in
theorem rhold_bad (s : ByteArray) (d n v : Int) (k : ByteArray) (sv : Value) (l : List (Int × List ByteArray)) (w : World) (hv : SigsAt w sv l) (hR : rightCert v k l = false) (hn : MemS l) :
    Calls Tryd.prog 13 #[.string s, .int .i64 d, .int .i64 n, .agg #[.int .i64 v, .string k, sv]] w fun e w' => e = .returned (.bool false) ∧ Below w.heap.size w w' := by
  have HV := Lib.hid hv
  have HN := Lib.hid hn
  have HR := Lib.hid hR
  obtain ⟨a0, cap, rfl, _⟩ := hv
  clear hn hR
  have b1 := Lib.hid ((Below.refl w.heap.size w).alloc (Nat.le_refl _) (.cells #[.int .i64 v, .string k, .slice a0 l.length cap] 24))
  go_enter Tryd.func13, Tryd.ntmps13
  go_wp2_with fail
  refine (rightcert5_is v k _ l false HR.out _ (HV.out.later b1.out) HN.out).mono ?_
  rintro e w2 ⟨rfl, hb2⟩
  have B2 := Lib.hid (b1.out.trans (hb2.mono b1.out.size))
  clear hb2 b1
  go_wp2_with fail
  go_ret
  exact ⟨rfl, B2.out⟩
theorem rhold_any (s : ByteArray) (d n v : Int) (k : ByteArray) (sv : Value) (l : List (Int × List ByteArray)) (w : World) (hv : SigsAt w sv l) (hn : MemS l) (hs : s.size ≤ 1000) :
    Calls Tryd.prog 13 #[.string s, .int .i64 d, .int .i64 n, .agg #[.int .i64 v, .string k, sv]] w fun e w' => e = .returned (.bool (certHolds s d n v k l)) ∧ Below w.heap.size w w' := by
  rcases hR : rightCert v k l with _ | _
  · rw [certHolds_bad s d n v k l hR]; exact rhold_bad s d n v k sv l w hv hR hn
  · by_cases h0 : v = 0
    · subst h0; exact rhold_zero s d n k sv l w hv hR
    · exact rhold_more s d n v k sv l w hv hR h0 hs
end Go.Proofs.YtigoaokpodggcaaDoor
end
