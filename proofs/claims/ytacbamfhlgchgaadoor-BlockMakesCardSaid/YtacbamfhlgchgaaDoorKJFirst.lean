/-
  The walk of the first block's digest.
-/
import Derived.Test.YtacbamfhlgchgaaDoorKERight
import Derived.Test.YtacbamfhlgchgaaDoorKEText
import Derived.Test.YtacbamfhlgchgaaDoorKMHolds
import Derived.Test.YtacbamfhlgchgaaDoorKESig
section
open Go Go.RowKit
namespace CC
open MM WW BB
/-- the nodes whose signatures hold, of the first i -/
def goodTo (P : Int × List ByteArray → Bool) (l : List (Int × List ByteArray)) (i : Nat) : List Int := ((l.take i).filter P).map fun p => p.1
theorem good_snoc (P : Int × List ByteArray → Bool) (l : List (Int × List ByteArray)) (i : Nat) (h : i < l.length) : goodTo P l (i + 1) = if P (l.getD i (0, [])) = true then goodTo P l i ++ [(l.getD i (0, [])).1] else goodTo P l i := by
  unfold goodTo
  rw [List.take_succ_eq_append_getElem h, List.filter_append, List.map_append]
  have e : l.getD i (0, []) = l[i] := by simp [List.getD, List.getElem?_eq_getElem h]
  rw [e]
  by_cases hp : P l[i] = true <;> simp [hp]
theorem good_len (P : Int × List ByteArray → Bool) (l : List (Int × List ByteArray)) (i : Nat) : (goodTo P l i).length ≤ l.length := by
  unfold goodTo
  rw [List.length_map]
  have := List.length_filter_le P (l.take i)
  rw [List.length_take] at this
  omega
/-- the nodes whose signatures hold -/
def goodL (s : ByteArray) (d n v : Int) (k : ByteArray) (l : List (Int × List ByteArray)) : List Int :=
  if rightCert v k l = true then goodTo (fun p => holdsB s d n (textB v k) p.1 p.2) l l.length else []
/-- does it hold? -/
def certHolds (s : ByteArray) (d n v : Int) (k : ByteArray) (l : List (Int × List ByteArray)) : Bool :=
  if v = 0 then decide (k = firstD ∧ l = []) else decide (quorumI n ≤ ((goodL s d n v k l).length : Int))
structure GAt (w : World) (e : TypeId) (out : List Int) (u : Value) (wr : World) : Prop where
  below : Below w.heap.size w wr
  own : wr.ownsRow w.heap.size e 1 u out.length (out.map (Value.int .i64))
theorem GAt.on {w w1 w2 : World} {e : TypeId} {out : List Int} {u : Value} (h : GAt w e out u w1) (hb : Below w1.heap.size w1 w2) : GAt w e out u w2 :=
  ⟨h.below.trans (hb.mono h.below.size), row_keep h.own fun c hc => hb.block c (h.own.lt c hc).2⟩
end CC
namespace Go.Proofs.YtacbamfhlgchgaaDoor
open CC MM WW BB
theorem tabs_on {w w' : World} (h : Tabs w) (hb : Below w.heap.size w w') : Tabs w' := h.below hb (Nat.le_refl _)
theorem holds5_is (s : ByteArray) (d n : Int) (t : ByteArray) (f : Int) (tv : Value) (ts : List ByteArray) (b : Bool) (h : holdsB s d n t f ts = b) (w : World) (hv : StrsAt w tv ts) (hn : ts.length ≤ 1000) (hs : s.size ≤ 1000) (ht : t.size ≤ 100000) (hT : Tabs w) :
    Calls Tryd.prog 45 #[.string s, .int .i64 d, .int .i64 n, .string t, .agg #[.int .i64 f, tv]] w fun e w' => e = .returned (.bool b) ∧ Below w.heap.size w w' := h ▸ holds_any s d n t f tv ts w hv (by omega) hs ht hT
set_option maxRecDepth 100000 in
set_option maxHeartbeats 8000000 in
theorem good_any (s : ByteArray) (d n v : Int) (k : ByteArray) (sv : Value) (l : List (Int × List ByteArray)) (w : World) (hv : SigsAt w sv l) (hs : s.size ≤ 1000) (hk : k.size ≤ 1000) (hsm : SmallS l) (hz : (certB v k l).size ≤ 1000000) (hT : Tabs w) :
    Calls Tryd.prog 30 #[.string s, .int .i64 d, .int .i64 n, .agg #[.int .i64 v, .string k, sv]] w fun e w' => ∃ v', e = .returned v' ∧ IntsAt w' v' (goodL s d n v k l) ∧ Below w.heap.size w w' := by
  have HV := Lib.hid hv
  have HS := Lib.hid hs
  have HK := Lib.hid hk
  have HSM := Lib.hid hsm
  have HZ := Lib.hid hz
  have HT := Lib.hid hT
  obtain ⟨a0, cap, rfl, _⟩ := hv
  clear hs hk hsm hz hT
  obtain ⟨G, hG⟩ : ∃ G, goodL s d n v k l = G := ⟨_, rfl⟩
  obtain ⟨R, hR⟩ : ∃ R, rightCert v k l = R := ⟨_, rfl⟩
  have HG := Lib.hid hG
  have HR := Lib.hid hR
  rw [hG]
  clear hG hR
  have b1 := Lib.hid ((Below.refl w.heap.size w).alloc (Nat.le_refl _) (.cells #[.int .i64 v, .string k, .slice a0 l.length cap] 24))
  have q0 := cell_new w #[.int .i64 v, .string k, .slice a0 l.length cap] 24 0 _ rfl
  have q1 := cell_new w #[.int .i64 v, .string k, .slice a0 l.length cap] 24 1 _ rfl
  have q2 := cell_new w #[.int .i64 v, .string k, .slice a0 l.length cap] 24 2 _ rfl
  go_enter Tryd.func30, Tryd.ntmps30
  go_wp2_with fail
  obtain ⟨w1, hw1⟩ : ∃ w1, w.alloc (.cells #[.int .i64 v, .string k, .slice a0 l.length cap] 24) = w1 := ⟨_, rfl⟩
  rw [hw1] at q0 q1 q2 b1 ⊢
  clear hw1
  obtain ⟨g, hg⟩ : ∃ g, w.heap.size = g := ⟨_, rfl⟩
  have HGG := Lib.hid hg
  rw [hg] at q0 q1 q2 ⊢
  clear hg
  refine (cright_any v k _ l _ (HV.out.later b1.out) HK.out HSM.out HZ.out).mono ?_
  rintro e w2 ⟨rfl, hb2⟩
  rw [HR.out]
  have B2 := Lib.hid (b1.out.trans (hb2.mono b1.out.size))
  have q0 := (hb2.cell (p := ⟨g, 0, none⟩) (World.block_lt_of_cell? w1 _ q0)).trans q0
  have q1 := (hb2.cell (p := ⟨g, 1, none⟩) (World.block_lt_of_cell? w1 _ q1)).trans q1
  have q2 := (hb2.cell (p := ⟨g, 2, none⟩) (World.block_lt_of_cell? w1 _ q2)).trans q2
  clear hb2 b1
  cases R with
  | false =>
    clear q0 q1 q2
    go_wp2_with fail
    go_ret
    refine ⟨_, rfl, ?_, B2.out⟩
    rw [← HG.out, goodL, HR.out, if_neg (by decide)]
    exact ints_own (e := 3) (base := 0) ⟨rfl, Or.inl ⟨rfl, rfl⟩⟩
  | true =>
    go_wp2_with fail
    refine (text5_any v k (by have := HK.out; omega) w2).mono ?_
    rintro e w3 ⟨rfl, hb3⟩
    obtain ⟨T, hT⟩ : ∃ T, textB v k = T := ⟨_, rfl⟩
    have HTT := Lib.hid hT
    rw [hT]
    clear hT
    have HTZ := Lib.hid (show T.size ≤ 100000 by rw [← HTT.out, textB_size]; have := HK.out; omega)
    have B3 := Lib.hid (B2.out.trans (hb3.mono B2.out.size))
    have q2 := (hb3.cell (p := ⟨g, 2, none⟩) (World.block_lt_of_cell? w2 _ q2)).trans q2
    clear hb3 B2 q0 q1
    have HV3 := Lib.hid (HV.out.later B3.out)
    have HT3 := Lib.hid (tabs_on HT.out B3.out)
    obtain ⟨P, hP⟩ : ∃ P : Int × List ByteArray → Bool, (fun p => holdsB s d n T p.1 p.2) = P := ⟨_, rfl⟩
    have HP := Lib.hid hP
    have HGP := Lib.hid (show goodTo P l l.length = G by rw [← HG.out, goodL, HR.out, if_pos rfl, HTT.out, hP])
    clear hP
    go_wp2_with fail
    go_loopw [10, 24] (fun u x wr => ∃ (i : Nat) (u' : Value), i ≤ l.length ∧ x = .int .i64 (i : Int) ∧ u = u' ∧ GAt w3 3 (goodTo P l i) u' wr) (fun _ x _ => l.length - (intOf x).toNat)
    case atStart => exact ⟨0, _, Nat.zero_le _, rfl, rfl, ⟨Below.refl _ _, rfl, Or.inl ⟨rfl, rfl⟩⟩⟩
    case round =>
      obtain ⟨i, u, hi, rfl, rfl, hO⟩ := hrel
      have HO := Lib.hid hO
      have i0 : (0 : Int) ≤ (i : Int) := by omega
      by_cases hlt : i < l.length
      · have hlt' : (i : Int) < (l.length : Int) := by omega
        have ib : (i : Int) ≤ 1000 := by have := HSM.out.1; omega
        obtain ⟨a1, cap1, he, hv | ⟨gb, off, rfl, hbw, hcell⟩⟩ := HV3.out
        · rw [hv] at hlt; simp at hlt
        injection he with e1 _ e3
        subst e1 e3
        obtain ⟨tv, hc0, hc1, hts⟩ := hcell i hlt
        have hcl0 : wr.cell? ⟨gb, off + i * 2, none⟩ = _ := (HO.out.below.cell (p := ⟨gb, off + i * 2, none⟩) hbw).trans hc0
        have hcl1 : wr.cell? ⟨gb, off + i * 2 + 1, none⟩ = _ := (HO.out.below.cell (p := ⟨gb, off + i * 2 + 1, none⟩) hbw).trans hc1
        have HTS := Lib.hid (hts.later HO.out.below)
        have HSI := Lib.hid (HSM.out.2.2 i hlt).2
        have HSN := Lib.hid (good_snoc P l i hlt)
        obtain ⟨p, hp⟩ : ∃ p, l.getD i (0, []) = p := ⟨_, rfl⟩
        rw [hp] at hcl0 HTS HSI HSN
        obtain ⟨f, ts⟩ := p
        obtain ⟨ta, tcap, rfl, _⟩ := HTS.out
        have HLT := Lib.hid hlt
        have HOL := Lib.hid (good_len P l i)
        obtain ⟨out, hout⟩ : ∃ out, goodTo P l i = out := ⟨_, rfl⟩
        rw [hout] at HO HSN HOL
        have HT0 := Lib.hid hout
        obtain ⟨H, hH⟩ : ∃ H, P (f, ts) = H := ⟨_, rfl⟩
        have HH := Lib.hid (show holdsB s d n T f ts = H by rw [← hH, ← HP.out])
        rw [hH] at HSN
        have b2 := Lib.hid ((Below.refl wr.heap.size wr).alloc (Nat.le_refl _) (.cells #[.int .i64 f, .slice ta ts.length tcap] 42))
        have c0 := cell_new wr #[.int .i64 f, .slice ta ts.length tcap] 42 0 _ rfl
        clear hp hlt hi hcell hbw hc0 hc1 hts hH hO hout
        go_wp2_with fail
        obtain ⟨wa, hwa⟩ : ∃ wa, wr.alloc (.cells #[.int .i64 f, .slice ta ts.length tcap] 42) = wa := ⟨_, rfl⟩
        rw [hwa] at b2 c0 ⊢
        clear hwa hcl0 hcl1
        have OA := Lib.hid (HO.out.on b2.out)
        refine (holds5_is s d n T f _ ts H HH.out wa (HTS.out.later b2.out) HSI.out HS.out HTZ.out (tabs_on (tabs_on HT3.out HO.out.below) b2.out)).mono ?_
        rintro e w4 ⟨rfl, hb4⟩
        have O4 := Lib.hid (OA.out.on hb4)
        have c0 := (hb4.cell (p := ⟨wr.heap.size, 0, none⟩) (World.block_lt_of_cell? wa _ c0)).trans c0
        clear hb4 OA b2 HO
        cases H with
        | true =>
          obtain ⟨ti, i1, i2, i3, i4⟩ := info_parts info_int
          have cx := cell_new w4 #[.int .i64 f] 3 0 _ rfl
          have bal := (Below.refl w4.heap.size w4).alloc (Nat.le_refl _) (.cells #[.int .i64 f] 3)
          have hown2 := (O4.out.on bal).own
          have hbs := (O4.out.on bal).below.size
          go_wp2_with (at_builtin; refine wpList_append_own _ rfl _ _ 67 rfl w3.heap.size 3 ti (.int .i64 0) 1 8 (by kernel_rfl) i1 i2 i3 i4 rfl (by decide) u10 out.length (out.map (Value.int .i64)) rfl hown2 ⟨w4.heap.size, 0, none⟩ 1 1 [.int .i64 f] rfl rfl ?c1 ?c2 ?c3 ?c4 hbs ?_)
          case c1 =>
            intro j u hj
            match j, hj with
            | 0, hj => simp at hj; subst hj; rw [Addr.add_lit]; exact cx
            | j + 1, hj => simp at hj
          case c2 => intro u hu; simp at hu; subst hu; rfl
          case c3 => have := HOL.out; have := HSM.out.1; unfold maxLen; omega
          case c4 => have := HOL.out; have := HSM.out.1; omega
          intro v' w' hown' hgr _
          have hb' : Below w3.heap.size w3 w' := (O4.out.on bal).below.grown hgr (by have := (O4.out.on bal).below.size; omega) (fun k hk => (hown2.lt k hk).1)
          have HB' := Lib.hid hb'
          have HOW' := Lib.hid hown'
          clear hb' hown' hgr hown2 bal cx hbs c0
          go_wp2_with fail
          go_roundw
          case rel => exact ⟨i + 1, _, by have := HLT.out; omega, by go_num, rfl, ⟨HB'.out, by
            rw [show goodTo P l (i + 1) = out ++ [f] by simpa using HSN.out, List.map_append, List.length_append]; exact HOW'.out⟩⟩
          case measure => have := HLT.out; simp [intOf]; omega
        | false =>
          clear c0
          go_wp2_with fail
          go_roundw
          case rel => exact ⟨i + 1, _, by have := HLT.out; omega, by go_num, rfl, by rw [show goodTo P l (i + 1) = out by simpa using HSN.out]; exact O4.out⟩
          case measure => have := HLT.out; simp [intOf]; omega
      · obtain rfl : i = l.length := by omega
        have hlt' : ¬ (l.length : Int) < (l.length : Int) := by omega
        rw [HGP.out] at HO
        clear hi hlt hO
        go_wp2_with fail
        go_ret
        exact ⟨_, rfl, ints_own HO.out.own, B3.out.trans (HO.out.below.mono B3.out.size)⟩
end Go.Proofs.YtacbamfhlgchgaaDoor
end
section
open Go Go.RowKit
namespace CC
open MM WW BB
theorem sigs_nil (w : World) : SigsAt w (.slice none 0 0) [] := ⟨none, 0, rfl, Or.inl rfl⟩
end CC
namespace Go.Proofs.YtacbamfhlgchgaaDoor
open CC MM WW BB
set_option maxRecDepth 100000 in
set_option maxHeartbeats 8000000 in
theorem chold_zero (s : ByteArray) (d n : Int) (k : ByteArray) (sv : Value) (l : List (Int × List ByteArray)) (w : World) (hv : SigsAt w sv l) (hsm : l.length ≤ 1000 ∧ ∀ i, i < l.length → (l.getD i (0, [])).2.length ≤ 1000) (hT : Tabs w) :
    Calls Tryd.prog 21 #[.string s, .int .i64 d, .int .i64 n, .agg #[.int .i64 0, .string k, sv]] w fun e w' => e = .returned (.bool (decide (k = firstD ∧ l = []))) ∧ Below w.heap.size w w' := by
  have HV := Lib.hid hv
  have HSM := Lib.hid hsm
  have HT := Lib.hid hT
  obtain ⟨a0, cap, rfl, _⟩ := hv
  clear hsm hT
  obtain ⟨X, hX⟩ : ∃ X, decide (k = firstD ∧ l = []) = X := ⟨_, rfl⟩
  have HX := Lib.hid (show decide ((((0 : Int), k), l) = ((0, firstD), [])) = X by rw [← hX]; simp)
  rw [hX]
  clear hX
  have b1 := ((Below.refl w.heap.size w).alloc (Nat.le_refl _) (.cells #[.int .i64 0, .string k, .slice a0 l.length cap] 24))
  have q0 := cell_new w #[.int .i64 0, .string k, .slice a0 l.length cap] 24 0 _ rfl
  have q1 := cell_new w #[.int .i64 0, .string k, .slice a0 l.length cap] 24 1 _ rfl
  have q2 := cell_new w #[.int .i64 0, .string k, .slice a0 l.length cap] 24 2 _ rfl
  go_enter Tryd.func21, Tryd.ntmps21
  go_wp2_with fail
  obtain ⟨w1, hw1⟩ : ∃ w1, w.alloc (.cells #[.int .i64 0, .string k, .slice a0 l.length cap] 24) = w1 := ⟨_, rfl⟩
  rw [hw1] at q0 q1 q2 b1 ⊢
  clear hw1
  obtain ⟨g, hg⟩ : ∃ g, w.heap.size = g := ⟨_, rfl⟩
  have z1 := b1.size
  rw [hg] at q0 q1 q2 b1 z1 ⊢
  have HGG := Lib.hid hg
  clear hg
  have hst := start3 (w := w) q0 q1 q2 b1 z1
  have HV' := Lib.hid (fun (wx : World) (hb : Below g w wx) => HV.out.later (by rw [HGG.out]; exact hb))
  have HT' := Lib.hid (fun (wx : World) (hb : Below g w wx) => tabs_now HT.out HGG.out hb)
  clear b1 q0 q1 q2
  go_region_held3 (fun w' => w'.cell? ⟨g, 0, none⟩ = some (.int .i64 0) ∧ w'.cell? ⟨g, 1, none⟩ = some (.string k) ∧ w'.cell? ⟨g, 2, none⟩ = some (.slice a0 l.length cap) ∧ Below g w w' ∧ g ≤ w'.heap.size)
    (first | exact hst | exact hk)
    (first
      | (go_at_call 18; refine (first_any _ (HT'.out _ (by first | exact hst.2.2.2.1 | exact HK.out))).mono ?_; rintro e w2 ⟨rfl, hb2⟩; have hk := keep3 (w := w) (g := g) (v0 := .int .i64 0) (v1 := .string k) (v2 := .slice a0 l.length cap) (B := g) (by assumption) hb2; have HK := Lib.hid hk.2.2.2.1)
      | (go_at_call 29; refine (same_any 0 0 k firstD _ _ l [] _ (HV'.out _ HK.out) (sigs_nil _) HSM.out.1 HSM.out.2).mono ?_; rintro e w3 ⟨rfl, hb3⟩; rw [HX.out]; have hk := keep3 (w := w) (g := g) (v0 := .int .i64 0) (v1 := .string k) (v2 := .slice a0 l.length cap) (B := g) (by assumption) hb3))
  go_wp2_with fail
  go_ret
  exact ⟨rfl, by rw [HGG.out]; exact hk.2.2.2.1⟩
set_option maxRecDepth 100000 in
set_option maxHeartbeats 8000000 in
theorem chold_more (s : ByteArray) (d n v : Int) (k : ByteArray) (sv : Value) (l : List (Int × List ByteArray)) (w : World) (hv : SigsAt w sv l) (h0 : v ≠ 0) (hn : n ≤ 9223372036854775807) (hs : s.size ≤ 1000) (hk : k.size ≤ 1000) (hsm : SmallS l) (hz : (certB v k l).size ≤ 1000000) (hT : Tabs w) :
    Calls Tryd.prog 21 #[.string s, .int .i64 d, .int .i64 n, .agg #[.int .i64 v, .string k, sv]] w fun e w' => e = .returned (.bool (decide (quorumI n ≤ ((goodL s d n v k l).length : Int)))) ∧ Below w.heap.size w w' := by
  have HV := Lib.hid hv
  have HS := Lib.hid hs
  have HK := Lib.hid hk
  have HN := Lib.hid hn
  have HSM := Lib.hid hsm
  have HZ := Lib.hid hz
  have HT := Lib.hid hT
  have t0 : (v == 0) = false := by simpa using h0
  obtain ⟨a0, cap, rfl, _⟩ := hv
  clear hs hk hsm hz hT hn h0
  obtain ⟨G, hG⟩ : ∃ G, goodL s d n v k l = G := ⟨_, rfl⟩
  have HG := Lib.hid hG
  rw [hG]
  clear hG
  have b1 := Lib.hid ((Below.refl w.heap.size w).alloc (Nat.le_refl _) (.cells #[.int .i64 v, .string k, .slice a0 l.length cap] 24))
  go_enter Tryd.func21, Tryd.ntmps21
  go_wp2_with fail
  refine (good_any s d n v k _ l _ (HV.out.later b1.out) HS.out HK.out HSM.out HZ.out (tabs_on HT.out b1.out)).mono ?_
  rintro e w2 ⟨v', rfl, hI, hb2⟩
  rw [HG.out] at hI
  obtain ⟨ga, gcap, rfl, _, _⟩ := hI
  have B2 := Lib.hid (b1.out.trans (hb2.mono b1.out.size))
  clear hb2 b1
  go_wp2_with fail
  refine (cquorum_any n HN.out w2).mono ?_
  rintro e w' ⟨rfl, rfl⟩
  obtain ⟨q, hq⟩ : ∃ q, quorumI n = q := ⟨_, rfl⟩
  rw [hq]
  go_wp2_with fail
  go_ret
  exact ⟨by rw [hq]; rfl, B2.out⟩
theorem chold_any (s : ByteArray) (d n v : Int) (k : ByteArray) (sv : Value) (l : List (Int × List ByteArray)) (w : World) (hv : SigsAt w sv l) (hn : n ≤ 9223372036854775807) (hs : s.size ≤ 1000) (hk : k.size ≤ 1000) (hsm : SmallS l) (hz : (certB v k l).size ≤ 1000000) (hT : Tabs w) :
    Calls Tryd.prog 21 #[.string s, .int .i64 d, .int .i64 n, .agg #[.int .i64 v, .string k, sv]] w fun e w' => e = .returned (.bool (certHolds s d n v k l)) ∧ Below w.heap.size w w' := by
  unfold certHolds
  by_cases h0 : v = 0
  · subst h0
    rw [if_pos rfl]
    exact chold_zero s d n k sv l w hv ⟨hsm.1, fun i hi => (hsm.2.2 i hi).2⟩ hT
  · rw [if_neg h0]
    exact chold_more s d n v k sv l w hv h0 hn hs hk hsm hz hT
theorem chold_is (b : Bool) (s : ByteArray) (d n v : Int) (k : ByteArray) (sv : Value) (l : List (Int × List ByteArray)) (hb : certHolds s d n v k l = b) (w : World) (hv : SigsAt w sv l) (hn : n ≤ 9223372036854775807) (hs : s.size ≤ 1000) (hk : k.size ≤ 1000) (hsm : SmallS l) (hz : (certB v k l).size ≤ 1000000) (hT : Tabs w) :
    Calls Tryd.prog 21 #[.string s, .int .i64 d, .int .i64 n, .agg #[.int .i64 v, .string k, sv]] w fun e w' => e = .returned (.bool b) ∧ Below w.heap.size w w' := hb ▸ chold_any s d n v k sv l w hv hn hs hk hsm hz hT
theorem cert_f1 (v : Int) (k : ByteArray) (s : Value) (w : World) : (Instr.field 24 (.agg #[.int .i64 v, .string k, s]) 1).run Tryd.prog w = .ok (.string k) w := by kernel_rfl
theorem cert_f0 (v : Int) (k : ByteArray) (s : Value) (w : World) : (Instr.field 24 (.agg #[.int .i64 v, .string k, s]) 0).run Tryd.prog w = .ok (.int .i64 v) w := by kernel_rfl
theorem cert_f2 (v : Int) (k : ByteArray) (s : Value) (w : World) : (Instr.field 24 (.agg #[.int .i64 v, .string k, s]) 2).run Tryd.prog w = .ok s w := by kernel_rfl
end Go.Proofs.YtacbamfhlgchgaaDoor
end
section
open Go Go.RowKit
namespace Go.Proofs.YtacbamfhlgchgaaDoor
open CC MM WW BB
set_option maxRecDepth 100000 in
set_option maxHeartbeats 1000000 in
theorem bfirst_any (w : World) (hT : Tabs w) : Calls Tryd.prog 9 #[] w fun e w' => e = .returned (.string firstD) ∧ Below w.heap.size w w' := by
  go_enter Tryd.func9, Tryd.ntmps9
  go_wp2_with fail
  refine (first_any _ hT).mono ?_
  rintro e w1 ⟨rfl, hb1⟩
  have hf := cert_f1
  go_wp2_with fail
  go_ret
  exact ⟨rfl, hb1⟩
end Go.Proofs.YtacbamfhlgchgaaDoor
end
