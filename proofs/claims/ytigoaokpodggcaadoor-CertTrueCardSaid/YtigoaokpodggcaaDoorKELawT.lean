/-
  The walk of the law CertTrue.
-/
import Derived.Test.YtigoaokpodggcaaDoorKEVotes
import Derived.Test.YtigoaokpodggcaaDoorKEMake
import Derived.Test.YtigoaokpodggcaaDoorKELawF
import Derived.Test.YtigoaokpodggcaaDoorKEOpen
open Go Go.RowKit
namespace CC
open MM WW BB
theorem own_apart {e e' : TypeId} {w : World} {B B' c c' : Nat} {v v' : Value} {n n' : Nat} {xs xs' : List Value} (h : w.ownsRow B e c v n xs) (h' : w.ownsRow B' e' c' v' n' xs') (hne : e ≠ e') : ∀ b, v'.ownBlock = some b → some b ≠ v.ownBlock := by
  intro b hb he
  rcases h.2 with ⟨rfl, _⟩ | ⟨g, cap, cur, rfl, _, hh, _⟩
  · cases he
  · rcases h'.2 with ⟨rfl, _⟩ | ⟨g', cap', cur', rfl, _, hh', _⟩
    · cases hb
    · simp only [Value.ownBlock, Option.some.injEq] at hb he
      have hgg : g' = g := by omega
      rw [hgg, hh] at hh'
      injection hh' with hh'
      injection hh' with _ h2 _
      exact hne h2
/-- the votes so far: the signatures of ks, and whose they are, ms -/
structure VoteSt (w0 : World) (tS tI tT : TypeId) (s T : ByteArray) (n : Nat) (ks ms : List Nat) (u x : Value) (wr : World) : Prop where
  below : Below w0.heap.size w0 wr
  sigs : ∃ L : List Sg, L.map bare = ks.map (voteB s n T) ∧ wr.ownsRow w0.heap.size tS 2 u ks.length (cellsS L) ∧ ∀ y ∈ L, wr.ownsRow w0.heap.size tT 1 (tvS y) y.2.2.length (y.2.2.map Value.string)
  all : wr.ownsRow w0.heap.size tI 1 x ms.length ((ms.map fun (k : Nat) => (k : Int)).map (Value.int .i64))
section
variable {w0 : World} {tS tI tT : TypeId} {s T : ByteArray} {n : Nat} {ks ms : List Nat} {u x : Value} {wr w' : World}
theorem VoteSt.on (h : VoteSt w0 tS tI tT s T n ks ms u x wr) (hb : Below wr.heap.size wr w') : VoteSt w0 tS tI tT s T n ks ms u x w' := by
  obtain ⟨L, h1, h2, h3⟩ := h.sigs
  exact ⟨h.below.trans (hb.mono h.below.size), ⟨L, h1, row_keep h2 fun c hc => hb.block c (h2.lt c hc).2, fun y hy => row_keep (h3 y hy) fun c hc => hb.block c ((h3 y hy).lt c hc).2⟩, row_keep h.all fun c hc => hb.block c (h.all.lt c hc).2⟩
theorem VoteSt.sigsAt (h : VoteSt w0 tS tI tT s T n ks ms u x wr) : SigsAt wr u (ks.map (voteB s n T)) := by
  obtain ⟨L, h1, h2, h3⟩ := h.sigs
  have hlen : ks.length = L.length := by have := congrArg List.length h1; simpa using this.symm
  rw [← h1]
  rw [hlen] at h2
  obtain ⟨a0, cap, rfl, _, h4 | ⟨b, o, rfl, _, hr⟩⟩ := sgs_of_own h2
  · subst h4; exact ⟨a0, cap, rfl, Or.inl rfl⟩
  · exact sigs_of_sg ⟨_, cap, rfl, Or.inr ⟨b, o, rfl, hr.lt, fun i hi => ⟨hr.at0 i hi, hr.at1 i hi, strs_own (h3 _ (getD_mem' L s0 i hi))⟩⟩⟩
theorem grown_keep {w w' : World} {u v : Value} {e e' : TypeId} {B B' c c' m m' : Nat} {xs xs' : List Value} (h : w.ownsRow B e c u m xs) (h' : w.ownsRow B' e' c' v m' xs') (hne : e ≠ e') (hg : w.grownBy w' u.ownBlock) : w'.ownsRow B' e' c' v m' xs' :=
  row_keep h' fun b hb => hg.block b (h'.lt b hb).2 (own_apart h h' hne b hb)
/-- one more signature -/
theorem VoteSt.push1 {L : List Sg} {k : Nat} {ta : Option Addr} {tc : Nat} {u' : Value} (h : VoteSt w0 tS tI tT s T n ks ms u x wr) (h1 : L.map bare = ks.map (voteB s n T)) (h2 : wr.ownsRow w0.heap.size tS 2 u ks.length (cellsS L)) (h3 : ∀ y ∈ L, wr.ownsRow w0.heap.size tT 1 (tvS y) y.2.2.length (y.2.2.map Value.string))
    (ht : wr.ownsRow w0.heap.size tT 1 (.slice ta n tc) n ((tagsTo s (k : Int) T n).map Value.string)) (hg : wr.grownBy w' u.ownBlock) (ho : w'.ownsRow w0.heap.size tS 2 u' (ks.length + 1) (cellsS L ++ [.int .i64 (k : Int), .slice ta n tc])) (n1 : tS ≠ tI) (n2 : tS ≠ tT) :
    VoteSt w0 tS tI tT s T n (ks ++ [k]) ms u' x w' := by
  refine ⟨h.below.grown hg h.below.size (fun c hc => (h2.lt c hc).1), ⟨L ++ [((k : Int), (ta, tc), tagsTo s (k : Int) T n)], ?_, ?_, ?_⟩, grown_keep h2 h.all n1 hg⟩
  · rw [List.map_append, List.map_append, h1]; rfl
  · have e : cellsS (L ++ [((k : Int), (ta, tc), tagsTo s (k : Int) T n)]) = cellsS L ++ [.int .i64 (k : Int), .slice ta n tc] := by
      unfold cellsS
      rw [List.map_append, List.flatten_append]
      simp [encS, tvS, tags_len]
    rw [e, List.length_append]; exact ho
  · intro y hy
    rcases List.mem_append.1 hy with hy | hy
    · exact grown_keep h2 (h3 y hy) n2 hg
    · obtain rfl : y = _ := by simpa using hy
      have := grown_keep h2 ht n2 hg
      simp only [tvS, tags_len]
      exact this
/-- one more number -/
theorem VoteSt.push2 {k : Nat} {x' : Value} (h : VoteSt w0 tS tI tT s T n ks ms u x wr) (hg : wr.grownBy w' x.ownBlock) (ho : w'.ownsRow w0.heap.size tI 1 x' (ms.length + 1) ((ms.map fun (k : Nat) => (k : Int)).map (Value.int .i64) ++ [.int .i64 (k : Int)])) (n1 : tI ≠ tS) (n2 : tI ≠ tT) :
    VoteSt w0 tS tI tT s T n ks (ms ++ [k]) u x' w' := by
  obtain ⟨L, h1, h2, h3⟩ := h.sigs
  refine ⟨h.below.grown hg h.below.size (fun c hc => (h.all.lt c hc).1), ⟨L, h1, grown_keep h.all h2 n1 hg, fun y hy => grown_keep h.all (h3 y hy) n2 hg⟩, ?_⟩
  rw [List.length_append, List.map_append, List.map_append]
  exact ho
/-- the loop's state -/
def VRel (w0 : World) (tS tI tT : TypeId) (s T : ByteArray) (n m : Nat) (u x y : Value) (wr : World) : Prop :=
  ∃ (ks : List Nat), ks.length ≤ m ∧ y = .int .i64 (ks.length : Int) ∧ (∀ k ∈ ks, k < n) ∧ VoteSt w0 tS tI tT s T n ks ks u x wr
end
end CC
namespace Go.Proofs.YtigoaokpodggcaaDoor
open CC MM WW BB
set_option maxRecDepth 100000 in
set_option maxHeartbeats 8000000 in
theorem lawt_big (s : ByteArray) (wv : Value) (l : List Nat) (a : Nat) (w : World) (hv : NatsAt w wv l) (h : 60 < s.size ∨ s.size ≤ 60 ∧ (12 < l.length ∨ l.length ≤ 12 ∧ l.length = 0)) (hT : Tabs w) :
    Calls Tryd.prog 5 #[.string s, wv, .int .u8 (a : Int)] w fun e w' => e = .returned (.bool true) ∧ Below w.heap.size w w' := by
  have HT := Lib.hid hT
  obtain ⟨a0, cap, rfl, _⟩ := hv
  obtain ⟨m, hm⟩ : ∃ m, l.length = m := ⟨_, rfl⟩
  rw [hm] at h ⊢
  clear hT hm
  rcases h with h | ⟨h, h2 | ⟨h2, rfl⟩⟩
  · have t1 : (60 : Int) < (s.size : Int) := by omega
    clear h
    go_enter Tryd.func5, Tryd.ntmps5
    go_wp2_with fail
    refine (awake5_any _ HT.out).mono ?_
    rintro e w2 ⟨rfl, hb2⟩
    have B2 := Lib.hid hb2
    clear hb2
    go_wp2_with fail
    refine (awake5_any _ (tabs_on HT.out B2.out)).mono ?_
    rintro e w4 ⟨rfl, hb4⟩
    have B4 := Lib.hid (B2.out.trans (hb4.mono B2.out.size))
    clear hb4
    go_wp2_with fail
    go_ret
    exact ⟨rfl, B4.out⟩
  · have t1 : ¬ (60 : Int) < (s.size : Int) := by omega
    have t2 : (12 : Int) < (m : Int) := by omega
    clear h h2
    go_enter Tryd.func5, Tryd.ntmps5
    go_wp2_with fail
    refine (awake5_any _ HT.out).mono ?_
    rintro e w2 ⟨rfl, hb2⟩
    have B2 := Lib.hid hb2
    clear hb2
    go_wp2_with fail
    refine (awake5_any _ (tabs_on HT.out B2.out)).mono ?_
    rintro e w4 ⟨rfl, hb4⟩
    have B4 := Lib.hid (B2.out.trans (hb4.mono B2.out.size))
    clear hb4
    go_wp2_with fail
    go_ret
    exact ⟨rfl, B4.out⟩
  · have t1 : ¬ (60 : Int) < (s.size : Int) := by omega
    clear h h2
    go_enter Tryd.func5, Tryd.ntmps5
    go_wp2_with fail
    refine (awake5_any _ HT.out).mono ?_
    rintro e w2 ⟨rfl, hb2⟩
    have B2 := Lib.hid hb2
    clear hb2
    go_wp2_with fail
    refine (awake5_any _ (tabs_on HT.out B2.out)).mono ?_
    rintro e w4 ⟨rfl, hb4⟩
    have B4 := Lib.hid (B2.out.trans (hb4.mono B2.out.size))
    clear hb4
    go_wp2_with fail
    go_ret
    exact ⟨rfl, B4.out⟩
set_option maxRecDepth 100000 in
set_option maxHeartbeats 32000000 in
theorem lawt_in (s : ByteArray) (wv : Value) (l : List Nat) (a : Nat) (w : World) (hv : NatsAt w wv l) (hs : s.size ≤ 60) (hl : l.length ≤ 12) (h0 : l ≠ []) (ha : a < 256) (hT : Tabs w) :
    Calls Tryd.prog 5 #[.string s, wv, .int .u8 (a : Int)] w fun e w' => e = .returned (.bool true) ∧ Below w.heap.size w w' := by
  have HT := Lib.hid hT
  have HS := Lib.hid (show s.size ≤ 1000 by omega)
  have HS0 := Lib.hid (show s.size < 1000000 by omega)
  have HL := Lib.hid hl
  have hl0 : 0 < l.length := List.length_pos_iff.2 h0
  have HL0 := Lib.hid hl0
  have t1 : ¬ (60 : Int) < (s.size : Int) := by omega
  have t2 : ¬ (12 : Int) < (l.length : Int) := by omega
  have t3 : ((l.length : Int) == 0) = false := by simp; omega
  have t4 : (0 : Int) < (l.length : Int) := by omega
  have a0' : (0 : Int) ≤ (a : Int) := by omega
  have a1' : (a : Int) ≤ 255 := by omega
  obtain ⟨ad, cap, rfl, _, h256, hx⟩ := hv
  rcases hx with hx | ⟨gb, off, rfl, hbw, hcell⟩
  · exact absurd hx h0
  have HCL := Lib.hid hcell
  have HBW := Lib.hid hbw
  have H256 := Lib.hid h256
  clear hT hs hl h0 ha h256 hcell hbw hl0
  obtain ⟨K, hK⟩ : ∃ K, dg s = K := ⟨_, rfl⟩
  have HKZ := Lib.hid (show K.size = 32 by rw [← hK]; exact dsize _)
  have HKS := Lib.hid (fun wx => hK ▸ rsum_dg s HS0.out wx)
  clear hK
  go_enter Tryd.func5, Tryd.ntmps5
  go_wp2_with fail
  refine (awake5_any _ HT.out).mono ?_
  rintro e w1 ⟨rfl, hb1⟩
  have B1 := Lib.hid hb1
  clear hb1
  go_wp2_with fail
  refine (HKS.out w1).mono ?_
  rintro e w2 ⟨rfl, hb2⟩
  have B2 := Lib.hid (B1.out.trans (hb2.mono B1.out.size))
  clear hb2
  have c0 := (B2.out.cell (p := ⟨gb, off + 0, none⟩) HBW.out).trans (HCL.out 0 HL0.out)
  obtain ⟨q, hq⟩ : ∃ q, l.getD 0 0 = q := ⟨_, rfl⟩
  rw [hq, Nat.add_zero] at c0
  have q0 : (0 : Int) ≤ (q : Int) := by omega
  have q1 : (q : Int) ≤ 255 := by have := H256.out _ (getD_mem' l 0 0 HL0.out); omega
  clear hq
  go_wp2_with fail
  obtain ⟨n, hn⟩ : ∃ n : Nat, (1 + (q : Int) % 7) = (n : Int) := ⟨1 + q % 7, by omega⟩
  rw [hn]
  have HN := Lib.hid (show 1 ≤ n ∧ n ≤ 7 by omega)
  have n1 : (1 : Int) ≤ (n : Int) := by omega
  have n7 : (n : Int) ≤ 7 := by omega
  have nz : ¬ (n : Int) = 0 := by omega
  obtain ⟨v, hv⟩ : ∃ v : Int, 1 + (a : Int) = v := ⟨_, rfl⟩
  have HVV := Lib.hid (show 1 ≤ v ∧ v ≤ 1000000 by omega)
  rw [hv]
  obtain ⟨T, hT⟩ : ∃ T, textB v K = T := ⟨_, rfl⟩
  have HTT := Lib.hid hT
  have HCW := Lib.hid (fun wx (hb : Below w2.heap.size w2 wx) i (hi : i < l.length) => (((B2.out.trans (hb.mono B2.out.size)).cell (p := ⟨gb, off + i, none⟩) HBW.out).trans (HCL.out i hi)))
  clear hn q0 q1 c0 hv hT a0' a1' t1 t2
  go_loopw [11, 12, 13] (fun u x y wr => VRel w2 35 3 9 s T n l.length u x y wr) (fun _ _ y _ => l.length - (intOf y).toNat)
  case atStart => exact ⟨[], Nat.zero_le _, rfl, by simp, ⟨Below.refl _ _, ⟨[], rfl, ⟨rfl, Or.inl ⟨rfl, rfl⟩⟩, by simp⟩, ⟨rfl, Or.inl ⟨rfl, rfl⟩⟩⟩⟩
  case round =>
    obtain ⟨ks, hi, rfl, hks, hst⟩ := hrel
    have HKS2 := Lib.hid hks
    have HST := Lib.hid hst
    have HKL := Lib.hid hi
    obtain ⟨i, hil⟩ : ∃ i, ks.length = i := ⟨_, rfl⟩
    have HIL := Lib.hid hil
    rw [hil] at hi ⊢
    have i0 : (0 : Int) ≤ (i : Int) := by omega
    have ib : (i : Int) ≤ 12 := by have := HL.out; omega
    clear hks hst hil
    by_cases hlt : i < l.length
    · have hlt' : (i : Int) < (l.length : Int) := by omega
      have HLT := Lib.hid hlt
      have ci := HCW.out wr HST.out.below i hlt
      obtain ⟨wi, hwi⟩ : ∃ wi, l.getD i 0 = wi := ⟨_, rfl⟩
      have w0' : (0 : Int) ≤ (wi : Int) := by omega
      have w1' : (wi : Int) ≤ 255 := by have := H256.out _ (getD_mem' l 0 i hlt); omega
      rw [hwi] at ci
      obtain ⟨k, hk⟩ : ∃ k : Nat, k = wi % n := ⟨_, rfl⟩
      have m1 : (wi : Int).tmod (n : Int) = (k : Int) := by rw [hk]; rfl
      have m2 : (wi : Int) % (n : Int) = (k : Int) := by rw [hk]; rfl
      have HKN := Lib.hid (show k < n by rw [hk]; exact Nat.mod_lt _ (by have := HN.out; omega))
      clear hwi hk hlt hi
      go_wp2_with fail
      clear m1 m2 ci w0' w1' n1 n7 nz
      refine (rsign_any s (k : Int) n v K wr HS.out (by have := HKZ.out; omega) (by have := HN.out; omega)).mono ?_
      rintro e w3 ⟨ta, tc, rfl, htg, hb3⟩
      rw [HTT.out] at htg
      have st3 := HST.out.on hb3
      have bal := (Below.refl w3.heap.size w3).alloc (Nat.le_refl _) (.cells #[.int .i64 (k : Int), .slice ta n tc] 35)
      have st3' := st3.on bal
      have htg' := row_keep (own_base htg HST.out.below.size) (w' := w3.alloc (.cells #[.int .i64 (k : Int), .slice ta n tc] 35)) fun c hc => bal.block c (htg.lt c hc).2
      have cx0 := cell_new w3 #[.int .i64 (k : Int), .slice ta n tc] 35 0 _ rfl
      have cx1 := cell_new w3 #[.int .i64 (k : Int), .slice ta n tc] 35 1 _ rfl
      obtain ⟨L, h1, h2, h3⟩ := st3'.sigs
      have ST3 := Lib.hid st3'
      have HT3 := Lib.hid htg'
      have HH := Lib.hid (And.intro h1 h3)
      have CX := Lib.hid (And.intro cx0 cx1)
      have HLS := Lib.hid (show ks.length ≤ 12 by have := HKL.out; have := HL.out; omega)
      obtain ⟨ti, i1, i2, i3, i4⟩ := info_parts info_sig
      have hbs := st3'.below.size
      clear h1 h3 htg htg' st3 st3' cx0 cx1 hb3 bal
      rw [HIL.out] at h2
      go_wp2_with (at_builtin; refine wpList_append_own _ rfl _ _ 22 rfl w2.heap.size 35 ti (.agg #[.int .i64 0, .slice none 0 0]) 2 32 und_sigs i1 i2 i3 i4 rfl (by decide) u11 i (cellsS L) rfl h2 ⟨w3.heap.size, 0, none⟩ 1 1 [.int .i64 (k : Int), .slice ta n tc] rfl rfl ?c1 ?c2 ?c3 ?c4 hbs ?_)
      case c1 =>
        intro j u hj
        match j, hj with
        | 0, hj => simp at hj; subst hj; rw [Addr.add_lit]; exact CX.out.1
        | 1, hj => simp at hj; subst hj; rw [Addr.add_lit]; exact CX.out.2
        | j + 2, hj => simp at hj
      case c2 =>
        intro u hu
        simp only [List.mem_cons, List.not_mem_nil, or_false] at hu
        rcases hu with rfl | rfl <;> rfl
      case c3 => have := HIL.out; have := HLS.out; unfold maxLen; omega
      case c4 => have := HIL.out; have := HLS.out; omega
      intro u' w4 hown hgr _
      have ST4 := Lib.hid (ST3.out.push1 (u' := u') HH.out.1 (by rw [HIL.out]; exact h2) HH.out.2 HT3.out hgr (by rw [HIL.out]; exact hown) (by decide) (by decide))
      have hal := ST4.out.all
      rw [HIL.out] at hal
      obtain ⟨tj, j1, j2, j3, j4⟩ := info_parts info_int
      have bal := (Below.refl w4.heap.size w4).alloc (Nat.le_refl _) (.cells #[.int .i64 (k : Int)] 3)
      have st5 := ST4.out.on bal
      have hal5 := st5.all
      rw [HIL.out] at hal5
      have cx := cell_new w4 #[.int .i64 (k : Int)] 3 0 _ rfl
      have hbs5 := st5.below.size
      have ST5 := Lib.hid st5
      clear hown hgr h2 hal bal st5 i1 i2 i3 i4 hbs
      go_wp2_with (at_builtin; refine wpList_append_own _ rfl _ _ 28 rfl w2.heap.size 3 tj (.int .i64 0) 1 8 (by kernel_rfl) j1 j2 j3 j4 rfl (by decide) u12 i ((ks.map fun (k : Nat) => (k : Int)).map (Value.int .i64)) rfl hal5 ⟨w4.heap.size, 0, none⟩ 1 1 [.int .i64 (k : Int)] rfl rfl ?d1 ?d2 ?d3 ?d4 hbs5 ?_)
      case d1 =>
        intro j u hj
        match j, hj with
        | 0, hj => simp at hj; subst hj; rw [Addr.add_lit]; exact cx
        | j + 1, hj => simp at hj
      case d2 => intro u hu; simp at hu; subst hu; rfl
      case d3 => have := HIL.out; have := HLS.out; unfold maxLen; omega
      case d4 => have := HIL.out; have := HLS.out; omega
      intro x' w6 hown hgr _
      have ST6 := Lib.hid (ST5.out.push2 (x' := x') (k := k) hgr (by rw [HIL.out, List.map_map]; exact hown) (by decide) (by decide))
      clear hown hgr hal5 cx hbs5 j1 j2 j3 j4
      go_wp2_with fail
      go_roundw
      case rel => exact ⟨ks ++ [k], by rw [List.length_append, HIL.out]; have := HLT.out; simp; omega, by rw [List.length_append, HIL.out]; go_num, fun k' hk' => by
        rcases List.mem_append.1 hk' with h | h
        · exact HKS2.out k' h
        · obtain rfl : k' = k := by simpa using h
          exact HKN.out, ST6.out⟩
      case measure => have := HLT.out; simp [intOf]; omega
    · obtain rfl : i = l.length := by omega
      have hlt' : ¬ (l.length : Int) < (l.length : Int) := by omega
      have HNE := Lib.hid (show ks ≠ [] by rintro rfl; have := HIL.out; have := HL0.out; simp at *; omega)
      have HSA := Lib.hid (fun wx (hb : Below wr.heap.size wr wx) => (HST.out.on hb).sigsAt)
      obtain ⟨M0, hM0⟩ : ∃ M0, ks.map (voteB s n T) = M0 := ⟨_, rfl⟩
      rw [hM0] at HSA
      have HM0 := Lib.hid hM0
      have HML := Lib.hid (show M0.length ≤ 12 by rw [← hM0, List.length_map, HIL.out]; exact HL.out)
      have HMT := Lib.hid (show ∀ p ∈ M0, p.2.length ≤ 1000 from fun p hp => by
        rw [← hM0] at hp
        obtain ⟨k, _, rfl⟩ := List.mem_map.1 hp
        show (tagsTo s (k : Int) T n).length ≤ 1000
        rw [tags_len]; have := HN.out; omega)
      obtain ⟨L, hLl, hmk⟩ := make_any v K u11 M0 wr (HSA.out wr (Below.refl _ _)) (by have := HML.out; omega) HMT.out
      have HMK := Lib.hid hmk
      have HLL := Lib.hid (show L.map bare = ks.map (voteB s n (textB v K)) by rw [hLl, ← hM0, HTT.out])
      have BWR := Lib.hid (B2.out.trans (HST.out.below.mono B2.out.size))
      clear hi hlt hLl hmk hM0 t3 t4 i0 ib
      go_wp2_with fail
      refine HMK.out.mono ?_
      rintro e w3 ⟨ma, mcap, rfl, hms, hb3⟩
      have B3 := Lib.hid hb3
      have HMS := Lib.hid hms
      have P3 := box_mk w3 [.int .i64 v, .string K, .slice ma (mkL L).length mcap] 24
      clear hms hb3
      go_upto_region 15 with fail
      refine abs_wp (fun wx => BoxAt w3 w3.heap.size [.int .i64 v, .string K, .slice ma (mkL L).length mcap] wx) P3 ?_
      intro w4 Q3
      clear P3
      obtain ⟨gc, hgc⟩ : ∃ gc, w3.heap.size = gc := ⟨_, rfl⟩
      have B4 := Lib.hid (B3.out.trans (Q3.below.mono B3.out.size))
      have HM4 := Lib.hid (HMS.out.later Q3.below)
      rw [hgc] at Q3 ⊢
      have HC4 := Lib.hid (fun (wx : World) (hb : Below w4.heap.size w4 wx) => And.intro (Q3.on hb |>.cell 0 _ rfl) (And.intro (Q3.on hb |>.cell 1 _ rfl) (Q3.on hb |>.cell 2 _ rfl)))
      have HAI := Lib.hid (ints_own ((HST.out.on B4.out).all))
      have HAL := Lib.hid (show (ks.map fun (k : Nat) => (k : Int)).length ≤ 1000 by rw [List.length_map, HIL.out]; have := HL.out; omega)
      clear Q3 hgc
      go_wp2_with fail
      refine (once_any (ks.map fun (k : Nat) => (k : Int)) u12 (n : Int) w4 HAI.out HAL.out).mono ?_
      rintro e w5 ⟨ov, rfl, hoi, hb5⟩
      obtain ⟨o, ho⟩ : ∃ o, onceL (ks.map fun (k : Nat) => (k : Int)) (n : Int) = o := ⟨_, rfl⟩
      rw [ho] at hoi
      obtain ⟨oa, ocap, rfl, _, _⟩ := hoi
      obtain ⟨f, hf⟩ : ∃ f, faultsI (n : Int) = f := ⟨_, rfl⟩
      have HFF := Lib.hid hf
      have HQI := Lib.hid (show quorumI (n : Int) = (n : Int) - f by unfold quorumI; rw [if_neg (by have := HN.out; omega), hf])
      have hf0 : 0 ≤ f ∧ f ≤ 7 := by
        rw [← hf]; unfold faultsI
        have := HN.out
        split <;> omega
      obtain ⟨f0, f7⟩ := hf0
      obtain ⟨M, hM⟩ : ∃ M, (mkL L).map bare = M := ⟨_, rfl⟩
      have hml : (mkL L).length = M.length := by rw [← hM, List.length_map]
      have HHC := Lib.hid (show ∀ j, j < n → certHolds s (j : Int) (n : Int) v K M = decide ((n : Int) - f ≤ (o.length : Int)) from fun j hj => by
        rw [← hM, votes_holds HLL.out HKS2.out HN.out HVV.out HKZ.out j hj, HQI.out, ho])
      have HRT := Lib.hid (show rightCert v K M = true by rw [← hM]; exact votes_right HLL.out HKS2.out HN.out.2 ⟨by have := HVV.out; omega, HVV.out.2⟩ HKZ.out)
      have HM5 := Lib.hid (fun wx (hb : Below w4.heap.size w4 wx) => hM ▸ HM4.out.later hb)
      rw [hml] at HC4 HM5
      have B5 := Lib.hid hb5
      have HNN := Lib.hid (show (n : Int) ≤ 9223372036854775807 by have := HN.out; omega)
      clear hb5 ho hf hM hml HM4
      go_wp2_with fail
      refine (rfaults_is (n : Int) f HFF.out HNN.out w5).mono ?_
      rintro e w' ⟨rfl, rfl⟩
      by_cases hq : (n : Int) - f ≤ (o.length : Int)
      all_goals
        obtain ⟨E, hE⟩ : ∃ E, decide ((n : Int) - f ≤ (o.length : Int)) = E := ⟨_, rfl⟩
        have HEE := Lib.hid hE
        have hE2 := hE
        simp only [hq, decide_true, decide_false] at hE2
        subst hE2
        clear hE
        go_wp2_with fail
        go_loopw [17] (fun x wx => ∃ j : Nat, j ≤ n ∧ x = .int .i64 (j : Int) ∧ Below w4.heap.size w4 wx) (fun x _ => n - (intOf x).toNat)
        case atStart => exact ⟨0, Nat.zero_le _, rfl, B5.out⟩
        case round =>
          obtain ⟨j, hj, rfl, hb⟩ := hrel
          have BJ := Lib.hid hb
          obtain ⟨c0, c1, c2⟩ := HC4.out wr hb
          have j0 : (0 : Int) ≤ (j : Int) := by omega
          have jb : (j : Int) ≤ 7 := by have := HN.out; omega
          clear hb
          by_cases hlt : j < n
          · have hlt' : (j : Int) < (n : Int) := by omega
            have HLT := Lib.hid hlt
            obtain ⟨hsm, _, _, _⟩ := right_small HRT.out
            have hz : (certB v K M).size ≤ 1000000 := by rw [certB_size]; have := hsm.2.1; have := HKZ.out; omega
            have HSM := Lib.hid hsm
            have HZZ := Lib.hid hz
            have HCH := Lib.hid ((HHC.out j hlt).trans HEE.out)
            clear hsm hz hlt hj
            go_wp2_with fail
            refine (chold_is _ s (j : Int) (n : Int) v K _ M HCH.out wr (HM5.out wr BJ.out) HNN.out HS.out (by have := HKZ.out; omega) HSM.out HZZ.out (tabs_on HT.out (BWR.out.trans ((B4.out.trans (BJ.out.mono B4.out.size)).mono BWR.out.size)))).mono ?_
            rintro e w7 ⟨rfl, hb7⟩
            have B7 := Lib.hid (BJ.out.trans (hb7.mono BJ.out.size))
            clear hb7 c0 c1 c2
            go_wp2_with fail
            go_roundw
            case rel => exact ⟨j + 1, by have := HLT.out; omega, by go_num, B7.out⟩
            case measure => have := HLT.out; simp [intOf]; omega
          · obtain rfl : j = n := by omega
            have hlt' : ¬ (j : Int) < (j : Int) := by omega
            have B6 := Lib.hid (B4.out.trans (BJ.out.mono B4.out.size))
            obtain ⟨L2, hLl, hmk⟩ := make_any 0 K u11 M0 wr (HSA.out wr B6.out) (by have := HML.out; omega) HMT.out
            have HMK2 := Lib.hid hmk
            have HL2 := Lib.hid (show L2.map bare = ks.map (voteB s j T) by rw [hLl, HM0.out])
            clear hj hlt hLl hmk c0 c1 c2
            go_wp2_with fail
            refine HMK2.out.mono ?_
            rintro e w7 ⟨mb, mbap, rfl, hms2, hb7⟩
            have B7 := Lib.hid (B6.out.trans (hb7.mono B6.out.size))
            have HMS2 := Lib.hid hms2
            have P3 := box_mk w7 [.int .i64 0, .string K, .slice mb (mkL L2).length mbap] 24
            clear hms2 hb7
            go_upto_region 22 with fail
            refine abs_wp (fun wx => BoxAt w7 w7.heap.size [.int .i64 0, .string K, .slice mb (mkL L2).length mbap] wx) P3 ?_
            intro w8 Q3
            clear P3
            have B8 := Lib.hid (BWR.out.trans ((B7.out.trans (Q3.below.mono B7.out.size)).mono BWR.out.size))
            have HM8 := Lib.hid (HMS2.out.later Q3.below)
            obtain ⟨gd, hgd⟩ : ∃ gd, w7.heap.size = gd := ⟨_, rfl⟩
            rw [hgd] at Q3 ⊢
            have c0 : w8.cell? ⟨gd, 0, none⟩ = some (.int .i64 0) := Q3.cell 0 _ rfl
            have c1 : w8.cell? ⟨gd, 1, none⟩ = some (.string K) := Q3.cell 1 _ rfl
            have c2 : w8.cell? ⟨gd, 2, none⟩ = some (.slice mb (mkL L2).length mbap) := Q3.cell 2 _ rfl
            have HNO := Lib.hid (show decide (K = firstD ∧ (mkL L2).map bare = []) = false by
              have := votes_other (K := K) HL2.out HNE.out 0 0
              unfold certHolds at this
              rw [if_pos rfl] at this
              exact this)
            have HSZ := Lib.hid (show ((mkL L2).map bare).length ≤ 1000 ∧ ∀ i, i < ((mkL L2).map bare).length → (((mkL L2).map bare).getD i (0, [])).2.length ≤ 1000 by
              refine ⟨?_, fun i hi => ?_⟩
              · rw [List.length_map]
                have h1 := mkL_len L2
                have h2 := congrArg List.length HL2.out
                rw [List.length_map, List.length_map, HIL.out] at h2
                have := HL.out
                omega
              · obtain ⟨k, _, he⟩ := votes_in HL2.out _ (getD_mem' _ (0, []) i hi)
                rw [he]
                show (tagsTo s (k : Int) T j).length ≤ 1000
                rw [tags_len]; have := HN.out; omega)
            clear Q3 hgd
            go_wp2_with fail
            refine (chz_is false s 0 (j : Int) K _ _ HNO.out w8 HM8.out HSZ.out (tabs_on HT.out B8.out)).mono ?_
            rintro e w9 ⟨rfl, hb9⟩
            have B9 := Lib.hid (B8.out.trans (hb9.mono B8.out.size))
            clear hb9 c0 c1 c2
            go_wp2_with fail
            go_ret
            exact ⟨rfl, B9.out⟩
theorem lawt_card (s : ByteArray) (wv : Value) (l : List Nat) (a : Nat) (w : World) (hv : NatsAt w wv l) (ha : a < 256) (hT : Tabs w) :
    Calls Tryd.prog 5 #[.string s, wv, .int .u8 (a : Int)] w fun e w' => e = .returned (.bool true) ∧ Below w.heap.size w w' := by
  by_cases hs : s.size ≤ 60
  · by_cases hl : l.length ≤ 12
    · by_cases h0 : l = []
      · exact lawt_big s wv l a w hv (Or.inr ⟨hs, Or.inr ⟨hl, by rw [h0]; rfl⟩⟩) hT
      · exact lawt_in s wv l a w hv hs hl h0 ha hT
    · exact lawt_big s wv l a w hv (Or.inr ⟨hs, Or.inl (by omega)⟩) hT
  · exact lawt_big s wv l a w hv (Or.inl (by omega)) hT
end Go.Proofs.YtigoaokpodggcaaDoor
