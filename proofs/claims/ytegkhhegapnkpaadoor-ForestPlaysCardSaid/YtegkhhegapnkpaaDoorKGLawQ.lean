/-
  The walk of the law of plays.
-/
import Derived.Test.YtegkhhegapnkpaaDoorKGTwin2
import Derived.Test.YtegkhhegapnkpaaDoorKGFew
import Derived.Test.YtegkhhegapnkpaaDoorKGOpenB
import Derived.Test.YtegkhhegapnkpaaDoorKGExt
import Derived.Test.YtegkhhegapnkpaaDoorShelf
import Derived.Test.YtegkhhegapnkpaaDoorKJBox
import Derived.Test.YtegkhhegapnkpaaDoorKGAwake
import Derived.Shelf.Slices.ReverseS
import Derived.Lib.RowBridge
import Derived.Test.YtegkhhegapnkpaaDoorKERefS
import Derived.Test.YtegkhhegapnkpaaDoorKFMiss
import Derived.Maps.AppendAt
open Go Go.RowKit
namespace FF
open WW BB
/-- the cells of a slice of blocks, one behind the other -/
theorem bv_flat {w w' : World} {a0 : Option Addr} {n c : Nat} {L : List Bv} (h : BvAt w (.slice a0 n c) L) (hb : Below w.heap.size w w') : ∀ a, a0 = some a → ∀ k u, (cellsB L)[k]? = some u → w'.cell? (a.add k) = some u := by
  intro a ha k u hu
  obtain ⟨a1, c1, he, h | ⟨b, off, h1, hl, hc⟩⟩ := h
  · subst h; simp [cellsB] at hu
  · injection he with e1 _ _
    rw [ha, h1] at e1
    injection e1 with e1
    subst e1
    have hk : k < L.length * 6 := by rw [← cellsB_len]; exact (List.getElem?_eq_some_iff.1 hu).1
    have hi : k / 6 < L.length := by omega
    have hj : k % 6 < (encB (L.getD (k / 6) vb0)).length := by show k % 6 < 6; omega
    have h2 := cellsB_at L (k / 6) (k % 6) _ hi (List.getElem?_eq_getElem hj)
    rw [show k / 6 * 6 + k % 6 = k by omega, hu] at h2
    injection h2 with h2
    have h3 := (hc (k / 6) hi).1 (k % 6) _ (List.getElem?_eq_getElem hj)
    have h4 : (⟨b, off, none⟩ : Addr).add k = ⟨b, off + k, none⟩ := by unfold Addr.add; split <;> simp [*]
    rw [h4, (hb.cell (p := ⟨b, off + k, none⟩) hl), h2, ← h3]
    congr 2; omega
theorem bv_none {w : World} {a0 : Option Addr} {n c : Nat} {L : List Bv} (h : BvAt w (.slice a0 n c) L) (h0 : a0 = none) : n = 0 := by
  obtain ⟨a1, c1, he, h | ⟨b, off, h1, _⟩⟩ := h
  · injection he with _ e2 _; subst h; exact e2
  · injection he with e1 _ _; rw [h0, h1] at e1; cases e1
theorem encB_one {w : World} {x : Bv} (h : InnB w x) : ∀ u ∈ encB x, u.oneCell' = true := by
  obtain ⟨a1, c1, h1⟩ := sl_of_sigs h.1
  obtain ⟨a2, c2, h2⟩ := sl_of_reqs h.2
  intro u hu
  unfold encB at hu
  rw [h1, h2] at hu
  simp only [List.mem_cons, List.not_mem_nil, or_false] at hu
  rcases hu with rfl | rfl | rfl | rfl | rfl | rfl <;> rfl
theorem cellsB_one {w : World} {L : List Bv} (h : ∀ x ∈ L, InnB w x) : ∀ u ∈ cellsB L, u.oneCell' = true := by
  intro u hu
  unfold cellsB at hu
  rw [List.mem_flatten] at hu
  obtain ⟨c, hc, hu⟩ := hu
  obtain ⟨x, hx, rfl⟩ := List.mem_map.1 hc
  exact encB_one (h x hx) u hu
theorem cellsB_app (L M : List Bv) : cellsB (L ++ M) = cellsB L ++ cellsB M := by unfold cellsB; rw [List.map_append, List.flatten_append]
theorem bv_inn {w : World} {v : Value} {L : List Bv} (h : BvAt w v L) : ∀ x ∈ L, InnB w x := by
  intro x hx
  obtain ⟨a0, cap, rfl, h | ⟨b, off, rfl, hl, hc⟩⟩ := h
  · subst h; cases hx
  · obtain ⟨i, hi, rfl⟩ := List.getElem_of_mem hx
    have := (hc i hi).2
    rwa [getD_at hi] at this
/-- what is in a slice, or none, is appended to a row of the call's own -/
theorem run_append_argN {P : Program} {w : World} (base : Nat) (t ty e : TypeId) (i : TypeInfo) (z : Value) (size bytes : Nat) (ht : P.underlying t = some (.slice e)) (hi : P.info? e = some i) (hz : i.zero = some z)
    (hsize : i.size = size) (hby : i.bytes = bytes) (hzs : z.cells.size = size) (hsz : 0 < size) (v : Value) (n : Nat) (xs : List Value) (hown : w.ownsRow base e size v n xs) (a0 : Option Addr) (j c : Nat) (news : List Value) (hl : news.length = j * size)
    (hn : a0 = none → j = 0) (hnews : ∀ a, a0 = some a → ∀ k u, news[k]? = some u → w.cell? (a.add k) = some u) (h1 : ∀ y ∈ news, y.oneCell' = true)
    (h63 : n + j ≤ maxLen) (hbytes : (n + j) * bytes ≤ 140737488355328) (hbase : base ≤ w.heap.size) :
    ∃ v' w', (Builtin.append_ #[t, t] ty #[v, .slice a0 j c]).run P w = .ok v' w' ∧ w'.ownsRow base e size v' (n + j) (xs ++ news) ∧ w.grownBy w' v.ownBlock := by
  rcases a0 with _ | a
  · obtain rfl := hn rfl
    have hn : news = [] := List.eq_nil_of_length_eq_zero (by simpa using hl)
    subst hn
    exact ⟨_, w, run_append_none_any (P := P) (w := w) base t ty e i size ht hi _ n xs hown c, by simpa using hown, ⟨rfl, rfl, rfl, Nat.le_refl _, fun _ _ _ => rfl⟩⟩
  · obtain ⟨v', w', hr, ho, hg, _⟩ := run_append_own (P := P) w base t ty e i z size bytes ht hi hz hsize hby hzs hsz v n xs hown a j c news hl (hnews a rfl) h1 h63 hbytes hbase
    exact ⟨v', w', hr, ho, hg⟩
theorem row_own_none {w : World} {e : TypeId} : (w.alloc (.cells #[] e)).ownsRow w.heap.size e 6 (.slice (some ⟨w.heap.size, 0, none⟩) 0 0) 0 [] :=
  ⟨rfl, Or.inr ⟨_, 0, #[], rfl, Nat.le_refl _, by show (Array.push _ _)[_]? = _; simp, Nat.le_refl _, Nat.zero_le _, rfl, rfl⟩⟩
/-- a block without signatures rests upon no empty block -/
theorem inn_dep {w : World} {k : Nat} {e : TypeId} {x : Bv} (h : InnB w x) (hs : sigsI x.1 = []) (hk : w.heap[k]? = some (.cells #[] e (0, 0))) : Dep (fun b => b < w.heap.size ∧ b ≠ k) w (fun w' => InnB w' x) := by
  intro w' hK
  obtain ⟨h1, h2⟩ := h
  refine ⟨?_, ?_⟩
  · rw [hs] at h1 ⊢
    obtain ⟨a0, cap, he, _⟩ := h1
    exact ⟨a0, cap, he, Or.inl rfl⟩
  · obtain ⟨a0, cap, he, h | ⟨b, off, h3, h4, h5⟩⟩ := h2
    · exact ⟨a0, cap, he, Or.inl h⟩
    · by_cases hz : x.1.2 = []
      · exact ⟨a0, cap, he, Or.inl hz⟩
      · have hb : b ≠ k := by
          rintro rfl
          have h6 := (h5 0 (List.length_pos_iff.2 hz)).1
          unfold World.cell? at h6
          rw [hk] at h6
          simp at h6
        refine ⟨a0, cap, he, Or.inr ⟨b, off, h3, Nat.lt_of_lt_of_le h4 hK.b0.size, fun i hi => ?_⟩⟩
        have hbl := hK.block b ⟨h4, hb⟩ h4
        obtain ⟨q1, q2, q3⟩ := h5 i hi
        exact ⟨(World.cell?_of_block (a := ⟨b, _, none⟩) hbl).trans q1, (World.cell?_of_block (a := ⟨b, _, none⟩) hbl).trans q2, (World.cell?_of_block (a := ⟨b, _, none⟩) hbl).trans q3⟩
theorem ops_later {w w' : World} {v : Value} {l : List (Nat × Bool)} (h : OpsAt w v l) (hb : Below w.heap.size w w') : OpsAt w' v l := by
  obtain ⟨a0, cap, rfl, h | ⟨b, off, rfl, hl, hc⟩⟩ := h
  · exact ⟨a0, cap, rfl, Or.inl h⟩
  · refine ⟨_, cap, rfl, Or.inr ⟨b, off, rfl, Nat.lt_of_lt_of_le hl hb.size, fun i hi => ?_⟩⟩
    obtain ⟨h1, h2⟩ := hc i hi
    exact ⟨(hb.cell (p := ⟨b, off + i * 2, none⟩) hl).trans h1, (hb.cell (p := ⟨b, off + i * 2 + 1, none⟩) hl).trans h2⟩
theorem own_sl6 {w : World} {base n k : Nat} {e : TypeId} {v : Value} {xs : List Value} (h : w.ownsRow base e k v n xs) : ∃ a c, v = .slice a n c := by
  rcases h.2 with ⟨h1, h2⟩ | ⟨q, cap, cur, h1, _⟩
  · exact ⟨none, 0, by rw [h1, h2]⟩
  · exact ⟨_, _, h1⟩
end FF
namespace Go.Proofs.YtegkhhegapnkpaaDoor
open FF JJ CC MM WW BB
theorem info_blk : (Tryd.prog.info? 29).map (fun i => (i.zero, i.size, i.bytes)) = some (some (.agg #[.int .i64 0, .int .i64 0, .int .i64 0, .string ⟨#[]⟩, .slice none 0 0, .slice none 0 0]), 6, 88) := by kernel_rfl
theorem und_blks : Tryd.prog.underlying 38 = some (.slice 29) := by kernel_rfl
theorem gput_rw {g : Nat} {v p j v' p' j' : Int} {k k' : ByteArray} {sv rv : Value} {w : World} {R : Ending → World → Prop} (h1 : v = v') (h2 : p = p') (h3 : j = j') (h4 : k = k') (h : Calls Tryd.prog 21 #[.pointer (some ⟨g, 0, none⟩), .agg #[.int .i64 v, .int .i64 p, .int .i64 j, .string k, sv, rv]] w R) :
    Calls Tryd.prog 21 #[.pointer (some ⟨g, 0, none⟩), .agg #[.int .i64 v', .int .i64 p', .int .i64 j', .string k', sv, rv]] w R := by subst h1 h2 h3 h4; exact h
set_option maxRecDepth 100000 in
set_option maxHeartbeats 16000000 in
theorem lawQ_any (l : List (Nat × Nat × Nat)) (lv : Value) (M : List Bv) (mv0 : Value) (ops : List (Nat × Bool)) (ov0 : Value) (w : World) (hv : TriAt w lv l) (hsm : ∀ i, (l.getD i (0, 0, 0)).1 < 256 ∧ (l.getD i (0, 0, 0)).2.1 < 256 ∧ (l.getD i (0, 0, 0)).2.2 < 256) (hM : BvAt w mv0 M) (hMm : ∀ x ∈ M, MemI x.1) (hMl : M.length ≤ 9223372036854775807) (hO : OpsAt w ov0 ops) (_hol : ops.length ≤ 9223372036854775807) (ho : ∀ i, (ops.getD i (0, false)).1 < 256) (hT : Tabs w) :
    Calls Tryd.prog 5 #[lv, mv0, ov0] w fun e w' => e = .returned (.bool true) ∧ Below w.heap.size w w' := by
  have HT := Lib.hid hT
  have HV := Lib.hid hv
  have HSM := Lib.hid hsm
  have HM0 := Lib.hid hM
  have HMM := Lib.hid hMm
  have HML := Lib.hid hMl
  have HO := Lib.hid hO
  have HO2 := Lib.hid ho
  obtain ⟨la0, lc0, rfl, _⟩ := hv
  obtain ⟨ma0, mc0, rfl⟩ := bv_shape hM
  obtain ⟨oa0, oc0, rfl, _⟩ := hO
  clear hT hsm hM hMm hMl ho
  by_cases h30 : l.length ≤ 30
  · have t1 : decide ((30 : Int) < (l.length : Int)) = false := decide_eq_false (by omega)
    by_cases h60 : ops.length ≤ 60
    · have t2 : decide ((60 : Int) < (ops.length : Int)) = false := decide_eq_false (by omega)
      have H30 := Lib.hid h30
      have H60 := Lib.hid h60
      clear h30 h60
      go_enter Tryd.func5, Tryd.ntmps5
      go_wp2_with fail
      refine (gawake_any _ HT.out).mono ?_
      rintro e w1 ⟨rfl, hb1⟩
      have X1 := Lib.hid hb1
      clear hb1
      go_wp2_with fail
      refine (few_any M _ 5 w1 (HM0.out.later X1.out) HMM.out HML.out).mono ?_
      rintro e w2 hfa
      obtain ⟨X, rfl, hX, hb2⟩ := hfa
      have HX := Lib.hid hX
      have X2 := Lib.hid (X1.out.trans (hb2.mono X1.out.size))
      clear hX hb2
      cases X
      · go_wp2_with fail
        refine (gawake_any _ (tabs_on HT.out X2.out)).mono ?_
        rintro e w3 ⟨rfl, hb3⟩
        have X3 := Lib.hid (X2.out.trans (hb3.mono X2.out.size))
        clear hb3
        go_wp2_with fail
        go_ret
        exact ⟨rfl, X3.out⟩
      · obtain ⟨hm5, hfew⟩ := HX.out rfl
        have HM5 := Lib.hid (show M.length ≤ 5 by omega)
        have HFEW := Lib.hid (show ∀ x ∈ M, SmallI x.1 from fun x hx => by
          obtain ⟨i, hi, rfl⟩ := List.getElem_of_mem hx
          have := hfew i hi (by omega)
          rw [getD_at hi] at this
          exact few_smallI this)
        clear hm5 hfew t1 t2
        go_wp2_with fail
        refine (chain_any l _ _ (HV.out.later (X2.out.alloc X2.out.size _)) HSM.out (by have := H30.out; omega)).mono ?_
        rintro e w4 ⟨u, rfl, L, hmap, hbv, hb4⟩
        rw [show min l.length 40 = l.length by have := H30.out; omega] at hmap
        have HMAP := Lib.hid hmap
        have HLN := Lib.hid (show L.length = l.length by have := congrArg List.length hmap; rwa [List.length_map, chain_len] at this)
        have HBV := Lib.hid hbv
        have X3 := Lib.hid (show Below w2.heap.size w2 (w2.alloc (.cells #[] 29)) from (Below.refl _ _).alloc (Nat.le_refl _) _)
        have X4 := Lib.hid (show Below w2.heap.size w2 w4 from X3.out.trans (hb4.mono X3.out.size))
        have R4 := Lib.hid (row_keep (row_own_none (w := w2) (e := 29)) fun c hc => hb4.block c (by cases hc; simp))
        have HK4 := Lib.hid (show w4.heap[w2.heap.size]? = some (.cells #[] 29 (0, 0)) from (hb4.block _ (by simp)).trans (World.alloc_heap_new w2 _))
        obtain ⟨la, lc, rfl⟩ := bv_shape hbv
        clear hmap hbv hb4
        obtain ⟨ti, i1, i2, i3, i4⟩ := info_parts info_blk
        have HL30 := Lib.hid (show L.length ≤ 30 by rw [HLN.out]; exact H30.out)
        go_wp2_with (with_reducible refine hold_app rfl ?_)
        obtain ⟨v5, w5, hr5, ho5, hg5, hloc5⟩ := run_append_arg0 (P := Tryd.prog) (w := w4) w2.heap.size 38 38 29 ti _ 6 88 und_blks i1 i2 i3 i4 rfl (by decide) w2.heap.size R4.out la L.length lc (cellsB L) (cellsB_len L) (bv_none HBV.out) (bv_flat HBV.out (Below.refl _ _)) (cellsB_one (bv_inn HBV.out)) (by have := HL30.out; unfold maxLen; omega) (by have := HL30.out; omega) X4.out.size
        obtain ⟨pa, pc, rfl⟩ := own_sl6 ho5
        have X5 := Lib.hid (show Below w2.heap.size w2 w5 from X4.out.grown hg5 X4.out.size (fun j e => by cases e; exact Nat.le_refl _))
        have R5 := Lib.hid ho5
        refine wpl_value (v := .slice pa L.length pc) (w' := w5) rfl (JJ.run_op_append _ _ _ rfl _ _ rfl rfl hr5) ?_
        have G5 := Lib.hid hg5
        have LO5 := Lib.hid hloc5
        clear hr5 ho5 hg5 hloc5
        go_wp2_with (with_reducible refine hold_app rfl ?_)
        obtain ⟨v6, w6, hr6, ho6, hg6⟩ := run_append_argN (P := Tryd.prog) (w := w5) w2.heap.size 38 38 29 ti _ 6 88 und_blks i1 i2 i3 i4 rfl (by decide) _ L.length (cellsB L) R5.out ma0 M.length mc0 (cellsB M) (cellsB_len M) (bv_none HM0.out) (bv_flat HM0.out (X2.out.trans (X5.out.mono X2.out.size))) (cellsB_one fun x hx => bv_inn HM0.out x hx) (by have := HL30.out; have := HM5.out; unfold maxLen; omega) (by have := HL30.out; have := HM5.out; omega) X5.out.size
        obtain ⟨qa, qc, rfl⟩ := own_sl6 ho6
        have X6 := Lib.hid (show Below w2.heap.size w2 w6 from X5.out.grown hg6 X5.out.size (fun j e => (R5.out.lt j e).1))
        obtain ⟨AL, hAL⟩ : ∃ AL, L ++ M = AL := ⟨_, rfl⟩
        have HB6 := Lib.hid (show BvAt w6 (.slice qa (L.length + M.length) qc) AL from by
          rw [← cellsB_app, ← List.length_append, hAL] at ho6
          rw [← List.length_append, hAL]
          refine bv_of_own ho6 fun x hx => ?_
          rw [← hAL] at hx
          rcases List.mem_append.1 hx with hx | hx
          · have hxs : sigsI x.1 = [] := (chain_small l l.length x.1 (by rw [← HMAP.out]; exact List.mem_map.2 ⟨x, hx, rfl⟩)).2.1
            refine inn_dep (bv_inn HBV.out x hx) hxs HK4.out w6 (((Keeps.grown G5.out fun b hb hA => ?_).trans (Keeps.grown hg6 fun b hb hA => ?_)))
            · exact hA.2 (Option.some.inj hb).symm
            · rcases LO5.out b hb with h | h
              · exact hA.2 h
              · have := hA.1; omega
          · exact (bv_inn HM0.out x hx).later (X2.out.trans (X6.out.mono X2.out.size)))
        have G6 := Lib.hid hg6
        have X7 := Lib.hid (X2.out.trans (X6.out.mono X2.out.size))
        have HALL := Lib.hid (show AL.length = L.length + M.length by rw [← hAL, List.length_append])
        have HAS := Lib.hid (show ∀ x ∈ AL, SmallI x.1 from fun x hx => by
          rw [← hAL] at hx
          rcases List.mem_append.1 hx with hx | hx
          · exact (chain_small l l.length x.1 (by rw [← HMAP.out]; exact List.mem_map.2 ⟨x, hx, rfl⟩)).1
          · exact HFEW.out x hx)
        refine wpl_value (v := .slice qa (L.length + M.length) qc) (w' := w6) rfl (JJ.run_op_append _ _ _ rfl _ _ rfl rfl hr6) ?_
        obtain ⟨m, hm⟩ : ∃ m, L.length + M.length = m := ⟨_, rfl⟩
        have HMA := Lib.hid (show AL.length = m by rw [HALL.out]; exact hm)
        have HM35 := Lib.hid (show m ≤ 35 by rw [← hm]; have := HL30.out; have := HM5.out; omega)
        rw [hm] at HB6 ⊢
        have HT6 := Lib.hid (tabs_on HT.out X7.out)
        have HO6 := Lib.hid (show OpsAt w6 (.slice oa0 ops.length oc0) ops from ops_later HO.out X7.out)
        clear hr6 ho6 hg6 hAL hm R4 R5 HBV HK4 G5 LO5 G6
        by_cases hz : m = 0
        · have t5 : ((m : Int) == 0) = true := by rw [hz]; rfl
          clear hz
          go_wp2_with fail
          go_ret
          exact ⟨rfl, X7.out⟩
        · have t5 : ((m : Int) == 0) = false := by rw [beq_eq_false_iff_ne]; omega
          have HM0' := Lib.hid (show 0 < m by omega)
          clear hz
          go_wp2_with fail
          refine (gnew_any w6.heap.size w6 (Nat.le_refl _)).mono ?_
          rintro e w7 ⟨rfl, hc7, hb7⟩
          have HC7 := Lib.hid hc7
          have B7 := Lib.hid hb7
          clear hc7 hb7 t5
          go_wp2_with fail
          refine (fnew_any w7).mono ?_
          rintro e w8 ⟨rfl, hb8⟩
          have B8 := Lib.hid hb8
          clear hb8
          go_wp2_with fail
          have S9 := Lib.hid (show TwSt w6 w6.heap.size w8.heap.size ⟨firstD, 0, [], []⟩ ⟨firstD, 0, [], []⟩ (w8.alloc (.cells #[.string firstD, .int .i64 0, .slice none 0 0, .slice none 0 0] 54)) from by
            have hc8 := HC7.out.on B8.out
            have ha : Below w8.heap.size w8 (w8.alloc (.cells #[.string firstD, .int .i64 0, .slice none 0 0, .slice none 0 0] 54)) := (Below.refl _ _).alloc (Nat.le_refl _) _
            have hl8 : w6.heap.size < w8.heap.size := Nat.lt_of_lt_of_le HC7.out.blk.lt B8.out.size
            have hb8 := B7.out.trans (B8.out.mono B7.out.size)
            exact ⟨⟨_, _, _, _, _, _, _, _, _, _, _, _, ⟨hc8.on ha, fun c hc => by rcases hc with rfl | hc | hc | hc <;> first | omega | cases hc | exact hc.elim, Blk.new' rfl rfl, ⟨[], [], rfl, rfl, fun _ _ => ⟨iv_nil _ _ _, iv_nil _ _ _⟩⟩, new_wf _ firstD_size, by omega, tabs_on (tabs_on HT6.out hb8) ha⟩⟩, hb8.trans (ha.mono (by omega))⟩)
          obtain ⟨r, hr⟩ : ∃ r, w8.heap.size = r := ⟨_, rfl⟩
          obtain ⟨g, hg⟩ : ∃ g, w6.heap.size = g := ⟨_, rfl⟩
          rw [hr, hg] at S9
          rw [hr, hg]
          clear hr hg B7 B8 HC7
          go_loopw [10] (fun y wx => ∃ (i : Nat) (F : Fo), i ≤ ops.length ∧ y = .int .i64 (i : Int) ∧ OkF F i ∧ TwSt w6 g r F F wx) (fun y _ => ops.length - (intOf y).toNat)
          case atStart => exact ⟨0, _, Nat.zero_le _, rfl, OkF.new _ firstD_size, S9.out⟩
          case round =>
            clear S9
            obtain ⟨i, F, hi, rfl, hok, hst⟩ := hrel
            have HOK := Lib.hid hok
            have i0 : (0 : Int) ≤ (i : Int) := by omega
            have ib : (i : Int) ≤ 60 := by have := H60.out; omega
            obtain ⟨⟨rt, mv, ov, N, O, C, na, nn, nc, oa, ow, oc, hM⟩, hbz⟩ := hst
            have HM := Lib.hid hM
            have HBZ := Lib.hid hbz
            clear hok hM hbz
            by_cases hlt : i < ops.length
            · have hlt' : (i : Int) < (ops.length : Int) := by omega
              have HLT := Lib.hid hlt
              obtain ⟨ob, ooff, rfl, hobw, hocell⟩ : ∃ b off, oa0 = some ⟨b, off, none⟩ ∧ b < w6.heap.size ∧ ∀ i, i < ops.length → w6.cell? ⟨b, off + i * 2, none⟩ = some (.int .u8 ((ops.getD i (0, false)).1 : Int)) ∧ w6.cell? ⟨b, off + i * 2 + 1, none⟩ = some (.bool (ops.getD i (0, false)).2) := by
                obtain ⟨a1, c1, he, h | ⟨b, off, h1, h2, h3⟩⟩ := HO6.out
                · rw [h] at hlt; simp at hlt
                · injection he with e1 _ _
                  subst h1
                  exact ⟨b, off, e1, h2, h3⟩
              obtain ⟨a, ha⟩ : ∃ a, (ops.getD i (0, false)).1 = a := ⟨_, rfl⟩
              obtain ⟨pb, hpb⟩ : ∃ pb, (ops.getD i (0, false)).2 = pb := ⟨_, rfl⟩
              have HA := Lib.hid (show a < 256 from ha ▸ HO2.out i)
              have HOC := Lib.hid (show ∀ wx, Below w6.heap.size w6 wx → wx.cell? ⟨ob, ooff + i * 2, none⟩ = some (.int .u8 (a : Int)) ∧ wx.cell? ⟨ob, ooff + i * 2 + 1, none⟩ = some (.bool pb) from fun wx hb => by
                have h := hocell i hlt
                rw [ha, hpb] at h
                exact ⟨(hb.cell (p := ⟨ob, ooff + i * 2, none⟩) hobw).trans h.1, (hb.cell (p := ⟨ob, ooff + i * 2 + 1, none⟩) hobw).trans h.2⟩)
              obtain ⟨k, hk⟩ : ∃ k, a % m = k := ⟨_, rfl⟩
              have hkm : k < m := hk ▸ Nat.mod_lt _ HM0'.out
              have e1 : ((a : Nat) : Int).tmod (m : Int) = (k : Int) := by rw [Int.tmod_eq_emod_of_nonneg (by omega), ← hk]; simp
              have e2 : IntKind.i64.wrap (a : Int) = (a : Int) := by rw [IntKind.wrap_i64]; have := HA.out; omega
              have e3 : (k : Int) < (m : Int) := by omega
              have e4 : (0 : Int) < (m : Int) := by omega
              have e5 : IntKind.i64.wrap (k : Int) = (k : Int) := by rw [IntKind.wrap_i64]; have := HM35.out; omega
              obtain ⟨lb, loff, rfl, _, hnm, hat⟩ := bv_at HB6.out 0 (by rw [HMA.out]; exact HM0'.out)
              clear hnm
              obtain ⟨c0, c1, c2, c3, c4, c5, hin⟩ := hat wr HBZ.out k (by rw [HMA.out]; exact hkm)
              obtain ⟨P, hP⟩ : ∃ P, AL.getD k vb0 = P := ⟨_, rfl⟩
              have HSP := Lib.hid (show SmallI P.1 by rw [← hP, getD_at (by rw [HMA.out]; exact hkm)]; exact HAS.out _ (List.getElem_mem _))
              have HIN := Lib.hid (show ∀ wx, Below w6.heap.size w6 wx → SigsAt wx P.2.1 (sigsI P.1) ∧ ReqsAt wx P.2.2 P.1.2 from fun wx hb => by
                have := (hat wx hb k (by rw [HMA.out]; exact hkm)).2.2.2.2.2.2
                rwa [hP] at this)
              rw [hP] at c0 c1 c2 c3 c4 c5
              obtain ⟨⟨bd, ps, pr⟩, rfl⟩ : ∃ Q, P = Q := ⟨P, rfl⟩
              obtain ⟨e5', n5, h5⟩ := sl_of_sigs (HIN.out _ HBZ.out).1
              obtain ⟨e6', n6, h6⟩ := sl_of_reqs (HIN.out _ HBZ.out).2
              replace h5 : ps = .slice e5' (sigsI bd).length n5 := h5
              replace h6 : pr = .slice e6' bd.2.length n6 := h6
              subst h5 h6
              obtain ⟨pv, hpv⟩ : ∃ pv, viewI bd = pv := ⟨_, rfl⟩
              obtain ⟨pp, hpp⟩ : ∃ pp, propI bd = pp := ⟨_, rfl⟩
              obtain ⟨pj, hpj⟩ : ∃ pj, jvI bd = pj := ⟨_, rfl⟩
              obtain ⟨pk, hpk⟩ : ∃ pk, parI bd = pk := ⟨_, rfl⟩
              obtain ⟨m1, hm1⟩ : ∃ m, (sigsI bd).length = m := ⟨_, rfl⟩
              obtain ⟨m2, hm2⟩ : ∃ m, bd.2.length = m := ⟨_, rfl⟩
              replace c0 : wr.cell? ⟨lb, loff + k * 6, none⟩ = some (.int .i64 pv) := hpv ▸ c0
              replace c1 : wr.cell? ⟨lb, loff + k * 6 + 1, none⟩ = some (.int .i64 pp) := hpp ▸ c1
              replace c2 : wr.cell? ⟨lb, loff + k * 6 + 2, none⟩ = some (.int .i64 pj) := hpj ▸ c2
              replace c3 : wr.cell? ⟨lb, loff + k * 6 + 3, none⟩ = some (.string pk) := hpk ▸ c3
              replace c4 : wr.cell? ⟨lb, loff + k * 6 + 4, none⟩ = some (.slice e5' m1 n5) := hm1 ▸ c4
              replace c5 : wr.cell? ⟨lb, loff + k * 6 + 5, none⟩ = some (.slice e6' m2 n6) := hm2 ▸ c5
              have HIN2 := Lib.hid (show ∀ wx, Below w6.heap.size w6 wx → SigsAt wx (.slice e5' m1 n5) (sigsI bd) ∧ ReqsAt wx (.slice e6' m2 n6) bd.2 from by have := HIN.out; rw [← hm1, ← hm2]; exact this)
              have HPE := Lib.hid (show viewI bd = pv ∧ propI bd = pp ∧ jvI bd = pj ∧ parI bd = pk from ⟨hpv, hpp, hpj, hpk⟩)
              obtain ⟨q0, q1⟩ := HOC.out wr HBZ.out
              clear HIN hi hlt hobw hocell ha hpb hk hkm hat hin hP hpv hpp hpj hpk hm1 hm2
              have AA := Lib.hid ((Below.refl wr.heap.size wr).alloc (Nat.le_refl _) (.cells #[.int .i64 pv, .int .i64 pp, .int .i64 pj, .string pk, .slice e5' m1 n5, .slice e6' m2 n6] 29))
              have LA := Lib.hid (show Blk (wr.alloc (.cells #[.int .i64 pv, .int .i64 pp, .int .i64 pj, .string pk, .slice e5' m1 n5, .slice e6' m2 n6] 29)) wr.heap.size 6 (rowL [.int .i64 pv, .int .i64 pp, .int .i64 pj, .string pk, .slice e5' m1 n5, .slice e6' m2 n6]) from Blk.new' rfl rfl)
              go_upto_region 11 with fail
              obtain ⟨wA, hwA⟩ : ∃ wA, wr.alloc (.cells #[.int .i64 pv, .int .i64 pp, .int .i64 pj, .string pk, .slice e5' m1 n5, .slice e6' m2 n6] 29) = wA := ⟨_, rfl⟩
              obtain ⟨q9, hq9⟩ : ∃ q9, wr.heap.size = q9 := ⟨_, rfl⟩
              have HMA9 := Lib.hid (HM.out.on (show Below wr.heap.size wr wA from hwA ▸ AA.out))
              have HBA := Lib.hid (HBZ.out.trans ((show Below wr.heap.size wr wA from hwA ▸ AA.out).mono HBZ.out.size))
              have LA9 := Lib.hid (show Blk wA q9 6 (rowL [.int .i64 pv, .int .i64 pp, .int .i64 pj, .string pk, .slice e5' m1 n5, .slice e6' m2 n6]) by rw [← hwA, ← hq9]; exact LA.out)
              rw [hwA, hq9]
              clear hwA hq9 AA LA q0 q1 c0 c1 c2 c3 c4 c5 e1 e2 e3 e4 e5
              obtain ⟨q0, q1⟩ := HOC.out wA HBA.out
              cases pb
              · clear q0
                have HMB := HMA9
                have HBB := HBA
                have HOK2 := Lib.hid (show OkF (putF F (digI bd, bd)).1 (i + 1) from HOK.out.step false bd)
                have k0 : _ = some (Value.string F.root) := HMB.out.blk.get 0 (by omega)
                have k1 : _ = some (Value.int .i64 F.height) := HMB.out.blk.get 1 (by omega)
                have k2 : _ = some (Value.slice na nn nc) := HMB.out.blk.get 2 (by omega)
                have k3 : _ = some (Value.slice oa ow oc) := HMB.out.blk.get 3 (by omega)
                have b0 : _ = some (Value.int .i64 pv) := LA9.out.get 0 (by omega)
                have b1 : _ = some (Value.int .i64 pp) := LA9.out.get 1 (by omega)
                have b2 : _ = some (Value.int .i64 pj) := LA9.out.get 2 (by omega)
                have b3 : _ = some (Value.string pk) := LA9.out.get 3 (by omega)
                have b4 : _ = some (Value.slice e5' m1 n5) := LA9.out.get 4 (by omega)
                have b5 : _ = some (Value.slice e6' m2 n6) := LA9.out.get 5 (by omega)
                go_wp2_with fail
                refine (tw_rput (A := fun b => AwayP g r mv ov C b ∧ b < wA.heap.size) HMB.out.fo.cut HMB.out.wf bd HSP.out _ rfl pv pp pj pk HPE.out.1 HPE.out.2.1 HPE.out.2.2.1 HPE.out.2.2.2 _ _ (fun w' hk => HIN2.out w' (HBB.out.trans (hk.low (HMB.out.low HBB.out) HBB.out.size)))).mono ?_
                rintro e wC ⟨u, rfl, hR⟩
                obtain ⟨ja, jn, jc, va, vw, vc, rfl, hfo, hbC⟩ := hR
                have HFO := Lib.hid hfo
                have BC := Lib.hid hbC
                clear hfo hbC k0 k1 k2 k3 b0 b1 b2 b3 b4 b5
                obtain ⟨R, hR⟩ : ∃ R, putF F (digI bd, bd) = R := ⟨_, rfl⟩
                have HR := Lib.hid hR
                rw [hR] at HFO HOK2 ⊢
                clear hR
                go_upto_region 18 with fail
                have AD := Lib.hid ((Below.refl wC.heap.size wC).alloc (Nat.le_refl _) (.cells #[.string R.1.root, .int .i64 R.1.height, .slice ja jn jc, .slice va vw vc] 54))
                have YS := Lib.hid (twy_laid HMB.out HBB.out HFO.out BC.out HOK2.out.wf AD.out (Blk.new' rfl rfl))
                obtain ⟨y, hy⟩ : ∃ y, wC.heap.size = y := ⟨_, rfl⟩
                have BD := Lib.hid (show Below wA.heap.size wA (wC.alloc (.cells #[.string R.1.root, .int .i64 R.1.height, .slice ja jn jc, .slice va vw vc] 54)) from BC.out.trans (AD.out.mono BC.out.size))
                obtain ⟨wD, hwD⟩ : ∃ wD, wC.alloc (.cells #[.string R.1.root, .int .i64 R.1.height, .slice ja jn jc, .slice va vw vc] 54) = wD := ⟨_, rfl⟩
                rw [hwD] at YS BD ⊢
                rw [hy] at YS ⊢
                clear hwD hy AD HFO BC
                obtain ⟨⟨rt1, mv1, ov1, N1, O1, C1, na1, nn1, nc1, oa1, ow1, oc1, ma1, mn1, mc1, qa1, qw1, qc1, hY⟩, hbD⟩ := YS.out
                have HY := Lib.hid hY
                have HBD := Lib.hid hbD
                clear hY hbD YS
                have t9 : (R.2 != R.2) = false := by simp
                have LD := Lib.hid (LA9.out.below BD.out LA9.out.lt)
                have b0 : _ = some (Value.int .i64 pv) := LD.out.get 0 (by omega)
                have b1 : _ = some (Value.int .i64 pp) := LD.out.get 1 (by omega)
                have b2 : _ = some (Value.int .i64 pj) := LD.out.get 2 (by omega)
                have b3 : _ = some (Value.string pk) := LD.out.get 3 (by omega)
                have b4 : _ = some (Value.slice e5' m1 n5) := LD.out.get 4 (by omega)
                have b5 : _ = some (Value.slice e6' m2 n6) := LD.out.get 5 (by omega)
                go_wp2_with fail
                refine ((gput_rw HPE.out.1 HPE.out.2.1 HPE.out.2.2.1 HPE.out.2.2.2 (gput_any HY.out.m.code HY.out.m.tabs (notab_of HT6.out) ⟨HOK.out.lo, by have := HOK.out.hi; omega⟩ bd _ _ (HIN2.out _ HBD.out).1 (HIN2.out _ HBD.out).2 HSP.out))).mono ?_
                rintro e wE hpa
                rw [HR.out] at hpa
                obtain ⟨rfl, mv2, ov2, N2, O2, C2, hc2, hk2, hn2⟩ := hpa
                clear b0 b1 b2 b3 b4 b5
                have HE := Lib.hid (HY.out.step hc2 hk2 hn2 (notab_of HT6.out))
                have HBE := Lib.hid (show Below w6.heap.size w6 wE from HBD.out.trans (hk2.low (fun c hc hm => by have := HY.out.m.code.ownB c hm; omega) HBD.out.size))
                clear hc2 hk2 hn2
                have d0 : _ = some (Value.string R.1.root) := HE.out.blk.get 0 (by omega)
                have d1 : _ = some (Value.int .i64 R.1.height) := HE.out.blk.get 1 (by omega)
                have d2 : _ = some (Value.slice ma1 mn1 mc1) := HE.out.blk.get 2 (by omega)
                have d3 : _ = some (Value.slice qa1 qw1 qc1) := HE.out.blk.get 3 (by omega)
                have v0 := HE.out.m.blk.get 0 (by omega)
                have v1 := HE.out.m.blk.get 1 (by omega)
                have v2 := HE.out.m.blk.get 2 (by omega)
                have v3 := HE.out.m.blk.get 3 (by omega)
                have z0 := HE.out.m.blk.frz 0
                have z1 := HE.out.m.blk.frz 1
                have z2 := HE.out.m.blk.frz 2
                have z3 := HE.out.m.blk.frz 3
                obtain ⟨xi, ui⟩ := gset4 HE.out.m.blk (.string R.1.root) (.int .i64 R.1.height) (.slice ma1 mn1 mc1) (.slice qa1 qw1 qc1)
                have SF := Lib.hid (show TwSt w6 g r R.1 R.1 _ from ⟨⟨_, _, _, _, _, _, _, _, _, _, _, _, HE.out.moved ui xi (notab_of HT6.out r HE.out.m.rB)⟩, HBE.out.trans (ui.below HE.out.m.rB)⟩)
                clear xi ui
                go_wp2_with fail
                clear d0 d1 d2 d3 v0 v1 v2 v3 z0 z1 z2 z3 t9
                go_roundw
                case rel => exact ⟨i + 1, R.1, by have := HLT.out; omega, by go_num, HOK2.out, SF.out⟩
                case measure => have := HLT.out; simp [intOf]; omega
              · clear q0
                have b0 : _ = some (Value.int .i64 pv) := LA9.out.get 0 (by omega)
                have b1 : _ = some (Value.int .i64 pp) := LA9.out.get 1 (by omega)
                have b2 : _ = some (Value.int .i64 pj) := LA9.out.get 2 (by omega)
                have b3 : _ = some (Value.string pk) := LA9.out.get 3 (by omega)
                have b4 : _ = some (Value.slice e5' m1 n5) := LA9.out.get 4 (by omega)
                have b5 : _ = some (Value.slice e6' m2 n6) := LA9.out.get 5 (by omega)
                go_wp2_with fail
                refine (fu_dig bd HSP.out (digI bd) rfl wA pv pp pj pk HPE.out.1 HPE.out.2.1 HPE.out.2.2.1 HPE.out.2.2.2 _ _ (HIN2.out _ HBA.out).1 (HIN2.out _ HBA.out).2).mono ?_
                rintro e wB ⟨rfl, hbB⟩
                have HMB := Lib.hid (HMA9.out.on hbB)
                have HBB := Lib.hid (HBA.out.trans (hbB.mono HBA.out.size))
                clear hbB b0 b1 b2 b3 b4 b5
                obtain ⟨hd, hhd⟩ : ∃ hd, digI bd = hd := ⟨_, rfl⟩
                have HHD := Lib.hid (show hd.size ≤ 1000000 by rw [← hhd, dig_size]; omega)
                have HOK2 := Lib.hid (show OkF (pruneF F hd).1 (i + 1) by rw [← hhd]; exact HOK.out.step true bd)
                rw [hhd]
                clear hhd
                have k0 : _ = some (Value.string F.root) := HMB.out.blk.get 0 (by omega)
                have k1 : _ = some (Value.int .i64 F.height) := HMB.out.blk.get 1 (by omega)
                have k2 : _ = some (Value.slice na nn nc) := HMB.out.blk.get 2 (by omega)
                have k3 : _ = some (Value.slice oa ow oc) := HMB.out.blk.get 3 (by omega)
                go_wp2_with fail
                refine (fprune_any (fun b => AwayP g r mv ov C b ∧ b < wB.heap.size) F hd _ _ wB HMB.out.fo.cut (Nat.le_trans HMB.out.wf.n400 (by omega)) ⟨HOK.out.lo, by have := HOK.out.hi; omega⟩).mono ?_
                rintro e wC ⟨u, rfl, hR⟩
                obtain ⟨ja, jn, jc, va, vw, vc, rfl, hfo, hbC⟩ := hR
                have HFO := Lib.hid hfo
                have BC := Lib.hid hbC
                clear hfo hbC k0 k1 k2 k3
                obtain ⟨R, hR⟩ : ∃ R, pruneF F hd = R := ⟨_, rfl⟩
                have HR := Lib.hid hR
                rw [hR] at HFO HOK2 ⊢
                clear hR
                go_upto_region 14 with fail
                have AD := Lib.hid ((Below.refl wC.heap.size wC).alloc (Nat.le_refl _) (.cells #[.string R.1.root, .int .i64 R.1.height, .slice ja jn jc, .slice va vw vc] 54))
                have YS := Lib.hid (twy_laid HMB.out HBB.out HFO.out BC.out HOK2.out.wf AD.out (Blk.new' rfl rfl))
                obtain ⟨y, hy⟩ : ∃ y, wC.heap.size = y := ⟨_, rfl⟩
                have BD := Lib.hid (show Below wB.heap.size wB (wC.alloc (.cells #[.string R.1.root, .int .i64 R.1.height, .slice ja jn jc, .slice va vw vc] 54)) from BC.out.trans (AD.out.mono BC.out.size))
                obtain ⟨wD, hwD⟩ : ∃ wD, wC.alloc (.cells #[.string R.1.root, .int .i64 R.1.height, .slice ja jn jc, .slice va vw vc] 54) = wD := ⟨_, rfl⟩
                rw [hwD] at YS BD ⊢
                rw [hy] at YS ⊢
                clear hwD hy AD HFO BC
                obtain ⟨⟨rt1, mv1, ov1, N1, O1, C1, na1, nn1, nc1, oa1, ow1, oc1, ma1, mn1, mc1, qa1, qw1, qc1, hY⟩, hbD⟩ := YS.out
                have HY := Lib.hid hY
                have HBD := Lib.hid hbD
                clear hY hbD YS
                have t9 : (R.2 != R.2) = false := by simp
                go_wp2_with fail
                refine (gprune_any HY.out.m.code HY.out.m.tabs hd HHD.out).mono ?_
                rintro e wE hpa
                rw [HR.out] at hpa
                obtain ⟨rfl, rt2, mv2, ov2, N2, O2, C2, hc2, hk2, hn2⟩ := hpa
                have HE := Lib.hid (HY.out.step hc2 hk2 hn2 (notab_of HT6.out))
                have HBE := Lib.hid (show Below w6.heap.size w6 wE from HBD.out.trans (hk2.low (fun c hc hm => by have := HY.out.m.code.ownB c hm; omega) HBD.out.size))
                clear hc2 hk2 hn2
                have d0 : _ = some (Value.string R.1.root) := HE.out.blk.get 0 (by omega)
                have d1 : _ = some (Value.int .i64 R.1.height) := HE.out.blk.get 1 (by omega)
                have d2 : _ = some (Value.slice ma1 mn1 mc1) := HE.out.blk.get 2 (by omega)
                have d3 : _ = some (Value.slice qa1 qw1 qc1) := HE.out.blk.get 3 (by omega)
                have v0 := HE.out.m.blk.get 0 (by omega)
                have v1 := HE.out.m.blk.get 1 (by omega)
                have v2 := HE.out.m.blk.get 2 (by omega)
                have v3 := HE.out.m.blk.get 3 (by omega)
                have z0 := HE.out.m.blk.frz 0
                have z1 := HE.out.m.blk.frz 1
                have z2 := HE.out.m.blk.frz 2
                have z3 := HE.out.m.blk.frz 3
                obtain ⟨xi, ui⟩ := gset4 HE.out.m.blk (.string R.1.root) (.int .i64 R.1.height) (.slice ma1 mn1 mc1) (.slice qa1 qw1 qc1)
                have SF := Lib.hid (show TwSt w6 g r R.1 R.1 _ from ⟨⟨_, _, _, _, _, _, _, _, _, _, _, _, HE.out.moved ui xi (notab_of HT6.out r HE.out.m.rB)⟩, HBE.out.trans (ui.below HE.out.m.rB)⟩)
                clear xi ui
                go_wp2_with fail
                clear d0 d1 d2 d3 v0 v1 v2 v3 z0 z1 z2 z3 t9
                go_roundw
                case rel => exact ⟨i + 1, R.1, by have := HLT.out; omega, by go_num, HOK2.out, SF.out⟩
                case measure => have := HLT.out; simp [intOf]; omega
            · obtain rfl : i = ops.length := by omega
              have hlt' : ¬ ((ops.length : Nat) : Int) < (ops.length : Int) := by omega
              clear hi hlt
              have c0 : _ = some (Value.string F.root) := HM.out.blk.get 0 (by omega)
              have c1 : _ = some (Value.int .i64 F.height) := HM.out.blk.get 1 (by omega)
              have c2 : _ = some (Value.slice na nn nc) := HM.out.blk.get 2 (by omega)
              have c3 : _ = some (Value.slice oa ow oc) := HM.out.blk.get 3 (by omega)
              go_wp2_with fail
              refine (gsame_any HM.out.code HM.out.tabs _ _ HM.out.fo.now HOK.out.dig (fun x hx => ?_) ⟨HOK.out.lo, ?_⟩).mono ?_
              · rw [← HM.out.code.nodes] at hx
                obtain ⟨z, hz, rfl⟩ := List.mem_map.1 hx
                exact HM.out.code.small z (List.mem_append_left _ hz)
              · have := HOK.out.hi; have := H60.out; omega
              rintro e w9 ⟨rfl, hb9⟩
              have B9 := Lib.hid hb9
              clear hb9
              go_wp2_with fail
              go_ret
              exact ⟨rfl, X7.out.trans ((HBZ.out.trans (B9.out.mono HBZ.out.size)).mono X7.out.size)⟩
    · have t2 : decide ((60 : Int) < (ops.length : Int)) = true := decide_eq_true (by omega)
      have t3 : (60 : Int) < (ops.length : Int) := by omega
      clear h30 h60
      go_enter Tryd.func5, Tryd.ntmps5
      go_wp2_with fail
      refine (gawake_any _ HT.out).mono ?_
      rintro e w1 ⟨rfl, hb1⟩
      have X1 := Lib.hid hb1
      clear hb1
      go_wp2_with fail
      refine (gawake_any _ (tabs_on HT.out X1.out)).mono ?_
      rintro e w2 ⟨rfl, hb2⟩
      have X2 := Lib.hid (X1.out.trans (hb2.mono X1.out.size))
      clear hb2
      go_wp2_with fail
      go_ret
      exact ⟨rfl, X2.out⟩
  · have t1 : decide ((30 : Int) < (l.length : Int)) = true := decide_eq_true (by omega)
    have t3 : (30 : Int) < (l.length : Int) := by omega
    clear h30
    go_enter Tryd.func5, Tryd.ntmps5
    go_wp2_with fail
    refine (gawake_any _ HT.out).mono ?_
    rintro e w1 ⟨rfl, hb1⟩
    have X1 := Lib.hid hb1
    clear hb1
    go_wp2_with fail
    refine (gawake_any _ (tabs_on HT.out X1.out)).mono ?_
    rintro e w2 ⟨rfl, hb2⟩
    have X2 := Lib.hid (X1.out.trans (hb2.mono X1.out.size))
    clear hb2
    go_wp2_with fail
    go_ret
    exact ⟨rfl, X2.out⟩
end Go.Proofs.YtegkhhegapnkpaaDoor
