/-
  The walk of the reference's signature of a vote.
-/
import Derived.Test.YtegkhhegapnkpaaGreatDoorKEText
import Derived.Test.YtegkhhegapnkpaaGreatDoorKPlanE
import Derived.Test.YtegkhhegapnkpaaGreatDoorKLLawC
open Go Go.RowKit
namespace CC
open MM WW BB
/-- a node's tags of a text, for the first i nodes -/
def tagsTo (s : ByteArray) (f : Int) (t : ByteArray) (i : Nat) : List ByteArray := (List.range i).map fun (j : Nat) => tagB s f (j : Int) t
theorem tags_succ (s : ByteArray) (f : Int) (t : ByteArray) (i : Nat) : tagsTo s f t (i + 1) = tagsTo s f t i ++ [tagB s f (i : Int) t] := by
  unfold tagsTo; rw [List.range_succ, List.map_append]; rfl
theorem tags_len (s : ByteArray) (f : Int) (t : ByteArray) (i : Nat) : (tagsTo s f t i).length = i := by unfold tagsTo; simp
/-- strings of the call's own -/
theorem strs_own {e : TypeId} {w : World} {base : Nat} {v : Value} {l : List ByteArray} (h : w.ownsRow base e 1 v l.length (l.map Value.string)) : StrsAt w v l := by
  rcases h.2 with ⟨rfl, h0⟩ | ⟨g, cap, cur, rfl, hg, hh, hn, hcm, hsz, htk⟩
  · exact ⟨none, 0, by rw [h0], Or.inl (List.eq_nil_of_length_eq_zero h0)⟩
  · refine ⟨_, cap, rfl, Or.inr ⟨g, 0, rfl, (Array.getElem?_eq_some_iff.1 hh).1, fun i hi => ?_⟩⟩
    have e1 : (l.map Value.string)[i]? = some (.string (l.getD i ⟨#[]⟩)) := by simp [List.getD, List.getElem?_eq_getElem hi]
    rw [← htk, List.getElem?_take_of_lt (by omega), Array.getElem?_toList] at e1
    unfold World.cell?; rw [hh]; simpa using e1
theorem own_base {e : TypeId} {w : World} {B B' c : Nat} {v : Value} {n : Nat} {xs : List Value} (h : w.ownsRow B e c v n xs) (hB : B' ≤ B) : w.ownsRow B' e c v n xs := by
  refine ⟨h.1, ?_⟩
  rcases h.2 with h | ⟨g, cap, cur, h1, h2, h3⟩
  · exact Or.inl h
  · exact Or.inr ⟨g, cap, cur, h1, Nat.le_trans hB h2, h3⟩
/-- the signature's cells, and its tags so far -/
structure SigSt (w : World) (B g0 g1 : Nat) (e : TypeId) (f : Int) (l : List ByteArray) (wr : World) : Prop where
  below : Below w.heap.size w wr
  res : Blk wr g0 2 (fun i => if i = 0 then .int .i64 0 else .slice none 0 0)
  sig : ∃ v, wr.ownsRow B e 1 v l.length (l.map Value.string) ∧ Blk wr g1 2 (fun i => if i = 0 then .int .i64 f else v)
  sz : B ≤ wr.heap.size
end CC
namespace Go.Proofs.YtegkhhegapnkpaaGreatDoor
open CC MM WW BB
set_option maxRecDepth 100000 in
set_option maxHeartbeats 8000000 in
theorem rsign_any (s : ByteArray) (f : Int) (n : Nat) (v : Int) (k : ByteArray) (w : World) (hs : s.size ≤ 1000) (hk : k.size ≤ 1000) (hn : n ≤ 20) :
    Calls Tryz.prog 9 #[.string s, .int .i64 f, .int .i64 (n : Int), .int .i64 v, .string k] w fun e w' => ∃ a0 cap, e = .returned (.agg #[.int .i64 f, .slice a0 n cap]) ∧ w'.ownsRow w.heap.size 9 1 (.slice a0 n cap) n ((tagsTo s f (textB v k) n).map Value.string) ∧ Below w.heap.size w w' := by
  have HS := Lib.hid hs
  have HK := Lib.hid hk
  have HN := Lib.hid hn
  obtain ⟨T, hT⟩ : ∃ T, textB v k = T := ⟨_, rfl⟩
  have HTT := Lib.hid hT
  have HTZ := Lib.hid (show T.size ≤ 100000 by rw [← hT, textB_size]; omega)
  rw [hT]
  clear hs hk hT
  go_enter Tryz.func9, Tryz.ntmps9
  go_wp2_with fail
  have hB0 := ((Below.refl w.heap.size w).alloc (Nat.le_refl _) (.cells #[.int .i64 0, .slice none 0 0] 38)).alloc (by simp) (.cells #[.int .i64 f, .slice none 0 0] 38)
  have k0 : Blk ((w.alloc (.cells #[.int .i64 0, .slice none 0 0] 38)).alloc (.cells #[.int .i64 f, .slice none 0 0] 38)) w.heap.size 2 (fun i => if i = 0 then .int .i64 0 else .slice none 0 0) := (Blk.new' rfl (by rfl)).alloc _
  have k1 : Blk ((w.alloc (.cells #[.int .i64 0, .slice none 0 0] 38)).alloc (.cells #[.int .i64 f, .slice none 0 0] 38)) (w.heap.size + 1) 2 (fun i => if i = 0 then .int .i64 f else .slice none 0 0) := Blk.new' (by simp) (by rfl)
  refine abs_wp (fun wx => SigSt w (w.heap.size + 2) w.heap.size (w.heap.size + 1) 9 f [] wx) ⟨hB0, k0, ⟨_, ⟨rfl, Or.inl ⟨rfl, rfl⟩⟩, k1⟩, by simp⟩ ?_
  intro w0 hst0
  clear hB0 k0 k1
  have HB := Lib.hid hst0.below
  obtain ⟨g, hg⟩ : ∃ g, w.heap.size = g := ⟨_, rfl⟩
  rw [hg] at hst0 ⊢
  have HST0 := Lib.hid hst0
  have HG := Lib.hid hg
  clear hst0 hg hn
  go_loopw [12] (fun x wx => ∃ i : Nat, i ≤ n ∧ x = .int .i64 (i : Int) ∧ SigSt w (g + 2) g (g + 1) 9 f (tagsTo s f T i) wx) (fun x _ => n - (intOf x).toNat)
  case atStart => exact ⟨0, Nat.zero_le _, rfl, HST0.out⟩
  case round =>
    obtain ⟨i, hi, rfl, hst⟩ := hrel
    have HST := Lib.hid hst
    obtain ⟨u, hown, hblk⟩ := hst.sig
    have i0 : (0 : Int) ≤ (i : Int) := by omega
    have ib : (i : Int) ≤ 20 := by have := HN.out; omega
    rw [tags_len] at hown
    have HO := Lib.hid hown
    have c0 : wr.cell? ⟨g + 1, 0, none⟩ = some (.int .i64 f) := hblk.get 0 (by omega)
    have c1 : wr.cell? ⟨g + 1, 1, none⟩ = some u := hblk.get 1 (by omega)
    have HBK := Lib.hid hblk
    by_cases hlt : i < n
    · have hlt' : (i : Int) < (n : Int) := by omega
      have HLT := Lib.hid hlt
      clear hst hown hblk hlt hi
      have HTX := Lib.hid (fun wx => HTT.out ▸ rtext5_any v k (by have := HK.out; omega) wx)
      go_wp2_with fail
      refine chain_abs (fun wx => wx.cell? ⟨g + 1, 1, none⟩ = some u ∧ Below wr.heap.size wr wx) [0, 2, 3, 4, 5, 6] [1] [7, 8, 9] 10 [11, 12] (by kernel_rfl) (by kernel_rfl) (fun _ _ d _ _ h => by cases d <;> exact h) fun w2 hs2 => ⟨⟨(hs2.cell _).trans c1, hs2.below _⟩, ?_⟩
      simp only [pick, List.filterMap, List.getElem?_toArray, List.getElem?_cons_zero, List.getElem?_cons_succ]
      iterate 6 (refine free_run ?_ rfl ?_ ?_; rotate_left; (focus (intro w'; go_simp; exact rfl)); simp only [Act.put, List.setIfInBounds_toArray, List.set_cons_zero, List.set_cons_succ])
      refine held_run u rfl (fun w' hS => by obtain ⟨hS1, _⟩ := hS; go_simp) ?_
      simp only [Act.put, List.setIfInBounds_toArray, List.set_cons_zero, List.set_cons_succ]
      refine ch_call _ rfl rfl (by go_simp) (HTX.out w2) (fun w' hR => ⟨(hR.cell (p := ⟨g + 1, 1, none⟩) (World.block_lt_of_cell? w2 _ ((hs2.cell _).trans c1))).trans ((hs2.cell _).trans c1), (hs2.below _).trans (hR.mono (by rw [hs2.heap]; exact Nat.le_refl _))⟩) fun w3 hb3 => ?_
      simp only [Act.put, List.setIfInBounds_toArray]
      have B3 := Lib.hid ((hs2.below wr.heap.size).trans (hb3.mono (by rw [hs2.heap]; exact Nat.le_refl _)))
      have c3 : w3.cell? ⟨g + 1, 1, none⟩ = some u := (B3.out.cell (p := ⟨g + 1, 1, none⟩) (World.block_lt_of_cell? wr _ c1)).trans c1
      obtain ⟨tg, htg⟩ : ∃ tg, tagB s f (i : Int) T = tg := ⟨_, rfl⟩
      have HTG := Lib.hid (fun wx => htg ▸ rtag_any s f (i : Int) T HS.out HTZ.out wx)
      have HSU := Lib.hid (show tagsTo s f T (i + 1) = tagsTo s f T i ++ [tg] by rw [tags_succ, htg])
      clear hs2 hb3 htg
      refine ch_call _ rfl rfl (by go_simp) (HTG.out w3) (fun w' hR => ⟨(hR.cell (p := ⟨g + 1, 1, none⟩) (World.block_lt_of_cell? w3 _ c3)).trans c3, B3.out.trans (hR.mono B3.out.size)⟩) fun w4 hb4 => ?_
      simp only [Act.put]
      have B4 := Lib.hid (B3.out.trans (hb4.mono B3.out.size))
      have c4 : w4.cell? ⟨g + 1, 1, none⟩ = some u := (B4.out.cell (p := ⟨g + 1, 1, none⟩) (World.block_lt_of_cell? wr _ c1)).trans c1
      have bal := (Below.refl w4.heap.size w4).alloc (Nat.le_refl _) (.cells #[.string tg] 9)
      have cx := cell_new w4 #[.string tg] 9 0 _ rfl
      have c5 := (bal.cell (p := ⟨g + 1, 1, none⟩) (World.block_lt_of_cell? w4 _ c4)).trans c4
      have B5 := Lib.hid (B4.out.trans (bal.mono B4.out.size))
      refine ch_value (w' := w4.alloc (.cells #[.string tg] 9)) _ (.slice (some ⟨w4.heap.size, 0, none⟩) 1 1) rfl rfl (by go_simp) ⟨c5, B5.out⟩ ?_
      simp only [Act.put, wpCh]
      have hown2 : (w4.alloc (.cells #[.string tg] 9)).ownsRow (g + 2) 9 1 u i ((tagsTo s f T i).map Value.string) := row_keep HO.out fun c hc => B5.out.block c (HO.out.lt c hc).2
      obtain ⟨ti, i1, i2, i3, i4⟩ := info_parts (show (Tryz.prog.info? 9).map (fun i => (i.zero, i.size, i.bytes)) = some (some (.string ⟨#[]⟩), 1, 16) by kernel_rfl)
      have hbs : g + 2 ≤ (w4.alloc (.cells #[.string tg] 9)).heap.size := Nat.le_trans HST.out.sz B5.out.size
      clear c0 c1 c3 c4 c5
      go_wp2_with (at_builtin; refine wpList_append_own _ rfl _ _ 36 rfl (g + 2) 9 ti (.string ⟨#[]⟩) 1 16 (by kernel_rfl) i1 i2 i3 i4 rfl (by decide) u i ((tagsTo s f T i).map Value.string) rfl hown2 ⟨w4.heap.size, 0, none⟩ 1 1 [.string tg] rfl rfl ?c1 ?c2 ?c3 ?c4 hbs ?_)
      case c1 =>
        intro j u hj
        match j, hj with
        | 0, hj => simp at hj; subst hj; rw [Addr.add_lit]; exact cx
        | j + 1, hj => simp at hj
      case c2 => intro u hu; simp at hu; subst hu; rfl
      case c3 => have := HLT.out; have := HN.out; unfold maxLen; omega
      case c4 => have := HLT.out; have := HN.out; omega
      intro u' w6 hown' hgr _
      obtain ⟨a', c', rfl⟩ : ∃ a' c', u' = .slice a' (i + 1) c' := by
        rcases hown'.2 with ⟨_, h0⟩ | ⟨q, cp, cur, rfl, _⟩
        · omega
        · exact ⟨_, _, rfl⟩
      have HO6 := Lib.hid (show w6.ownsRow (g + 2) 9 1 (.slice a' (i + 1) c') (tagsTo s f T (i + 1)).length ((tagsTo s f T (i + 1)).map Value.string) by
        rw [HSU.out, List.map_append, List.length_append, tags_len]; exact hown')
      have B6 : Below (g + 2) (w4.alloc (.cells #[.string tg] 9)) w6 := (Below.refl _ _).grown hgr hbs (fun k hk => (hown2.lt k hk).1)
      have hk1 : Blk (w4.alloc (.cells #[.string tg] 9)) (g + 1) 2 (fun i => if i = 0 then .int .i64 f else u) := HBK.out.below B5.out HBK.out.lt
      have hk6 : Blk w6 (g + 1) 2 (fun i => if i = 0 then .int .i64 f else u) := hk1.below B6 (by omega)
      have K6 := Lib.hid hk6
      have R6 := Lib.hid (show Blk w6 g 2 (fun i => if i = 0 then .int .i64 0 else .slice none 0 0) from (HST.out.res.below B5.out HST.out.res.lt).below B6 (by omega))
      have BW6 := Lib.hid (show Below w.heap.size w w6 from ((HST.out.below.trans (B5.out.mono HST.out.below.size)).trans (B6.mono (by have := HG.out; omega))))
      have SZ6 := Lib.hid (Nat.le_trans hbs B6.size)
      have c1 : w6.cell? ⟨g + 1, 1, none⟩ = some u := hk6.get 1 (by omega)
      have f1 := hk6.frz 1
      clear hown' hgr hown2 bal cx hbs B6 hk1 hk6
      go_wp2_with fail
      go_roundw
      case rel =>
        have hup := Upd.set w6 (g + 1) 1 (.slice a' (i + 1) c')
        exact ⟨i + 1, by have := HLT.out; omega, by go_num, ⟨BW6.out.trans (hup.below (by have := HG.out; omega)), R6.out.upd hup (by omega), ⟨.slice a' (i + 1) c', row_keep HO6.out fun c hc => hup.block c (by have := (HO6.out.lt c hc).1; omega), (K6.out.set 1 _).congr _ fun j hj => by
          unfold put
          match j, hj with
          | 0, _ => rfl
          | 1, _ => rfl⟩, by rw [hup.size]; exact SZ6.out⟩⟩
      case measure => have := HLT.out; simp [intOf]; omega
    · obtain rfl : i = n := by omega
      have hlt' : ¬ (i : Int) < (i : Int) := by omega
      obtain ⟨a', c', rfl⟩ : ∃ a' c', u = .slice a' i c' := by
        rcases hown.2 with ⟨rfl, h0⟩ | ⟨q, cp, cur, rfl, _⟩
        · exact ⟨none, 0, by rw [h0]⟩
        · exact ⟨_, _, rfl⟩
      have hro := HST.out.res
      have HRO := Lib.hid hro
      have d0 : wr.cell? ⟨g, 0, none⟩ = some (.int .i64 0) := hro.get 0 (by omega)
      have e0 := hro.frz 0
      have d1 : wr.cell? ⟨g, 1, none⟩ = some (.slice none 0 0) := hro.get 1 (by omega)
      have e1 := hro.frz 1
      clear hi hlt hst hown hblk hro
      go_wp2_with fail
      have k5 := (HRO.out.set 0 (.int .i64 f)).set 1 (.slice a' i c')
      have q0 := k5.get 0 (by omega)
      have q1 := k5.get 1 (by omega)
      rw [show put (put (fun i => if i = 0 then Value.int .i64 0 else .slice none 0 0) 0 (.int .i64 f)) 1 (.slice a' i c') 0 = .int .i64 f from rfl] at q0
      rw [show put (put (fun i => if i = 0 then Value.int .i64 0 else .slice none 0 0) 0 (.int .i64 f)) 1 (.slice a' i c') 1 = .slice a' i c' from rfl] at q1
      have hup := (Upd.set wr g 0 (.int .i64 f)).trans (Upd.set _ g 1 (.slice a' i c'))
      refine bodyPost_ret (v := .agg #[.int .i64 f, .slice a' i c']) (by simp [results, Tryz.results9, go_sem, q0, q1]) rfl ?_
      refine ⟨a', c', rfl, own_base (row_keep HO.out fun c hc => hup.block c (by have := (HO.out.lt c hc).1; omega)) (by have := HG.out; omega), HST.out.below.trans (hup.below (by have := HG.out; omega))⟩
end Go.Proofs.YtegkhhegapnkpaaGreatDoor
