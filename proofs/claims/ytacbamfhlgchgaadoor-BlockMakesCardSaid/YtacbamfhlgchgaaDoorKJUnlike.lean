/-
  The walk of what keeps of requests the first ones of each client and number.
-/
import Derived.Test.YtacbamfhlgchgaaDoorKJBox
import Derived.Test.YtacbamfhlgchgaaDoorKWFew
import Derived.Test.YtacbamfhlgchgaaDoorKWAppR
import Derived.Test.YtacbamfhlgchgaaDoorKESig
import Derived.Maps.OwnOps
import Derived.Maps.OwnSet
import Derived.Maps.Ext
import Derived.DeepKeys4
import Derived.Laws.AppendOwn
open Go Go.RowKit
namespace JJ
open BB WW Go.Maps
theorem getD_mem' {α : Type} (l : List α) (d : α) (i : Nat) (h : i < l.length) : l.getD i d ∈ l := by
  rw [List.getD_eq_getElem?_getD, List.getElem?_eq_getElem h]; exact List.getElem_mem h
/-- numbers of 64 bits -/
def In64 (x : Int × Int) : Prop := (-9223372036854775808 ≤ x.1 ∧ x.1 ≤ 9223372036854775807) ∧ -9223372036854775808 ≤ x.2 ∧ x.2 ≤ 9223372036854775807
theorem wf64 {x : Int} (h : -9223372036854775808 ≤ x ∧ x ≤ 9223372036854775807) : (Lit.int .i64 x).wf = true := by
  simp [Lit.wf, IntKind.min, IntKind.max, IntKind.signed, IntKind.bits]; omega
/-- how a client and a number are spelled as a key -/
def keyQ (x : Int × Int) : Lit := .string (keyBytes [.int .i64 x.1, .int .i64 x.2])
/-- D is the set of ks -/
structure SetIs (D : DataW Unit) (ks : List (Int × Int)) : Prop where
  tidy : Tidy D
  has : ∀ x, In64 x → Maps.has D (keyQ x) = decide (x ∈ ks)
theorem SetIs.empty : SetIs (.map []) [] := ⟨tidy_empty, fun _ _ => rfl⟩
/-- the cells of requests -/
def cellsR (l : List Rq) : List Value := (l.map fun r => [.int .i64 r.1, .int .i64 r.2.1, .string r.2.2]).flatten
theorem cellsR_snoc (l : List Rq) (r : Rq) : cellsR (l ++ [r]) = cellsR l ++ [.int .i64 r.1, .int .i64 r.2.1, .string r.2.2] := by
  unfold cellsR; rw [List.map_append, List.flatten_append]; simp
theorem cellsR_len (l : List Rq) : (cellsR l).length = l.length * 3 := by
  induction l with
  | nil => rfl
  | cons x r ih => show ([_, _, _] ++ cellsR r).length = _; rw [List.length_append, ih, List.length_cons]; simp; omega
theorem cellsR_at : ∀ (l : List Rq) (i : Nat), i < l.length → (cellsR l)[i * 3]? = some (.int .i64 (l.getD i r0).1) ∧ (cellsR l)[i * 3 + 1]? = some (.int .i64 (l.getD i r0).2.1) ∧ (cellsR l)[i * 3 + 2]? = some (.string (l.getD i r0).2.2)
  | [], i, h => by simp at h
  | x :: r, 0, _ => ⟨rfl, rfl, rfl⟩
  | x :: r, i + 1, h => by
    have ih := cellsR_at r i (by simpa using h)
    have e : ∀ j, (cellsR (x :: r))[(i + 1) * 3 + j]? = (cellsR r)[i * 3 + j]? := fun j => by
      show ([Value.int .i64 x.1, .int .i64 x.2.1, .string x.2.2] ++ cellsR r)[(i + 1) * 3 + j]? = _
      rw [show (i + 1) * 3 + j = 3 + (i * 3 + j) by omega, List.getElem?_append_right (by simp)]
      simp
    refine ⟨?_, ?_, ?_⟩
    · rw [show (i + 1) * 3 = (i + 1) * 3 + 0 from rfl, e 0]; simpa [List.getD] using ih.1
    · rw [e 1]; simpa [List.getD] using ih.2.1
    · rw [e 2]; simpa [List.getD] using ih.2.2
theorem reqs_of_own {w : World} {B : Nat} {e : TypeId} {v : Value} {l : List Rq} (h : w.ownsRow B e 3 v l.length (cellsR l)) : ReqsAt w v l := by
  rcases h.2 with ⟨rfl, h0⟩ | ⟨g, cap, cur, rfl, hg, hh, hn, hcm, hsz, htk⟩
  · exact ⟨none, 0, by rw [h0], Or.inl (List.eq_nil_of_length_eq_zero h0)⟩
  · have hcell : ∀ j u, j < l.length * 3 → (cellsR l)[j]? = some u → w.cell? ⟨g, j, none⟩ = some u := fun j u hj hu => by
      rw [← htk, List.getElem?_take_of_lt hj, Array.getElem?_toList] at hu
      unfold World.cell?; rw [hh]; simpa using hu
    refine ⟨_, cap, rfl, Or.inr ⟨g, 0, rfl, (Array.getElem?_eq_some_iff.1 hh).1, fun i hi => ?_⟩⟩
    obtain ⟨h1, h2, h3⟩ := cellsR_at l i hi
    simp only [Nat.zero_add]
    exact ⟨hcell _ _ (by omega) h1, hcell _ _ (by omega) h2, hcell _ _ (by omega) h3⟩
theorem cells3_new (w : World) (c q : Int) (s : ByteArray) (t : TypeId) : ∀ j u, [Value.int .i64 c, .int .i64 q, .string s][j]? = some u → (w.alloc (.cells #[.int .i64 c, .int .i64 q, .string s] t)).cell? ((⟨w.heap.size, 0, none⟩ : Addr).add j) = some u := by
  intro j u hj
  match j, hj with
  | 0, hj => simp at hj; subst hj; rw [Addr.add_lit]; exact cell_new w _ t 0 _ rfl
  | 1, hj => simp at hj; subst hj; rw [Addr.add_lit]; exact cell_new w _ t 1 _ rfl
  | 2, hj => simp at hj; subst hj; rw [Addr.add_lit]; exact cell_new w _ t 2 _ rfl
  | j + 3, hj => simp at hj
theorem cells3_one (c q : Int) (s : ByteArray) : ∀ u ∈ [Value.int .i64 c, .int .i64 q, .string s], u.oneCell' = true := by
  intro u hu
  simp only [List.mem_cons, List.not_mem_nil, or_false] at hu
  rcases hu with rfl | rfl | rfl <;> rfl
theorem sz_le {a b c d : Nat} (h1 : a ≤ b) (h2 : b ≤ c) (h3 : c ≤ d) : a ≤ d := Nat.le_trans h1 (Nat.le_trans h2 h3)
theorem sz_alloc {w : World} {a : Nat} (h : a ≤ w.heap.size) (o : Obj) : a ≤ (w.alloc o).heap.size := by rw [World.size_alloc]; omega
end JJ
namespace Go.Proofs.YtacbamfhlgchgaaDoor
open JJ BB WW Go.Maps Go.WideMaps
theorem rowNum : (57 : TypeId) < Tryd.prog.types.size := of_decide_eq_true (by kernel_rfl)
theorem wideNum : (match Tryd.prog.underlying 57 with | some (.array _ _) | some (.struct _) => true | _ => false) = true := by kernel_rfl
theorem laidOutJ : laidOutB Tryd.prog = true := by kernel_rfl
set_option maxRecDepth 100000 in
theorem law_num : Keyed Tryd.prog 57 := Keyed.of_law (deep_law_laid laidOutJ (m := 2 + 1) (by decide) rowNum (by kernel_rfl) wideNum)
theorem zero_unit (w : World) : (zeroValue 58).run Tryd.prog w = .ok (.agg #[]) w := by kernel_rfl
theorem und_set : Tryd.prog.underlying 55 = some (.map 57 58) := by kernel_rfl
theorem und_reqs : Tryd.prog.underlying 25 = some (.slice 34) := by kernel_rfl
theorem info_req : (Tryd.prog.info? 34).map (fun i => (i.zero, i.size, i.bytes)) = some (some (.agg #[.int .i64 0, .int .i64 0, .string ⟨#[]⟩]), 3, 32) := by kernel_rfl
theorem cells_num : Tryd.prog.cellsOf 57 = 2 := by kernel_rfl
theorem cells_int6 : Tryd.prog.cellsOf 3 = 1 := by kernel_rfl
theorem key_num (x : Int × Int) (h : In64 x) : keyOf Tryd.prog 57 (.agg #[.int .i64 x.1, .int .i64 x.2]) = some (keyQ x) := by
  have hkt : Tryd.prog.keyType 57 = true := by kernel_rfl
  have hs : ∃ m, Tryd.prog.types.size = m + 1 := Nat.exists_eq_succ_of_ne_zero (Nat.ne_of_gt (Nat.lt_of_le_of_lt (Nat.zero_le _) rowNum))
  obtain ⟨m, hm⟩ := hs
  have w1 := wf64 h.1
  have w2 := wf64 h.2
  unfold keyOf
  simp only [Tryd.underlying57]
  rw [if_pos (by simp [hkt, Value.formed, Tryd.underlying57, cells_num]), hm]
  unfold Program.keyLits
  simp only [Tryd.underlying57, Value.cells]
  rw [if_pos ⟨by rw [cells_num]; rfl, by simp⟩]
  simp [cells_int6, Program.keyLits, Tryd.underlying3, w1, w2, List.mapM_cons, List.mapM_nil, keyQ]
set_option maxRecDepth 100000 in
theorem keyQ_inj {x y : Int × Int} (hx : In64 x) (hy : In64 y) (h : keyQ x = keyQ y) : x = y := by
  have h1 := key_num x hx
  rw [h] at h1
  have h2 := law_num.inj h1 (key_num y hy)
  have h3 := congrArg Array.toList (Value.agg.inj h2)
  have h4 : [Value.int .i64 x.1, .int .i64 x.2] = [Value.int .i64 y.1, .int .i64 y.2] := h3
  obtain ⟨h5, h6⟩ := List.cons.inj h4
  exact Prod.ext (Value.int.inj h5).2 (Value.int.inj (List.cons.inj h6).1).2
theorem set_put {D : DataW Unit} {ks : List (Int × Int)} {y : Int × Int} (h : SetIs D ks) (hy : In64 y) (d : DataW Unit) : SetIs (D.put (keyQ y) d) (ks ++ [y]) := by
  have hk : WideAt.IsKeyLit (keyQ y) := trivial
  refine ⟨h.tidy.put hk _, fun x hx => ?_⟩
  by_cases e : x = y
  · subst e
    rw [has_put_same h.tidy.isMap hk]; simp
  · rw [has_put_other (fun k => e (keyQ_inj hx hy k)), h.has x hx]; simp [e]
/-- the loop's state: of the i first requests -/
structure UnSt (w0 : World) (n : Nat) (l : List Rq) (i : Nat) (x : Value) (wr : World) : Prop where
  map : ∃ D : DataW Unit, wr.ownsMap Tryd.prog 57 unitElem w0.heap.size i D ∧ SetIs D ((onceN n (l.take i)).map keyR)
  row : wr.ownsRow (w0.heap.size + 1) 34 3 x (onceN n (l.take i)).length (cellsR (onceN n (l.take i)))
  below : Below w0.heap.size w0 wr
  size : w0.heap.size + 1 ≤ wr.heap.size
  shape : ∃ a c, x = .slice a (onceN n (l.take i)).length c
theorem map_heap {w w' : World} {k b n : Nat} {D : DataW Unit} (h : w.ownsMap Tryd.prog k unitElem b n D) (e : w'.heap[b]? = w.heap[b]?) : w'.ownsMap Tryd.prog k unitElem b n D := by
  obtain ⟨es, clock, hb, r⟩ := h
  exact ⟨es, clock, e.trans hb, r⟩
/-- nothing comes -/
theorem UnSt.skip {w0 wr w' : World} {n i : Nat} {l : List Rq} {x : Value} (h : UnSt w0 n l i x wr) (hb : Below wr.heap.size wr w') (he : onceN n (l.take (i + 1)) = onceN n (l.take i)) : UnSt w0 n l (i + 1) x w' := by
  obtain ⟨D, h1, h2⟩ := h.map
  refine ⟨⟨D, (map_heap h1 (hb.block _ h1.lt)).mono (Nat.le_succ _), by rw [he]; exact h2⟩, ?_, h.below.trans (hb.mono h.below.size), Nat.le_trans h.size hb.size, by rw [he]; exact h.shape⟩
  rw [he]
  exact row_keep h.row fun c hc => hb.block c (h.row.lt c hc).2
set_option maxRecDepth 100000 in
set_option maxHeartbeats 8000000 in
theorem unlike_any (l : List Rq) (v : Value) (n : Nat) (w : World) (hv : ReqsAt w v l) (hl : l.length ≤ 1000) (hn : n ≤ 1000) (h64 : ∀ r ∈ l, In64 (keyR r)) :
    Calls Tryd.prog 14 #[v, .int .i64 (n : Int)] w fun e w' => ∃ u, e = .returned u ∧ ReqsAt w' u (onceN n l) ∧ (∀ c, u.ownBlock = some c → w.heap.size ≤ c) ∧ Below w.heap.size w w' := by
  have HV := Lib.hid hv
  have HL := Lib.hid hl
  have HN := Lib.hid hn
  have H64 := Lib.hid h64
  have hmm := @run_makeMap Tryd.prog
  obtain ⟨a0, cap, rfl, hx⟩ := hv
  clear hl hx hn h64
  go_enter Tryd.func14, Tryd.ntmps14
  go_wp2_with fail
  go_loopw [6, 15] (fun x y wr => ∃ i : Nat, i ≤ l.length ∧ y = .int .i64 (i : Int) ∧ UnSt w n l i x wr) (fun _ y _ => l.length - (intOf y).toNat)
  case atStart => exact ⟨0, Nat.zero_le _, rfl, ⟨_, World.ownsMap_made _ _ _ _, SetIs.empty⟩, World.ownsRow_nil _ _ _ _, (Below.refl _ _).alloc (Nat.le_refl _) _, by simp, ⟨none, 0, rfl⟩⟩
  case round =>
    obtain ⟨i, hi, rfl, hst⟩ := hrel
    have HST := Lib.hid hst
    have i0 : (0 : Int) ≤ (i : Int) := by omega
    have ib : (i : Int) ≤ 1000 := by have := HL.out; omega
    obtain ⟨xa, xc, rfl⟩ := hst.shape
    clear hst
    by_cases hlt : i < l.length
    · have hlt' : (i : Int) < (l.length : Int) := by omega
      obtain ⟨a1, cap1, he, hv | ⟨gb, off, rfl, hbw, hcell⟩⟩ := HV.out
      · rw [hv] at hlt; simp at hlt
      injection he with e1 _ e3
      subst e1 e3
      obtain ⟨hc0, hc1, hc2⟩ := hcell i hlt
      have hcl0 : wr.cell? ⟨gb, off + i * 3, none⟩ = _ := (HST.out.below.cell (p := ⟨gb, off + i * 3, none⟩) hbw).trans hc0
      have hcl1 : wr.cell? ⟨gb, off + i * 3 + 1, none⟩ = _ := (HST.out.below.cell (p := ⟨gb, off + i * 3 + 1, none⟩) hbw).trans hc1
      have hcl2 : wr.cell? ⟨gb, off + i * 3 + 2, none⟩ = _ := (HST.out.below.cell (p := ⟨gb, off + i * 3 + 2, none⟩) hbw).trans hc2
      have HSN := Lib.hid (onceN_snoc n l i hlt)
      have HIN := Lib.hid (H64.out _ (getD_mem' l r0 i hlt))
      obtain ⟨r, hr⟩ : ∃ r, l.getD i r0 = r := ⟨_, rfl⟩
      rw [show l.getD i (0, 0, ⟨#[]⟩) = r from hr] at hcl0 hcl1 hcl2
      rw [hr] at HSN HIN
      obtain ⟨out, hout⟩ : ∃ out, onceN n (l.take i) = out := ⟨_, rfl⟩
      have HOUT := Lib.hid hout
      have HOL := Lib.hid (show out.length ≤ n by rw [← hout]; exact onceN_len n _)
      rw [hout] at HSN ⊢
      have HLT := Lib.hid hlt
      obtain ⟨c, q, s⟩ := r
      clear hr hlt hi hcell hbw hc0 hc1 hc2 hout
      by_cases hfull : out.length = n
      · have hf : ((out.length : Int) == (n : Int)) = true := by rw [hfull]; simp
        have HF := Lib.hid hfull
        clear hfull
        go_wp2_with fail
        go_ret
        have hlen : (onceN n (l.take i)).length = n := by rw [HOUT.out]; exact HF.out
        have hfin : onceN n l = out := by rw [onceN_full n l i (by omega), HOUT.out]
        refine ⟨_, rfl, ?_, fun c hc => Nat.le_trans (Nat.le_succ _) ((HOUT.out ▸ HST.out.row).lt c hc).1, HST.out.below.alloc HST.out.below.size _⟩
        rw [hfin]
        have hrow := HST.out.row
        rw [HOUT.out] at hrow
        exact (reqs_of_own hrow).later ((Below.refl _ _).alloc (Nat.le_refl _) _)
      · have hf : ((out.length : Int) == (n : Int)) = false := by rw [beq_eq_false_iff_ne]; omega
        have HF := Lib.hid hfull
        clear hfull
        obtain ⟨D, hown, hset⟩ := HST.out.map
        rw [HOUT.out] at hset
        have hrow := HST.out.row
        rw [HOUT.out] at hrow
        have HROW := Lib.hid hrow
        have HOWN := Lib.hid hown
        have HSET := Lib.hid hset
        have HKEY := Lib.hid (show keyOf Tryd.prog 57 (.agg #[.int .i64 c, .int .i64 q]) = some (keyQ (c, q)) from key_num (c, q) HIN.out)
        have hhas : Maps.has D (keyQ (c, q)) = decide ((c, q) ∈ out.map keyR) := hset.has (c, q) HIN.out
        have B1 := Lib.hid ((Below.refl wr.heap.size wr).alloc (Nat.le_refl _) (.cells #[.int .i64 c, .int .i64 q, .string s] 34))
        have X1 := Lib.hid (show BoxAt wr wr.heap.size [.int .i64 c, .int .i64 q, .string s] (wr.alloc (.cells #[.int .i64 c, .int .i64 q, .string s] 34)) from box_mk wr [.int .i64 c, .int .i64 q, .string s] 34)
        clear hrow hown hset
        by_cases hin : (c, q) ∈ out.map keyR
        · have hh : Maps.has D (keyQ (c, q)) = true := by rw [hhas]; simpa using hin
          have HEQ := Lib.hid (show onceN n (l.take (i + 1)) = out by rw [HSN.out]; unfold onceStepN; rw [if_neg (by rintro ⟨_, h⟩; exact h hin)])
          clear hin hhas
          go_wp2_with (at_lookup; refine wpList_lookup_own_unit _ rfl _ _ 55 rfl 57 58 law_num und_set (zero_unit _) w.heap.size i D rfl ((HOWN.out.alloc _).alloc _) _ _ rfl HKEY.out ?_; rw [hh])
          go_roundw
          case rel => exact ⟨i + 1, by have := HLT.out; omega, by go_num, by
            have := HST.out.skip ((B1.out.alloc B1.out.size (.cells #[.int .i64 c, .int .i64 q] 57)).alloc (Nat.le_trans B1.out.size (by simp)) (.cells #[] 58)) (HEQ.out.trans HOUT.out.symm)
            rw [HOUT.out] at this
            exact this⟩
          case measure => have := HLT.out; simp [intOf]; omega
        · have hh : Maps.has D (keyQ (c, q)) = false := by rw [hhas]; simpa using hin
          have HEQ := Lib.hid (show onceN n (l.take (i + 1)) = out ++ [(c, q, s)] by rw [HSN.out]; unfold onceStepN; rw [if_pos ⟨by have := HOL.out; have := HF.out; omega, hin⟩])
          have HPUT := Lib.hid (set_put HSET.out HIN.out (.agg []))
          have B3 := Lib.hid ((B1.out.alloc B1.out.size (.cells #[.int .i64 c, .int .i64 q] 57)).alloc (Nat.le_trans B1.out.size (by simp)) (.cells #[] 58))
          have HO3 := Lib.hid (((HOWN.out.alloc (.cells #[.int .i64 c, .int .i64 q, .string s] 34)).alloc (.cells #[.int .i64 c, .int .i64 q] 57)).alloc (.cells #[] 58))
          have HR3 := Lib.hid (row_keep HROW.out fun c hc => B3.out.block c (HROW.out.lt c hc).2)
          have X3 := Lib.hid (X1.out.on (((Below.refl _ _).alloc (Nat.le_refl _) (.cells #[.int .i64 c, .int .i64 q] 57)).alloc (by simp) (.cells #[] 58)))
          obtain ⟨ti, i1, i2, i3, i4⟩ := info_parts info_req
          have HQ3 := Lib.hid (show out.length + 1 ≤ maxLen by have := HOL.out; have := HN.out; unfold maxLen; omega)
          have HQ4 := Lib.hid (show (out.length + 1) * 32 ≤ 140737488355328 by have := HOL.out; have := HN.out; omega)
          have HBN := Lib.hid (show some wr.heap.size ≠ some w.heap.size by have := HST.out.size; intro e; injection e; omega)
          clear hin hhas
          go_wp2_with (first
            | (at_lookup; refine wpList_lookup_own_unit _ rfl _ _ 55 rfl 57 58 law_num und_set (zero_unit _) w.heap.size i D rfl ((HOWN.out.alloc _).alloc _) _ _ rfl HKEY.out ?_; rw [hh])
            | (at_mapUpdate; refine wpList_mapUpdate_own _ rfl _ _ _ 55 rfl 57 58 law_num und_set (unitElem (H := Unit)) w.heap.size i D rfl HO3.out (by have := HL.out; have := HLT.out; unfold maxLen; omega) _ _ _ rfl rfl HKEY.out _ [] unitElem_mk ?_; intro w1 hown1 hg1; have HO1 := Lib.hid hown1; have HG1 := Lib.hid hg1; have HR1 := Lib.hid (HR3.out.kept hg1 (Or.inr fun e => by have := (HR3.out.lt _ e).1; omega)); have hb1 := (World.cell?_of_block (a := ⟨wr.heap.size, 0, none⟩) (HG1.out.block wr.heap.size X3.out.lt (HBN.out))); have y0 := hb1.trans (X3.out.cell 0 _ rfl); have y1 := (World.cell?_of_block (a := ⟨wr.heap.size, 1, none⟩) (HG1.out.block wr.heap.size X3.out.lt (HBN.out))).trans (X3.out.cell 1 _ rfl); have y2 := (World.cell?_of_block (a := ⟨wr.heap.size, 2, none⟩) (HG1.out.block wr.heap.size X3.out.lt (HBN.out))).trans (X3.out.cell 2 _ rfl); clear hb1; clear hown1 hg1)
            | (at_builtin; refine wpList_append_own _ rfl _ _ 25 rfl (w.heap.size + 1) 34 ti (.agg #[.int .i64 0, .int .i64 0, .string ⟨#[]⟩]) 3 32 und_reqs i1 i2 i3 i4 rfl (by decide) _ _ _ rfl (HR1.out.alloc _) ⟨w1.heap.size, 0, none⟩ 1 1 [.int .i64 c, .int .i64 q, .string s] rfl rfl (cells3_new w1 c q s _) (cells3_one c q s) HQ3.out HQ4.out (sz_alloc (sz_le HST.out.size B3.out.size HG1.out.size) _) ?_))
          intro u' w2 hown' hgr _
          obtain ⟨a', c', rfl⟩ : ∃ a' c', u' = .slice a' (out.length + 1) c' := by
            rcases hown'.2 with ⟨_, h0⟩ | ⟨q, cp, cur, rfl, _⟩
            · omega
            · exact ⟨_, _, rfl⟩
          have HO' := Lib.hid hown'
          have HGR := Lib.hid hgr
          clear hown' hgr y0 y1 y2
          go_wp2_with fail
          have z3 := Nat.le_trans HST.out.size B3.out.size
          have BA := Lib.hid (HST.out.below.trans (B3.out.mono HST.out.below.size))
          have BB1 := Lib.hid (BA.out.grown HG1.out BA.out.size (fun j hj => by cases hj; exact Nat.le_refl _))
          have BB2 := Lib.hid (BB1.out.alloc BB1.out.size (.cells #[.int .i64 c, .int .i64 q, .string s] 34))
          have BB3 := Lib.hid (BB2.out.grown HGR.out BB2.out.size (fun j hj => Nat.le_trans (Nat.le_succ _) (HR1.out.lt j hj).1))
          have Z9 := Lib.hid (show w.heap.size + 1 ≤ w2.heap.size from Nat.le_trans z3 (Nat.le_trans HG1.out.size (Nat.le_trans (by rw [World.size_alloc]; omega) HGR.out.size)))
          have HM2 := Lib.hid ((HO1.out.alloc (.cells #[.int .i64 c, .int .i64 q, .string s] 34)).kept HGR.out (fun e => by have := (HR1.out.lt _ e.symm).1; omega))
          have HO2 := Lib.hid (show w2.ownsRow (w.heap.size + 1) 34 3 (.slice a' (out.length + 1) c') (onceN n (l.take (i + 1))).length (cellsR (onceN n (l.take (i + 1)))) by
            rw [HEQ.out, cellsR_snoc, List.length_append]; exact HO'.out)
          clear z3
          go_roundw
          case rel => exact ⟨i + 1, by have := HLT.out; omega, by go_num, ⟨_, HM2.out, by rw [HEQ.out, List.map_append]; exact HPUT.out⟩, HO2.out, BB3.out, Z9.out, ⟨a', c', by rw [HEQ.out, List.length_append]; rfl⟩⟩
          case measure => have := HLT.out; simp [intOf]; omega
    · obtain rfl : i = l.length := by omega
      have hlt' : ¬ (l.length : Int) < (l.length : Int) := by omega
      clear hi hlt
      go_wp2_with fail
      go_ret
      have hrow := HST.out.row
      rw [List.take_length] at hrow
      exact ⟨_, rfl, reqs_of_own hrow, fun c hc => Nat.le_trans (Nat.le_succ _) (hrow.lt c hc).1, HST.out.below⟩
end Go.Proofs.YtacbamfhlgchgaaDoor
