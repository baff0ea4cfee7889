/-
  The walk of the law CertMakes.
-/
import Derived.Test.YtigoaokpodggcaaDoorKEMake
import Derived.Test.YtigoaokpodggcaaDoorKERow
import Derived.Test.YtigoaokpodggcaaDoorKELawH
import Derived.Test.YtigoaokpodggcaaDoorKWCutR
section
open Go Go.RowKit
namespace CC
open BB WW
/-- of the first k none is of the i-th one's node -/
def firstTo (l : List (Int × List ByteArray)) (i k : Nat) : Bool := decide (∀ j, j < k → (l.getD j (0, [])).1 ≠ (l.getD i (0, [])).1)
theorem firstTo_succ (l : List (Int × List ByteArray)) (i k : Nat) : firstTo l i (k + 1) = (firstTo l i k && ((l.getD k (0, [])).1 != (l.getD i (0, [])).1)) := by
  unfold firstTo
  rw [Bool.eq_iff_iff, Bool.and_eq_true, decide_eq_true_eq, decide_eq_true_eq, bne_iff_ne]
  constructor
  · intro h; exact ⟨fun j hj => h j (by omega), h k (by omega)⟩
  · rintro ⟨h1, h2⟩ j hj
    by_cases e : j = k
    · subst e; exact h2
    · exact h1 j (by omega)
/-- how many of the first i are the first of their node -/
def cntF (l : List (Int × List ByteArray)) (i : Nat) : Nat := ((List.range i).filter fun j => firstTo l j j).length
theorem cntF_succ (l : List (Int × List ByteArray)) (i : Nat) : cntF l (i + 1) = cntF l i + if firstTo l i i = true then 1 else 0 := by
  unfold cntF
  rw [List.range_succ, List.filter_append, List.length_append]
  by_cases h : firstTo l i i = true <;> simp [h]
theorem cntF_le (l : List (Int × List ByteArray)) (i : Nat) : cntF l i ≤ i := by
  unfold cntF
  have := List.length_filter_le (fun j => firstTo l j j) (List.range i)
  simpa using this
theorem first_ex (l : List (Int × List ByteArray)) (u : Int) : ∀ i, i < l.length → (l.getD i (0, [])).1 = u → ∃ j, j ≤ i ∧ (l.getD j (0, [])).1 = u ∧ firstTo l j j = true := by
  intro i
  induction i using Nat.strongRecOn with
  | ind i ih =>
    intro hi hu
    by_cases h : firstTo l i i = true
    · exact ⟨i, Nat.le_refl _, hu, h⟩
    · unfold firstTo at h
      rw [decide_eq_true_eq] at h
      have : ∃ j, j < i ∧ (l.getD j (0, [])).1 = (l.getD i (0, [])).1 := Classical.byContradiction fun hn => h fun j hj he => hn ⟨j, hj, he⟩
      obtain ⟨j, hj, he⟩ := this
      obtain ⟨j', h1, h2, h3⟩ := ih j hj (by omega) (he.trans hu)
      exact ⟨j', by omega, h2, h3⟩
theorem nodup_of_lt {l : List Int} (h : l.Pairwise (· < ·)) : l.Nodup := h.imp fun h => by omega
theorem mk_pair (L : List Sg) : ((mkL L).map bare).Pairwise (fun p q => p.1 < q.1) := by
  rw [List.pairwise_map]
  exact (mkL_spec L).1
theorem mk_at (L : List Sg) (i : Nat) (h : i + 1 < ((mkL L).map bare).length) : (((mkL L).map bare).getD i (0, [])).1 < (((mkL L).map bare).getD (i + 1) (0, [])).1 := by
  have := (List.pairwise_iff_getElem.1 (mk_pair L)) i (i + 1) (by omega) h (by omega)
  rw [List.getD_eq_getElem?_getD, List.getD_eq_getElem?_getD, List.getElem?_eq_getElem h, List.getElem?_eq_getElem (show i < _ by omega)]
  exact this
theorem getD_mem' {α : Type} (l : List α) (d : α) (i : Nat) (h : i < l.length) : l.getD i d ∈ l := by
  rw [List.getD_eq_getElem?_getD, List.getElem?_eq_getElem h]; exact List.getElem_mem h
/-- the first of a node is in it -/
theorem mk_has (L : List Sg) (i : Nat) (hi : i < L.length) (hf : firstTo (L.map bare) i i = true) : L.getD i s0 ∈ mkL L := by
  have hf : ∀ j, j < i → ((L.map bare).getD j (0, [])).1 ≠ ((L.map bare).getD i (0, [])).1 := of_decide_eq_true hf
  have hf : ∀ j, j < i → (L.getD j s0).1 ≠ (L.getD i s0).1 := fun j hj => by
    have := hf j hj
    rw [getD_map_bare L j (by omega), getD_map_bare L i hi] at this
    exact this
  obtain ⟨c, hc⟩ : ∃ c, (L.getD i s0).1 = c := ⟨_, rfl⟩
  have hsp := (mkL_spec L).2 c
  have e : L = L.take i ++ L.getD i s0 :: L.drop (i + 1) := by
    rw [List.getD_eq_getElem?_getD, List.getElem?_eq_getElem hi]
    show L = L.take i ++ (L[i] :: L.drop (i + 1))
    rw [List.getElem_cons_drop, List.take_append_drop]
  have h1 : ofN c (L.take i) = [] := by
    unfold ofN
    rw [List.filter_eq_nil_iff]
    intro x hx
    obtain ⟨j, hj, rfl⟩ := List.getElem_of_mem hx
    have hj' : j < i := by rw [List.length_take] at hj; omega
    have := hf j hj'
    rw [List.getElem_take]
    simp only [decide_eq_true_eq]
    rw [hc] at this
    simpa [List.getD, List.getElem?_eq_getElem (show j < L.length by omega)] using this
  have h2 : ofN c L = L.getD i s0 :: ofN c (L.drop (i + 1)) := by
    conv => lhs; rw [e]
    unfold ofN at h1 ⊢
    rw [List.filter_append, h1, List.nil_append, List.filter_cons, if_pos (by simpa using hc)]
  rw [h2] at hsp
  have h3 : L.getD i s0 ∈ ofN c (mkL L) := by rw [hsp]; simp
  unfold ofN at h3
  exact (List.mem_filter.1 h3).1
theorem mk_has' (L : List Sg) (i : Nat) (hi : i < L.length) (hf : firstTo (L.map bare) i i = true) : (L.map bare).getD i (0, []) ∈ (mkL L).map bare := by
  rw [getD_map_bare L i hi]; exact List.mem_map_of_mem (mk_has L i hi hf)
theorem mk_sub' (L : List Sg) : ∀ x ∈ mkL L, x ∈ L := fun x hx => by
  obtain ⟨_, h⟩ := mkL_spec L
  have h1 : x ∈ ofN x.1 (mkL L) := by unfold ofN; rw [List.mem_filter]; exact ⟨hx, by simp⟩
  rw [h] at h1
  have h2 := List.mem_of_mem_take h1
  unfold ofN at h2
  exact (List.mem_filter.1 h2).1
/-- as many as are the first of their node -/
theorem mk_count (L : List Sg) : cntF (L.map bare) (L.map bare).length = ((mkL L).map bare).length := by
  obtain ⟨l, hl⟩ : ∃ l, L.map bare = l := ⟨_, rfl⟩
  have hlen : l.length = L.length := by rw [← hl, List.length_map]
  have hn1 : (((List.range l.length).filter fun j => firstTo l j j).map fun j => (l.getD j (0, [])).1).Nodup := by
    unfold List.Nodup
    rw [List.pairwise_map]
    have hr : ((List.range l.length).filter fun j => firstTo l j j).Pairwise (fun a b => a < b ∧ firstTo l b b = true) := by
      have h0 : (List.range l.length).Pairwise (· < ·) := List.pairwise_lt_range
      rw [List.pairwise_filter]
      exact h0.imp fun h _ hb => ⟨h, hb⟩
    exact hr.imp fun ⟨h1, h2⟩ => (of_decide_eq_true h2 : ∀ j, j < _ → _) _ h1
  have hn2 : (((mkL L).map bare).map fun p => p.1).Nodup := by
    apply nodup_of_lt
    rw [List.pairwise_map]
    exact mk_pair L
  have hm : ∀ u, u ∈ (((List.range l.length).filter fun j => firstTo l j j).map fun j => (l.getD j (0, [])).1) ↔ u ∈ (((mkL L).map bare).map fun p => p.1) := by
    intro u
    rw [List.mem_map, List.mem_map]
    constructor
    · rintro ⟨j, hj, rfl⟩
      rw [List.mem_filter, List.mem_range] at hj
      exact ⟨l.getD j (0, []), by rw [← hl]; exact mk_has' L j (by omega) (by rw [hl]; exact hj.2), rfl⟩
    · rintro ⟨p, hp, rfl⟩
      obtain ⟨x, hx, rfl⟩ := List.mem_map.1 hp
      obtain ⟨i, hi, rfl⟩ := List.getElem_of_mem (mk_sub' L x hx)
      have he : (l.getD i (0, [])).1 = (bare L[i]).1 := by
        rw [← hl, getD_map_bare L i hi]; simp [List.getD, List.getElem?_eq_getElem hi]
      obtain ⟨j, h1, h2, h3⟩ := first_ex l _ i (by omega) he
      exact ⟨j, by rw [List.mem_filter, List.mem_range]; exact ⟨by omega, h3⟩, h2⟩
  have := ((List.perm_ext_iff_of_nodup hn1 hn2).2 hm).length_eq
  rw [List.length_map, List.length_map] at this
  rw [hl]
  exact this
end CC
end
section
open Go Go.RowKit
namespace CC
open MM WW BB
/-- a new certificate's cells, and what was as it was -/
theorem box_cert (w : World) (v : Value) (k : ByteArray) (s : Value) (T : TypeId) :
    BoxAt w w.heap.size [v, .string k, s] ((((w.alloc (.cells #[.int .i64 0, .string ⟨#[]⟩, .slice none 0 0] T)).setCell ⟨w.heap.size, 0, none⟩ v).setCell ⟨w.heap.size, 1, none⟩ (.string k)).setCell ⟨w.heap.size, 2, none⟩ s) := by
  have k0 : Blk (w.alloc (.cells #[.int .i64 0, .string ⟨#[]⟩, .slice none 0 0] T)) w.heap.size 3 (cC (.int .i64 0) ⟨#[]⟩ (.slice none 0 0)) := Blk.new' rfl (cC_row _ _ _)
  have k3 := ((k0.set 0 v).set 1 (.string k)).set 2 s
  refine ⟨?_, k3.lt, ?_⟩
  · exact ((Below.refl w.heap.size w).alloc (Nat.le_refl _) _).trans ((((Upd.set _ _ _ _).trans (Upd.set _ _ _ _)).trans (Upd.set _ _ _ _)).below (Nat.le_refl _))
  · intro i u hu
    match i, hu with
    | 0, hu => rw [k3.get 0 (by omega)]; exact hu
    | 1, hu => rw [k3.get 1 (by omega)]; exact hu
    | 2, hu => rw [k3.get 2 (by omega)]; exact hu
/-- three boxes -/
structure Box3 (w : World) (g1 : Nat) (c1 : List Value) (g2 : Nat) (c2 : List Value) (g3 : Nat) (c3 : List Value) (wr : World) : Prop where
  a : BoxAt w g1 c1 wr
  b : BoxAt w g2 c2 wr
  c : BoxAt w g3 c3 wr
theorem sigs_one {w : World} {f : Int} {tv : Value} {ts : List ByteArray} {g cap : Nat} (h0 : w.cell? ⟨g, 0, none⟩ = some (.int .i64 f)) (h1 : w.cell? ⟨g, 1, none⟩ = some tv) (ht : StrsAt w tv ts) : SigsAt w (.slice (some ⟨g, 0, none⟩) 1 cap) [(f, ts)] := by
  refine ⟨_, cap, rfl, Or.inr ⟨g, 0, rfl, World.block_lt_of_cell? w _ h0, fun i hi => ?_⟩⟩
  have : i = 0 := by simpa using hi
  subst this
  exact ⟨tv, h0, h1, ht⟩
/-- three certificates' cells -/
def Nine (base g1 g2 g3 : Nat) (p0 p1 p2 q0 q1 q2 r0 r1 r2 : Value) (w W : World) : Prop :=
  W.cell? ⟨g1, 0, none⟩ = some p0 ∧ W.cell? ⟨g1, 1, none⟩ = some p1 ∧ W.cell? ⟨g1, 2, none⟩ = some p2 ∧ W.cell? ⟨g2, 0, none⟩ = some q0 ∧ W.cell? ⟨g2, 1, none⟩ = some q1 ∧ W.cell? ⟨g2, 2, none⟩ = some q2 ∧
  W.cell? ⟨g3, 0, none⟩ = some r0 ∧ W.cell? ⟨g3, 1, none⟩ = some r1 ∧ W.cell? ⟨g3, 2, none⟩ = some r2 ∧ Below base w W ∧ base ≤ W.heap.size
theorem keep9 {base g1 g2 g3 : Nat} {p0 p1 p2 q0 q1 q2 r0 r1 r2 : Value} {w W w1 : World} (h : W.cell? ⟨g1, 0, none⟩ = some p0 ∧ W.cell? ⟨g1, 1, none⟩ = some p1 ∧ W.cell? ⟨g1, 2, none⟩ = some p2 ∧ W.cell? ⟨g2, 0, none⟩ = some q0 ∧ W.cell? ⟨g2, 1, none⟩ = some q1 ∧ W.cell? ⟨g2, 2, none⟩ = some q2 ∧
    W.cell? ⟨g3, 0, none⟩ = some r0 ∧ W.cell? ⟨g3, 1, none⟩ = some r1 ∧ W.cell? ⟨g3, 2, none⟩ = some r2 ∧ Below base w W ∧ base ≤ W.heap.size) (hb : Below W.heap.size W w1) :
    w1.cell? ⟨g1, 0, none⟩ = some p0 ∧ w1.cell? ⟨g1, 1, none⟩ = some p1 ∧ w1.cell? ⟨g1, 2, none⟩ = some p2 ∧ w1.cell? ⟨g2, 0, none⟩ = some q0 ∧ w1.cell? ⟨g2, 1, none⟩ = some q1 ∧ w1.cell? ⟨g2, 2, none⟩ = some q2 ∧
    w1.cell? ⟨g3, 0, none⟩ = some r0 ∧ w1.cell? ⟨g3, 1, none⟩ = some r1 ∧ w1.cell? ⟨g3, 2, none⟩ = some r2 ∧ Below base w w1 ∧ base ≤ w1.heap.size := by
  obtain ⟨h0, h1, h2, h3, h4, h5, h6, h7, h8, h9, h10⟩ := h
  have key : ∀ {g o : Nat} {v : Value}, W.cell? ⟨g, o, none⟩ = some v → w1.cell? ⟨g, o, none⟩ = some v := fun {g o v} hc => (hb.cell (p := ⟨g, o, none⟩) (World.block_lt_of_cell? W _ hc)).trans hc
  exact ⟨key h0, key h1, key h2, key h3, key h4, key h5, key h6, key h7, key h8, h9.trans (hb.mono h10), Nat.le_trans h10 hb.size⟩
theorem nine_below {base g1 g2 g3 : Nat} {p0 p1 p2 q0 q1 q2 r0 r1 r2 : Value} {w W : World} (h : W.cell? ⟨g1, 0, none⟩ = some p0 ∧ W.cell? ⟨g1, 1, none⟩ = some p1 ∧ W.cell? ⟨g1, 2, none⟩ = some p2 ∧ W.cell? ⟨g2, 0, none⟩ = some q0 ∧ W.cell? ⟨g2, 1, none⟩ = some q1 ∧ W.cell? ⟨g2, 2, none⟩ = some q2 ∧
    W.cell? ⟨g3, 0, none⟩ = some r0 ∧ W.cell? ⟨g3, 1, none⟩ = some r1 ∧ W.cell? ⟨g3, 2, none⟩ = some r2 ∧ Below base w W ∧ base ≤ W.heap.size) : Below base w W := h.2.2.2.2.2.2.2.2.2.1
end CC
namespace Go.Proofs.YtigoaokpodggcaaDoor
open CC MM WW BB
theorem fewsig5_is (f : Int) (tv : Value) (ts : List ByteArray) (b : Bool) (hb : fewSig ts = b) (w : World) (hv : StrsAt w tv ts) (hn : ts.length ≤ 9223372036854775807) :
    Calls Tryd.prog 14 #[.agg #[.int .i64 f, tv]] w fun e w' => e = .returned (.bool b) ∧ Below w.heap.size w w' := hb ▸ fewsig_any f tv ts w hv hn
set_option maxRecDepth 100000 in
set_option maxHeartbeats 8000000 in
theorem lawf_big (f : Int) (tv : Value) (ts : List ByteArray) (k : ByteArray) (a b : Nat) (w : World) (hv : StrsAt w tv ts) (hn : ts.length ≤ 9223372036854775807) (h : fewSig ts = false ∨ fewSig ts = true ∧ 50 < k.size) (hT : Tabs w) :
    Calls Tryd.prog 7 #[.agg #[.int .i64 f, tv], .string k, .agg #[.int .u8 (a : Int), .int .u8 (b : Int)]] w fun e w' => e = .returned (.bool true) ∧ Below w.heap.size w w' := by
  have HV := Lib.hid hv
  have HN := Lib.hid hn
  have HT := Lib.hid hT
  obtain ⟨a0, cap, rfl, _⟩ := hv
  clear hn hT
  have b1 := Lib.hid (((Below.refl w.heap.size w).alloc (Nat.le_refl _) (.cells #[.int .i64 f, .slice a0 ts.length cap] 35)).alloc (by simp) (.cells #[.int .u8 (a : Int), .int .u8 (b : Int)] 49))
  have X0 := Lib.hid ((box_mk w [.int .i64 f, .slice a0 ts.length cap] 35).on ((Below.refl _ _).alloc (Nat.le_refl _) (.cells #[.int .u8 (a : Int), .int .u8 (b : Int)] 49)))
  rcases h with h | ⟨h, h2⟩
  all_goals
    have HF := Lib.hid h
    try have t1 : (50 : Int) < (k.size : Int) := by omega
    clear h
    try clear h2
    go_enter Tryd.func7, Tryd.ntmps7
    go_wp2_with fail
    refine (awake5_any _ (tabs_on HT.out b1.out)).mono ?_
    rintro e w2 ⟨rfl, hb2⟩
    have B2 := Lib.hid (b1.out.trans (hb2.mono b1.out.size))
    have c0 := box_on X0.out hb2 0 _ rfl
    have c1 := box_on X0.out hb2 1 _ rfl
    clear hb2 b1
    go_wp2_with fail
    refine (fewsig5_is f _ ts _ HF.out w2 (HV.out.later B2.out) HN.out).mono ?_
    rintro e w3 ⟨rfl, hb3⟩
    have B3 := Lib.hid (B2.out.trans (hb3.mono B2.out.size))
    clear hb3 c0 c1
    go_wp2_with fail
    refine (awake5_any _ (tabs_on HT.out B3.out)).mono ?_
    rintro e w4 ⟨rfl, hb4⟩
    have B4 := Lib.hid (B3.out.trans (hb4.mono B3.out.size))
    clear hb4
    go_wp2_with fail
    go_ret
    exact ⟨rfl, B4.out⟩
theorem chz_is (b : Bool) (s : ByteArray) (d n : Int) (k : ByteArray) (sv : Value) (l : List (Int × List ByteArray)) (hb : decide (k = firstD ∧ l = []) = b) (w : World) (hv : SigsAt w sv l) (hsm : l.length ≤ 1000 ∧ ∀ i, i < l.length → (l.getD i (0, [])).2.length ≤ 1000) (hT : Tabs w) :
    Calls Tryd.prog 12 #[.string s, .int .i64 d, .int .i64 n, .agg #[.int .i64 0, .string k, sv]] w fun e w' => e = .returned (.bool b) ∧ Below w.heap.size w w' := hb ▸ chold_zero s d n k sv l w hv hsm hT
set_option maxRecDepth 100000 in
set_option maxHeartbeats 16000000 in
theorem lawf_in (f : Int) (tv : Value) (ts : List ByteArray) (k : ByteArray) (a b : Nat) (w : World) (hv : StrsAt w tv ts) (hf : fewSig ts = true) (hk : k.size ≤ 50) (ha : a < 256) (hb : b < 256) (hT : Tabs w) :
    Calls Tryd.prog 7 #[.agg #[.int .i64 f, tv], .string k, .agg #[.int .u8 (a : Int), .int .u8 (b : Int)]] w fun e w' => e = .returned (.bool true) ∧ Below w.heap.size w w' := by
  have hts : ts.length ≤ 10 := (fewsig_flat ts hf).2
  have HV := Lib.hid hv
  have HF := Lib.hid hf
  have HK := Lib.hid (show k.size ≤ 1000000 by omega)
  have HN := Lib.hid hts
  have HT := Lib.hid hT
  have t1 : ¬ (50 : Int) < (k.size : Int) := by omega
  have a0' : (0 : Int) ≤ (a : Int) := by omega
  have a1' : (a : Int) ≤ 255 := by omega
  have b0' : (0 : Int) ≤ (b : Int) := by omega
  have b1' : (b : Int) ≤ 255 := by omega
  obtain ⟨a0, cap, rfl, _⟩ := hv
  clear hf hk hts hT ha hb
  have b1 := (((Below.refl w.heap.size w).alloc (Nat.le_refl _) (.cells #[.int .i64 f, .slice a0 ts.length cap] 35)).alloc (by simp) (.cells #[.int .u8 (a : Int), .int .u8 (b : Int)] 49))
  have X0 := ((box_mk w [.int .i64 f, .slice a0 ts.length cap] 35).on ((Below.refl _ _).alloc (Nat.le_refl _) (.cells #[.int .u8 (a : Int), .int .u8 (b : Int)] 49)))
  have X1 := box_mk (w.alloc (.cells #[.int .i64 f, .slice a0 ts.length cap] 35)) [.int .u8 (a : Int), .int .u8 (b : Int)] 49
  rw [show (w.alloc (.cells #[.int .i64 f, .slice a0 ts.length cap] 35)).heap.size = w.heap.size + 1 by simp] at X1
  go_enter Tryd.func7, Tryd.ntmps7
  go_wp2_with fail
  obtain ⟨g, hg⟩ : ∃ g, w.heap.size = g := ⟨_, rfl⟩
  have HG := Lib.hid hg
  obtain ⟨w0, hw0⟩ : ∃ w0, (w.alloc (.cells #[.int .i64 f, .slice a0 ts.length cap] 35)).alloc (.cells #[.int .u8 (a : Int), .int .u8 (b : Int)] 49) = w0 := ⟨_, rfl⟩
  have e0 : (w.alloc (.cells [.int .i64 f, .slice a0 ts.length cap].toArray 35)).alloc (.cells #[.int .u8 (a : Int), .int .u8 (b : Int)] 49) = w0 := hw0
  have e1 : (w.alloc (.cells #[.int .i64 f, .slice a0 ts.length cap] 35)).alloc (.cells [.int .u8 (a : Int), .int .u8 (b : Int)].toArray 49) = w0 := hw0
  rw [e0] at X0
  rw [e1] at X1
  rw [hw0] at b1 ⊢
  rw [hg] at X0 X1 ⊢
  clear hg hw0 e0 e1
  have B1 := Lib.hid b1
  have HX0 := Lib.hid (fun (wx : World) (hb : Below w0.heap.size w0 wx) => And.intro (box_on X0 hb 0 _ rfl) (box_on X0 hb 1 _ rfl))
  have HX1 := Lib.hid (fun (wx : World) (hb : Below w0.heap.size w0 wx) => And.intro (box_on X1 hb 0 _ rfl) (box_on X1 hb 1 _ rfl))
  have HV1 := Lib.hid (fun (wx : World) (hb : Below w0.heap.size w0 wx) => HV.out.later (b1.trans (hb.mono b1.size)))
  have HT1 := Lib.hid (fun (wx : World) (hb : Below w0.heap.size w0 wx) => tabs_on HT.out (b1.trans (hb.mono b1.size)))
  clear b1 X0 X1
  refine (awake5_any _ (HT1.out w0 (Below.refl _ _))).mono ?_
  rintro e w2 ⟨rfl, hb2⟩
  have B2 := Lib.hid hb2
  obtain ⟨c0, c1⟩ := HX0.out w2 hb2
  clear hb2
  go_wp2_with fail
  refine (fewsig5_is f _ ts true HF.out w2 (HV1.out w2 B2.out) (by have := HN.out; omega)).mono ?_
  rintro e w3 ⟨rfl, hb3⟩
  have B3 := Lib.hid (B2.out.trans (hb3.mono B2.out.size))
  clear c0 c1 hb3
  obtain ⟨c0, c1⟩ := HX1.out w3 B3.out
  go_upto_region 5 with fail
  obtain ⟨n, hn⟩ : ∃ n : Nat, (1 + (a : Int) % 7) = (n : Int) := ⟨1 + a % 7, by omega⟩
  rw [hn]
  have HN7 := Lib.hid (show 1 ≤ n ∧ n ≤ 7 by omega)
  have n1 : (1 : Int) ≤ (n : Int) := by omega
  have n7 : (n : Int) ≤ 7 := by omega
  have nz : ¬ (n : Int) = 0 := by omega
  clear hn a0' a1'
  obtain ⟨i, hi⟩ : ∃ i : Nat, i = b % n := ⟨_, rfl⟩
  have m1 : (b : Int).tmod (n : Int) = (i : Int) := by rw [hi]; rfl
  have m2 : (b : Int) % (n : Int) = (i : Int) := by rw [hi]; rfl
  clear hi
  go_wp2_with fail
  clear c0 c1 m1 m2 b0' b1' n1 n7 nz
  refine (first_any w3 (HT1.out w3 B3.out)).mono ?_
  rintro e w4 ⟨rfl, hb4⟩
  have B4 := Lib.hid (B3.out.trans (hb4.mono B3.out.size))
  clear hb4
  have X3 := box_mk w4 [.int .i64 0, .string firstD, .slice none 0 0] 24
  go_upto_region 7 with fail
  refine abs_wp (fun wx => BoxAt w4 w4.heap.size [.int .i64 0, .string firstD, .slice none 0 0] wx) X3 ?_
  intro w5 Y3
  clear X3
  obtain ⟨g3, hg3⟩ : ∃ g3, w4.heap.size = g3 := ⟨_, rfl⟩
  have BX := Y3.below
  rw [hg3] at Y3 ⊢
  have HG3 := Lib.hid hg3
  have B5 := Lib.hid (B4.out.trans (BX.mono B4.out.size))
  have HX3 := Lib.hid (fun (wx : World) (hb : Below w5.heap.size w5 wx) => And.intro (Y3.on hb |>.cell 0 _ rfl) (And.intro (Y3.on hb |>.cell 1 _ rfl) (Y3.on hb |>.cell 2 _ rfl)))
  have c1 : w5.cell? ⟨g3, 1, none⟩ = some (.string firstD) := Y3.cell 1 _ rfl
  obtain ⟨d0, d1⟩ := HX0.out w5 B5.out
  have HV5 := Lib.hid (HV1.out w5 B5.out)
  clear BX Y3 hg3
  have P1 := (box_mk w5 [.int .i64 f, .slice a0 ts.length cap] 35).on ((Below.refl _ _).alloc (Nat.le_refl _) (.cells #[.int .i64 0, .string firstD, .slice (some ⟨w5.heap.size, 0, none⟩) 1 1] 24))
  have P2 := box_mk (w5.alloc (.cells #[.int .i64 f, .slice a0 ts.length cap] 35)) [.int .i64 0, .string firstD, .slice (some ⟨w5.heap.size, 0, none⟩) 1 1] 24
  rw [show (w5.alloc (.cells #[.int .i64 f, .slice a0 ts.length cap] 35)).heap.size = w5.heap.size + 1 by simp] at P2
  go_upto_region 8 with fail
  refine abs_wp (fun wx => BoxAt w5 w5.heap.size [.int .i64 f, .slice a0 ts.length cap] wx ∧ BoxAt w5 (w5.heap.size + 1) [.int .i64 0, .string firstD, .slice (some ⟨w5.heap.size, 0, none⟩) 1 1] wx) ⟨P1, ⟨P1.below, P2.lt, P2.cell⟩⟩ ?_
  rintro w6 ⟨Q1, Q2⟩
  clear P1 P2 c1 d0 d1
  obtain ⟨g4, hg4⟩ : ∃ g4, w5.heap.size = g4 := ⟨_, rfl⟩
  have BX := Q1.below
  have Z1 := HX3.out w6 Q1.below
  have HV6 := Lib.hid (HV5.out.later Q1.below)
  rw [hg4] at Q1 Q2 ⊢
  have HG4 := Lib.hid hg4
  have B6 := Lib.hid (B5.out.trans (BX.mono B5.out.size))
  clear BX hg4
  have P3 := box_mk w6 [.int .i64 0, .string k, .slice none 0 0] 24
  go_upto_region 9 with fail
  refine abs_wp (fun wx => BoxAt w6 w6.heap.size [.int .i64 0, .string k, .slice none 0 0] wx) P3 ?_
  intro w7 Q3
  clear P3
  obtain ⟨g5, hg5⟩ : ∃ g5, w6.heap.size = g5 := ⟨_, rfl⟩
  have BX := Q3.below
  have HV7 := Lib.hid (HV6.out.later BX)
  have B7 := Lib.hid (B6.out.trans (BX.mono B6.out.size))
  have Y1 : w7.cell? ⟨g4, 0, none⟩ = some (.int .i64 f) := (Q1.on BX).cell 0 _ rfl
  have Y2 : w7.cell? ⟨g4, 1, none⟩ = some (.slice a0 ts.length cap) := (Q1.on BX).cell 1 _ rfl
  have HSG := Lib.hid (sigs_one (cap := 1) Y1 Y2 HV7.out)
  have key : ∀ {x o : Nat} {v : Value}, w6.cell? ⟨x, o, none⟩ = some v → w7.cell? ⟨x, o, none⟩ = some v := fun {x o v} hc => (BX.cell (p := ⟨x, o, none⟩) (World.block_lt_of_cell? w6 _ hc)).trans hc
  rw [hg5] at Q3 ⊢
  have hst : w7.drew.cell? ⟨g3, 0, none⟩ = some (.int .i64 0) ∧ w7.drew.cell? ⟨g3, 1, none⟩ = some (.string firstD) ∧ w7.drew.cell? ⟨g3, 2, none⟩ = some (.slice none 0 0) ∧ w7.drew.cell? ⟨g4 + 1, 0, none⟩ = some (.int .i64 0) ∧ w7.drew.cell? ⟨g4 + 1, 1, none⟩ = some (.string firstD) ∧ w7.drew.cell? ⟨g4 + 1, 2, none⟩ = some (.slice (some ⟨g4, 0, none⟩) 1 1) ∧
      w7.drew.cell? ⟨g5, 0, none⟩ = some (.int .i64 0) ∧ w7.drew.cell? ⟨g5, 1, none⟩ = some (.string k) ∧ w7.drew.cell? ⟨g5, 2, none⟩ = some (.slice none 0 0) ∧ Below w7.heap.size w7 w7.drew ∧ w7.heap.size ≤ w7.drew.heap.size :=
    ⟨key Z1.1, key Z1.2.1, key Z1.2.2, key (Q2.cell 0 _ rfl), key (Q2.cell 1 _ rfl), key (Q2.cell 2 _ rfl), Q3.cell 0 _ rfl, Q3.cell 1 _ rfl, Q3.cell 2 _ rfl, (Below.refl _ _).drew, Nat.le_refl _⟩
  have tD : (firstD.toList == firstD.toList) = true := by simp
  obtain ⟨T, hT⟩ : ∃ T, textB 7 k = T := ⟨_, rfl⟩
  have tT : (T.toList == T.toList) = true := by simp
  obtain ⟨r, hr⟩ : ∃ r, (k.toList == firstD.toList) = r := ⟨_, rfl⟩
  have tr : (r == r) = true := by simp
  have HHT := Lib.hid (fun wx (hb : Below w7.heap.size w7 wx) => HT1.out wx (B7.out.trans (hb.mono B7.out.size)))
  have H1 := Lib.hid (fun wx (hb : Below w7.heap.size w7 wx) => chz_is true ⟨#[115, 101, 101, 100]⟩ (i : Int) (n : Int) firstD (.slice none 0 0) [] (by simp) wx (sigs_nil _) ⟨by simp, by simp⟩ (HHT.out wx hb))
  have H2 := Lib.hid (fun wx (hb : Below w7.heap.size w7 wx) => chz_is false ⟨#[115, 101, 101, 100]⟩ (i : Int) (n : Int) firstD (.slice (some ⟨g4, 0, none⟩) 1 1) [(f, ts)] (by simp) wx (HSG.out.later hb) ⟨by simp, fun j hj => by
    have : j = 0 := by simpa using hj
    subst this
    have := HN.out
    show ts.length ≤ 1000
    omega⟩ (HHT.out wx hb))
  have H3 := Lib.hid (fun wx (hb : Below w7.heap.size w7 wx) => chz_is r ⟨#[115, 101, 101, 100]⟩ (i : Int) (n : Int) k (.slice none 0 0) [] (by rw [← hr, bs_beq]; simp) wx (sigs_nil _) ⟨by simp, by simp⟩ (HHT.out wx hb))
  have H4 := Lib.hid (fun wx => hT ▸ text5_any 7 k HK.out wx)
  have H5 := Lib.hid (fun wx => hT ▸ rtext5_any 7 k HK.out wx)
  clear Z1 Q1 Q2 Q3 Y1 Y2 key hg5 hT BX
  go_region_held3 (fun w' => w'.cell? ⟨g3, 0, none⟩ = some (.int .i64 0) ∧ w'.cell? ⟨g3, 1, none⟩ = some (.string firstD) ∧ w'.cell? ⟨g3, 2, none⟩ = some (.slice none 0 0) ∧ w'.cell? ⟨g4 + 1, 0, none⟩ = some (.int .i64 0) ∧ w'.cell? ⟨g4 + 1, 1, none⟩ = some (.string firstD) ∧ w'.cell? ⟨g4 + 1, 2, none⟩ = some (.slice (some ⟨g4, 0, none⟩) 1 1) ∧
      w'.cell? ⟨g5, 0, none⟩ = some (.int .i64 0) ∧ w'.cell? ⟨g5, 1, none⟩ = some (.string k) ∧ w'.cell? ⟨g5, 2, none⟩ = some (.slice none 0 0) ∧ Below w7.heap.size w7 w' ∧ w7.heap.size ≤ w'.heap.size)
    (first | exact hst | exact hk)
    (first
      | (go_at_call 23; refine (rfirst_any _).mono ?_; rintro e w8 ⟨rfl, hb8⟩; have hk := keep9 (by assumption) hb8)
      | (go_at_call 12; (with_reducible refine (H1.out _ (nine_below (by assumption))).mono ?_); rintro e w8 ⟨rfl, hb8⟩; have hk := keep9 (by assumption) hb8)
      | (go_at_call 12; (with_reducible refine (H2.out _ (nine_below (by assumption))).mono ?_); rintro e w8 ⟨rfl, hb8⟩; have hk := keep9 (by assumption) hb8)
      | (go_at_call 12; (with_reducible refine (H3.out _ (nine_below (by assumption))).mono ?_); rintro e w8 ⟨rfl, hb8⟩; have hk := keep9 (by assumption) hb8)
      | (go_at_call 24; refine (H4.out _).mono ?_; rintro e w8 ⟨rfl, hb8⟩; have hk := keep9 (by assumption) hb8)
      | (go_at_call 25; refine (H5.out _).mono ?_; rintro e w8 ⟨rfl, hb8⟩; have hk := keep9 (by assumption) hb8))
  have BE := Lib.hid (nine_below hk)
  clear hst
  go_wp2_with fail
  go_ret
  exact ⟨by first | rfl | simp, HG.out ▸ B1.out.trans ((B7.out.trans (BE.out.mono B7.out.size)).mono B1.out.size)⟩
theorem lawf_card (f : Int) (tv : Value) (ts : List ByteArray) (k : ByteArray) (a b : Nat) (w : World) (hv : StrsAt w tv ts) (hn : ts.length ≤ 9223372036854775807) (ha : a < 256) (hb : b < 256) (hT : Tabs w) :
    Calls Tryd.prog 7 #[.agg #[.int .i64 f, tv], .string k, .agg #[.int .u8 (a : Int), .int .u8 (b : Int)]] w fun e w' => e = .returned (.bool true) ∧ Below w.heap.size w w' := by
  rcases hf : fewSig ts with _ | _
  · exact lawf_big f tv ts k a b w hv hn (Or.inl hf) hT
  · by_cases hk : k.size ≤ 50
    · exact lawf_in f tv ts k a b w hv hf hk ha hb hT
    · exact lawf_big f tv ts k a b w hv hn (Or.inr ⟨hf, by omega⟩) hT
end Go.Proofs.YtigoaokpodggcaaDoor
end
section
open Go Go.RowKit
namespace CC
open MM WW BB
theorem keep4b {base g1 g2 : Nat} {v1 v2 v3 v4 : Value} {w W w1 : World} (h : W.cell? ⟨g1, 0, none⟩ = some v1 ∧ W.cell? ⟨g1, 1, none⟩ = some v2 ∧ W.cell? ⟨g2, 0, none⟩ = some v3 ∧ W.cell? ⟨g2, 1, none⟩ = some v4 ∧ Below base w W ∧ base ≤ W.heap.size) (hb : Below W.heap.size W w1) :
    w1.cell? ⟨g1, 0, none⟩ = some v1 ∧ w1.cell? ⟨g1, 1, none⟩ = some v2 ∧ w1.cell? ⟨g2, 0, none⟩ = some v3 ∧ w1.cell? ⟨g2, 1, none⟩ = some v4 ∧ Below base w w1 ∧ base ≤ w1.heap.size := by
  obtain ⟨h1, h2, h3, h4, h9, h10⟩ := h
  have key : ∀ {g o : Nat} {v : Value}, W.cell? ⟨g, o, none⟩ = some v → w1.cell? ⟨g, o, none⟩ = some v := fun {g o v} hc => (hb.cell (p := ⟨g, o, none⟩) (World.block_lt_of_cell? W _ hc)).trans hc
  exact ⟨key h1, key h2, key h3, key h4, h9.trans (hb.mono h10), Nat.le_trans h10 hb.size⟩
theorem four_below {base g1 g2 : Nat} {v1 v2 v3 v4 : Value} {w W : World} (h : W.cell? ⟨g1, 0, none⟩ = some v1 ∧ W.cell? ⟨g1, 1, none⟩ = some v2 ∧ W.cell? ⟨g2, 0, none⟩ = some v3 ∧ W.cell? ⟨g2, 1, none⟩ = some v4 ∧ Below base w W ∧ base ≤ W.heap.size) : Below base w W := h.2.2.2.2.1
theorem keep5d {base a0 a1 a2 a3 a4 b0 b1 b2 b3 b4 : Nat} {v0 v1 v2 v3 v4 : Value} {w W w1 : World} (h : W.cell? ⟨a0, b0, none⟩ = some v0 ∧ W.cell? ⟨a1, b1, none⟩ = some v1 ∧ W.cell? ⟨a2, b2, none⟩ = some v2 ∧ W.cell? ⟨a3, b3, none⟩ = some v3 ∧ W.cell? ⟨a4, b4, none⟩ = some v4 ∧ Below base w W ∧ base ≤ W.heap.size) (hb : Below W.heap.size W w1) :
    w1.cell? ⟨a0, b0, none⟩ = some v0 ∧ w1.cell? ⟨a1, b1, none⟩ = some v1 ∧ w1.cell? ⟨a2, b2, none⟩ = some v2 ∧ w1.cell? ⟨a3, b3, none⟩ = some v3 ∧ w1.cell? ⟨a4, b4, none⟩ = some v4 ∧ Below base w w1 ∧ base ≤ w1.heap.size := by
  obtain ⟨h0, h1, h2, h3, h4, h9, h10⟩ := h
  have key : ∀ {g o : Nat} {v : Value}, W.cell? ⟨g, o, none⟩ = some v → w1.cell? ⟨g, o, none⟩ = some v := fun {g o v} hc => (hb.cell (p := ⟨g, o, none⟩) (World.block_lt_of_cell? W _ hc)).trans hc
  exact ⟨key h0, key h1, key h2, key h3, key h4, h9.trans (hb.mono h10), Nat.le_trans h10 hb.size⟩
theorem five_below {base a0 a1 a2 a3 a4 b0 b1 b2 b3 b4 : Nat} {v0 v1 v2 v3 v4 : Value} {w W : World} (h : W.cell? ⟨a0, b0, none⟩ = some v0 ∧ W.cell? ⟨a1, b1, none⟩ = some v1 ∧ W.cell? ⟨a2, b2, none⟩ = some v2 ∧ W.cell? ⟨a3, b3, none⟩ = some v3 ∧ W.cell? ⟨a4, b4, none⟩ = some v4 ∧ Below base w W ∧ base ≤ W.heap.size) : Below base w W := h.2.2.2.2.2.1
/-- the bytes are the same -/
def sameB (p q : Int × List ByteArray) : Bool := (sigB p.1 p.2).toList == (sigB q.1 q.2).toList
theorem sameB_self (p : Int × List ByteArray) : sameB p p = true := by unfold sameB; simp
def thereTo (M : List (Int × List ByteArray)) (t : Int × List ByteArray) (k : Nat) : Bool := (M.take k).any fun x => sameB x t
theorem there_succ (M : List (Int × List ByteArray)) (t : Int × List ByteArray) (k : Nat) (h : k < M.length) : thereTo M t (k + 1) = (thereTo M t k || sameB (M.getD k (0, [])) t) := by
  unfold thereTo
  rw [List.take_succ_eq_append_getElem h, List.any_append]
  simp [List.getD, List.getElem?_eq_getElem h]
theorem there_all {M : List (Int × List ByteArray)} {t : Int × List ByteArray} (h : t ∈ M) : thereTo M t M.length = true := by
  unfold thereTo
  rw [List.take_length, List.any_eq_true]
  exact ⟨t, h, sameB_self t⟩
/-- a list of signatures, each by its cells -/
theorem sigs_nth {w : World} {v : Value} {l : List (Int × List ByteArray)} (h : SigsAt w v l) : ∃ a0 cap, v = .slice a0 l.length cap ∧ ∀ i, i < l.length → ∃ b off ta tc, a0 = some ⟨b, off, none⟩ ∧ b < w.heap.size ∧ w.cell? ⟨b, off + i * 2, none⟩ = some (.int .i64 (l.getD i (0, [])).1) ∧ w.cell? ⟨b, off + i * 2 + 1, none⟩ = some (.slice ta (l.getD i (0, [])).2.length tc) ∧ StrsAt w (.slice ta (l.getD i (0, [])).2.length tc) (l.getD i (0, [])).2 := by
  obtain ⟨a0, cap, rfl, h | ⟨b, off, rfl, hl, hc⟩⟩ := h
  · exact ⟨a0, cap, rfl, fun i hi => by rw [h] at hi; simp at hi⟩
  · refine ⟨_, cap, rfl, fun i hi => ?_⟩
    obtain ⟨tv, h1, h2, h3⟩ := hc i hi
    obtain ⟨ta, tc, rfl, _⟩ := id h3
    exact ⟨b, off, ta, tc, rfl, hl, h1, h2, h3⟩
end CC
namespace Go.Proofs.YtigoaokpodggcaaDoor
open CC MM WW BB
set_option maxRecDepth 100000 in
set_option maxHeartbeats 8000000 in
theorem same5_any (f g : Int) (tv tu : Value) (ts us : List ByteArray) (w : World) (hv : StrsAt w tv ts) (hu : StrsAt w tu us) (h1 : (flat ts).length ≤ 500000 ∧ ts.length ≤ 1000) (h2 : (flat us).length ≤ 500000 ∧ us.length ≤ 1000) :
    Calls Tryd.prog 16 #[.agg #[.int .i64 f, tv], .agg #[.int .i64 g, tu]] w fun e w' => e = .returned (.bool (sameB (f, ts) (g, us))) ∧ Below w.heap.size w w' := by
  have HV := Lib.hid hv
  have HU := Lib.hid hu
  have H1 := Lib.hid h1
  have H2 := Lib.hid h2
  obtain ⟨a0, c0, rfl, _⟩ := hv
  obtain ⟨a1, c1, rfl, _⟩ := hu
  clear h1 h2
  have hT := two2_mk w [.int .i64 f, .slice a0 ts.length c0] [.int .i64 g, .slice a1 us.length c1] 35
  go_enter Tryd.func16, Tryd.ntmps16
  go_wp2_with fail
  refine abs_wp (fun wx => Two2 w w.heap.size [.int .i64 f, .slice a0 ts.length c0] [.int .i64 g, .slice a1 us.length c1] wx) hT ?_
  intro w0 hT0
  obtain ⟨x, hx⟩ : ∃ x, w.heap.size = x := ⟨_, rfl⟩
  have B0 := Lib.hid hT0.a.below
  have HV0 := Lib.hid (fun wx (hb : Below w0.heap.size w0 wx) => HV.out.later (hT0.a.below.trans (hb.mono hT0.a.below.size)))
  have HU0 := Lib.hid (fun wx (hb : Below w0.heap.size w0 wx) => HU.out.later (hT0.a.below.trans (hb.mono hT0.a.below.size)))
  rw [hx] at hT0 ⊢
  have HXX := Lib.hid hx
  have hst : w0.drew.cell? ⟨x, 0, none⟩ = some (.int .i64 f) ∧ w0.drew.cell? ⟨x, 1, none⟩ = some (.slice a0 ts.length c0) ∧ w0.drew.cell? ⟨x + 1, 0, none⟩ = some (.int .i64 g) ∧ w0.drew.cell? ⟨x + 1, 1, none⟩ = some (.slice a1 us.length c1) ∧ Below w0.heap.size w0 w0.drew ∧ w0.heap.size ≤ w0.drew.heap.size :=
    ⟨hT0.a.cell 0 _ rfl, hT0.a.cell 1 _ rfl, hT0.b.cell 0 _ rfl, hT0.b.cell 1 _ rfl, (Below.refl _ _).drew, Nat.le_refl _⟩
  obtain ⟨s1, hs1⟩ : ∃ s1, sigB f ts = s1 := ⟨_, rfl⟩
  obtain ⟨s2, hs2⟩ : ∃ s2, sigB g us = s2 := ⟨_, rfl⟩
  have HR := Lib.hid (show sameB (f, ts) (g, us) = (s1.toList == s2.toList) by rw [← hs1, ← hs2]; rfl)
  have K1 := Lib.hid (fun wx (hb : Below w0.heap.size w0 wx) => hs1 ▸ rsig_any f (.slice a0 ts.length c0) ts wx (HV0.out wx hb) H1.out.1 H1.out.2)
  have K2 := Lib.hid (fun wx (hb : Below w0.heap.size w0 wx) => hs2 ▸ rsig_any g (.slice a1 us.length c1) us wx (HU0.out wx hb) H2.out.1 H2.out.2)
  clear hT hT0 hx hs1 hs2
  go_region_held3 (fun w' => w'.cell? ⟨x, 0, none⟩ = some (.int .i64 f) ∧ w'.cell? ⟨x, 1, none⟩ = some (.slice a0 ts.length c0) ∧ w'.cell? ⟨x + 1, 0, none⟩ = some (.int .i64 g) ∧ w'.cell? ⟨x + 1, 1, none⟩ = some (.slice a1 us.length c1) ∧ Below w0.heap.size w0 w' ∧ w0.heap.size ≤ w'.heap.size)
    (first | exact hst | exact hk)
    (first
      | (go_at_call 39; (with_reducible refine (K1.out _ (four_below (by assumption))).mono ?_); rintro e w8 ⟨rfl, hb8⟩; have hk := keep4b (by assumption) hb8)
      | (go_at_call 39; (with_reducible refine (K2.out _ (four_below (by assumption))).mono ?_); rintro e w8 ⟨rfl, hb8⟩; have hk := keep4b (by assumption) hb8))
  have BE := Lib.hid (four_below hk)
  clear hst
  go_wp2_with fail
  go_ret
  exact ⟨by rw [HR.out]; rfl, HXX.out ▸ B0.out.trans (BE.out.mono B0.out.size)⟩
theorem same5_is (p q : Int × List ByteArray) (tv tu : Value) (b : Bool) (hb : sameB p q = b) (w : World) (hv : StrsAt w tv p.2) (hu : StrsAt w tu q.2) (h1 : (flat p.2).length ≤ 500000 ∧ p.2.length ≤ 1000) (h2 : (flat q.2).length ≤ 500000 ∧ q.2.length ≤ 1000) :
    Calls Tryd.prog 16 #[.agg #[.int .i64 p.1, tv], .agg #[.int .i64 q.1, tu]] w fun e w' => e = .returned (.bool b) ∧ Below w.heap.size w w' := hb ▸ same5_any p.1 q.1 tv tu p.2 q.2 w hv hu h1 h2
set_option maxRecDepth 100000 in
set_option maxHeartbeats 8000000 in
theorem lawm_big (v : Int) (k : ByteArray) (sv : Value) (l : List (Int × List ByteArray)) (w : World) (hv : SigsAt w sv l) (h : 20 < l.length ∨ l.length ≤ 20 ∧ 50 < k.size) (hT : Tabs w) :
    Calls Tryd.prog 4 #[.int .i64 v, .string k, sv] w fun e w' => e = .returned (.bool true) ∧ Below w.heap.size w w' := by
  have HT := Lib.hid hT
  obtain ⟨a0, cap, rfl, _⟩ := hv
  clear hT
  rcases h with h | ⟨h, h2⟩
  all_goals
    try have t1 : (20 : Int) < (l.length : Int) := by omega
    try have t2 : ¬ (20 : Int) < (l.length : Int) := by omega
    try have t3 : (50 : Int) < (k.size : Int) := by omega
    clear h
    try clear h2
    go_enter Tryd.func4, Tryd.ntmps4
    go_wp2_with fail
    refine (awake5_any _ HT.out).mono ?_
    rintro e w2 ⟨rfl, hb2⟩
    have B2 := Lib.hid hb2
    clear hb2
    go_wp2_with fail
    refine (awake5_any _ (tabs_on HT.out B2.out)).mono ?_
    rintro e w4 ⟨rfl, hb4⟩
    have B4 := Lib.hid (B2.out.trans (hb4.mono B2.out.size))
    clear hb4
    go_wp2_with fail
    go_ret
    exact ⟨rfl, B4.out⟩
set_option maxRecDepth 100000 in
set_option maxHeartbeats 32000000 in
theorem lawm_in (v : Int) (k : ByteArray) (sv : Value) (l : List (Int × List ByteArray)) (w : World) (hv : SigsAt w sv l) (hn : MemS l) (hl : l.length ≤ 20) (hk : k.size ≤ 50) (hT : Tabs w) :
    Calls Tryd.prog 4 #[.int .i64 v, .string k, sv] w fun e w' => e = .returned (.bool true) ∧ Below w.heap.size w w' := by
  have HT := Lib.hid hT
  have HN := Lib.hid hn
  have HL := Lib.hid hl
  have t2 : ¬ (20 : Int) < (l.length : Int) := by omega
  have t3 : ¬ (50 : Int) < (k.size : Int) := by omega
  have HV := Lib.hid hv
  obtain ⟨a0, cap, rfl, hat⟩ := sigs_nth hv
  have HAT := Lib.hid hat
  clear hT hn hl hk hat hv
  go_enter Tryd.func4, Tryd.ntmps4
  go_wp2_with fail
  refine (awake5_any _ HT.out).mono ?_
  rintro e w1 ⟨rfl, hb1⟩
  have B1 := Lib.hid hb1
  clear hb1
  go_wp2_with fail
  clear t3
  go_loopw [7] (fun x wr => ∃ i : Nat, i ≤ l.length ∧ x = .int .i64 (i : Int) ∧ (∀ j, j < i → fewSig (l.getD j (0, [])).2 = true) ∧ Below w.heap.size w wr) (fun x _ => l.length - (intOf x).toNat)
  case atStart => exact ⟨0, Nat.zero_le _, rfl, fun j hj => absurd hj (Nat.not_lt_zero _), B1.out⟩
  case round =>
    obtain ⟨i, hi, rfl, hall, hb⟩ := hrel
    have HALL := Lib.hid hall
    have BR := Lib.hid hb
    have i0 : (0 : Int) ≤ (i : Int) := by omega
    have ib : (i : Int) ≤ 20 := by have := HL.out; omega
    clear hall hb
    by_cases hlt : i < l.length
    · have hlt' : (i : Int) < (l.length : Int) := by omega
      obtain ⟨b, off, ta, tc, rfl, hbw, hc0, hc1, hts⟩ := HAT.out i hlt
      have c0 := (BR.out.cell (p := ⟨b, off + i * 2, none⟩) hbw).trans hc0
      have c1 := (BR.out.cell (p := ⟨b, off + i * 2 + 1, none⟩) hbw).trans hc1
      have HTS := Lib.hid (hts.later BR.out)
      have HLT := Lib.hid hlt
      have HNI := Lib.hid (HN.out.2 i hlt)
      clear hbw hc0 hc1 hts hlt hi
      go_wp2_with fail
      rcases hf : fewSig (l.getD i (0, [])).2 with _ | _
      all_goals
        have HF := Lib.hid hf
        clear hf
        refine (fewsig5_is _ _ _ _ HF.out wr HTS.out HNI.out).mono ?_
        rintro e w2 ⟨rfl, hb2⟩
        have B2 := Lib.hid (BR.out.trans (hb2.mono BR.out.size))
        clear hb2 c0 c1
        go_wp2_with fail
      · go_ret
        exact ⟨rfl, B2.out⟩
      · go_roundw
        case rel => exact ⟨i + 1, by have := HLT.out; omega, by go_num, fun j hj => if h : j = i then h ▸ HF.out else HALL.out j (by omega), B2.out⟩
        case measure => have := HLT.out; simp [intOf]; omega
    · obtain rfl : i = l.length := by omega
      have hlt' : ¬ (l.length : Int) < (l.length : Int) := by omega
      have HFL := Lib.hid (show ∀ p ∈ l, (flat p.2).length ≤ 500000 ∧ p.2.length ≤ 1000 from fun p hp => by
        obtain ⟨j, hj, rfl⟩ := List.getElem_of_mem hp
        have h1 := HALL.out j hj
        rw [show l.getD j (0, []) = l[j] by simp [List.getD, List.getElem?_eq_getElem hj]] at h1
        have := fewsig_flat _ h1
        omega)
      obtain ⟨L, hLl, hmk⟩ := make_any v k (.slice a0 l.length cap) l wr (HV.out.later BR.out) HL.out fun p hp => (HFL.out p hp).2
      have HMK := Lib.hid hmk
      have HLL := Lib.hid hLl
      clear hi hlt hLl hmk i0 ib t2
      go_wp2_with fail
      refine HMK.out.mono ?_
      rintro e w3 ⟨ma, mcap, rfl, hms, hb3⟩
      have B3 := Lib.hid (BR.out.trans (hb3.mono BR.out.size))
      obtain ⟨M, hM⟩ : ∃ M, (mkL L).map bare = M := ⟨_, rfl⟩
      have hml : (mkL L).length = M.length := by rw [← hM, List.length_map]
      rw [hM] at hms
      rw [hml] at hms ⊢
      have HCN := Lib.hid (show cntF l l.length = M.length by rw [← hM, ← HLL.out]; exact mk_count L)
      have HHS := Lib.hid (show ∀ j, j < l.length → firstTo l j j = true → l.getD j (0, []) ∈ M from fun j hj hf => by
        rw [← hM, ← HLL.out]
        exact mk_has' L j (by rw [← HLL.out, List.length_map] at hj; exact hj) (by rw [HLL.out]; exact hf))
      have HRS := Lib.hid (show ∀ j, j + 1 < M.length → (M.getD j (0, [])).1 < (M.getD (j + 1) (0, [])).1 from fun j hj => by rw [← hM]; exact mk_at L j (by rw [hM]; exact hj))
      have HMB := Lib.hid (show M.length ≤ 20 by rw [← hml]; have h1 := mkL_len L; have h2 := HL.out; have h3 : l.length = L.length := (by rw [← HLL.out, List.length_map]); omega)
      have HMF := Lib.hid (show ∀ p ∈ M, (flat p.2).length ≤ 500000 ∧ p.2.length ≤ 1000 from fun p hp => by
        rw [← hM] at hp
        obtain ⟨x, hx, rfl⟩ := List.mem_map.1 hp
        exact HFL.out (bare x) (by rw [← HLL.out]; exact List.mem_map_of_mem (mk_sub' L x hx)))
      have P3 := box_mk w3 [.int .i64 v, .string k, .slice ma M.length mcap] 24
      have HMS := Lib.hid hms
      clear hb3 hM hml hms
      go_upto_region 9 with fail
      refine abs_wp (fun wx => BoxAt w3 w3.heap.size [.int .i64 v, .string k, .slice ma M.length mcap] wx) P3 ?_
      intro w4 Q3
      clear P3
      obtain ⟨gc, hgc⟩ : ∃ gc, w3.heap.size = gc := ⟨_, rfl⟩
      have B4 := Lib.hid (B3.out.trans (Q3.below.mono B3.out.size))
      have hm4 := HMS.out.later Q3.below
      obtain ⟨_, _, hme, hmat⟩ := sigs_nth hm4
      injection hme with e1 _ e3
      subst e1 e3
      have HMT := Lib.hid hmat
      rw [hgc] at Q3 ⊢
      have HC4 := Lib.hid (fun (wx : World) (hb : Below w4.heap.size w4 wx) => And.intro (Q3.on hb |>.cell 0 _ rfl) (And.intro (Q3.on hb |>.cell 1 _ rfl) (Q3.on hb |>.cell 2 _ rfl)))
      have t5 : (v != v) = false := by simp
      have t6 : (k.toList != k.toList) = false := by simp
      obtain ⟨c0, c1, c2⟩ := HC4.out w4 (Below.refl _ _)
      clear Q3 hm4 hmat hgc
      go_wp2_with fail
      clear t5 t6 c0 c1 c2
      obtain ⟨_, _, hle, hlat⟩ := sigs_nth (HV.out.later B4.out)
      injection hle with e1 _ e3
      subst e1 e3
      have HLT4 := Lib.hid hlat
      have HB := Lib.hid (show ∀ wx, Below w4.heap.size w4 wx → Below w.heap.size w wx from fun wx hb => B4.out.trans (hb.mono B4.out.size))
      clear hlat BR B1
      go_loopw [9] (fun x wx => ∃ i : Nat, i ≤ M.length ∧ x = .int .i64 (i : Int) ∧ Below w4.heap.size w4 wx) (fun x _ => M.length - (intOf x).toNat)
      case atStart => exact ⟨0, Nat.zero_le _, rfl, Below.refl _ _⟩
      case round =>
        obtain ⟨i, hi, rfl, hb⟩ := hrel
        have BR := Lib.hid hb
        obtain ⟨_, _, c2⟩ := HC4.out wr hb
        clear hb
        by_cases hlt : i < M.length
        · have HLT := Lib.hid hlt
          by_cases hi0 : i = 0
          · have hd : decide (0 < i) = false := by simp; omega
            have hd2 : decide ((0 : Int) < (i : Int)) = false := by simp; omega
            have i0 : (0 : Int) ≤ (i : Int) := by omega
            have ib : (i : Int) ≤ 20 := by have := HMB.out; omega
            have hlt' : (i : Int) < (M.length : Int) := by omega
            clear hlt hi hi0
            go_wp2_with fail
            go_quiet (fail)
            go_wp2_with fail
            go_roundw
            case rel => exact ⟨i + 1, by have := HLT.out; omega, by go_num, below_drewI BR.out _⟩
            case measure => have := HLT.out; simp [intOf]; omega
          · obtain ⟨j, rfl⟩ : ∃ j, i = j + 1 := ⟨i - 1, by omega⟩
            have j0 : (0 : Int) ≤ (j : Int) := by omega
            have j1 : (0 : Int) ≤ (j : Int) + 1 := by omega
            have jp : (0 : Int) < (j : Int) + 1 := by omega
            have jb : (j : Int) ≤ 20 := by have := HMB.out; omega
            have jl : (j : Int) + 1 < (M.length : Int) := by omega
            have jl2 : (j : Int) < (M.length : Int) := by omega
            obtain ⟨b, off, ta, tc, rfl, hbw, hc0, hc1, _⟩ := HMT.out (j + 1) hlt
            obtain ⟨b', off', ta', tc', he, hbw', hd0, hd1, _⟩ := HMT.out j (by omega)
            injection he with he
            injection he with e1 e2
            subst e1 e2
            have a0' := (BR.out.cell (p := ⟨b, off + (j + 1) * 2, none⟩) hbw).trans hc0
            have b0' := (BR.out.cell (p := ⟨b, off + j * 2, none⟩) hbw).trans hd0
            obtain ⟨x, hx⟩ : ∃ x, (M.getD (j + 1) (0, [])).1 = x := ⟨_, rfl⟩
            obtain ⟨y, hy⟩ : ∃ y, (M.getD j (0, [])).1 = y := ⟨_, rfl⟩
            have hxy : ¬ x ≤ y := by have := HRS.out j hlt; omega
            rw [hx] at a0'
            rw [hy] at b0'
            have mw : IntKind.i64.wrap ((j : Int) + 1 - 1) = (j : Int) := by rw [IntKind.wrap_i64]; omega
            have mw2 : IntKind.i64.wrap (j : Int) = (j : Int) := by rw [IntKind.wrap_i64]; omega
            clear hx hy hc0 hc1 hd0 hd1 hbw hbw' hlt hi hi0
            go_wp2_with fail
            go_quiet (fail)
            go_wp2_with fail
            go_roundw
            case rel => exact ⟨j + 1 + 1, by have := HLT.out; omega, by go_num, below_drewI BR.out _⟩
            case measure => have := HLT.out; simp [intOf]; omega
        · obtain rfl : i = M.length := by omega
          have hlt' : ¬ (M.length : Int) < (M.length : Int) := by omega
          clear hi hlt
          go_wp2_with fail
          clear c2
          have BL := Lib.hid BR.out
          clear BR
          go_loopw [10, 11] (fun u x wx => ∃ i : Nat, i ≤ l.length ∧ x = .int .i64 (i : Int) ∧ u = .int .i64 (cntF l i : Int) ∧ Below w4.heap.size w4 wx) (fun _ x _ => l.length - (intOf x).toNat)
          case atStart => exact ⟨0, Nat.zero_le _, rfl, rfl, BL.out⟩
          case round =>
            obtain ⟨i, hi, rfl, rfl, hb⟩ := hrel
            have BR := Lib.hid hb
            obtain ⟨c, hc⟩ : ∃ c, cntF l i = c := ⟨_, rfl⟩
            rw [hc]
            have HCI := Lib.hid hc
            have HCB := Lib.hid (cntF_le l i)
            have i0 : (0 : Int) ≤ (i : Int) := by omega
            have ib : (i : Int) ≤ 20 := by have := HL.out; omega
            have cc0 : (0 : Int) ≤ (c : Int) := by omega
            have cb : (c : Int) ≤ 20 := by have := HCB.out; have := HL.out; omega
            clear hb hc
            by_cases hlt : i < l.length
            · have hlt' : (i : Int) < (l.length : Int) := by omega
              obtain ⟨b, off, ta, tc, rfl, hbw, hc0, hc1, hts⟩ := HLT4.out i hlt
              obtain ⟨f, hf⟩ : ∃ f, (l.getD i (0, [])).1 = f := ⟨_, rfl⟩
              rw [hf] at hc0
              have HI0 := Lib.hid (And.intro hbw (And.intro hc0 (And.intro hc1 hts)))
              have HFF := Lib.hid hf
              have HLT := Lib.hid hlt
              clear hbw hc0 hc1 hts hf hi hlt
              go_wp2_with fail
              go_loopw [12, 13] (fun u x wx => ∃ kk : Nat, kk ≤ i ∧ x = .int .i64 (kk : Int) ∧ u = .bool (firstTo l i kk) ∧ Below w4.heap.size w4 wx) (fun _ x _ => i - (intOf x).toNat)
              case atStart => exact ⟨0, Nat.zero_le _, rfl, by unfold firstTo; simp, BR.out⟩
              case round =>
                obtain ⟨kk, hkk, rfl, rfl, hb⟩ := hrel
                have BK := Lib.hid hb
                have k0 : (0 : Int) ≤ (kk : Int) := by omega
                have kb : (kk : Int) ≤ 20 := by omega
                clear hb
                by_cases hkl : kk < i
                · have hkl' : (kk : Int) < (i : Int) := by omega
                  have hkl2 : (kk : Int) < (l.length : Int) := by omega
                  have HKL := Lib.hid hkl
                  have HSU := Lib.hid (firstTo_succ l i kk)
                  obtain ⟨b', off', ta', tc', he, hbw', hd0, hd1, _⟩ := HLT4.out kk (by have := HLT.out; omega)
                  injection he with he
                  injection he with e1 e2
                  subst e1 e2
                  have a0' := (BK.out.cell (p := ⟨b, off + kk * 2, none⟩) hbw').trans hd0
                  have b0' := (BK.out.cell (p := ⟨b, off + i * 2, none⟩) HI0.out.1).trans HI0.out.2.1
                  obtain ⟨y, hy⟩ : ∃ y, (l.getD kk (0, [])).1 = y := ⟨_, rfl⟩
                  rw [hy] at a0'
                  rw [hy, HFF.out] at HSU
                  obtain ⟨F, hF⟩ : ∃ F, firstTo l i kk = F := ⟨_, rfl⟩
                  rw [hF] at HSU ⊢
                  obtain ⟨E, hE⟩ : ∃ E, (y != f) = E := ⟨_, rfl⟩
                  have HE := Lib.hid hE
                  rw [hE] at HSU
                  have HSF := HSU.out
                  have HS2 := Lib.hid HSF
                  clear hy hF hd0 hd1 hbw' hkl hkk HSF HSU
                  cases F with
                  | true =>
                    go_wp2_with fail
                    go_quiet (fail)
                    go_wp2_with fail
                    go_roundw
                    case rel => exact ⟨kk + 1, by have := HKL.out; omega, by go_num, by rw [HS2.out]; rfl, below_drewI BK.out _⟩
                    case measure => have := HKL.out; simp [intOf]; omega
                  | false =>
                    go_wp2_with fail
                    go_quiet (fail)
                    go_wp2_with fail
                    go_roundw
                    case rel => exact ⟨kk + 1, by have := HKL.out; omega, by go_num, by rw [HS2.out]; rfl, below_drewI BK.out _⟩
                    case measure => have := HKL.out; simp [intOf]; omega
                · obtain rfl : kk = i := by omega
                  have hkl' : ¬ (kk : Int) < (kk : Int) := by omega
                  clear hkk hkl
                  obtain ⟨F, hF⟩ : ∃ F, firstTo l kk kk = F := ⟨_, rfl⟩
                  have HFI := Lib.hid hF
                  rw [hF]
                  clear hF
                  cases F with
                  | false =>
                    go_wp2_with fail
                    go_roundw
                    case rel => exact ⟨kk + 1, by have := HLT.out; omega, by go_num, by rw [cntF_succ, HFI.out, HCI.out]; simp, BK.out⟩
                    case measure => have := HLT.out; simp [intOf]; omega
                  | true =>
                    have HTM := Lib.hid (HHS.out kk HLT.out HFI.out)
                    go_wp2_with fail
                    go_loopw [14, 15] (fun u x wx => ∃ q : Nat, q ≤ M.length ∧ x = .int .i64 (q : Int) ∧ u = .bool (thereTo M (l.getD kk (0, [])) q) ∧ Below w4.heap.size w4 wx) (fun _ x _ => M.length - (intOf x).toNat)
                    case atStart => exact ⟨0, Nat.zero_le _, rfl, rfl, BK.out⟩
                    case round =>
                      obtain ⟨q, hq, rfl, rfl, hb⟩ := hrel
                      have BQ := Lib.hid hb
                      obtain ⟨_, _, c2⟩ := HC4.out wr hb
                      have q0 : (0 : Int) ≤ (q : Int) := by omega
                      have qb : (q : Int) ≤ 20 := by have := HMB.out; omega
                      clear hb
                      by_cases hql : q < M.length
                      · have hql' : (q : Int) < (M.length : Int) := by omega
                        have HQL := Lib.hid hql
                        have hsu := there_succ M (l.getD kk (0, [])) q hql
                        obtain ⟨b', off', ta', tc', rfl, hbw', hd0, hd1, hds⟩ := HMT.out q hql
                        have HDS := Lib.hid (fun wx (hb : Below w4.heap.size w4 wx) => hds.later hb)
                        have HCS := Lib.hid (fun wx (hb : Below w4.heap.size w4 wx) => HI0.out.2.2.2.later hb)
                        have a0' := (BQ.out.cell (p := ⟨b', off' + q * 2, none⟩) hbw').trans hd0
                        have a1' := (BQ.out.cell (p := ⟨b', off' + q * 2 + 1, none⟩) hbw').trans hd1
                        have b0' := (BQ.out.cell (p := ⟨b, off + kk * 2, none⟩) HI0.out.1).trans HI0.out.2.1
                        have b1' := (BQ.out.cell (p := ⟨b, off + kk * 2 + 1, none⟩) HI0.out.1).trans HI0.out.2.2.1
                        have HP1 := Lib.hid (HMF.out _ (getD_mem' M (0, []) q hql))
                        have HU1 := Lib.hid (HFL.out _ (getD_mem' l (0, []) kk HLT.out))
                        have hfu : l.getD kk (0, []) = (f, (l.getD kk (0, [])).2) := by rw [← HFF.out]
                        obtain ⟨p, hp⟩ : ∃ p, M.getD q (0, []) = p := ⟨_, rfl⟩
                        obtain ⟨us, hus⟩ : ∃ us, (l.getD kk (0, [])).2 = us := ⟨_, rfl⟩
                        rw [hp] at a0' a1' HDS HP1 hsu
                        rw [hus] at b1' HCS HU1 hfu
                        obtain ⟨E, hE⟩ : ∃ E, sameB (p.1, p.2) (f, us) = E := ⟨_, rfl⟩
                        have hsu : thereTo M (l.getD kk (0, [])) (q + 1) = (thereTo M (l.getD kk (0, [])) q || E) := by rw [hsu, ← hE, hfu]
                        have HSU := Lib.hid hsu
                        have K := Lib.hid (fun wx (hb : Below w4.heap.size w4 wx) => hE ▸ same5_any p.1 f (.slice ta' p.2.length tc') (.slice ta us.length tc) p.2 us wx (HDS.out wx hb) (HCS.out wx hb) HP1.out HU1.out)
                        obtain ⟨F, hF⟩ : ∃ F, thereTo M (l.getD kk (0, [])) q = F := ⟨_, rfl⟩
                        rw [hF] at HSU ⊢
                        have hst : wr.drew.cell? ⟨gc, 2, none⟩ = some (.slice (some ⟨b', off', none⟩) M.length mcap) ∧ wr.drew.cell? ⟨b', off' + q * 2, none⟩ = some (.int .i64 p.1) ∧ wr.drew.cell? ⟨b', off' + q * 2 + 1, none⟩ = some (.slice ta' p.2.length tc') ∧ wr.drew.cell? ⟨b, off + kk * 2, none⟩ = some (.int .i64 f) ∧ wr.drew.cell? ⟨b, off + kk * 2 + 1, none⟩ = some (.slice ta us.length tc) ∧ Below w4.heap.size w4 wr.drew ∧ w4.heap.size ≤ wr.drew.heap.size :=
                          ⟨c2, a0', a1', b0', b1', BQ.out.drew, BQ.out.size⟩
                        clear hbw' hd0 hd1 hds hp hus hE hsu hF hfu hql hq
                        cases F with
                        | true =>
                          go_wp2_with fail
                          go_quiet (fail)
                          go_wp2_with fail
                          go_roundw
                          case rel => exact ⟨q + 1, by have := HQL.out; omega, by go_num, by rw [HSU.out]; rfl, below_drewI BQ.out _⟩
                          case measure => have := HQL.out; simp [intOf]; omega
                        | false =>
                          clear a0' a1' b0' b1'
                          go_wp2_with fail
                          clear c2
                          go_region_held3 (fun w' => w'.cell? ⟨gc, 2, none⟩ = some (.slice (some ⟨b', off', none⟩) M.length mcap) ∧ w'.cell? ⟨b', off' + q * 2, none⟩ = some (.int .i64 p.1) ∧ w'.cell? ⟨b', off' + q * 2 + 1, none⟩ = some (.slice ta' p.2.length tc') ∧ w'.cell? ⟨b, off + kk * 2, none⟩ = some (.int .i64 f) ∧ w'.cell? ⟨b, off + kk * 2 + 1, none⟩ = some (.slice ta us.length tc) ∧ Below w4.heap.size w4 w' ∧ w4.heap.size ≤ w'.heap.size)
                            (first | exact hst | exact hk)
                            (first | (go_at_call 16; refine (K.out _ (five_below (by assumption))).mono ?_; rintro e w8 ⟨rfl, hb8⟩; have hk := keep5d (by assumption) hb8))
                          have BE := Lib.hid (five_below hk)
                          clear hst hk
                          go_wp2_with fail
                          go_roundw
                          case rel => exact ⟨q + 1, by have := HQL.out; omega, by go_num, by rw [HSU.out]; rfl, BE.out⟩
                          case measure => have := HQL.out; simp [intOf]; omega
                      · obtain rfl : q = M.length := by omega
                        have hql' : ¬ (M.length : Int) < (M.length : Int) := by omega
                        have hth := there_all HTM.out
                        rw [hth]
                        clear hq hql hth
                        go_wp2_with fail
                        go_roundw
                        case rel => exact ⟨kk + 1, by have := HLT.out; omega, by go_num, by rw [cntF_succ, HFI.out, HCI.out]; simp, BQ.out⟩
                        case measure => have := HLT.out; simp [intOf]; omega
            · obtain rfl : i = l.length := by omega
              have hlt' : ¬ (l.length : Int) < (l.length : Int) := by omega
              have hcm : c = M.length := by rw [← HCI.out]; exact HCN.out
              obtain ⟨_, _, c2⟩ := HC4.out wr BR.out
              have teq : ((c : Int) == (M.length : Int)) = true := by rw [hcm]; simp
              clear hi hlt hcm
              go_wp2_with fail
              go_ret
              exact ⟨by first | rfl | simp, HB.out _ BR.out⟩
theorem lawm_card (v : Int) (k : ByteArray) (sv : Value) (l : List (Int × List ByteArray)) (w : World) (hv : SigsAt w sv l) (hn : MemS l) (hT : Tabs w) :
    Calls Tryd.prog 4 #[.int .i64 v, .string k, sv] w fun e w' => e = .returned (.bool true) ∧ Below w.heap.size w w' := by
  by_cases hl : l.length ≤ 20
  · by_cases hk : k.size ≤ 50
    · exact lawm_in v k sv l w hv hn hl hk hT
    · exact lawm_big v k sv l w hv (Or.inr ⟨hl, by omega⟩) hT
  · exact lawm_big v k sv l w hv (Or.inl (by omega)) hT
end Go.Proofs.YtigoaokpodggcaaDoor
end
