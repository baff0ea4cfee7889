/-
  The walk of the law CountShared, from what the code's Shared answers.
-/
import Derived.Test.YtigoaokpodggcaaDoorKWAppR
import Derived.OrdersHeld
import Derived.Test.YtigoaokpodggcaaDoorKERow
import Derived.Test.YtigoaokpodggcaaDoorKWNumCut
section
open Go Go.RowKit
namespace BB
section
variable {P : Program} {ops : Array Oper} {md : Region.Mode} {w : World} {S : World → Prop} {Q : Exit → Act → World → Prop} {L : Array Bool → Act → World → Prop}
def wpAnyT (P : Program) (md : Region.Mode) (ops : Array Oper) (Q : Exit → Act → World → Prop) (S : World → Prop) (L : Array Bool → Act → World → Prop) : Nat → Array Bool → Act → World → Prop
  | 0, listed, a, w => L listed a w
  | n + 1, listed, a, w => Region.ready md ops listed ≠ [] ∧ ∀ i ∈ Region.ready md ops listed, wpOp P ops Q i (fun a' w' => S w' ∧ wpAnyT P md ops Q S L n (listed.setIfInBounds i true) a' w') a w
theorem wpAny_of_T {m : Nat} (hL : ∀ listed a w, L listed a w → wpAny P md ops Q m listed a w) : ∀ (n : Nat) (listed : Array Bool) (a : Act) (w : World), wpAnyT P md ops Q S L n listed a w → wpAny P md ops Q (n + m) listed a w
  | 0, listed, a, w, h => by rw [Nat.zero_add]; exact hL _ _ _ h
  | n + 1, listed, a, w, h => by
    rw [show n + 1 + m = (n + m) + 1 by omega]
    exact ⟨fun h0 => absurd h0 h.1, fun i hi => wpOp_mono (fun a' w' h' => wpAny_of_T hL n _ a' w' h'.2) (h.2 i hi)⟩
theorem wpAnyT_first {t0 : Nat} (hL : ∀ listed a w, L listed a w → ∀ j ∈ Region.ready md ops listed, j = t0) {i : Nat} (hwt : ∀ o, ops[t0]? = some o → ∃ e ∈ o.after, Region.binds md e = true ∧ e.on = i)
    {oi : Oper} {v : Value} (hi : ops[i]? = some oi) (hsel : ∀ (j : Nat) (o : Oper) cs b, ops[j]? = some o → o.op ≠ .select cs b) (hQ : ∀ c a w, Q (.panic c) (a.put oi.dst v) w → Q (.panic c) a w) :
    ∀ (n : Nat) (listed : Array Bool) (a : Act) (w : World),
      (∀ j oj, ops[j]? = some oj → j ≠ i → listed.getD j true = false → (∀ e ∈ oj.after, Region.binds md e = true → e.on ≠ i) → oi.apart ops oj = true) →
      i ∈ Region.ready md ops listed → YieldsIf P ops S oi v a → S w →
      wpAnyT P md ops Q S L n (listed.setIfInBounds i true) (a.put oi.dst v) w → wpAnyT P md ops Q S L (n + 1) listed a w := by
  intro n
  have late : ∀ (listed : Array Bool) (j : Nat), i ∈ Region.ready md ops listed → j ∈ Region.ready md ops listed → ∀ oj, ops[j]? = some oj → ∀ e ∈ oj.after, Region.binds md e = true → e.on ≠ i := fun listed j hr hj oj hoj e he hb heq => by
    obtain ⟨_, oj', hoj', hall⟩ := mem_ready.1 hj
    obtain rfl : oj' = oj := Option.some.inj (hoj'.symm.trans hoj)
    have h1 := hall e he hb
    have h0 := (mem_ready.1 hr).1
    rw [heq] at h1
    rcases Nat.lt_or_ge i listed.size with h' | h'
    · simp [h'] at h0 h1; rw [h0] at h1; cases h1
    · simp [Array.getElem?_eq_none h'] at h1
  induction n with
  | zero =>
    intro listed a w _ hr hy hS H
    refine ⟨fun h => (by rw [h] at hr; cases hr), fun j hj => ?_⟩
    by_cases hji : j = i
    · subst hji; exact hy.wpOp hi hS ⟨hS, H⟩
    · obtain rfl := hL _ _ _ H j (ready_mono hj hji)
      obtain ⟨_, oj, hoj, _⟩ := mem_ready.1 hj
      obtain ⟨e, he, hb, heq⟩ := hwt oj hoj
      exact absurd heq (late listed j hr hj oj hoj e he hb)
  | succ n ih =>
    intro listed a w hfree hr hy hS H
    refine ⟨fun h => (by rw [h] at hr; cases hr), fun j hj => ?_⟩
    by_cases hji : j = i
    · subst hji; exact hy.wpOp hi hS ⟨hS, H⟩
    · have h1 := H.2 j (ready_mono hj hji)
      obtain ⟨hjun, oj, hoj, hall⟩ := mem_ready.1 hj
      have hnot := late listed j hr hj oj hoj
      have h2 := wpOp_putIf hoj (hfree j oj hoj hji hjun hnot) (fun cs b => hsel i oi cs b hi) (fun cs b => hsel j oj cs b hoj) hQ hy h1
      have hfree' : ∀ k ok, ops[k]? = some ok → k ≠ i → (listed.setIfInBounds j true).getD k true = false →
          (∀ e ∈ ok.after, Region.binds md e = true → e.on ≠ i) → oi.apart ops ok = true := fun k ok hk hki hun hno => by
        refine hfree k ok hk hki ?_ hno
        by_cases hjk : j = k
        · subst hjk; exact hjun
        · rw [getD_set_ne true hjk] at hun; exact hun
      refine wpOp_mono (fun a' w' h3 => ⟨h3.2.1, ih (listed.setIfInBounds j true) a' w' hfree' (ready_mono hr (Ne.symm hji)) h3.1 h3.2.1 ?_⟩) h2
      rw [Array.setIfInBounds_comm _ _ hji]
      exact h3.2.2
/-- the chain -/
def wpCh (P : Program) (ops : Array Oper) (Q : Exit → Act → World → Prop) (S : World → Prop) (K : Act → World → Prop) : List Nat → Act → World → Prop
  | [], a, w => K a w
  | c :: r, a, w => wpOp P ops Q c (fun a' w' => S w' ∧ wpCh P ops Q S K r a' w') a w
def chB (md : Region.Mode) (ops : Array Oper) (k : Array Bool → Bool) : List Nat → Array Bool → Bool
  | [], listed => k listed
  | c :: r, listed => decide (Region.ready md ops listed = [c]) && chB md ops k r (listed.setIfInBounds c true)
theorem wpAnyT_ch {K : Act → World → Prop} {k : Array Bool → Bool} (hK : ∀ listed a w, k listed = true → K a w → L listed a w) : ∀ (ch : List Nat) (listed : Array Bool) (a : Act) (w : World), chB md ops k ch listed = true → wpCh P ops Q S K ch a w → wpAnyT P md ops Q S L ch.length listed a w
  | [], listed, a, w, hB, h => hK _ _ _ hB h
  | c :: r, listed, a, w, hB, h => by
    simp only [chB, Bool.and_eq_true, decide_eq_true_eq] at hB
    refine ⟨by rw [hB.1]; simp, fun i hi => ?_⟩
    rw [hB.1] at hi
    obtain rfl : i = c := by simpa using hi
    exact wpOp_mono (fun a' w' h' => ⟨h'.1, wpAnyT_ch hK r _ a' w' hB.2 h'.2⟩) h
/-- the reads -/
def rdB (md : Region.Mode) (ops : Array Oper) (t0 : Nat) (k : Array Bool → Bool) : List Nat → Array Bool → Bool
  | [], listed => k listed
  | i :: l, listed => (Region.ready md ops listed).contains i && Region.free md ops listed i && Region.waitsFor md ops t0 i && rdB md ops t0 k l (listed.setIfInBounds i true)
theorem waits_spec {t i : Nat} (h : Region.waitsFor md ops t i = true) : ∀ o, ops[t]? = some o → ∃ e ∈ o.after, Region.binds md e = true ∧ e.on = i := by
  intro o ho
  unfold Region.waitsFor at h
  simp only [ho] at h
  obtain ⟨k, hk, hb, he⟩ : ∃ k, ∃ h : k < o.after.size, Region.binds md o.after[k] = true ∧ o.after[k].on = i := by simpa using h
  exact ⟨o.after[k], Array.getElem_mem hk, hb, he⟩
theorem wpAnyT_reads {t0 : Nat} {K : Act → World → Prop} {k : Array Bool → Bool} {n : Nat} (hsel : Region.noSelect ops = true) (hQ : ∀ c a d v w, Q (.panic c) (Act.put a d v) w → Q (.panic c) a w) (hL : ∀ listed a w, L listed a w → ∀ j ∈ Region.ready md ops listed, j = t0)
    (hK : ∀ listed a w, k listed = true → K a w → wpAnyT P md ops Q S L n listed a w) : ∀ (l : List Nat) (listed : Array Bool) (a : Act) (w : World), S w → rdB md ops t0 k l listed = true → wpHeld P ops S (fun a' => K a' w) (pick ops l) a → wpAnyT P md ops Q S L (l.length + n) listed a w
  | [], listed, a, w, _, hB, h => by simpa using hK listed a w hB h
  | i :: l, listed, a, w, hS, hB, h => by
    simp only [rdB, Bool.and_eq_true] at hB
    obtain ⟨⟨⟨hr, hf⟩, hw⟩, hB'⟩ := hB
    obtain ⟨_, o, h0, _⟩ := mem_ready.1 (show i ∈ Region.ready md ops listed by simpa using hr)
    rw [pick_cons h0] at h
    obtain ⟨v, hy, h⟩ := h
    rw [show (i :: l).length + n = (l.length + n) + 1 by simp; omega]
    exact wpAnyT_first hL (waits_spec hw) h0 (Region.noSelect_spec hsel) (fun c a w => hQ c a _ _ w) _ listed a w (Region.free_spec h0 hf) (by simpa using hr) hy hS (wpAnyT_reads hsel hQ hL hK l _ _ w hS hB' h)
theorem free_run {K : Act → Prop} {o : Oper} {rest : List Oper} {a : Act} (v : Value) (hg : Region.wanted o (yielded ops a.tmps) = true) (h : ∀ w, (execOp a.eval o).run P w = .ok (.value v) w) (hK : wpFree P ops K rest (a.put o.dst v)) : wpFree P ops K (o :: rest) a := ⟨v, .inl ⟨hg, h⟩, hK⟩
theorem held_run {K : Act → Prop} {o : Oper} {rest : List Oper} {a : Act} (v : Value) (hg : Region.wanted o (yielded ops a.tmps) = true) (h : ∀ w, S w → (execOp a.eval o).run P w = .ok (.value v) w) (hK : wpHeld P ops S K rest (a.put o.dst v)) : wpHeld P ops S K (o :: rest) a := ⟨v, .inl ⟨hg, h⟩, hK⟩
/-- the chain: a call -/
theorem ch_call {K : Act → World → Prop} {c : Nat} {r : List Nat} {a : Act} {w : World} {f : FuncId} {args : Array Value} {v : Value} {R : World → Prop} (o : Oper) (ho : ops[c]? = some o) (hg : o.guard = none) (h : (execOp a.eval o).run P w = .ok (.enter f args) w)
    (hc : Calls P f args w fun e w' => e = .returned v ∧ R w') (hR : ∀ w', R w' → S w') (hK : ∀ w', R w' → wpCh P ops Q S K r (a.put o.dst v) w') : wpCh P ops Q S K (c :: r) a w :=
  op_call ho hg h hc fun w' hr => ⟨hR w' hr, hK w' hr⟩
/-- the chain: a value, and a new world -/
theorem ch_value {K : Act → World → Prop} {c : Nat} {r : List Nat} {a : Act} {w w' : World} (o : Oper) (v : Value) (ho : ops[c]? = some o) (hg : o.guard = none) (h : (execOp a.eval o).run P w = .ok (.value v) w') (hS : S w') (hK : wpCh P ops Q S K r (a.put o.dst v) w') : wpCh P ops Q S K (c :: r) a w :=
  op_value ho hg h ⟨hS, hK⟩
def chainB (md : Region.Mode) (ops : Array Oper) (pre rd ch : List Nat) (t0 : Nat) (tr : List Nat) : Bool :=
  Region.noSelect ops && preB md ops (rdB md ops t0 (chB md ops (seqO md ops (t0 :: tr)) ch) rd) pre (Array.replicate ops.size false) && decide (pre.length + (rd.length + ch.length + (t0 :: tr).length) = ops.size)
theorem chain_abs {id : Nat} {a : Act} {l : List Oper} (S : World → Prop) (pre rd ch : List Nat) (t0 : Nat) (tr : List Nat) (hm : P.follows .mixedOrders = true) (hB : chainB .any l.toArray pre rd ch t0 tr = true)
    (hQ : ∀ c a d v w, Q (.panic c) (Act.put a d v) w → Q (.panic c) a w)
    (h : ∀ w2, Same w w2 → S w2 ∧ wpFree P l.toArray (fun a1 => wpHeld P l.toArray S (fun a2 => wpCh P l.toArray Q S (fun a' w' => wpList P l.toArray Q (pick l.toArray (t0 :: tr)) a' w') ch a2 w2) (pick l.toArray rd) a1) (pick l.toArray pre) a) :
    (Code.region id l.toArray true).wp P Q a w := by
  simp only [chainB, Bool.and_eq_true, decide_eq_true_eq] at hB
  obtain ⟨⟨hsel, hp⟩, hn⟩ := hB
  obtain ⟨hS, h⟩ := h { w with drawn := w.drawn + 1 } ⟨rfl, rfl, rfl, rfl⟩
  refine wp_region_any hm ?_
  have key := wpAny_of_pre (Q := Q) (w := { w with drawn := w.drawn + 1 }) hsel hQ (g := rd.length + ch.length + (t0 :: tr).length) (fun listed a1 hk hK => ?_) pre _ a hp h
  · rw [hn] at key; exact key
  refine wpAny_of_T (L := fun listed' a' w' => seqO .any l.toArray (t0 :: tr) listed' = true ∧ wpList P l.toArray Q (pick l.toArray (t0 :: tr)) a' w') (fun listed' a' w' hL => wpAny_of_seqO _ _ _ _ hL.1 hL.2) _ _ _ _
    (wpAnyT_reads (t0 := t0) hsel hQ (fun listed' a' w' hL j hj => ?_) (fun listed' a' w' hk hK => wpAnyT_ch (fun _ _ _ h1 h2 => ⟨h1, h2⟩) ch _ _ _ hk hK) rd listed a1 _ hS hk hK)
  have h1 := hL.1
  simp only [seqO, Bool.and_eq_true, decide_eq_true_eq] at h1
  rw [h1.1] at hj
  simpa using hj
end
end BB
end
section
open Go Go.RowKit
namespace CC
open MM WW BB
/-- a node's tags of a text, for the first i nodes -/
def tagsTo (s : ByteArray) (f : Int) (t : ByteArray) (i : Nat) : List ByteArray := (List.range i).map fun (j : Nat) => tagB s f (j : Int) t
theorem tags_succ (s : ByteArray) (f : Int) (t : ByteArray) (i : Nat) : tagsTo s f t (i + 1) = tagsTo s f t i ++ [tagB s f (i : Int) t] := by
  unfold tagsTo; rw [List.range_succ, List.map_append]; rfl
theorem tags_len (s : ByteArray) (f : Int) (t : ByteArray) (i : Nat) : (tagsTo s f t i).length = i := by unfold tagsTo; simp
/-- strings of the call's own -/
theorem strs_own {e : TypeId} {w : World} {base : Nat} {v : Value} {l : List ByteArray} (h : w.ownsRow base e 1 v l.length (l.map Value.string)) : StrsAt w v l := by
  rcases h.2 with ⟨rfl, h0⟩ | ⟨g, cap, cur, rfl, hg, hh, hn, hcm, hsz, htk⟩
  · exact ⟨none, 0, by rw [h0], Or.inl (List.eq_nil_of_length_eq_zero h0)⟩
  · refine ⟨_, cap, rfl, Or.inr ⟨g, 0, rfl, (Array.getElem?_eq_some_iff.1 hh).1, fun i hi => ?_⟩⟩
    have e1 : (l.map Value.string)[i]? = some (.string (l.getD i ⟨#[]⟩)) := by simp [List.getD, List.getElem?_eq_getElem hi]
    rw [← htk, List.getElem?_take_of_lt (by omega), Array.getElem?_toList] at e1
    unfold World.cell?; rw [hh]; simpa using e1
theorem own_base {e : TypeId} {w : World} {B B' c : Nat} {v : Value} {n : Nat} {xs : List Value} (h : w.ownsRow B e c v n xs) (hB : B' ≤ B) : w.ownsRow B' e c v n xs := by
  refine ⟨h.1, ?_⟩
  rcases h.2 with h | ⟨g, cap, cur, h1, h2, h3⟩
  · exact Or.inl h
  · exact Or.inr ⟨g, cap, cur, h1, Nat.le_trans hB h2, h3⟩
/-- the signature's cells, and its tags so far -/
structure SigSt (w : World) (B g0 g1 : Nat) (e : TypeId) (f : Int) (l : List ByteArray) (wr : World) : Prop where
  below : Below w.heap.size w wr
  res : Blk wr g0 2 (fun i => if i = 0 then .int .i64 0 else .slice none 0 0)
  sig : ∃ v, wr.ownsRow B e 1 v l.length (l.map Value.string) ∧ Blk wr g1 2 (fun i => if i = 0 then .int .i64 f else v)
  sz : B ≤ wr.heap.size
end CC
namespace Go.Proofs.YtigoaokpodggcaaDoor
open CC MM WW BB
set_option maxRecDepth 100000 in
set_option maxHeartbeats 8000000 in
theorem rsign_any (s : ByteArray) (f : Int) (n : Nat) (v : Int) (k : ByteArray) (w : World) (hs : s.size ≤ 1000) (hk : k.size ≤ 1000) (hn : n ≤ 20) :
    Calls Tryd.prog 18 #[.string s, .int .i64 f, .int .i64 (n : Int), .int .i64 v, .string k] w fun e w' => ∃ a0 cap, e = .returned (.agg #[.int .i64 f, .slice a0 n cap]) ∧ w'.ownsRow w.heap.size 9 1 (.slice a0 n cap) n ((tagsTo s f (textB v k) n).map Value.string) ∧ Below w.heap.size w w' := by
  have HS := Lib.hid hs
  have HK := Lib.hid hk
  have HN := Lib.hid hn
  obtain ⟨T, hT⟩ : ∃ T, textB v k = T := ⟨_, rfl⟩
  have HTT := Lib.hid hT
  have HTZ := Lib.hid (show T.size ≤ 100000 by rw [← hT, textB_size]; omega)
  rw [hT]
  clear hs hk hT
  go_enter Tryd.func18, Tryd.ntmps18
  go_wp2_with fail
  have hB0 := ((Below.refl w.heap.size w).alloc (Nat.le_refl _) (.cells #[.int .i64 0, .slice none 0 0] 35)).alloc (by simp) (.cells #[.int .i64 f, .slice none 0 0] 35)
  have k0 : Blk ((w.alloc (.cells #[.int .i64 0, .slice none 0 0] 35)).alloc (.cells #[.int .i64 f, .slice none 0 0] 35)) w.heap.size 2 (fun i => if i = 0 then .int .i64 0 else .slice none 0 0) := (Blk.new' rfl (by rfl)).alloc _
  have k1 : Blk ((w.alloc (.cells #[.int .i64 0, .slice none 0 0] 35)).alloc (.cells #[.int .i64 f, .slice none 0 0] 35)) (w.heap.size + 1) 2 (fun i => if i = 0 then .int .i64 f else .slice none 0 0) := Blk.new' (by simp) (by rfl)
  refine abs_wp (fun wx => SigSt w (w.heap.size + 2) w.heap.size (w.heap.size + 1) 9 f [] wx) ⟨hB0, k0, ⟨_, ⟨rfl, Or.inl ⟨rfl, rfl⟩⟩, k1⟩, by simp⟩ ?_
  intro w0 hst0
  clear hB0 k0 k1
  have HB := Lib.hid hst0.below
  obtain ⟨g, hg⟩ : ∃ g, w.heap.size = g := ⟨_, rfl⟩
  rw [hg] at hst0 ⊢
  have HST0 := Lib.hid hst0
  have HG := Lib.hid hg
  clear hst0 hg hn
  go_loopw [12] (fun x wx => ∃ i : Nat, i ≤ n ∧ x = .int .i64 (i : Int) ∧ SigSt w (g + 2) g (g + 1) 9 f (tagsTo s f T i) wx) (fun x _ => n - (intOf x).toNat)
  case atStart => exact ⟨0, Nat.zero_le _, rfl, HST0.out⟩
  case round =>
    obtain ⟨i, hi, rfl, hst⟩ := hrel
    have HST := Lib.hid hst
    obtain ⟨u, hown, hblk⟩ := hst.sig
    have i0 : (0 : Int) ≤ (i : Int) := by omega
    have ib : (i : Int) ≤ 20 := by have := HN.out; omega
    rw [tags_len] at hown
    have HO := Lib.hid hown
    have c0 : wr.cell? ⟨g + 1, 0, none⟩ = some (.int .i64 f) := hblk.get 0 (by omega)
    have c1 : wr.cell? ⟨g + 1, 1, none⟩ = some u := hblk.get 1 (by omega)
    have HBK := Lib.hid hblk
    by_cases hlt : i < n
    · have hlt' : (i : Int) < (n : Int) := by omega
      have HLT := Lib.hid hlt
      clear hst hown hblk hlt hi
      have HTX := Lib.hid (fun wx => HTT.out ▸ rtext5_any v k (by have := HK.out; omega) wx)
      go_wp2_with fail
      refine chain_abs (fun wx => wx.cell? ⟨g + 1, 1, none⟩ = some u ∧ Below wr.heap.size wr wx) [0, 2, 3, 4, 5, 6] [1] [7, 8, 9] 10 [11, 12] (by kernel_rfl) (by kernel_rfl) (fun _ _ d _ _ h => by cases d <;> exact h) fun w2 hs2 => ⟨⟨(hs2.cell _).trans c1, hs2.below _⟩, ?_⟩
      simp only [pick, List.filterMap, List.getElem?_toArray, List.getElem?_cons_zero, List.getElem?_cons_succ]
      iterate 6 (refine free_run ?_ rfl ?_ ?_; rotate_left; (focus (intro w'; go_simp; exact rfl)); simp only [Act.put, List.setIfInBounds_toArray, List.set_cons_zero, List.set_cons_succ])
      refine held_run u rfl (fun w' hS => by obtain ⟨hS1, _⟩ := hS; go_simp) ?_
      simp only [Act.put, List.setIfInBounds_toArray, List.set_cons_zero, List.set_cons_succ]
      refine ch_call _ rfl rfl (by go_simp) (HTX.out w2) (fun w' hR => ⟨(hR.cell (p := ⟨g + 1, 1, none⟩) (World.block_lt_of_cell? w2 _ ((hs2.cell _).trans c1))).trans ((hs2.cell _).trans c1), (hs2.below _).trans (hR.mono (by rw [hs2.heap]; exact Nat.le_refl _))⟩) fun w3 hb3 => ?_
      simp only [Act.put, List.setIfInBounds_toArray]
      have B3 := Lib.hid ((hs2.below wr.heap.size).trans (hb3.mono (by rw [hs2.heap]; exact Nat.le_refl _)))
      have c3 : w3.cell? ⟨g + 1, 1, none⟩ = some u := (B3.out.cell (p := ⟨g + 1, 1, none⟩) (World.block_lt_of_cell? wr _ c1)).trans c1
      obtain ⟨tg, htg⟩ : ∃ tg, tagB s f (i : Int) T = tg := ⟨_, rfl⟩
      have HTG := Lib.hid (fun wx => htg ▸ rtag_any s f (i : Int) T HS.out HTZ.out wx)
      have HSU := Lib.hid (show tagsTo s f T (i + 1) = tagsTo s f T i ++ [tg] by rw [tags_succ, htg])
      clear hs2 hb3 htg
      refine ch_call _ rfl rfl (by go_simp) (HTG.out w3) (fun w' hR => ⟨(hR.cell (p := ⟨g + 1, 1, none⟩) (World.block_lt_of_cell? w3 _ c3)).trans c3, B3.out.trans (hR.mono B3.out.size)⟩) fun w4 hb4 => ?_
      simp only [Act.put]
      have B4 := Lib.hid (B3.out.trans (hb4.mono B3.out.size))
      have c4 : w4.cell? ⟨g + 1, 1, none⟩ = some u := (B4.out.cell (p := ⟨g + 1, 1, none⟩) (World.block_lt_of_cell? wr _ c1)).trans c1
      have bal := (Below.refl w4.heap.size w4).alloc (Nat.le_refl _) (.cells #[.string tg] 9)
      have cx := cell_new w4 #[.string tg] 9 0 _ rfl
      have c5 := (bal.cell (p := ⟨g + 1, 1, none⟩) (World.block_lt_of_cell? w4 _ c4)).trans c4
      have B5 := Lib.hid (B4.out.trans (bal.mono B4.out.size))
      refine ch_value (w' := w4.alloc (.cells #[.string tg] 9)) _ (.slice (some ⟨w4.heap.size, 0, none⟩) 1 1) rfl rfl (by go_simp) ⟨c5, B5.out⟩ ?_
      simp only [Act.put, wpCh]
      have hown2 : (w4.alloc (.cells #[.string tg] 9)).ownsRow (g + 2) 9 1 u i ((tagsTo s f T i).map Value.string) := row_keep HO.out fun c hc => B5.out.block c (HO.out.lt c hc).2
      obtain ⟨ti, i1, i2, i3, i4⟩ := info_parts (show (Tryd.prog.info? 9).map (fun i => (i.zero, i.size, i.bytes)) = some (some (.string ⟨#[]⟩), 1, 16) by kernel_rfl)
      have hbs : g + 2 ≤ (w4.alloc (.cells #[.string tg] 9)).heap.size := Nat.le_trans HST.out.sz B5.out.size
      clear c0 c1 c3 c4 c5
      go_wp2_with (at_builtin; refine wpList_append_own _ rfl _ _ 33 rfl (g + 2) 9 ti (.string ⟨#[]⟩) 1 16 (by kernel_rfl) i1 i2 i3 i4 rfl (by decide) u i ((tagsTo s f T i).map Value.string) rfl hown2 ⟨w4.heap.size, 0, none⟩ 1 1 [.string tg] rfl rfl ?c1 ?c2 ?c3 ?c4 hbs ?_)
      case c1 =>
        intro j u hj
        match j, hj with
        | 0, hj => simp at hj; subst hj; rw [Addr.add_lit]; exact cx
        | j + 1, hj => simp at hj
      case c2 => intro u hu; simp at hu; subst hu; rfl
      case c3 => have := HLT.out; have := HN.out; unfold maxLen; omega
      case c4 => have := HLT.out; have := HN.out; omega
      intro u' w6 hown' hgr _
      obtain ⟨a', c', rfl⟩ : ∃ a' c', u' = .slice a' (i + 1) c' := by
        rcases hown'.2 with ⟨_, h0⟩ | ⟨q, cp, cur, rfl, _⟩
        · omega
        · exact ⟨_, _, rfl⟩
      have HO6 := Lib.hid (show w6.ownsRow (g + 2) 9 1 (.slice a' (i + 1) c') (tagsTo s f T (i + 1)).length ((tagsTo s f T (i + 1)).map Value.string) by
        rw [HSU.out, List.map_append, List.length_append, tags_len]; exact hown')
      have B6 : Below (g + 2) (w4.alloc (.cells #[.string tg] 9)) w6 := (Below.refl _ _).grown hgr hbs (fun k hk => (hown2.lt k hk).1)
      have hk1 : Blk (w4.alloc (.cells #[.string tg] 9)) (g + 1) 2 (fun i => if i = 0 then .int .i64 f else u) := HBK.out.below B5.out HBK.out.lt
      have hk6 : Blk w6 (g + 1) 2 (fun i => if i = 0 then .int .i64 f else u) := hk1.below B6 (by omega)
      have K6 := Lib.hid hk6
      have R6 := Lib.hid (show Blk w6 g 2 (fun i => if i = 0 then .int .i64 0 else .slice none 0 0) from (HST.out.res.below B5.out HST.out.res.lt).below B6 (by omega))
      have BW6 := Lib.hid (show Below w.heap.size w w6 from ((HST.out.below.trans (B5.out.mono HST.out.below.size)).trans (B6.mono (by have := HG.out; omega))))
      have SZ6 := Lib.hid (Nat.le_trans hbs B6.size)
      have c1 : w6.cell? ⟨g + 1, 1, none⟩ = some u := hk6.get 1 (by omega)
      have f1 := hk6.frz 1
      clear hown' hgr hown2 bal cx hbs B6 hk1 hk6
      go_wp2_with fail
      go_roundw
      case rel =>
        have hup := Upd.set w6 (g + 1) 1 (.slice a' (i + 1) c')
        exact ⟨i + 1, by have := HLT.out; omega, by go_num, ⟨BW6.out.trans (hup.below (by have := HG.out; omega)), R6.out.upd hup (by omega), ⟨.slice a' (i + 1) c', row_keep HO6.out fun c hc => hup.block c (by have := (HO6.out.lt c hc).1; omega), (K6.out.set 1 _).congr _ fun j hj => by
          unfold put
          match j, hj with
          | 0, _ => rfl
          | 1, _ => rfl⟩, by rw [hup.size]; exact SZ6.out⟩⟩
      case measure => have := HLT.out; simp [intOf]; omega
    · obtain rfl : i = n := by omega
      have hlt' : ¬ (i : Int) < (i : Int) := by omega
      obtain ⟨a', c', rfl⟩ : ∃ a' c', u = .slice a' i c' := by
        rcases hown.2 with ⟨rfl, h0⟩ | ⟨q, cp, cur, rfl, _⟩
        · exact ⟨none, 0, by rw [h0]⟩
        · exact ⟨_, _, rfl⟩
      have hro := HST.out.res
      have HRO := Lib.hid hro
      have d0 : wr.cell? ⟨g, 0, none⟩ = some (.int .i64 0) := hro.get 0 (by omega)
      have e0 := hro.frz 0
      have d1 : wr.cell? ⟨g, 1, none⟩ = some (.slice none 0 0) := hro.get 1 (by omega)
      have e1 := hro.frz 1
      clear hi hlt hst hown hblk hro
      go_wp2_with fail
      have k5 := (HRO.out.set 0 (.int .i64 f)).set 1 (.slice a' i c')
      have q0 := k5.get 0 (by omega)
      have q1 := k5.get 1 (by omega)
      rw [show put (put (fun i => if i = 0 then Value.int .i64 0 else .slice none 0 0) 0 (.int .i64 f)) 1 (.slice a' i c') 0 = .int .i64 f from rfl] at q0
      rw [show put (put (fun i => if i = 0 then Value.int .i64 0 else .slice none 0 0) 0 (.int .i64 f)) 1 (.slice a' i c') 1 = .slice a' i c' from rfl] at q1
      have hup := (Upd.set wr g 0 (.int .i64 f)).trans (Upd.set _ g 1 (.slice a' i c'))
      refine bodyPost_ret (v := .agg #[.int .i64 f, .slice a' i c']) (by simp [results, Tryd.results18, go_sem, q0, q1]) rfl ?_
      refine ⟨a', c', rfl, own_base (row_keep HO.out fun c hc => hup.block c (by have := (HO.out.lt c hc).1; omega)) (by have := HG.out; omega), HST.out.below.trans (hup.below (by have := HG.out; omega))⟩
end Go.Proofs.YtigoaokpodggcaaDoor
end
section
open Go Go.RowKit
namespace WW
open BB
theorem once_inv (n : Int) : ∀ (l out : List Int), out.Nodup → (∀ x ∈ out, 0 ≤ x ∧ x < n) → (l.foldl (onceStep n) out).Nodup ∧ ∀ x ∈ l.foldl (onceStep n) out, 0 ≤ x ∧ x < n := by
  intro l
  induction l with
  | nil => intro out h1 h2; exact ⟨h1, h2⟩
  | cons a l ih =>
    intro out h1 h2
    show (l.foldl (onceStep n) (onceStep n out a)).Nodup ∧ ∀ x ∈ l.foldl (onceStep n) (onceStep n out a), 0 ≤ x ∧ x < n
    apply ih
    · unfold onceStep
      split
      · rename_i h
        rw [List.nodup_append]
        exact ⟨h1, by simp, fun b hb c hc => by
          obtain rfl : c = a := by simpa using hc
          rintro rfl
          exact h.2.2 hb⟩
      · exact h1
    · unfold onceStep
      split
      · rename_i h
        intro x hx
        rcases List.mem_append.1 hx with hx | hx
        · exact h2 x hx
        · obtain rfl : x = a := by simpa using hx
          exact ⟨h.1, h.2.1⟩
      · exact h2
theorem once_nodup (l : List Int) (n : Int) : (onceL l n).Nodup := (once_inv n l [] List.nodup_nil (by simp)).1
theorem once_in (l : List Int) (n : Int) : ∀ x ∈ onceL l n, 0 ≤ x ∧ x < n := (once_inv n l [] List.nodup_nil (by simp)).2
/-- how many of x are in y -/
def bothI (x y : List Int) : Nat := x.countP (fun u => decide (u ∈ y))
theorem both_snoc (x y : List Int) (i : Nat) (h : i < x.length) : bothI (x.take (i + 1)) y = bothI (x.take i) y + if x.getD i 0 ∈ y then 1 else 0 := by
  unfold bothI
  rw [List.take_succ_eq_append_getElem h, List.countP_append]
  simp [List.getD, List.getElem?_eq_getElem h, List.countP_cons]
theorem both_le (x y : List Int) (i : Nat) : bothI (x.take i) y ≤ x.length := by
  have := List.countP_le_length (p := fun u => decide (u ∈ y)) (l := x.take i)
  rw [List.length_take] at this
  unfold bothI; omega
theorem pair_nodup {s : List Int} (h : s.Pairwise (· < ·)) : s.Nodup := h.imp fun h => by omega
theorem both_eq {x y s : List Int} (hx : x.Nodup) (hs : s.Nodup) (hm : ∀ u, u ∈ s ↔ u ∈ x ∧ u ∈ y) : bothI x y = s.length := by
  unfold bothI
  rw [List.countP_eq_length_filter]
  exact ((List.perm_ext_iff_of_nodup (List.Nodup.sublist List.filter_sublist hx) hs).2 fun u => by rw [List.mem_filter, hm]; simp).length_eq
theorem shared_many {x y s : List Int} {n : Int} (hx : x.Nodup) (hy : y.Nodup) (hm : ∀ u, u ∈ s ↔ u ∈ x ∧ u ∈ y) (bx : ∀ u ∈ x, 0 ≤ u ∧ u < n) (bY : ∀ u ∈ y, 0 ≤ u ∧ u < n) : x.length + y.length ≤ n.toNat + s.length := by
  have h1 := List.length_eq_countP_add_countP (fun u => decide (u ∈ x)) (l := y)
  rw [List.countP_eq_length_filter, List.countP_eq_length_filter] at h1
  have h2 : (y.filter fun u => decide (u ∈ x)).length ≤ s.length := List.Nodup.length_le_of_subset (List.Nodup.sublist List.filter_sublist hy) fun u hu => by
    rw [List.mem_filter] at hu
    exact (hm u).2 ⟨by simpa using hu.2, hu.1⟩
  have h3 : (x ++ y.filter fun u => decide ¬(decide (u ∈ x)) = true).Nodup := by
    rw [List.nodup_append]
    refine ⟨hx, List.Nodup.sublist List.filter_sublist hy, fun a ha b hb => ?_⟩
    rw [List.mem_filter] at hb
    rintro rfl
    simp [ha] at hb
  have h4 := List.Nodup.length_le_of_subset (l₂ := (List.range n.toNat).map fun (k : Nat) => (k : Int)) h3 fun u hu => by
    have hb : 0 ≤ u ∧ u < n := by
      rcases List.mem_append.1 hu with h | h
      · exact bx u h
      · exact bY u (List.mem_filter.1 h).1
    exact List.mem_map.2 ⟨u.toNat, List.mem_range.2 (by omega), by omega⟩
  rw [List.length_append, List.length_map, List.length_range] at h4
  omega
theorem rise_at {s : List Int} (h : s.Pairwise (· < ·)) (i : Nat) (hi : i + 1 < s.length) : s.getD i 0 < s.getD (i + 1) 0 := by
  rw [List.getD_eq_getElem?_getD, List.getD_eq_getElem?_getD, List.getElem?_eq_getElem hi, List.getElem?_eq_getElem (by omega)]
  exact List.pairwise_iff_getElem.1 h i (i + 1) (by omega) hi (by omega)
end WW
namespace Go.Proofs.YtigoaokpodggcaaDoor
open WW BB
end Go.Proofs.YtigoaokpodggcaaDoor
end
