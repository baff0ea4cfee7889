/-
  A region that draws its order, in three parts: operations that hang on no world, taken first; operations that leave the world alone, in the order of the text; operations in one order, which may write and call.
-/
import Derived.Test.YtcmgiiobjminlaaBase
open Go Go.RowKit
namespace BB
section
variable {P : Program} {ops : Array Oper} {md : Region.Mode} {w : World}
def pick (ops : Array Oper) (l : List Nat) : List Oper := l.filterMap (ops[·]?)
theorem pick_cons {i : Nat} {o : Oper} (h : ops[i]? = some o) (l : List Nat) : pick ops (i :: l) = o :: pick ops l := by simp [pick, h]
def sinkO (md : Region.Mode) (ops : Array Oper) (hd : List Nat) (t0 : Nat) : Bool :=
  hd.all fun i => Region.waitsFor md ops t0 i || hd.any fun j => decide (i < j) && Region.waitsFor md ops j i
def chainO (md : Region.Mode) (ops : Array Oper) : Nat → List Nat → Bool
  | _, [] => true
  | p, t :: r => Region.waitsFor md ops t p && chainO md ops t r
structure InvO (md : Region.Mode) (ops : Array Oper) (hd tl : List Nat) (listed : Array Bool) : Prop where
  size : listed.size = ops.size
  closed : ∀ j oj, ops[j]? = some oj → listed.getD j false = true → ∀ e ∈ oj.after, Region.binds md e = true → listed.getD e.on false = true
  tail : ∀ t ∈ tl, listed.getD t true = false
  all : ∀ j, j < ops.size → listed.getD j true = false → j ∈ hd ∨ j ∈ tl
def invB (md : Region.Mode) (ops : Array Oper) (hd tl : List Nat) (listed : Array Bool) : Bool :=
  decide (listed.size = ops.size) &&
  ((List.range ops.size).all fun j => !listed.getD j false || ((ops[j]?).map (·.after.all fun e => !Region.binds md e || listed.getD e.on false)).getD true) &&
  (tl.all fun t => !listed.getD t true) && ((List.range ops.size).all fun j => listed.getD j true || hd.contains j || tl.contains j)
theorem invB_spec {hd tl : List Nat} {listed : Array Bool} (h : invB md ops hd tl listed = true) : InvO md ops hd tl listed := by
  simp only [invB, Bool.and_eq_true, decide_eq_true_eq] at h
  obtain ⟨⟨⟨h1, h2⟩, h3⟩, h4⟩ := h
  refine ⟨h1, fun j oj hj hl e he hb => ?_, fun t ht => ?_, fun j hj hl => ?_⟩
  · have hlt : j < ops.size := (Array.getElem?_eq_some_iff.1 hj).1
    have := List.all_eq_true.1 h2 j (List.mem_range.2 hlt)
    rw [hl, hj] at this
    simp only [Bool.not_true, Bool.false_or, Option.map_some, Option.getD_some] at this
    have := Array.all_eq_true_iff_forall_mem.1 this e he
    rw [hb] at this
    simpa using this
  · have := List.all_eq_true.1 h3 t ht
    simpa using this
  · have := List.all_eq_true.1 h4 j (List.mem_range.2 hj)
    rw [hl] at this
    simpa using this
theorem InvO.set {hd tl : List Nat} {i : Nat} {listed : Array Bool} (inv : InvO md ops hd tl listed) (hi : i ∈ Region.ready md ops listed) (hin : i ∉ tl) : InvO md ops hd tl (listed.setIfInBounds i true) := by
  obtain ⟨_, oi, hoi, hall⟩ := mem_ready.1 hi
  refine ⟨by simp [inv.size], fun j oj hj hl e he hb => ?_, fun t ht => ?_, fun j hj hl => ?_⟩
  · by_cases hij : i = j
    · subst hij
      have : oj = oi := Option.some.inj (hj.symm.trans hoi)
      subst this
      exact getD_set_true (hall e he hb)
    · rw [getD_set_ne false hij] at hl
      exact getD_set_true (inv.closed j oj hj hl e he hb)
  · rw [getD_set_ne true (fun (e : i = t) => hin (by rw [e]; exact ht))]; exact inv.tail t ht
  · by_cases hij : i = j
    · subst hij
      have hlt : i < listed.size := by rw [inv.size]; exact hj
      simp [hlt] at hl
    · rw [getD_set_ne true hij] at hl
      exact inv.all j hj hl
theorem chainO_spec : ∀ (p : Nat) (tr : List Nat), chainO md ops p tr = true → ∀ t ∈ tr, ∃ q ∈ p :: tr, Region.waitsFor md ops t q = true
  | _, [], _, _, h => by cases h
  | p, t :: r, h, u, hu => by
    simp only [chainO, Bool.and_eq_true] at h
    rcases List.mem_cons.1 hu with rfl | hu
    · exact ⟨p, by simp, h.1⟩
    · obtain ⟨q, hq, hw⟩ := chainO_spec t r h.2 u hu
      exact ⟨q, List.mem_cons_of_mem _ hq, hw⟩
theorem tail_waitsO {hd tr : List Nat} {t0 : Nat} {listed : Array Bool} (hs : sinkO md ops hd t0 = true) (hc : chainO md ops t0 tr = true) (inv : InvO md ops hd (t0 :: tr) listed) :
    ∀ (d i : Nat), ops.size - i = d → i ∈ hd → listed.getD i true = false → ∀ t ∈ t0 :: tr, t ∉ Region.ready md ops listed := by
  intro d
  induction d using Nat.strongRecOn with
  | _ d ih =>
    intro i hd' hi hun t ht hr
    obtain ⟨_, ot, hot, hall⟩ := mem_ready.1 hr
    rcases List.mem_cons.1 ht with rfl | htr
    · have h1 := List.all_eq_true.1 hs i hi
      rcases Bool.or_eq_true _ _ |>.mp h1 with h1 | h1
      · obtain ⟨o', ho', e, he, hb, hon⟩ := Region.waitsFor_spec h1
        have : o' = ot := Option.some.inj (ho'.symm.trans hot)
        subst this
        have h2 := hall e he hb
        rw [hon, getD_both hun] at h2
        cases h2
      · obtain ⟨j, hj, hj2⟩ := List.any_eq_true.1 h1
        simp only [Bool.and_eq_true, decide_eq_true_eq] at hj2
        obtain ⟨oj, hoj, e, he, hb, hon⟩ := Region.waitsFor_spec hj2.2
        have hjlt : j < ops.size := (Array.getElem?_eq_some_iff.1 hoj).1
        cases hl : listed.getD j false with
        | true =>
          have h2 := inv.closed j oj hoj hl e he hb
          rw [hon, getD_both hun] at h2
          cases h2
        | false =>
          exact ih (ops.size - j) (by omega) j rfl hj (getD_in (by rw [inv.size]; exact hjlt) hl) t (by simp) hr
    · obtain ⟨q, hq, hw⟩ := chainO_spec t0 tr hc t htr
      obtain ⟨o', ho', e, he, hb, hon⟩ := Region.waitsFor_spec hw
      have : o' = ot := Option.some.inj (ho'.symm.trans hot)
      subst this
      have h2 := hall e he hb
      rw [hon, getD_both (inv.tail q hq)] at h2
      cases h2
def wpAnyO (P : Program) (md : Region.Mode) (ops : Array Oper) (w : World) (hd : List Nat) (L : Array Bool → Act → Prop) : Nat → Array Bool → Act → Prop
  | 0, listed, a => L listed a
  | f + 1, listed, a =>
    Region.ready md ops listed ≠ [] ∧ ∀ i ∈ Region.ready md ops listed, i ∈ hd ∧ stOp P ops w i (wpAnyO P md ops w hd L f (listed.setIfInBounds i true)) a
theorem wpAny_of_O {g : Nat} {hd : List Nat} {L : Array Bool → Act → Prop} {Q' : Exit → Act → World → Prop} (hL : ∀ listed a, L listed a → wpAny P md ops Q' g listed a w) :
    ∀ (f : Nat) (listed : Array Bool) (a : Act), wpAnyO P md ops w hd L f listed a → wpAny P md ops Q' (f + g) listed a w
  | 0, listed, a, h => by rw [Nat.zero_add]; exact hL _ _ h
  | f + 1, listed, a, h => by
    rw [show f + 1 + g = (f + g) + 1 by omega]
    exact ⟨fun h0 => absurd h0 h.1, fun i hi => wpOp_of_stOp (fun a' h' => wpAny_of_O hL f _ a' h') (h.2 i hi).2⟩
theorem InvO.inHead {hd tr : List Nat} {t0 i j : Nat} {listed : Array Bool} (hs : sinkO md ops hd t0 = true) (hc : chainO md ops t0 tr = true) (inv : InvO md ops hd (t0 :: tr) listed)
    (hi : i ∈ hd) (hun : listed.getD i true = false) (hj : j ∈ Region.ready md ops listed) : j ∈ hd ∧ j ∉ t0 :: tr := by
  obtain ⟨hjun, oj, hoj, _⟩ := mem_ready.1 hj
  have hnt : j ∉ t0 :: tr := fun h => tail_waitsO hs hc inv _ i rfl hi hun j h hj
  exact ⟨(inv.all j (Array.getElem?_eq_some_iff.1 hoj).1 hjun).resolve_right hnt, hnt⟩
theorem wpAnyO_first {hd tr : List Nat} {t0 i : Nat} {oi : Oper} {v : Value} {L : Array Bool → Act → Prop} (hi : ops[i]? = some oi) (hsel : ∀ (j : Nat) (o : Oper) cs b, ops[j]? = some o → o.op ≠ .select cs b)
    (hs : sinkO md ops hd t0 = true) (hc : chainO md ops t0 tr = true) (hin : i ∈ hd)
    (hdone : ∀ listed a, L listed a → ∀ j ∈ Region.ready md ops listed, j ∈ t0 :: tr) :
    ∀ (f : Nat) (listed : Array Bool) (a : Act), InvO md ops hd (t0 :: tr) listed →
      (∀ j oj, ops[j]? = some oj → j ≠ i → listed.getD j true = false → (∀ e ∈ oj.after, Region.binds md e = true → e.on ≠ i) → oi.apart ops oj = true) →
      i ∈ Region.ready md ops listed → YieldsAt P ops w oi v a →
      wpAnyO P md ops w hd L f (listed.setIfInBounds i true) (a.put oi.dst v) → wpAnyO P md ops w hd L (f + 1) listed a := by
  intro f
  induction f with
  | zero =>
    intro listed a inv _ hr hy H
    have hun := (mem_ready.1 hr).1
    refine ⟨fun h => (by rw [h] at hr; cases hr), fun j hj => ?_⟩
    obtain ⟨hjn, hjt⟩ := inv.inHead hs hc hin hun hj
    refine ⟨hjn, ?_⟩
    by_cases hji : j = i
    · subst hji; exact hy.stOp hi H
    · exact absurd (hdone _ _ H j (ready_mono hj hji)) hjt
  | succ f ih =>
    intro listed a inv hfree hr hy H
    have hun := (mem_ready.1 hr).1
    refine ⟨fun h => (by rw [h] at hr; cases hr), fun j hj => ?_⟩
    obtain ⟨hjn, hjt⟩ := inv.inHead hs hc hin hun hj
    refine ⟨hjn, ?_⟩
    by_cases hji : j = i
    · subst hji; exact hy.stOp hi H
    · have h1 := (H.2 j (ready_mono hj hji)).2
      obtain ⟨hjun, oj, hoj, hall⟩ := mem_ready.1 hj
      have hnot : ∀ e ∈ oj.after, Region.binds md e = true → e.on ≠ i := fun e he hb heq => by
        have h1 := hall e he hb
        rw [heq, getD_both hun] at h1
        cases h1
      have h2 := stOp_put hoj (hfree j oj hoj hji hjun hnot) (fun cs b => hsel i oi cs b hi) (fun cs b => hsel j oj cs b hoj) hy h1
      have hfree' : ∀ k ok, ops[k]? = some ok → k ≠ i → (listed.setIfInBounds j true).getD k true = false →
          (∀ e ∈ ok.after, Region.binds md e = true → e.on ≠ i) → oi.apart ops ok = true := fun k ok hk hki hun hno => by
        refine hfree k ok hk hki ?_ hno
        by_cases hjk : j = k
        · subst hjk; exact hjun
        · rw [getD_set_ne true hjk] at hun; exact hun
      refine stOp_mono (fun a' h3 => ih (listed.setIfInBounds j true) a' (inv.set hj hjt) hfree' (ready_mono hr (Ne.symm hji)) h3.1 ?_) h2
      rw [Array.setIfInBounds_comm _ _ hji]
      exact h3.2
def seqO (md : Region.Mode) (ops : Array Oper) : List Nat → Array Bool → Bool
  | [], listed => (Region.ready md ops listed).isEmpty
  | t :: r, listed => decide (Region.ready md ops listed = [t]) && seqO md ops r (listed.setIfInBounds t true)
theorem wpAny_of_seqO {Q' : Exit → Act → World → Prop} : ∀ (tl : List Nat) (listed : Array Bool) (a : Act) (w : World),
    seqO md ops tl listed = true → wpList P ops Q' (pick ops tl) a w → wpAny P md ops Q' tl.length listed a w
  | [], _, _, _, hB, h => ⟨by simpa [seqO] using hB, h⟩
  | t :: r, listed, a, w, hB, h => by
    simp only [seqO, Bool.and_eq_true, decide_eq_true_eq] at hB
    obtain ⟨_, o, ho, _⟩ := mem_ready.1 (show t ∈ Region.ready md ops listed by rw [hB.1]; simp)
    rw [pick_cons ho] at h
    refine ⟨fun h1 => (by rw [hB.1] at h1; cases h1), fun i hi => ?_⟩
    rw [hB.1] at hi
    have hik : i = t := by simpa using hi
    subst hik
    have hw : wpOp P ops Q' i (wpList P ops Q' (pick ops r)) a w := by unfold wpOp; simp only [ho]; exact h
    exact wpOp_mono (fun a' w' h' => wpAny_of_seqO r _ a' w' hB.2 h') hw
def lexO (md : Region.Mode) (ops : Array Oper) (tl : List Nat) : List Nat → Array Bool → Bool
  | [], listed => seqO md ops tl listed
  | i :: l, listed => (Region.ready md ops listed).contains i && Region.free md ops listed i && lexO md ops tl l (listed.setIfInBounds i true)
theorem seqO_ready {tl : List Nat} {listed : Array Bool} (h : seqO md ops tl listed = true) : ∀ j ∈ Region.ready md ops listed, j ∈ tl := by
  cases tl with
  | nil => intro j hj; simp only [seqO, List.isEmpty_iff] at h; rw [h] at hj; cases hj
  | cons t r =>
    intro j hj
    simp only [seqO, Bool.and_eq_true, decide_eq_true_eq] at h
    rw [h.1] at hj
    have : j = t := by simpa using hj
    simp [this]
theorem wpAnyO_lex {hd tr : List Nat} {t0 : Nat} {Lq : Act → Prop} (hsel : Region.noSelect ops = true) (hs : sinkO md ops hd t0 = true) (hc : chainO md ops t0 tr = true) :
    ∀ (l : List Nat) (listed : Array Bool) (a : Act), (∀ i ∈ l, i ∈ hd) → InvO md ops hd (t0 :: tr) listed → lexO md ops (t0 :: tr) l listed = true → wpStill P ops w Lq (pick ops l) a →
    wpAnyO P md ops w hd (fun listed' a' => seqO md ops (t0 :: tr) listed' = true ∧ Lq a') l.length listed a
  | [], _, _, _, _, hB, h => ⟨by simpa [lexO] using hB, h⟩
  | k :: l, listed, a, hl, inv, hB, h => by
    simp only [lexO, Bool.and_eq_true] at hB
    obtain ⟨⟨hr, hf⟩, hB'⟩ := hB
    have hr' : k ∈ Region.ready md ops listed := by simpa using hr
    obtain ⟨hun, o, h0, _⟩ := mem_ready.1 hr'
    rw [pick_cons h0] at h
    have hk := hl k (by simp)
    have hst : stOp P ops w k (wpStill P ops w Lq (pick ops l)) a := by unfold stOp; simp only [h0]; exact h
    obtain ⟨v, hy, hK⟩ := yieldsAt_of_stOp h0 hst
    have hnt : k ∉ t0 :: tr := (inv.inHead hs hc hk hun hr').2
    exact wpAnyO_first h0 (Region.noSelect_spec hsel) hs hc hk (fun listed' a' hL => seqO_ready hL.1) l.length listed a inv (Region.free_spec h0 hf) hr' hy
      (wpAnyO_lex hsel hs hc l _ _ (fun i hi => hl i (by simp [hi])) (inv.set hr' hnt) hB' hK)
/-- operations that yield in every world, one behind the other -/
def wpFree (P : Program) (ops : Array Oper) (K : Act → Prop) : List Oper → Act → Prop
  | [], a => K a
  | o :: r, a => ∃ v, Yields P ops o v a ∧ wpFree P ops K r (a.put o.dst v)
def preB (md : Region.Mode) (ops : Array Oper) (k : Array Bool → Bool) : List Nat → Array Bool → Bool
  | [], listed => k listed
  | i :: l, listed => (Region.ready md ops listed).contains i && Region.free md ops listed i && preB md ops k l (listed.setIfInBounds i true)
theorem wpAny_of_pre {Q : Exit → Act → World → Prop} {K : Act → Prop} {k : Array Bool → Bool} {g : Nat} (hsel : Region.noSelect ops = true) (hQ : ∀ c a d v w, Q (.panic c) (Act.put a d v) w → Q (.panic c) a w)
    (hK : ∀ listed a, k listed = true → K a → wpAny P md ops Q g listed a w) : ∀ (l : List Nat) (listed : Array Bool) (a : Act), preB md ops k l listed = true → wpFree P ops K (pick ops l) a →
    wpAny P md ops Q (l.length + g) listed a w
  | [], listed, a, hB, h => by simpa using hK listed a hB h
  | i :: l, listed, a, hB, h => by
    simp only [preB, Bool.and_eq_true] at hB
    obtain ⟨⟨hr, hf⟩, hB'⟩ := hB
    obtain ⟨_, o, h0, _⟩ := mem_ready.1 (show i ∈ Region.ready md ops listed by simpa using hr)
    rw [pick_cons h0] at h
    obtain ⟨v, hy, h⟩ := h
    rw [show (i :: l).length + g = (l.length + g) + 1 by simp; omega]
    exact wpAny_take h0 hsel hf hr (fun c a w => hQ c a _ _ w) hy (wpAny_of_pre hsel hQ hK l _ _ hB' h)
def orderB (md : Region.Mode) (ops : Array Oper) (pre hd : List Nat) (t0 : Nat) (tr : List Nat) : Bool :=
  Region.noSelect ops && sinkO md ops hd t0 && chainO md ops t0 tr &&
  preB md ops (fun listed => invB md ops hd (t0 :: tr) listed && lexO md ops (t0 :: tr) hd listed) pre (Array.replicate ops.size false) &&
  decide (pre.length + (hd.length + (t0 :: tr).length) = ops.size)
theorem order_abs {id : Nat} {Q : Exit → Act → World → Prop} {a : Act} {l : List Oper} (pre hd : List Nat) (t0 : Nat) (tr : List Nat) (hm : P.follows .mixedOrders = true) (hB : orderB .any l.toArray pre hd t0 tr = true)
    (hQ : ∀ c a d v w, Q (.panic c) (Act.put a d v) w → Q (.panic c) a w)
    (h : ∀ w2, Same w w2 → wpFree P l.toArray (fun a1 => wpStill P l.toArray w2 (fun a' => wpList P l.toArray Q (pick l.toArray (t0 :: tr)) a' w2) (pick l.toArray hd) a1) (pick l.toArray pre) a) :
    (Code.region id l.toArray true).wp P Q a w := by
  simp only [orderB, Bool.and_eq_true, decide_eq_true_eq] at hB
  obtain ⟨⟨⟨⟨hsel, hs⟩, hc⟩, hp⟩, hn⟩ := hB
  refine wp_region_any hm ?_
  have key := wpAny_of_pre (Q := Q) (w := { w with drawn := w.drawn + 1 }) hsel hQ (g := hd.length + (t0 :: tr).length) (fun listed a1 hk hK => ?_) pre _ a hp (h { w with drawn := w.drawn + 1 } ⟨rfl, rfl, rfl, rfl⟩)
  · rw [hn] at key; exact key
  simp only [Bool.and_eq_true] at hk
  exact wpAny_of_O (fun listed' a' hL => wpAny_of_seqO _ _ _ _ hL.1 hL.2) _ _ _ (wpAnyO_lex hsel hs hc hd listed a1 (fun _ h => h) (invB_spec hk.1) hk.2 hK)
/-- the walk is held at an operation -/
def Held (p : Prop) : Prop := p
theorem hold_store {Q : Exit → Act → World → Prop} {a : Act} {rest : List Oper} {o : Oper} {T : TypeId} (ad x : Operand) (_ho : o.op = .store T ad x) (h : Held (wpList P ops Q (o :: rest) a w)) : wpList P ops Q (o :: rest) a w := h
theorem hold_load {Q : Exit → Act → World → Prop} {a : Act} {rest : List Oper} {o : Oper} {T : TypeId} (ad : Operand) (_ho : o.op = .load T ad) (h : Held (wpList P ops Q (o :: rest) a w)) : wpList P ops Q (o :: rest) a w := h
end
end BB
