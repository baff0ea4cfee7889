/-
  A plan of which what is held may grow behind each sole operation (that a call's result lies there, say). No program is named here.
-/
import Derived.Test.YthajnkcipifhcaaGreatDoorKMixed
import Derived.OrdersHeld
section
open Go Go.RowKit
namespace BB
section
variable {P : Program} {ops : Array Oper} {md : Region.Mode} {w : World} {S : World → Prop} {Q : Exit → Act → World → Prop}
/-- these operations, one behind the other, in every world that meets S -/
def wpHeldG (P : Program) (ops : Array Oper) (S : World → Prop) (K : Act → Prop) : List Oper → Act → Prop
  | [], a => K a
  | o :: r, a => ∃ v, YieldsIf P ops S o v a ∧ wpHeldG P ops S K r (a.put o.dst v)
theorem heldg_run {K : Act → Prop} {o : Oper} {rest : List Oper} {a : Act} (v : Value) (hg : Region.wanted o (yielded ops a.tmps) = true) (h : ∀ w, S w → (execOp a.eval o).run P w = .ok (.value v) w)
    (hK : wpHeldG P ops S K rest (a.put o.dst v)) : wpHeldG P ops S K (o :: rest) a := ⟨v, .inl ⟨hg, h⟩, hK⟩
theorem heldg_skip {K : Act → Prop} {o : Oper} {rest : List Oper} {a : Act} (hg : Region.wanted o (yielded ops a.tmps) = false)
    (hK : wpHeldG P ops S K rest (a.put o.dst undef)) : wpHeldG P ops S K (o :: rest) a := ⟨undef, .inr ⟨hg, rfl⟩, hK⟩
theorem heldg_nil {K : Act → Prop} {a : Act} (h : K a) : wpHeldG P ops S K [] a := h
theorem wpAnyH_of_heldg {K : Act → Prop} {k : Array Bool → Bool} {g : Nat} (hsel : Region.noSelect ops = true) (hQ : ∀ c a d v w, Q (.panic c) (Act.put a d v) w → Q (.panic c) a w) (hS : S w)
    (hK : ∀ listed a, k listed = true → K a → wpAnyH P md ops Q S g listed a w) : ∀ (l : List Nat) (listed : Array Bool) (a : Act), preB md ops k l listed = true → wpHeldG P ops S K (pick ops l) a →
    wpAnyH P md ops Q S (l.length + g) listed a w
  | [], listed, a, hB, h => by simpa using hK listed a hB h
  | i :: l, listed, a, hB, h => by
    simp only [preB, Bool.and_eq_true] at hB
    obtain ⟨⟨hr, hf⟩, hB'⟩ := hB
    obtain ⟨_, o, h0, _⟩ := mem_ready.1 (show i ∈ Region.ready md ops listed by simpa using hr)
    rw [pick_cons h0] at h
    obtain ⟨v, hy, h⟩ := h
    rw [show (i :: l).length + g = (l.length + g) + 1 by simp; omega]
    exact wpAnyH_take h0 hsel hf hr (fun c a w => hQ c a _ _ w) hy hS (wpAnyH_of_heldg hsel hQ hS hK l _ _ hB' h)
/-- c alone may come up, then tl, one behind the other -/
def oneB (md : Region.Mode) (ops : Array Oper) (c : Nat) (tl : List Nat) (listed : Array Bool) : Bool :=
  decide (Region.ready md ops listed = [c]) && preB md ops (fun li => decide (Region.ready md ops li = [])) tl (listed.setIfInBounds c true)
theorem one_call {id : Nat} {a a1 : Act} {l : List Oper} (hd tl : List Nat) (c : Nat) (oc : Oper) (dc : Nat) (f : Nat) (args : Array Value) (v : Value) (S : World → Prop) (hm : P.follows .mixedOrders = true)
    (hB : (Region.noSelect l.toArray && preB .any l.toArray (oneB .any l.toArray c tl) hd (Array.replicate l.toArray.size false) && decide (hd.length + (tl.length + 1) = l.toArray.size)) = true)
    (hQ : ∀ c a d v w, Q (.panic c) (Act.put a d v) w → Q (.panic c) a w) (hoc : l.toArray[c]? = some oc) (hgc : oc.guard = none) (hdc : oc.dst = some dc) (hS : S { w with drawn := w.drawn + 1 })
    (hread : wpHeldG P l.toArray S (fun a' => a' = a1) (pick l.toArray hd) a)
    (henter : ∀ w', (execOp a1.eval oc).run P w' = .ok (.enter f args) w')
    (hcall : ∀ w', S w' → Calls P f args w' fun e w'' => e = .returned v ∧ S w'')
    (htail : wpHeldG P l.toArray S (fun a' => ∀ w', S w' → Q .normal a' w') (pick l.toArray tl) (a1.put (some dc) v)) :
    (Code.region id l.toArray true).wp P Q a w := by
  simp only [Bool.and_eq_true, decide_eq_true_eq] at hB
  obtain ⟨⟨hsel, hp⟩, hsz⟩ := hB
  refine wp_region_held (S := S) hm ?_
  have key := wpAnyH_of_heldg (Q := Q) (S := S) (w := { w with drawn := w.drawn + 1 }) (k := oneB .any l.toArray c tl) (K := fun a' => a' = a1) (g := tl.length + 1) hsel hQ hS
    (fun listed a' hk ha' => ?_) hd (Array.replicate l.toArray.size false) a hp hread
  · rw [hsz] at key; exact key
  subst ha'
  simp only [oneB, Bool.and_eq_true, decide_eq_true_eq] at hk
  obtain ⟨r0, r1⟩ := hk
  refine wpAnyH_all r0 (by simp) fun i hi => ?_
  obtain rfl : i = c := by simpa using hi
  unfold wpOp
  simp only [hoc, Region.wanted, hgc, if_true]
  left
  unfold Oper.wp
  rw [henter]
  refine (hcall _ hS).mono fun e w' ⟨he, hS'⟩ => ?_
  subst he
  refine ⟨hS', ?_⟩
  rw [hdc]
  have tail := wpAnyH_of_heldg (Q := Q) (S := S) (w := w') (k := fun li => decide (Region.ready .any l.toArray li = [])) (K := fun a' => ∀ w', S w' → Q .normal a' w') (g := 0) hsel hQ hS'
    (fun listed a' hk ha' => wpAnyH_done (by simpa using hk) (ha' _ hS') _) tl _ _ r1 htail
  simpa using tail
end
end BB
end
section
open Go Go.RowKit
namespace BB
section
variable {P : Program} {ops : Array Oper} {md : Region.Mode} {w : World} {S : World → Prop} {Q : Exit → Act → World → Prop}
def wpHeld (P : Program) (ops : Array Oper) (S : World → Prop) (K : Act → Prop) : List Oper → Act → Prop
  | [], a => K a
  | o :: r, a => ∃ v, YieldsIf P ops S o v a ∧ wpHeld P ops S K r (a.put o.dst v)
theorem held_step {K : Act → Prop} {o : Oper} {rest : List Oper} {a : Act} (v : Value) (hg : o.guard = none) (h : ∀ w, S w → (execOp a.eval o).run P w = .ok (.value v) w)
    (hK : wpHeld P ops S K rest (a.put o.dst v)) : wpHeld P ops S K (o :: rest) a := ⟨v, .inl ⟨by simp [Region.wanted, hg], h⟩, hK⟩
theorem wpAnyH_of_held {K : Act → Prop} {k : Array Bool → Bool} {g : Nat} (hsel : Region.noSelect ops = true) (hQ : ∀ c a d v w, Q (.panic c) (Act.put a d v) w → Q (.panic c) a w) (hS : S w)
    (hK : ∀ listed a, k listed = true → K a → wpAnyH P md ops Q S g listed a w) : ∀ (l : List Nat) (listed : Array Bool) (a : Act), preB md ops k l listed = true → wpHeld P ops S K (pick ops l) a →
    wpAnyH P md ops Q S (l.length + g) listed a w
  | [], listed, a, hB, h => by simpa using hK listed a hB h
  | i :: l, listed, a, hB, h => by
    simp only [preB, Bool.and_eq_true] at hB
    obtain ⟨⟨hr, hf⟩, hB'⟩ := hB
    obtain ⟨_, o, h0, _⟩ := mem_ready.1 (show i ∈ Region.ready md ops listed by simpa using hr)
    rw [pick_cons h0] at h
    obtain ⟨v, hy, h⟩ := h
    rw [show (i :: l).length + g = (l.length + g) + 1 by simp; omega]
    exact wpAnyH_take h0 hsel hf hr (fun c a w => hQ c a _ _ w) hy hS (wpAnyH_of_held hsel hQ hS hK l _ _ hB' h)
/-- the tail's orders: c or n first, the other one, then t -/
def twoB (md : Region.Mode) (ops : Array Oper) (c n t : Nat) (listed : Array Bool) : Bool :=
  decide (Region.ready md ops listed = [c, n]) && decide (Region.ready md ops (listed.setIfInBounds c true) = [n]) && decide (Region.ready md ops (listed.setIfInBounds n true) = [c]) &&
  decide (Region.ready md ops ((listed.setIfInBounds c true).setIfInBounds n true) = [t]) && decide (Region.ready md ops ((listed.setIfInBounds n true).setIfInBounds c true) = [t]) &&
  decide (Region.ready md ops (((listed.setIfInBounds c true).setIfInBounds n true).setIfInBounds t true) = []) && decide (Region.ready md ops (((listed.setIfInBounds n true).setIfInBounds c true).setIfInBounds t true) = [])
theorem op_value {i : Nat} {o : Oper} {v : Value} {a : Act} {w w' : World} {K : Act → World → Prop} (ho : ops[i]? = some o) (hg : o.guard = none) (h : (execOp a.eval o).run P w = .ok (.value v) w') (hK : K (a.put o.dst v) w') : wpOp P ops Q i K a w := by
  unfold wpOp; simp only [ho, Region.wanted, hg, if_true]
  left; unfold Oper.wp; rw [h]; exact hK
theorem op_skip {i : Nat} {o : Oper} {a : Act} {w w' : World} {K : Act → World → Prop} (ho : ops[i]? = some o) (hg : o.guard = none) (h : (execOp a.eval o).run P w = .ok .skip w') (hK : K (a.put o.dst undef) w') : wpOp P ops Q i K a w := by
  unfold wpOp; simp only [ho, Region.wanted, hg, if_true]
  left; unfold Oper.wp; rw [h]; exact hK
theorem op_call {i f : Nat} {args : Array Value} {o : Oper} {v : Value} {a : Act} {w : World} {K : Act → World → Prop} {R : World → Prop} (ho : ops[i]? = some o) (hg : o.guard = none) (h : (execOp a.eval o).run P w = .ok (.enter f args) w)
    (hc : Calls P f args w fun e w' => e = .returned v ∧ R w') (hK : ∀ w', R w' → K (a.put o.dst v) w') : wpOp P ops Q i K a w := by
  unfold wpOp; simp only [ho, Region.wanted, hg, if_true]
  left; unfold Oper.wp; rw [h]
  exact hc.mono fun e w' ⟨he, hR⟩ => by subst he; exact hK w' hR
theorem call_alloc {id : Nat} {a a1 : Act} {l : List Oper} (hd : List Nat) (c n t : Nat) (oc on ot : Oper) (f m : Nat) (args : Array Value) (g : Nat → Value) (z : Array Value) (T TA dc dn : Nat) (hm : P.follows .mixedOrders = true)
    (hB : (Region.noSelect l.toArray && preB .any l.toArray (twoB .any l.toArray c n t) hd (Array.replicate l.toArray.size false) && decide (hd.length + 3 = l.toArray.size)) = true)
    (hQ : ∀ c a d v w, Q (.panic c) (Act.put a d v) w → Q (.panic c) a w)
    (hoc : l.toArray[c]? = some oc) (hon : l.toArray[n]? = some on) (hot : l.toArray[t]? = some ot) (hgc : oc.guard = none) (hgn : on.guard = none) (hgt : ot.guard = none)
    (hdc : oc.dst = some dc) (hdn : on.dst = some dn) (hdt : ot.dst = none) (hne : dc ≠ dn)
    (hread : ∀ w2, Same w w2 → wpHeld P l.toArray (fun w' => Below w2.heap.size w2 w') (fun a' => a' = a1) (pick l.toArray hd) a)
    (hc1 : ∀ w', (execOp a1.eval oc).run P w' = .ok (.enter f args) w') (hc2 : ∀ p w', (execOp (a1.put (some dn) p).eval oc).run P w' = .ok (.enter f args) w')
    (hcall : ∀ w2 w', Same w w2 → Below w2.heap.size w2 w' → Calls P f args w' fun e w'' => e = .returned (.agg (row m g)) ∧ Below w'.heap.size w' w'')
    (hno : on.op = .alloc TA) (hal : ∀ w' : World, (Instr.alloc TA true (.tuple #[])).run P w' = .ok (.pointer (some ⟨w'.heap.size, 0, none⟩)) (w'.alloc (.cells z T))) (hz : ∃ z', z = row m z')
    (ht : ∀ (p : Nat), ((a1.put (some dc) (.agg (row m g))).put (some dn) (.pointer (some ⟨p, 0, none⟩))).eval (.tmp dn) = .pointer (some ⟨p, 0, none⟩) ∧ ((a1.put (some dc) (.agg (row m g))).put (some dn) (.pointer (some ⟨p, 0, none⟩))).eval (.tmp dc) = .agg (row m g))
    (hto : ot.op = .store T (.tmp dn) (.tmp dc)) (hST : ∀ w', (Go.sizeOf T).run P w' = .ok m w') (hg1 : ∀ i, i < m → (g i).oneCell' = true)
    (hK : ∀ (p : Nat) (w' : World), Below w.heap.size w w' → w.heap.size ≤ p → Blk w' p m g → Q .normal ((a1.put (some dc) (.agg (row m g))).put (some dn) (.pointer (some ⟨p, 0, none⟩))) w') :
    (Code.region id l.toArray true).wp P Q a w := by
  simp only [Bool.and_eq_true, decide_eq_true_eq] at hB
  obtain ⟨⟨hsel, hp⟩, hsz⟩ := hB
  obtain ⟨z', rfl⟩ := hz
  have hn : ∀ (a : Act) (w' : World), (execOp a.eval on).run P w' = .ok (.value (.pointer (some ⟨w'.heap.size, 0, none⟩))) (w'.alloc (.cells (row m z') T)) := fun a w' => by
    unfold execOp; simp only [hno, Sem.run_bind, hal, Result.andThen_ok, Sem.run_pure]
  have w2s : Same w { w with drawn := w.drawn + 1 } := ⟨rfl, rfl, rfl, rfl⟩
  refine wp_region_held (S := fun w' => Below w.heap.size { w with drawn := w.drawn + 1 } w') hm ?_
  have fin : ∀ (p : Nat) (w' : World) (listed : Array Bool), Below w.heap.size { w with drawn := w.drawn + 1 } w' → w.heap.size ≤ p → Blk w' p m z' → Region.ready .any l.toArray listed = [t] → Region.ready .any l.toArray (listed.setIfInBounds t true) = [] →
      wpAnyH P .any l.toArray Q (fun w' => Below w.heap.size { w with drawn := w.drawn + 1 } w') 1 listed ((a1.put (some dc) (.agg (row m g))).put (some dn) (.pointer (some ⟨p, 0, none⟩))) w' := by
    intro p w' listed hb hpb hblk hr hr'
    refine wpAnyH_all hr (by simp) fun i hi => ?_
    obtain rfl : i = t := by simpa using hi
    obtain ⟨w3, hrun, hms⟩ := run_op_store (a := (a1.put (some dc) (.agg (row m g))).put (some dn) (.pointer (some ⟨p, 0, none⟩))) (o := ot) (P := P) (w := w') hto (ht p).1 (ht p).2 (hST _) hblk (by omega) hg1
    refine op_skip hot hgt hrun ?_
    have hb3 : Below w.heap.size { w with drawn := w.drawn + 1 } w3 := hb.trans (hms.2.below hpb)
    refine ⟨hb3, wpAnyH_done hr' ?_ _⟩
    rw [hdt]
    exact hK p w3 ((w2s.below _).trans hb3) hpb (hms.1.congr _ fun i hi => by simp [hi])
  have key := wpAnyH_of_held (Q := Q) (S := fun w' => Below w.heap.size { w with drawn := w.drawn + 1 } w') (w := { w with drawn := w.drawn + 1 }) (k := twoB .any l.toArray c n t) (K := fun a' => a' = a1) (g := 3) hsel hQ (Below.refl _ _)
    (fun listed a' hk ha' => ?_) hd (Array.replicate l.toArray.size false) a hp (hread _ w2s)
  · rw [hsz] at key; exact key
  subst ha'
  simp only [twoB, Bool.and_eq_true, decide_eq_true_eq] at hk
  obtain ⟨⟨⟨⟨⟨⟨r0, r1⟩, r2⟩, r3⟩, r4⟩, r5⟩, r6⟩ := hk
  refine wpAnyH_all r0 (by simp) fun i hi => ?_
  rcases List.mem_cons.1 hi with rfl | hi
  · refine op_call hoc hgc (hc1 _) (hcall _ _ w2s (Below.refl _ _)) fun w3 hb3 => ?_
    have hb3' : Below w.heap.size { w with drawn := w.drawn + 1 } w3 := hb3
    refine ⟨hb3', wpAnyH_all r1 (by simp) fun j hj => ?_⟩
    obtain rfl : j = n := by simpa using hj
    refine op_value hon hgn (hn _ _) ?_
    have hb4 : Below w.heap.size { w with drawn := w.drawn + 1 } (w3.alloc (.cells (row m z') T)) := hb3'.alloc hb3'.size _
    refine ⟨hb4, ?_⟩
    rw [hdc, hdn]
    exact fin _ _ _ hb4 hb3'.size (Blk.new _ _ _ _ _ rfl) r3 r5
  · obtain rfl : i = n := by simpa using hi
    refine op_value hon hgn (hn _ _) ?_
    have hb3 : Below w.heap.size { w with drawn := w.drawn + 1 } (({ w with drawn := w.drawn + 1 } : World).alloc (.cells (row m z') T)) := (Below.refl w.heap.size { w with drawn := w.drawn + 1 }).alloc (Nat.le_refl w.heap.size) _
    refine ⟨hb3, wpAnyH_all r2 (by simp) fun j hj => ?_⟩
    obtain rfl : j = c := by simpa using hj
    rw [hdn]
    refine op_call hoc hgc (hc2 _ _) (hcall _ _ w2s hb3) fun w4 hb4 => ?_
    have hb4' : Below w.heap.size { w with drawn := w.drawn + 1 } w4 := hb3.trans (hb4.mono (by simp))
    refine ⟨hb4', ?_⟩
    rw [hdc, Act.put_comm _ _ _ (by simpa using hne)]
    refine fin _ _ _ hb4' (Nat.le_refl _) ?_ r4 r6
    have hnew : Blk (({ w with drawn := w.drawn + 1 } : World).alloc (.cells (row m z') T)) w.heap.size m z' := Blk.new { w with drawn := w.drawn + 1 } _ _ _ _ rfl
    exact hnew.below hb4 (by simp)
end
end BB
end
section
open Go Go.RowKit
namespace BB
section
variable {P : Program} {ops : Array Oper} {md : Region.Mode} {w : World} {S : World → Prop} {Q : Exit → Act → World → Prop}
def planB (md : Region.Mode) (ops : Array Oper) : List (Bool × Nat) → Array Bool → Bool
  | [], listed => decide (Region.ready md ops listed = [])
  | (true, i) :: r, listed => (Region.ready md ops listed).contains i && Region.free md ops listed i && planB md ops r (listed.setIfInBounds i true)
  | (false, i) :: r, listed => decide (Region.ready md ops listed = [i]) && planB md ops r (listed.setIfInBounds i true)
def wpPlan (P : Program) (ops : Array Oper) (Q : Exit → Act → World → Prop) (S : World → Prop) : List (Bool × Nat) → Act → World → Prop
  | [], a, w => Q .normal a w
  | (true, i) :: r, a, w => ∃ o v, ops[i]? = some o ∧ YieldsIf P ops S o v a ∧ wpPlan P ops Q S r (a.put o.dst v) w
  | (false, i) :: r, a, w => wpOp P ops Q i (fun a' w' => S w' ∧ wpPlan P ops Q S r a' w') a w
theorem wpAnyH_plan (hsel : Region.noSelect ops = true) (hQ : ∀ c a d v w, Q (.panic c) (Act.put a d v) w → Q (.panic c) a w) : ∀ (l : List (Bool × Nat)) (listed : Array Bool) (a : Act) (w : World), S w → planB md ops l listed = true → wpPlan P ops Q S l a w → wpAnyH P md ops Q S l.length listed a w
  | [], listed, a, w, _, hB, h => wpAnyH_done (by simpa [planB] using hB) h _
  | (true, i) :: r, listed, a, w, hS, hB, h => by
    simp only [planB, Bool.and_eq_true] at hB
    obtain ⟨o, v, h0, hy, h⟩ := h
    exact wpAnyH_take h0 hsel hB.1.2 hB.1.1 (fun c a w => hQ c a _ _ w) hy hS (wpAnyH_plan hsel hQ r _ _ w hS hB.2 h)
  | (false, i) :: r, listed, a, w, hS, hB, h => by
    simp only [planB, Bool.and_eq_true, decide_eq_true_eq] at hB
    refine wpAnyH_all hB.1 (by simp) fun j hj => ?_
    obtain rfl : j = i := by simpa using hj
    exact wpOp_mono (fun a' w' h' => ⟨h'.1, wpAnyH_plan hsel hQ r _ a' w' h'.1 hB.2 h'.2⟩) h
theorem plan_abs {id : Nat} {a : Act} {l : List Oper} (S : World → Prop) (plan : List (Bool × Nat)) (hm : P.follows .mixedOrders = true)
    (hB : (Region.noSelect l.toArray && planB .any l.toArray plan (Array.replicate l.toArray.size false) && decide (plan.length = l.toArray.size)) = true)
    (hQ : ∀ c a d v w, Q (.panic c) (Act.put a d v) w → Q (.panic c) a w)
    (h : ∀ w2, Same w w2 → S w2 ∧ wpPlan P l.toArray Q S plan a w2) : (Code.region id l.toArray true).wp P Q a w := by
  simp only [Bool.and_eq_true, decide_eq_true_eq] at hB
  obtain ⟨⟨hsel, hp⟩, hn⟩ := hB
  obtain ⟨hS, h⟩ := h { w with drawn := w.drawn + 1 } ⟨rfl, rfl, rfl, rfl⟩
  have key := wpAnyH_plan (S := S) hsel hQ plan _ a _ hS hp h
  rw [hn] at key
  exact wp_region_held hm key
/-- a value, and a new world -/
theorem pl_value {i : Nat} {r : List (Bool × Nat)} {a : Act} {w w' : World} (o : Oper) (v : Value) (ho : ops[i]? = some o) (hg : o.guard = none) (h : (execOp a.eval o).run P w = .ok (.value v) w') (hS : S w') (hK : wpPlan P ops Q S r (a.put o.dst v) w') : wpPlan P ops Q S ((false, i) :: r) a w := by
  show wpOp P ops Q i _ a w
  unfold wpOp; simp only [ho, Region.wanted, hg, if_true]
  left; unfold Oper.wp; rw [h]; exact ⟨hS, hK⟩
theorem pl_end {a : Act} {w : World} (h : Q .normal a w) : wpPlan P ops Q S [] a w := h
/-- one that yields -/
theorem pl_run {i : Nat} {r : List (Bool × Nat)} {a : Act} {w : World} (o : Oper) (v : Value) (ho : ops[i]? = some o) (hg : Region.wanted o (yielded ops a.tmps) = true) (h : ∀ w, S w → (execOp a.eval o).run P w = .ok (.value v) w) (hK : wpPlan P ops Q S r (a.put o.dst v) w) : wpPlan P ops Q S ((true, i) :: r) a w := ⟨o, v, ho, .inl ⟨hg, h⟩, hK⟩
/-- a call -/
theorem pl_call {i : Nat} {r : List (Bool × Nat)} {a : Act} {w : World} {f : FuncId} {args : Array Value} {R : Value → World → Prop} (o : Oper) (ho : ops[i]? = some o) (hg : Region.wanted o (yielded ops a.tmps) = true) (h : (execOp a.eval o).run P w = .ok (.enter f args) w)
    (hc : Calls P f args w fun e w' => ∃ v, e = .returned v ∧ R v w') (hR : ∀ v w', R v w' → S w') (hK : ∀ v w', R v w' → wpPlan P ops Q S r (a.put o.dst v) w') : wpPlan P ops Q S ((false, i) :: r) a w := by
  show wpOp P ops Q i _ a w
  unfold wpOp; simp only [ho, hg, if_true]
  left; unfold Oper.wp; rw [h]
  exact hc.mono fun e w' ⟨v, he, hRR⟩ => by subst he; exact ⟨hR v w' hRR, hK v w' hRR⟩
theorem pl_call1 {i : Nat} {r : List (Bool × Nat)} {a : Act} {w : World} {f : FuncId} {args : Array Value} {v : Value} {R : World → Prop} (o : Oper) (ho : ops[i]? = some o) (hg : Region.wanted o (yielded ops a.tmps) = true) (h : (execOp a.eval o).run P w = .ok (.enter f args) w)
    (hc : Calls P f args w fun e w' => e = .returned v ∧ R w') (hR : ∀ w', R w' → S w') (hK : ∀ w', R w' → wpPlan P ops Q S r (a.put o.dst v) w') : wpPlan P ops Q S ((false, i) :: r) a w :=
  pl_call (R := fun u w' => u = v ∧ R w') o ho hg h (hc.mono fun _ _ ⟨he, hr⟩ => ⟨v, he, rfl, hr⟩) (fun _ _ ⟨_, hr⟩ => hR _ hr) (fun _ _ ⟨hv, hr⟩ => by subst hv; exact hK _ hr)
end
end BB
end
section
open Go Go.RowKit
namespace BB
section
variable {P : Program} {ops : Array Oper} {md : Region.Mode} {w : World} {S : World → Prop} {Q : Exit → Act → World → Prop} {L : Array Bool → Act → World → Prop}
theorem waits_spec {t i : Nat} (h : Region.waitsFor md ops t i = true) : ∀ o, ops[t]? = some o → ∃ e ∈ o.after, Region.binds md e = true ∧ e.on = i := by
  intro o ho
  unfold Region.waitsFor at h
  simp only [ho] at h
  obtain ⟨k, hk, hb, he⟩ : ∃ k, ∃ h : k < o.after.size, Region.binds md o.after[k] = true ∧ o.after[k].on = i := by simpa using h
  exact ⟨o.after[k], Array.getElem_mem hk, hb, he⟩
end
end BB
end
section
open Go Go.RowKit
namespace BB
section
variable {P : Program} {ops : Array Oper} {md : Region.Mode} {w : World} {S : World → Prop} {Q : Exit → Act → World → Prop} {t : Nat}
def wpAnyE (P : Program) (md : Region.Mode) (ops : Array Oper) (Q : Exit → Act → World → Prop) (S : World → Prop) (t : Nat) : Nat → Array Bool → Act → World → Prop
  | 0, listed, a, w => Region.ready md ops listed = [] ∧ Q .normal a w
  | fuel + 1, listed, a, w =>
    (Region.ready md ops listed = [] → Q .normal a w) ∧
    ∀ i ∈ Region.ready md ops listed, wpOp P ops Q i (fun a' w' => (i ≠ t → S w') ∧ wpAnyE P md ops Q S t fuel (listed.setIfInBounds i true) a' w') a w
theorem wpAny_of_E : ∀ (fuel : Nat) (listed : Array Bool) (a : Act) (w : World), wpAnyE P md ops Q S t fuel listed a w → wpAny P md ops Q fuel listed a w
  | 0, _, _, _, h => h
  | fuel + 1, _, _, _, h => ⟨h.1, fun i hi => wpOp_mono (fun a' w' h' => wpAny_of_E fuel _ a' w' h'.2) (h.2 i hi)⟩
theorem wpAnyE_first {i : Nat} {oi : Oper} {v : Value} (hi : ops[i]? = some oi) (hsel : ∀ (j : Nat) (o : Oper) cs b, ops[j]? = some o → o.op ≠ .select cs b)
    (hQ : ∀ c a w, Q (.panic c) (a.put oi.dst v) w → Q (.panic c) a w) (hit : i ≠ t) (hwt : ∀ o, ops[t]? = some o → ∃ e ∈ o.after, Region.binds md e = true ∧ e.on = i) :
    ∀ (fuel : Nat) (listed : Array Bool) (a : Act) (w : World),
      (∀ j oj, ops[j]? = some oj → j ≠ i → listed.getD j true = false → (∀ e ∈ oj.after, Region.binds md e = true → e.on ≠ i) → oi.apart ops oj = true) →
      i ∈ Region.ready md ops listed → YieldsIf P ops S oi v a → S w →
      wpAnyE P md ops Q S t fuel (listed.setIfInBounds i true) (a.put oi.dst v) w → wpAnyE P md ops Q S t (fuel + 1) listed a w := by
  intro fuel
  induction fuel with
  | zero =>
    intro listed a w _ hr hy hS H
    refine ⟨fun h => (by rw [h] at hr; cases hr), fun j hj => ?_⟩
    by_cases hji : j = i
    · subst hji; exact hy.wpOp hi hS ⟨fun _ => hS, H⟩
    · have := ready_mono hj hji
      rw [H.1] at this
      cases this
  | succ fuel ih =>
    intro listed a w hfree hr hy hS H
    refine ⟨fun h => (by rw [h] at hr; cases hr), fun j hj => ?_⟩
    by_cases hji : j = i
    · subst hji; exact hy.wpOp hi hS ⟨fun _ => hS, H⟩
    · have h1 := H.2 j (ready_mono hj hji)
      obtain ⟨hjun, oj, hoj, hall⟩ := mem_ready.1 hj
      have hnot : ∀ e ∈ oj.after, Region.binds md e = true → e.on ≠ i := fun e he hb heq => by
        have h1 := hall e he hb
        have h0 := (mem_ready.1 hr).1
        rw [heq] at h1
        rcases Nat.lt_or_ge i listed.size with h' | h'
        · simp [h'] at h0 h1; rw [h0] at h1; cases h1
        · simp [Array.getElem?_eq_none h'] at h1
      have hjt : j ≠ t := by
        rintro rfl
        obtain ⟨e, he, hb, heq⟩ := hwt oj hoj
        exact hnot e he hb heq
      have h2 := wpOp_putIf hoj (hfree j oj hoj hji hjun hnot) (fun cs b => hsel i oi cs b hi) (fun cs b => hsel j oj cs b hoj) hQ hy h1
      have hfree' : ∀ k ok, ops[k]? = some ok → k ≠ i → (listed.setIfInBounds j true).getD k true = false →
          (∀ e ∈ ok.after, Region.binds md e = true → e.on ≠ i) → oi.apart ops ok = true := fun k ok hk hki hun hno => by
        refine hfree k ok hk hki ?_ hno
        by_cases hjk : j = k
        · subst hjk; exact hjun
        · rw [getD_set_ne true hjk] at hun; exact hun
      refine wpOp_mono (fun a' w' h3 => ⟨fun _ => h3.2.1 hjt, ih (listed.setIfInBounds j true) a' w' hfree' (ready_mono hr (Ne.symm hji)) h3.1 (h3.2.1 hjt) ?_⟩) h2
      rw [Array.setIfInBounds_comm _ _ hji]
      exact h3.2.2
def planEB (md : Region.Mode) (ops : Array Oper) (t : Nat) : List (Bool × Nat) → Array Bool → Bool
  | [], listed => decide (Region.ready md ops listed = [])
  | (true, i) :: r, listed => (Region.ready md ops listed).contains i && Region.free md ops listed i && Region.waitsFor md ops t i && decide (i ≠ t) && planEB md ops t r (listed.setIfInBounds i true)
  | (false, i) :: r, listed => decide (Region.ready md ops listed = [i]) && (decide (i ≠ t) || r.isEmpty) && planEB md ops t r (listed.setIfInBounds i true)
def wpPlanE (P : Program) (ops : Array Oper) (Q : Exit → Act → World → Prop) (S : World → Prop) (t : Nat) : List (Bool × Nat) → Act → World → Prop
  | [], a, w => Q .normal a w
  | (true, i) :: r, a, w => ∃ o v, ops[i]? = some o ∧ YieldsIf P ops S o v a ∧ wpPlanE P ops Q S t r (a.put o.dst v) w
  | (false, i) :: r, a, w => wpOp P ops Q i (fun a' w' => (i ≠ t → S w') ∧ wpPlanE P ops Q S t r a' w') a w
theorem wpAnyE_plan (hsel : Region.noSelect ops = true) (hQ : ∀ c a d v w, Q (.panic c) (Act.put a d v) w → Q (.panic c) a w) : ∀ (l : List (Bool × Nat)) (listed : Array Bool) (a : Act) (w : World), (l ≠ [] → S w) → planEB md ops t l listed = true → wpPlanE P ops Q S t l a w → wpAnyE P md ops Q S t l.length listed a w
  | [], listed, a, w, _, hB, h => ⟨by simpa [planEB] using hB, h⟩
  | (true, i) :: r, listed, a, w, hS, hB, h => by
    simp only [planEB, Bool.and_eq_true, decide_eq_true_eq] at hB
    obtain ⟨o, v, h0, hy, h⟩ := h
    have hS' := hS (by simp)
    exact wpAnyE_first h0 (Region.noSelect_spec hsel) (fun c a w => hQ c a _ _ w) hB.1.2 (waits_spec hB.1.1.2) _ listed a w (Region.free_spec h0 hB.1.1.1.2) (by simpa using hB.1.1.1.1) hy hS' (wpAnyE_plan hsel hQ r _ _ w (fun _ => hS') hB.2 h)
  | (false, i) :: r, listed, a, w, hS, hB, h => by
    simp only [planEB, Bool.and_eq_true, Bool.or_eq_true, decide_eq_true_eq] at hB
    refine ⟨fun h0 => (by rw [h0] at hB; simp at hB), fun j hj => ?_⟩
    rw [hB.1.1] at hj
    obtain rfl : j = i := by simpa using hj
    refine wpOp_mono (fun a' w' h' => ⟨h'.1, wpAnyE_plan hsel hQ r _ a' w' (fun hr => ?_) hB.2 h'.2⟩) h
    rcases hB.1.2 with hne | he
    · exact h'.1 hne
    · exact absurd (by simpa using he) hr
theorem planE_abs {id : Nat} {a : Act} {l : List Oper} (S : World → Prop) (t : Nat) (plan : List (Bool × Nat)) (hm : P.follows .mixedOrders = true)
    (hB : (Region.noSelect l.toArray && planEB .any l.toArray t plan (Array.replicate l.toArray.size false) && decide (plan.length = l.toArray.size)) = true)
    (hQ : ∀ c a d v w, Q (.panic c) (Act.put a d v) w → Q (.panic c) a w)
    (h : ∀ w2, Same w w2 → S w2 ∧ wpPlanE P l.toArray Q S t plan a w2) : (Code.region id l.toArray true).wp P Q a w := by
  simp only [Bool.and_eq_true, decide_eq_true_eq] at hB
  obtain ⟨⟨hsel, hp⟩, hn⟩ := hB
  obtain ⟨hS, h⟩ := h { w with drawn := w.drawn + 1 } ⟨rfl, rfl, rfl, rfl⟩
  have key := wpAnyE_plan (S := S) (t := t) hsel hQ plan _ a _ (fun _ => hS) hp h
  rw [hn] at key
  exact wp_region_any hm (wpAny_of_E _ _ _ _ key)
theorem pe_run {i : Nat} {r : List (Bool × Nat)} {a : Act} {w : World} (o : Oper) (v : Value) (ho : ops[i]? = some o) (hg : Region.wanted o (yielded ops a.tmps) = true) (h : ∀ w, S w → (execOp a.eval o).run P w = .ok (.value v) w) (hK : wpPlanE P ops Q S t r (a.put o.dst v) w) : wpPlanE P ops Q S t ((true, i) :: r) a w := ⟨o, v, ho, .inl ⟨hg, h⟩, hK⟩
theorem pe_call {i : Nat} {r : List (Bool × Nat)} {a : Act} {w : World} {f : FuncId} {args : Array Value} {R : Value → World → Prop} (o : Oper) (ho : ops[i]? = some o) (hg : Region.wanted o (yielded ops a.tmps) = true) (h : (execOp a.eval o).run P w = .ok (.enter f args) w)
    (hc : Calls P f args w fun e w' => ∃ v, e = .returned v ∧ R v w') (hR : ∀ v w', R v w' → S w') (hK : ∀ v w', R v w' → wpPlanE P ops Q S t r (a.put o.dst v) w') : wpPlanE P ops Q S t ((false, i) :: r) a w := by
  show wpOp P ops Q i _ a w
  unfold wpOp; simp only [ho, hg, if_true]
  left; unfold Oper.wp; rw [h]
  exact hc.mono fun e w' ⟨v, he, hRR⟩ => by subst he; exact ⟨fun _ => hR v w' hRR, hK v w' hRR⟩
/-- a value, and a new world -/
theorem pe_value {i : Nat} {r : List (Bool × Nat)} {a : Act} {w w' : World} (o : Oper) (v : Value) (ho : ops[i]? = some o) (hg : o.guard = none) (h : (execOp a.eval o).run P w = .ok (.value v) w') (hS : S w') (hK : wpPlanE P ops Q S t r (a.put o.dst v) w') : wpPlanE P ops Q S t ((false, i) :: r) a w :=
  op_value ho hg h ⟨fun _ => hS, hK⟩
/-- the last operation, as a list of one -/
theorem pe_last {a : Act} {w : World} (o : Oper) (ho : ops[t]? = some o) (h : wpList P ops Q [o] a w) : wpPlanE P ops Q S t [(false, t)] a w := by
  show wpOp P ops Q t _ a w
  unfold wpOp
  simp only [ho]
  have h : if Region.wanted o (yielded ops a.tmps) then o.wp P a w (wpList P ops Q []) Q ∨ (o.asks P a w ∧ LetsOut Q) else wpList P ops Q [] (a.put o.dst undef) w := h
  have e : (fun a' w' => (t ≠ t → S w') ∧ wpPlanE P ops Q S t [] a' w') = wpList P ops Q [] := by
    funext a' w'
    exact propext ⟨fun h => h.2, fun h => ⟨fun h0 => absurd rfl h0, h⟩⟩
  rw [e]
  split
  · rename_i hw; rw [if_pos hw] at h; exact h
  · rename_i hw
    rw [if_neg hw] at h
    exact ⟨fun h0 => absurd rfl h0, h⟩
end
end BB
end
section
open Go Go.RowKit
namespace BB
section
variable {P : Program} {ops : Array Oper} {md : Region.Mode} {w : World} {S S' : World → Prop} {Q : Exit → Act → World → Prop} {t : Nat}
/-- of each operation that has come up, all that it waits for has come up -/
def Shut (md : Region.Mode) (ops : Array Oper) (listed : Array Bool) : Prop := ∀ j oj, ops[j]? = some oj → listed.getD j false = true → ∀ e ∈ oj.after, Region.binds md e = true → listed.getD e.on false = true
theorem getD_set_ge {listed : Array Bool} {i j : Nat} (h : listed.getD j false = true) : (listed.setIfInBounds i true).getD j false = true := by
  by_cases e : i = j
  · subst e
    by_cases hl : i < listed.size
    · simp [hl]
    · simp [Array.getElem?_eq_none (Nat.le_of_not_lt hl)] at h
  · rw [getD_set_ne false e]; exact h
theorem shut_step {listed : Array Bool} {i : Nat} (hs : Shut md ops listed) (hr : i ∈ Region.ready md ops listed) : Shut md ops (listed.setIfInBounds i true) := by
  intro j oj hoj hl e he hb
  by_cases hij : i = j
  · subst hij
    obtain ⟨_, o, ho, hall⟩ := mem_ready.1 hr
    rw [hoj] at ho
    injection ho with ho
    subst ho
    exact getD_set_ge (hall e he hb)
  · rw [getD_set_ne false hij] at hl
    exact getD_set_ge (hs j oj hoj hl e he hb)
theorem shut_start (n : Nat) : Shut md ops (Array.replicate n false) := by
  intro j oj _ hl
  by_cases h : j < n
  · simp [h] at hl
  · simp [h] at hl
/-- t waits for i, through others too -/
def upB (md : Region.Mode) (ops : Array Oper) : Nat → Nat → Nat → Bool
  | 0, t, i => Region.waitsFor md ops t i
  | f + 1, t, i => Region.waitsFor md ops t i || (List.range ops.size).any fun k => Region.waitsFor md ops t k && upB md ops f k i
theorem up_one {listed : Array Bool} {t i : Nat} (h : Region.waitsFor md ops t i = true) (hall : ∀ ot, ops[t]? = some ot → ∀ e ∈ ot.after, Region.binds md e = true → listed.getD e.on false = true) : listed.getD i false = true := by
  cases ho : ops[t]? with
  | none => unfold Region.waitsFor at h; rw [ho] at h; cases h
  | some o =>
    obtain ⟨e, he, hb, rfl⟩ := waits_spec h o ho
    exact hall o ho e he hb
theorem up_spec {listed : Array Bool} (hs : Shut md ops listed) : ∀ (f t i : Nat), upB md ops f t i = true → (∀ ot, ops[t]? = some ot → ∀ e ∈ ot.after, Region.binds md e = true → listed.getD e.on false = true) → listed.getD i false = true
  | 0, t, i, h, hall => up_one h hall
  | f + 1, t, i, h, hall => by
    unfold upB at h
    rw [Bool.or_eq_true] at h
    rcases h with h | h
    · exact up_one h hall
    · obtain ⟨k, _, hk⟩ := List.any_eq_true.1 h
      rw [Bool.and_eq_true] at hk
      have hlk := up_one hk.1 hall
      exact up_spec hs f k i hk.2 fun ok hok e he hb => hs k ok hok hlk e he hb
theorem up_not {listed : Array Bool} {f t i : Nat} (hs : Shut md ops listed) (h : upB md ops f t i = true) (hi : listed.getD i true = false) : ¬ t ∈ Region.ready md ops listed := by
  intro hr
  obtain ⟨_, o, ho, hall⟩ := mem_ready.1 hr
  have := up_spec hs f t i h fun ot hot e he hb => by
    rw [ho] at hot
    injection hot with hot
    subst hot
    exact hall e he hb
  by_cases hl : i < listed.size
  · simp [hl] at hi this; rw [hi] at this; cases this
  · simp [Array.getElem?_eq_none (Nat.le_of_not_lt hl)] at this
def wpAnyS (P : Program) (md : Region.Mode) (ops : Array Oper) (Q : Exit → Act → World → Prop) (S S' : World → Prop) (t : Nat) : Nat → Array Bool → Act → World → Prop
  | 0, listed, a, w => Region.ready md ops listed = [] ∧ Q .normal a w
  | fuel + 1, listed, a, w =>
    (Region.ready md ops listed = [] → Q .normal a w) ∧
    ∀ i ∈ Region.ready md ops listed, wpOp P ops Q i (fun a' w' => (i ≠ t → S w' ∧ wpAnyS P md ops Q S S' t fuel (listed.setIfInBounds i true) a' w') ∧ (i = t → S' w' ∧ wpAnyH P md ops Q S' fuel (listed.setIfInBounds i true) a' w')) a w
theorem wpAny_of_S : ∀ (fuel : Nat) (listed : Array Bool) (a : Act) (w : World), wpAnyS P md ops Q S S' t fuel listed a w → wpAny P md ops Q fuel listed a w
  | 0, _, _, _, h => h
  | fuel + 1, _, _, _, h => ⟨h.1, fun i hi => wpOp_mono (fun a' w' h' => by
      by_cases e : i = t
      · exact wpAny_of_held _ _ _ _ (h'.2 e).2
      · exact wpAny_of_S fuel _ a' w' (h'.1 e).2) (h.2 i hi)⟩
theorem wpAnyS_first {i f : Nat} {oi : Oper} {v : Value} (hi : ops[i]? = some oi) (hsel : ∀ (j : Nat) (o : Oper) cs b, ops[j]? = some o → o.op ≠ .select cs b)
    (hQ : ∀ c a w, Q (.panic c) (a.put oi.dst v) w → Q (.panic c) a w) (hit : i ≠ t) (hup : upB md ops f t i = true) :
    ∀ (fuel : Nat) (listed : Array Bool) (a : Act) (w : World), Shut md ops listed →
      (∀ j oj, ops[j]? = some oj → j ≠ i → listed.getD j true = false → (∀ e ∈ oj.after, Region.binds md e = true → e.on ≠ i) → oi.apart ops oj = true) →
      i ∈ Region.ready md ops listed → YieldsIf P ops S oi v a → S w →
      wpAnyS P md ops Q S S' t fuel (listed.setIfInBounds i true) (a.put oi.dst v) w → wpAnyS P md ops Q S S' t (fuel + 1) listed a w := by
  intro fuel
  induction fuel with
  | zero =>
    intro listed a w _ _ hr hy hS H
    refine ⟨fun h => (by rw [h] at hr; cases hr), fun j hj => ?_⟩
    by_cases hji : j = i
    · subst hji; exact hy.wpOp hi hS ⟨fun _ => ⟨hS, H⟩, fun e => absurd e hit⟩
    · have := ready_mono hj hji
      rw [H.1] at this
      cases this
  | succ fuel ih =>
    intro listed a w hsh hfree hr hy hS H
    refine ⟨fun h => (by rw [h] at hr; cases hr), fun j hj => ?_⟩
    by_cases hji : j = i
    · subst hji; exact hy.wpOp hi hS ⟨fun _ => ⟨hS, H⟩, fun e => absurd e hit⟩
    · have h1 := H.2 j (ready_mono hj hji)
      obtain ⟨hjun, oj, hoj, hall⟩ := mem_ready.1 hj
      have hnot : ∀ e ∈ oj.after, Region.binds md e = true → e.on ≠ i := fun e he hb heq => by
        have h1 := hall e he hb
        have h0 := (mem_ready.1 hr).1
        rw [heq] at h1
        rcases Nat.lt_or_ge i listed.size with h' | h'
        · simp [h'] at h0 h1; rw [h0] at h1; cases h1
        · simp [Array.getElem?_eq_none h'] at h1
      have hjt : j ≠ t := by
        rintro rfl
        exact up_not hsh hup (mem_ready.1 hr).1 hj
      have h2 := wpOp_putIf hoj (hfree j oj hoj hji hjun hnot) (fun cs b => hsel i oi cs b hi) (fun cs b => hsel j oj cs b hoj) hQ hy h1
      have hfree' : ∀ k ok, ops[k]? = some ok → k ≠ i → (listed.setIfInBounds j true).getD k true = false →
          (∀ e ∈ ok.after, Region.binds md e = true → e.on ≠ i) → oi.apart ops ok = true := fun k ok hk hki hun hno => by
        refine hfree k ok hk hki ?_ hno
        by_cases hjk : j = k
        · subst hjk; exact hjun
        · rw [getD_set_ne true hjk] at hun; exact hun
      refine wpOp_mono (fun a' w' h3 => ⟨fun _ => ⟨(h3.2.1 hjt).1, ih (listed.setIfInBounds j true) a' w' (shut_step hsh hj) hfree' (ready_mono hr (Ne.symm hji)) h3.1 (h3.2.1 hjt).1 ?_⟩, fun e => absurd e hjt⟩) h2
      rw [Array.setIfInBounds_comm _ _ hji]
      exact (h3.2.1 hjt).2
def planSB (md : Region.Mode) (ops : Array Oper) (t f : Nat) (k : Array Bool → Bool) : List (Bool × Nat) → Array Bool → Bool
  | [], listed => decide (Region.ready md ops listed = [t]) && k (listed.setIfInBounds t true)
  | (true, i) :: r, listed => (Region.ready md ops listed).contains i && Region.free md ops listed i && upB md ops f t i && decide (i ≠ t) && planSB md ops t f k r (listed.setIfInBounds i true)
  | (false, i) :: r, listed => decide (Region.ready md ops listed = [i]) && decide (i ≠ t) && planSB md ops t f k r (listed.setIfInBounds i true)
def wpPlanS (P : Program) (ops : Array Oper) (Q : Exit → Act → World → Prop) (S S' : World → Prop) (t : Nat) (rest : List (Bool × Nat)) : List (Bool × Nat) → Act → World → Prop
  | [], a, w => wpOp P ops Q t (fun a' w' => S' w' ∧ wpPlan P ops Q S' rest a' w') a w
  | (true, i) :: r, a, w => ∃ o v, ops[i]? = some o ∧ YieldsIf P ops S o v a ∧ wpPlanS P ops Q S S' t rest r (a.put o.dst v) w
  | (false, i) :: r, a, w => wpOp P ops Q i (fun a' w' => S w' ∧ wpPlanS P ops Q S S' t rest r a' w') a w
theorem wpAnyS_plan {f : Nat} {rest : List (Bool × Nat)} (hsel : Region.noSelect ops = true) (hQ : ∀ c a d v w, Q (.panic c) (Act.put a d v) w → Q (.panic c) a w) : ∀ (l : List (Bool × Nat)) (listed : Array Bool) (a : Act) (w : World), Shut md ops listed → S w → planSB md ops t f (planB md ops rest) l listed = true → wpPlanS P ops Q S S' t rest l a w → wpAnyS P md ops Q S S' t (l.length + 1 + rest.length) listed a w
  | [], listed, a, w, _, hS, hB, h => by
    simp only [planSB, Bool.and_eq_true, decide_eq_true_eq] at hB
    rw [show ([] : List (Bool × Nat)).length + 1 + rest.length = rest.length + 1 by simp; omega]
    refine ⟨fun h0 => (by rw [hB.1] at h0; cases h0), fun j hj => ?_⟩
    rw [hB.1] at hj
    obtain rfl : j = t := by simpa using hj
    exact wpOp_mono (fun a' w' h' => ⟨fun e => absurd rfl e, fun _ => ⟨h'.1, wpAnyH_plan hsel hQ rest _ a' w' h'.1 hB.2 h'.2⟩⟩) h
  | (true, i) :: r, listed, a, w, hsh, hS, hB, h => by
    simp only [planSB, Bool.and_eq_true, decide_eq_true_eq] at hB
    obtain ⟨o, v, h0, hy, h⟩ := h
    rw [show ((true, i) :: r).length + 1 + rest.length = (r.length + 1 + rest.length) + 1 by simp; omega]
    have hr : i ∈ Region.ready md ops listed := by simpa using hB.1.1.1.1
    exact wpAnyS_first h0 (Region.noSelect_spec hsel) (fun c a w => hQ c a _ _ w) hB.1.2 hB.1.1.2 _ listed a w hsh (Region.free_spec h0 hB.1.1.1.2) hr hy hS (wpAnyS_plan hsel hQ r _ _ w (shut_step hsh hr) hS hB.2 h)
  | (false, i) :: r, listed, a, w, hsh, hS, hB, h => by
    simp only [planSB, Bool.and_eq_true, decide_eq_true_eq] at hB
    rw [show ((false, i) :: r).length + 1 + rest.length = (r.length + 1 + rest.length) + 1 by simp; omega]
    refine ⟨fun h0 => (by rw [hB.1.1] at h0; cases h0), fun j hj => ?_⟩
    have hr := hj
    rw [hB.1.1] at hj
    obtain rfl : j = i := by simpa using hj
    exact wpOp_mono (fun a' w' h' => ⟨fun _ => ⟨h'.1, wpAnyS_plan hsel hQ r _ a' w' (shut_step hsh hr) h'.1 hB.2 h'.2⟩, fun e => absurd e hB.1.2⟩) h
theorem planS_abs {id : Nat} {a : Act} {l : List Oper} (S S' : World → Prop) (t f : Nat) (pre rest : List (Bool × Nat)) (hm : P.follows .mixedOrders = true)
    (hB : (Region.noSelect l.toArray && planSB .any l.toArray t f (planB .any l.toArray rest) pre (Array.replicate l.toArray.size false) && decide (pre.length + 1 + rest.length = l.toArray.size)) = true)
    (hQ : ∀ c a d v w, Q (.panic c) (Act.put a d v) w → Q (.panic c) a w)
    (h : ∀ w2, Same w w2 → S w2 ∧ wpPlanS P l.toArray Q S S' t rest pre a w2) : (Code.region id l.toArray true).wp P Q a w := by
  simp only [Bool.and_eq_true, decide_eq_true_eq] at hB
  obtain ⟨⟨hsel, hp⟩, hn⟩ := hB
  obtain ⟨hS, h⟩ := h { w with drawn := w.drawn + 1 } ⟨rfl, rfl, rfl, rfl⟩
  have key := wpAnyS_plan (S := S) (S' := S') (t := t) hsel hQ pre _ a _ (shut_start _) hS hp h
  rw [hn] at key
  exact wp_region_any hm (wpAny_of_S _ _ _ _ key)
theorem ps_run {i : Nat} {rest r : List (Bool × Nat)} {a : Act} {w : World} (o : Oper) (v : Value) (ho : ops[i]? = some o) (hg : Region.wanted o (yielded ops a.tmps) = true) (h : ∀ w, S w → (execOp a.eval o).run P w = .ok (.value v) w) (hK : wpPlanS P ops Q S S' t rest r (a.put o.dst v) w) : wpPlanS P ops Q S S' t rest ((true, i) :: r) a w := ⟨o, v, ho, .inl ⟨hg, h⟩, hK⟩
/-- a call ahead of the turn -/
theorem ps_call {i : Nat} {rest r : List (Bool × Nat)} {a : Act} {w : World} {f : FuncId} {args : Array Value} {R : Value → World → Prop} (o : Oper) (ho : ops[i]? = some o) (hg : Region.wanted o (yielded ops a.tmps) = true) (h : (execOp a.eval o).run P w = .ok (.enter f args) w)
    (hc : Calls P f args w fun e w' => ∃ v, e = .returned v ∧ R v w') (hR : ∀ v w', R v w' → S w') (hK : ∀ v w', R v w' → wpPlanS P ops Q S S' t rest r (a.put o.dst v) w') : wpPlanS P ops Q S S' t rest ((false, i) :: r) a w := by
  show wpOp P ops Q i _ a w
  unfold wpOp; simp only [ho, hg, if_true]
  left; unfold Oper.wp; rw [h]
  exact hc.mono fun e w' ⟨v, he, hRR⟩ => by subst he; exact ⟨hR v w' hRR, hK v w' hRR⟩
/-- the call that turns what is read behind it -/
theorem ps_turn {rest : List (Bool × Nat)} {a : Act} {w : World} {f : FuncId} {args : Array Value} {R : Value → World → Prop} (o : Oper) (ho : ops[t]? = some o) (hg : Region.wanted o (yielded ops a.tmps) = true) (h : (execOp a.eval o).run P w = .ok (.enter f args) w)
    (hc : Calls P f args w fun e w' => ∃ v, e = .returned v ∧ R v w') (hR : ∀ v w', R v w' → S' w') (hK : ∀ v w', R v w' → wpPlan P ops Q S' rest (a.put o.dst v) w') : wpPlanS P ops Q S S' t rest [] a w := by
  show wpOp P ops Q t _ a w
  unfold wpOp; simp only [ho, hg, if_true]
  left; unfold Oper.wp; rw [h]
  exact hc.mono fun e w' ⟨v, he, hRR⟩ => by subst he; exact ⟨hR v w' hRR, hK v w' hRR⟩
end
end BB
end
section
open Go Go.RowKit
namespace BB
section
variable {P : Program} {ops : Array Oper} {md : Region.Mode} {w : World} {S : World → Prop} {Q : Exit → Act → World → Prop}
theorem wpAnyH_mono {S S' : World → Prop} (h : ∀ w, S' w → S w) : ∀ (fuel : Nat) (listed : Array Bool) (a : Act) (w : World), wpAnyH P md ops Q S' fuel listed a w → wpAnyH P md ops Q S fuel listed a w
  | 0, _, _, _, k => k
  | fuel + 1, _, _, _, k => ⟨k.1, fun i hi => wpOp_mono (fun a' w' hk => ⟨h _ hk.1, wpAnyH_mono h fuel _ a' w' hk.2⟩) (k.2 i hi)⟩
end
end BB
end
section
open Go Go.RowKit
namespace BB
section
variable {P : Program} {ops : Array Oper} {md : Region.Mode} {w : World} {S : World → Prop} {Q : Exit → Act → World → Prop}
def wpPlanN (P : Program) (ops : Array Oper) (Q : Exit → Act → World → Prop) : List (Bool × Nat) → (World → Prop) → Act → World → Prop
  | [], _, a, w => Q .normal a w
  | (true, i) :: r, S, a, w => ∃ o v, ops[i]? = some o ∧ YieldsIf P ops S o v a ∧ wpPlanN P ops Q r S (a.put o.dst v) w
  | (false, i) :: r, S, a, w => wpOp P ops Q i (fun a' w' => ∃ S' : World → Prop, (∀ w, S' w → S w) ∧ S' w' ∧ wpPlanN P ops Q r S' a' w') a w
theorem wpAnyH_planN (hsel : Region.noSelect ops = true) (hQ : ∀ c a d v w, Q (.panic c) (Act.put a d v) w → Q (.panic c) a w) : ∀ (l : List (Bool × Nat)) (S : World → Prop) (listed : Array Bool) (a : Act) (w : World), S w → planB md ops l listed = true → wpPlanN P ops Q l S a w → wpAnyH P md ops Q S l.length listed a w
  | [], _, listed, a, w, _, hB, h => wpAnyH_done (by simpa [planB] using hB) h _
  | (true, i) :: r, S, listed, a, w, hS, hB, h => by
    simp only [planB, Bool.and_eq_true] at hB
    obtain ⟨o, v, h0, hy, h⟩ := h
    exact wpAnyH_take h0 hsel hB.1.2 hB.1.1 (fun c a w => hQ c a _ _ w) hy hS (wpAnyH_planN hsel hQ r S _ _ w hS hB.2 h)
  | (false, i) :: r, S, listed, a, w, hS, hB, h => by
    simp only [planB, Bool.and_eq_true, decide_eq_true_eq] at hB
    refine wpAnyH_all hB.1 (by simp) fun j hj => ?_
    obtain rfl : j = i := by simpa using hj
    exact wpOp_mono (fun a' w' ⟨S', h1, h2, h3⟩ => ⟨h1 _ h2, wpAnyH_mono h1 _ _ _ _ (wpAnyH_planN hsel hQ r S' _ a' w' h2 hB.2 h3)⟩) h
theorem planN_abs {id : Nat} {a : Act} {l : List Oper} (S : World → Prop) (plan : List (Bool × Nat)) (hm : P.follows .mixedOrders = true)
    (hB : (Region.noSelect l.toArray && planB .any l.toArray plan (Array.replicate l.toArray.size false) && decide (plan.length = l.toArray.size)) = true)
    (hQ : ∀ c a d v w, Q (.panic c) (Act.put a d v) w → Q (.panic c) a w)
    (h : ∀ w2, Same w w2 → S w2 ∧ wpPlanN P l.toArray Q plan S a w2) : (Code.region id l.toArray true).wp P Q a w := by
  simp only [Bool.and_eq_true, decide_eq_true_eq] at hB
  obtain ⟨⟨hsel, hp⟩, hn⟩ := hB
  obtain ⟨hS, h⟩ := h { w with drawn := w.drawn + 1 } ⟨rfl, rfl, rfl, rfl⟩
  have key := wpAnyH_planN hsel hQ plan S _ a _ hS hp h
  rw [hn] at key
  exact wp_region_held hm key
theorem pn_end {a : Act} {w : World} (h : Q .normal a w) : wpPlanN P ops Q [] S a w := h
theorem pn_run {i : Nat} {r : List (Bool × Nat)} {a : Act} {w : World} (o : Oper) (v : Value) (ho : ops[i]? = some o) (hg : Region.wanted o (yielded ops a.tmps) = true) (h : ∀ w, S w → (execOp a.eval o).run P w = .ok (.value v) w) (hK : wpPlanN P ops Q r S (a.put o.dst v) w) : wpPlanN P ops Q ((true, i) :: r) S a w := ⟨o, v, ho, .inl ⟨hg, h⟩, hK⟩
/-- a call, behind which S' is held, too -/
theorem pn_call {i : Nat} {r : List (Bool × Nat)} {a : Act} {w : World} {f : FuncId} {args : Array Value} {R : Value → World → Prop} (o : Oper) (ho : ops[i]? = some o) (hg : Region.wanted o (yielded ops a.tmps) = true) (h : (execOp a.eval o).run P w = .ok (.enter f args) w)
    (hc : Calls P f args w fun e w' => ∃ v, e = .returned v ∧ R v w') (hK : ∀ v w', R v w' → ∃ S' : World → Prop, (∀ w, S' w → S w) ∧ S' w' ∧ wpPlanN P ops Q r S' (a.put o.dst v) w') : wpPlanN P ops Q ((false, i) :: r) S a w := by
  show wpOp P ops Q i _ a w
  unfold wpOp; simp only [ho, hg, if_true]
  left; unfold Oper.wp; rw [h]
  exact hc.mono fun e w' ⟨v, he, hRR⟩ => by subst he; exact hK v w' hRR
/-- a value, and a new world -/
theorem pn_value {i : Nat} {r : List (Bool × Nat)} {a : Act} {w w' : World} (o : Oper) (v : Value) (ho : ops[i]? = some o) (hg : Region.wanted o (yielded ops a.tmps) = true) (h : (execOp a.eval o).run P w = .ok (.value v) w') (S' : World → Prop) (hS : ∀ w, S' w → S w) (hS' : S' w') (hK : wpPlanN P ops Q r S' (a.put o.dst v) w') : wpPlanN P ops Q ((false, i) :: r) S a w := by
  show wpOp P ops Q i _ a w
  unfold wpOp; simp only [ho, hg, if_true]
  left; unfold Oper.wp; rw [h]; exact ⟨S', hS, hS', hK⟩
end
end BB
end
