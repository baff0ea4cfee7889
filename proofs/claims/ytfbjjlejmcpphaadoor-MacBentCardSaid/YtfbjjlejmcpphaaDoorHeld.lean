/-
  A region that draws its order, in which reads stand beside a call that makes memory and the making of a new variable, into which the call's result is stored.
-/
import Derived.Test.YtfbjjlejmcpphaaDoorOrd
import Derived.OrdersHeld
open Go Go.RowKit
namespace BB
section
variable {P : Program} {ops : Array Oper} {md : Region.Mode} {w : World} {S : World → Prop} {Q : Exit → Act → World → Prop}
def wpHeld (P : Program) (ops : Array Oper) (S : World → Prop) (K : Act → Prop) : List Oper → Act → Prop
  | [], a => K a
  | o :: r, a => ∃ v, YieldsIf P ops S o v a ∧ wpHeld P ops S K r (a.put o.dst v)
theorem held_step {K : Act → Prop} {o : Oper} {rest : List Oper} {a : Act} (v : Value) (hg : o.guard = none) (h : ∀ w, S w → (execOp a.eval o).run P w = .ok (.value v) w)
    (hK : wpHeld P ops S K rest (a.put o.dst v)) : wpHeld P ops S K (o :: rest) a := ⟨v, .inl ⟨by simp [Region.wanted, hg], h⟩, hK⟩
theorem wpAnyH_of_held {K : Act → Prop} {k : Array Bool → Bool} {g : Nat} (hsel : Region.noSelect ops = true) (hQ : ∀ c a d v w, Q (.panic c) (Act.put a d v) w → Q (.panic c) a w) (hS : S w)
    (hK : ∀ listed a, k listed = true → K a → wpAnyH P md ops Q S g listed a w) : ∀ (l : List Nat) (listed : Array Bool) (a : Act), preB md ops k l listed = true → wpHeld P ops S K (pick ops l) a →
    wpAnyH P md ops Q S (l.length + g) listed a w
  | [], listed, a, hB, h => by simpa using hK listed a hB h
  | i :: l, listed, a, hB, h => by
    simp only [preB, Bool.and_eq_true] at hB
    obtain ⟨⟨hr, hf⟩, hB'⟩ := hB
    obtain ⟨_, o, h0, _⟩ := mem_ready.1 (show i ∈ Region.ready md ops listed by simpa using hr)
    rw [pick_cons h0] at h
    obtain ⟨v, hy, h⟩ := h
    rw [show (i :: l).length + g = (l.length + g) + 1 by simp; omega]
    exact wpAnyH_take h0 hsel hf hr (fun c a w => hQ c a _ _ w) hy hS (wpAnyH_of_held hsel hQ hS hK l _ _ hB' h)
/-- the tail's orders: c or n first, the other one, then t -/
def twoB (md : Region.Mode) (ops : Array Oper) (c n t : Nat) (listed : Array Bool) : Bool :=
  decide (Region.ready md ops listed = [c, n]) && decide (Region.ready md ops (listed.setIfInBounds c true) = [n]) && decide (Region.ready md ops (listed.setIfInBounds n true) = [c]) &&
  decide (Region.ready md ops ((listed.setIfInBounds c true).setIfInBounds n true) = [t]) && decide (Region.ready md ops ((listed.setIfInBounds n true).setIfInBounds c true) = [t]) &&
  decide (Region.ready md ops (((listed.setIfInBounds c true).setIfInBounds n true).setIfInBounds t true) = []) && decide (Region.ready md ops (((listed.setIfInBounds n true).setIfInBounds c true).setIfInBounds t true) = [])
theorem op_value {i : Nat} {o : Oper} {v : Value} {a : Act} {w w' : World} {K : Act → World → Prop} (ho : ops[i]? = some o) (hg : o.guard = none) (h : (execOp a.eval o).run P w = .ok (.value v) w') (hK : K (a.put o.dst v) w') : wpOp P ops Q i K a w := by
  unfold wpOp; simp only [ho, Region.wanted, hg, if_true]
  left; unfold Oper.wp; rw [h]; exact hK
theorem op_skip {i : Nat} {o : Oper} {a : Act} {w w' : World} {K : Act → World → Prop} (ho : ops[i]? = some o) (hg : o.guard = none) (h : (execOp a.eval o).run P w = .ok .skip w') (hK : K (a.put o.dst undef) w') : wpOp P ops Q i K a w := by
  unfold wpOp; simp only [ho, Region.wanted, hg, if_true]
  left; unfold Oper.wp; rw [h]; exact hK
theorem op_call {i f : Nat} {args : Array Value} {o : Oper} {v : Value} {a : Act} {w : World} {K : Act → World → Prop} {R : World → Prop} (ho : ops[i]? = some o) (hg : o.guard = none) (h : (execOp a.eval o).run P w = .ok (.enter f args) w)
    (hc : Calls P f args w fun e w' => e = .returned v ∧ R w') (hK : ∀ w', R w' → K (a.put o.dst v) w') : wpOp P ops Q i K a w := by
  unfold wpOp; simp only [ho, Region.wanted, hg, if_true]
  left; unfold Oper.wp; rw [h]
  exact hc.mono fun e w' ⟨he, hR⟩ => by subst he; exact hK w' hR
theorem call_alloc {id : Nat} {a a1 : Act} {l : List Oper} (hd : List Nat) (c n t : Nat) (oc on ot : Oper) (f m : Nat) (args : Array Value) (g : Nat → Value) (z : Array Value) (T TA dc dn : Nat) (hm : P.follows .mixedOrders = true)
    (hB : (Region.noSelect l.toArray && preB .any l.toArray (twoB .any l.toArray c n t) hd (Array.replicate l.toArray.size false) && decide (hd.length + 3 = l.toArray.size)) = true)
    (hQ : ∀ c a d v w, Q (.panic c) (Act.put a d v) w → Q (.panic c) a w)
    (hoc : l.toArray[c]? = some oc) (hon : l.toArray[n]? = some on) (hot : l.toArray[t]? = some ot) (hgc : oc.guard = none) (hgn : on.guard = none) (hgt : ot.guard = none)
    (hdc : oc.dst = some dc) (hdn : on.dst = some dn) (hdt : ot.dst = none) (hne : dc ≠ dn)
    (hread : ∀ w2, Same w w2 → wpHeld P l.toArray (fun w' => Below w2.heap.size w2 w') (fun a' => a' = a1) (pick l.toArray hd) a)
    (hc1 : ∀ w', (execOp a1.eval oc).run P w' = .ok (.enter f args) w') (hc2 : ∀ p w', (execOp (a1.put (some dn) p).eval oc).run P w' = .ok (.enter f args) w')
    (hcall : ∀ w2 w', Same w w2 → Below w2.heap.size w2 w' → Calls P f args w' fun e w'' => e = .returned (.agg (row m g)) ∧ Below w'.heap.size w' w'')
    (hno : on.op = .alloc TA) (hal : ∀ w' : World, (Instr.alloc TA true (.tuple #[])).run P w' = .ok (.pointer (some ⟨w'.heap.size, 0, none⟩)) (w'.alloc (.cells z T))) (hz : ∃ z', z = row m z')
    (ht : ∀ (p : Nat), ((a1.put (some dc) (.agg (row m g))).put (some dn) (.pointer (some ⟨p, 0, none⟩))).eval (.tmp dn) = .pointer (some ⟨p, 0, none⟩) ∧ ((a1.put (some dc) (.agg (row m g))).put (some dn) (.pointer (some ⟨p, 0, none⟩))).eval (.tmp dc) = .agg (row m g))
    (hto : ot.op = .store T (.tmp dn) (.tmp dc)) (hST : ∀ w', (Go.sizeOf T).run P w' = .ok m w') (hg1 : ∀ i, i < m → (g i).oneCell' = true)
    (hK : ∀ (p : Nat) (w' : World), Below w.heap.size w w' → w.heap.size ≤ p → Blk w' p m g → Q .normal ((a1.put (some dc) (.agg (row m g))).put (some dn) (.pointer (some ⟨p, 0, none⟩))) w') :
    (Code.region id l.toArray true).wp P Q a w := by
  simp only [Bool.and_eq_true, decide_eq_true_eq] at hB
  obtain ⟨⟨hsel, hp⟩, hsz⟩ := hB
  obtain ⟨z', rfl⟩ := hz
  have hn : ∀ (a : Act) (w' : World), (execOp a.eval on).run P w' = .ok (.value (.pointer (some ⟨w'.heap.size, 0, none⟩))) (w'.alloc (.cells (row m z') T)) := fun a w' => by
    unfold execOp; simp only [hno, Sem.run_bind, hal, Result.andThen_ok, Sem.run_pure]
  have w2s : Same w { w with drawn := w.drawn + 1 } := ⟨rfl, rfl, rfl, rfl⟩
  refine wp_region_held (S := fun w' => Below w.heap.size { w with drawn := w.drawn + 1 } w') hm ?_
  have fin : ∀ (p : Nat) (w' : World) (listed : Array Bool), Below w.heap.size { w with drawn := w.drawn + 1 } w' → w.heap.size ≤ p → Blk w' p m z' → Region.ready .any l.toArray listed = [t] → Region.ready .any l.toArray (listed.setIfInBounds t true) = [] →
      wpAnyH P .any l.toArray Q (fun w' => Below w.heap.size { w with drawn := w.drawn + 1 } w') 1 listed ((a1.put (some dc) (.agg (row m g))).put (some dn) (.pointer (some ⟨p, 0, none⟩))) w' := by
    intro p w' listed hb hpb hblk hr hr'
    refine wpAnyH_all hr (by simp) fun i hi => ?_
    obtain rfl : i = t := by simpa using hi
    obtain ⟨w3, hrun, hms⟩ := run_op_store (a := (a1.put (some dc) (.agg (row m g))).put (some dn) (.pointer (some ⟨p, 0, none⟩))) (o := ot) (P := P) (w := w') hto (ht p).1 (ht p).2 (hST _) hblk (by omega) hg1
    refine op_skip hot hgt hrun ?_
    have hb3 : Below w.heap.size { w with drawn := w.drawn + 1 } w3 := hb.trans (hms.2.below hpb)
    refine ⟨hb3, wpAnyH_done hr' ?_ _⟩
    rw [hdt]
    exact hK p w3 ((w2s.below _).trans hb3) hpb (hms.1.congr _ fun i hi => by simp [hi])
  have key := wpAnyH_of_held (Q := Q) (S := fun w' => Below w.heap.size { w with drawn := w.drawn + 1 } w') (w := { w with drawn := w.drawn + 1 }) (k := twoB .any l.toArray c n t) (K := fun a' => a' = a1) (g := 3) hsel hQ (Below.refl _ _)
    (fun listed a' hk ha' => ?_) hd (Array.replicate l.toArray.size false) a hp (hread _ w2s)
  · rw [hsz] at key; exact key
  subst ha'
  simp only [twoB, Bool.and_eq_true, decide_eq_true_eq] at hk
  obtain ⟨⟨⟨⟨⟨⟨r0, r1⟩, r2⟩, r3⟩, r4⟩, r5⟩, r6⟩ := hk
  refine wpAnyH_all r0 (by simp) fun i hi => ?_
  rcases List.mem_cons.1 hi with rfl | hi
  · refine op_call hoc hgc (hc1 _) (hcall _ _ w2s (Below.refl _ _)) fun w3 hb3 => ?_
    have hb3' : Below w.heap.size { w with drawn := w.drawn + 1 } w3 := hb3
    refine ⟨hb3', wpAnyH_all r1 (by simp) fun j hj => ?_⟩
    obtain rfl : j = n := by simpa using hj
    refine op_value hon hgn (hn _ _) ?_
    have hb4 : Below w.heap.size { w with drawn := w.drawn + 1 } (w3.alloc (.cells (row m z') T)) := hb3'.alloc hb3'.size _
    refine ⟨hb4, ?_⟩
    rw [hdc, hdn]
    exact fin _ _ _ hb4 hb3'.size (Blk.new _ _ _ _ _ rfl) r3 r5
  · obtain rfl : i = n := by simpa using hi
    refine op_value hon hgn (hn _ _) ?_
    have hb3 : Below w.heap.size { w with drawn := w.drawn + 1 } (({ w with drawn := w.drawn + 1 } : World).alloc (.cells (row m z') T)) := (Below.refl w.heap.size { w with drawn := w.drawn + 1 }).alloc (Nat.le_refl w.heap.size) _
    refine ⟨hb3, wpAnyH_all r2 (by simp) fun j hj => ?_⟩
    obtain rfl : j = c := by simpa using hj
    rw [hdn]
    refine op_call hoc hgc (hc2 _ _) (hcall _ _ w2s hb3) fun w4 hb4 => ?_
    have hb4' : Below w.heap.size { w with drawn := w.drawn + 1 } w4 := hb3.trans (hb4.mono (by simp))
    refine ⟨hb4', ?_⟩
    rw [hdc, Act.put_comm _ _ _ (by simpa using hne)]
    refine fin _ _ _ hb4' (Nat.le_refl _) ?_ r4 r6
    have hnew : Blk (({ w with drawn := w.drawn + 1 } : World).alloc (.cells (row m z') T)) w.heap.size m z' := Blk.new { w with drawn := w.drawn + 1 } _ _ _ _ rfl
    exact hnew.below hb4 (by simp)
end
end BB
