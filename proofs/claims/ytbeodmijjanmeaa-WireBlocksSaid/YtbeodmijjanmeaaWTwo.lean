/-
  A region that draws its order: reads, then two new variables, and what was read is stored into them. No program is named here.
-/
import Derived.Test.YtbeodmijjanmeaaWOne
import Derived.Test.YtbeodmijjanmeaaHeld
import Derived.Test.YtbeodmijjanmeaaWMem
import Derived.OrdersHeld
open Go Go.RowKit
namespace BB
section
variable {P : Program} {ops : Array Oper} {md : Region.Mode} {w : World} {S : World → Prop} {Q : Exit → Act → World → Prop}
/-- n1 and n2 in either order, then t1, then t2 -/
def twoN (md : Region.Mode) (ops : Array Oper) (n1 n2 t1 t2 : Nat) (li : Array Bool) : Bool :=
  let a := li.setIfInBounds n1 true
  let b := li.setIfInBounds n2 true
  let ab := a.setIfInBounds n2 true
  let ba := b.setIfInBounds n1 true
  decide (Region.ready md ops li = [n1, n2]) && decide (Region.ready md ops a = [n2]) && decide (Region.ready md ops b = [n1]) &&
  decide (Region.ready md ops ab = [t1]) && decide (Region.ready md ops ba = [t1]) &&
  decide (Region.ready md ops (ab.setIfInBounds t1 true) = [t2]) && decide (Region.ready md ops (ba.setIfInBounds t1 true) = [t2]) &&
  decide (Region.ready md ops ((ab.setIfInBounds t1 true).setIfInBounds t2 true) = []) && decide (Region.ready md ops ((ba.setIfInBounds t1 true).setIfInBounds t2 true) = [])
theorem two_new {id : Nat} {a a1 : Act} {l : List Oper} (hd : List Nat) (n1 n2 t1 t2 : Nat) (o1 o2 s1 s2 : Oper) (m : Nat) (g1 g2 z : Nat → Value) (cs : Array Value) (T TA d1 d2 x1 x2 : Nat) (hm : P.follows .mixedOrders = true)
    (hB : (Region.noSelect l.toArray && preB .any l.toArray (twoN .any l.toArray n1 n2 t1 t2) hd (Array.replicate l.toArray.size false) && decide (hd.length + 4 = l.toArray.size)) = true)
    (hQ : ∀ c a d v w, Q (.panic c) (Act.put a d v) w → Q (.panic c) a w)
    (ho1 : l.toArray[n1]? = some o1) (ho2 : l.toArray[n2]? = some o2) (hs1 : l.toArray[t1]? = some s1) (hs2 : l.toArray[t2]? = some s2)
    (hg : o1.guard = none ∧ o2.guard = none ∧ s1.guard = none ∧ s2.guard = none) (hd1 : o1.dst = some d1) (hd2 : o2.dst = some d2) (he1 : s1.dst = none) (he2 : s2.dst = none) (hne : d1 ≠ d2)
    (hread : wpHeldG P l.toArray (fun w' => Below w.heap.size w w') (fun a' => a' = a1) (pick l.toArray hd) a)
    (hno1 : o1.op = .alloc TA) (hno2 : o2.op = .alloc TA) (hal : ∀ w' : World, (Instr.alloc TA true (.tuple #[])).run P w' = .ok (.pointer (some ⟨w'.heap.size, 0, none⟩)) (w'.alloc (.cells cs T))) (hz : cs = row m z)
    (ht1 : ∀ p q, ((a1.put (some d1) p).put (some d2) q).eval (.tmp d1) = p ∧ ((a1.put (some d1) p).put (some d2) q).eval (.tmp d2) = q ∧ ((a1.put (some d1) p).put (some d2) q).eval (.tmp x1) = .agg (row m g1) ∧ ((a1.put (some d1) p).put (some d2) q).eval (.tmp x2) = .agg (row m g2))
    (hto1 : s1.op = .store T (.tmp d1) (.tmp x1)) (hto2 : s2.op = .store T (.tmp d2) (.tmp x2)) (hST : ∀ w', (Go.sizeOf T).run P w' = .ok m w') (hc1 : ∀ i, i < m → (g1 i).oneCell' = true) (hc2 : ∀ i, i < m → (g2 i).oneCell' = true)
    (hK : ∀ (p q : Nat) (w' : World), Below w.heap.size w w' → w.heap.size ≤ p → w.heap.size ≤ q → Blk w' p m g1 → Blk w' q m g2 → Q .normal ((a1.put (some d1) (.pointer (some ⟨p, 0, none⟩))).put (some d2) (.pointer (some ⟨q, 0, none⟩))) w') :
    (Code.region id l.toArray true).wp P Q a w := by
  simp only [Bool.and_eq_true, decide_eq_true_eq] at hB
  obtain ⟨⟨hsel, hp⟩, hsz⟩ := hB
  obtain ⟨hg1, hg2, hg3, hg4⟩ := hg
  subst hz
  have hn : ∀ (o : Oper), o.op = .alloc TA → ∀ (a : Act) (w' : World), (execOp a.eval o).run P w' = .ok (.value (.pointer (some ⟨w'.heap.size, 0, none⟩))) (w'.alloc (.cells (row m z) T)) := fun o hno a w' => by
    unfold execOp; simp only [hno, Sem.run_bind, hal, Result.andThen_ok, Sem.run_pure]
  have hS0 : Below w.heap.size w { w with drawn := w.drawn + 1 } := (show Same w { w with drawn := w.drawn + 1 } from ⟨rfl, rfl, rfl, rfl⟩).below _
  refine wp_region_held (S := fun w' => Below w.heap.size w w') hm ?_
  -- the two stores
  have fin : ∀ (p q : Nat) (w' : World) (li : Array Bool), Below w.heap.size w w' → w.heap.size ≤ p → w.heap.size ≤ q → p ≠ q → Blk w' p m z → Blk w' q m z → Region.ready .any l.toArray li = [t1] → Region.ready .any l.toArray (li.setIfInBounds t1 true) = [t2] → Region.ready .any l.toArray ((li.setIfInBounds t1 true).setIfInBounds t2 true) = [] →
      wpAnyH P .any l.toArray Q (fun w' => Below w.heap.size w w') 2 li ((a1.put (some d1) (.pointer (some ⟨p, 0, none⟩))).put (some d2) (.pointer (some ⟨q, 0, none⟩))) w' := by
    intro p q w' li hb hpb hqb hpq hbp hbq r0 r1 r2
    obtain ⟨e1, e2, e3, e4⟩ := ht1 (.pointer (some ⟨p, 0, none⟩)) (.pointer (some ⟨q, 0, none⟩))
    refine wpAnyH_all r0 (by simp) fun i hi => ?_
    obtain rfl : i = t1 := by simpa using hi
    obtain ⟨w3, hrun, hms⟩ := run_op_store (a := (a1.put (some d1) (.pointer (some ⟨p, 0, none⟩))).put (some d2) (.pointer (some ⟨q, 0, none⟩))) (o := s1) (P := P) (w := w') hto1 e1 e3 (hST _) hbp (by omega) hc1
    refine op_skip hs1 hg3 hrun ?_
    have hb3 : Below w.heap.size w w3 := hb.trans (hms.2.below hpb)
    refine ⟨hb3, ?_⟩
    rw [he1]
    have hbp3 : Blk w3 p m g1 := hms.1.congr _ fun i hi => by simp [hi]
    have hbq3 : Blk w3 q m z := hbq.keep hms.2.keep (fun h => hpq h.symm)
    refine wpAnyH_all r1 (by simp) fun i hi => ?_
    obtain rfl : i = t2 := by simpa using hi
    obtain ⟨w4, hrun4, hms4⟩ := run_op_store (a := (a1.put (some d1) (.pointer (some ⟨p, 0, none⟩))).put (some d2) (.pointer (some ⟨q, 0, none⟩))) (o := s2) (P := P) (w := w3) hto2 e2 e4 (hST _) hbq3 (by omega) hc2
    refine op_skip hs2 hg4 hrun4 ?_
    have hb4 : Below w.heap.size w w4 := hb3.trans (hms4.2.below hqb)
    refine ⟨hb4, wpAnyH_done r2 ?_ _⟩
    rw [he2]
    exact hK p q w4 hb4 hpb hqb (hbp3.keep hms4.2.keep hpq) (hms4.1.congr _ fun i hi => by simp [hi])
  have key := wpAnyH_of_heldg (Q := Q) (S := fun w' => Below w.heap.size w w') (w := { w with drawn := w.drawn + 1 }) (k := twoN .any l.toArray n1 n2 t1 t2) (K := fun a' => a' = a1) (g := 4) hsel hQ hS0
    (fun li a' hk ha' => ?_) hd (Array.replicate l.toArray.size false) a hp hread
  · rw [hsz] at key; exact key
  subst ha'
  simp only [twoN, Bool.and_eq_true, decide_eq_true_eq] at hk
  obtain ⟨⟨⟨⟨⟨⟨⟨⟨r0, r1⟩, r2⟩, r3⟩, r4⟩, r5⟩, r6⟩, r7⟩, r8⟩ := hk
  refine wpAnyH_all r0 (by simp) fun i hi => ?_
  have hsz0 : ({ w with drawn := w.drawn + 1 } : World).heap.size = w.heap.size := rfl
  rcases List.mem_cons.1 hi with rfl | hi
  · refine op_value ho1 hg1 (hn o1 hno1 _ _) ?_
    have hb3 : Below w.heap.size w (({ w with drawn := w.drawn + 1 } : World).alloc (.cells (row m z) T)) := hS0.alloc (Nat.le_refl _) _
    refine ⟨hb3, wpAnyH_all r1 (by simp) fun j hj => ?_⟩
    obtain rfl : j = n2 := by simpa using hj
    refine op_value ho2 hg2 (hn o2 hno2 _ _) ?_
    have hb4 := hb3.alloc hb3.size (.cells (row m z) T)
    refine ⟨hb4, ?_⟩
    rw [hd1, hd2]
    refine fin _ _ _ _ hb4 (Nat.le_refl _) hb3.size ?_ ((Blk.new { w with drawn := w.drawn + 1 } _ _ _ _ rfl).alloc _) (Blk.new _ _ _ _ _ rfl) r3 r5 r7
    simp
  · obtain rfl : i = n2 := by simpa using hi
    refine op_value ho2 hg2 (hn o2 hno2 _ _) ?_
    have hb3 : Below w.heap.size w (({ w with drawn := w.drawn + 1 } : World).alloc (.cells (row m z) T)) := hS0.alloc (Nat.le_refl _) _
    refine ⟨hb3, wpAnyH_all r2 (by simp) fun j hj => ?_⟩
    obtain rfl : j = n1 := by simpa using hj
    refine op_value ho1 hg1 (hn o1 hno1 _ _) ?_
    have hb4 := hb3.alloc hb3.size (.cells (row m z) T)
    refine ⟨hb4, ?_⟩
    rw [hd1, hd2, Act.put_comm _ _ _ (by simpa using hne)]
    refine fin _ _ _ _ hb4 hb3.size (Nat.le_refl _) ?_ (Blk.new _ _ _ _ _ rfl) ((Blk.new { w with drawn := w.drawn + 1 } _ _ _ _ rfl).alloc _) r4 r6 r8
    simp
end
end BB
