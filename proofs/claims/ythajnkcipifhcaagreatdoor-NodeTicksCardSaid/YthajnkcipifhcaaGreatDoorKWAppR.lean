/-
  A region that draws its order: '*to = append(*to, x)' through a pointer. No program is named here.
-/
import Derived.Test.YthajnkcipifhcaaGreatDoorKPlanN
import Derived.Test.YthajnkcipifhcaaGreatDoorKCallsW
import Derived.OrdersHeld
import Derived.Maps.AppendAt
open Go Go.RowKit
namespace BB
section
variable {P : Program} {ops : Array Oper} {md : Region.Mode} {w : World} {Q : Exit → Act → World → Prop}
/-- c3 and c5 in either order, then c6, c7, c8 -/
def appN (md : Region.Mode) (ops : Array Oper) (c3 c5 c6 c7 c8 : Nat) (li : Array Bool) : Bool :=
  let a := li.setIfInBounds c3 true
  let b := li.setIfInBounds c5 true
  let ab := a.setIfInBounds c5 true
  let ba := b.setIfInBounds c3 true
  decide (Region.ready md ops li = [c3, c5]) && decide (Region.ready md ops a = [c5]) && decide (Region.ready md ops b = [c3]) &&
  decide (Region.ready md ops ab = [c6]) && decide (Region.ready md ops ba = [c6]) &&
  decide (Region.ready md ops (ab.setIfInBounds c6 true) = [c7]) && decide (Region.ready md ops (ba.setIfInBounds c6 true) = [c7]) &&
  decide (Region.ready md ops ((ab.setIfInBounds c6 true).setIfInBounds c7 true) = [c8]) && decide (Region.ready md ops ((ba.setIfInBounds c6 true).setIfInBounds c7 true) = [c8]) &&
  decide (Region.ready md ops (((ab.setIfInBounds c6 true).setIfInBounds c7 true).setIfInBounds c8 true) = []) && decide (Region.ready md ops (((ba.setIfInBounds c6 true).setIfInBounds c7 true).setIfInBounds c8 true) = [])
theorem app_region {id : Nat} {a a1 : Act} {l : List Oper} (hd : List Nat) (c3 c5 c6 c7 c8 : Nat) (o3 o5 o6 o7 o8 : Oper) (d3 d5 d6 d7 : Nat) (S : World → Prop) (sv v5 v7 : Value) (ob : Obj) (hm : P.follows .mixedOrders = true)
    (hB : (Region.noSelect l.toArray && preB .any l.toArray (appN .any l.toArray c3 c5 c6 c7 c8) hd (Array.replicate l.toArray.size false) && decide (hd.length + 5 = l.toArray.size)) = true)
    (hQ : ∀ c a d v w, Q (.panic c) (Act.put a d v) w → Q (.panic c) a w)
    (ho3 : l.toArray[c3]? = some o3) (ho5 : l.toArray[c5]? = some o5) (ho6 : l.toArray[c6]? = some o6) (ho7 : l.toArray[c7]? = some o7) (ho8 : l.toArray[c8]? = some o8)
    (hg : o3.guard = none ∧ o5.guard = none ∧ o6.guard = none ∧ o7.guard = none ∧ o8.guard = none) (hd3 : o3.dst = some d3) (hd5 : o5.dst = some d5) (hd6 : o6.dst = some d6) (hd7 : o7.dst = some d7) (hd8 : o8.dst = none) (hne : d3 ≠ d5)
    (hS0 : S { w with drawn := w.drawn + 1 }) (hS5 : S (({ w with drawn := w.drawn + 1 } : World).alloc ob))
    (hread : wpHeldG P l.toArray S (fun a' => a' = a1) (pick l.toArray hd) a)
    (h3 : ∀ a', a' = a1 ∨ a' = a1.put (some d5) v5 → ∀ w', w' = { w with drawn := w.drawn + 1 } ∨ w' = ({ w with drawn := w.drawn + 1 } : World).alloc ob → (execOp a'.eval o3).run P w' = .ok (.value sv) w')
    (h5 : ∀ a', a' = a1 ∨ a' = a1.put (some d3) sv → (execOp a'.eval o5).run P { w with drawn := w.drawn + 1 } = .ok (.value v5) (({ w with drawn := w.drawn + 1 } : World).alloc ob))
    (h6 : ∃ v6 w6, (execOp ((a1.put (some d3) sv).put (some d5) v5).eval o6).run P (({ w with drawn := w.drawn + 1 } : World).alloc ob) = .ok (.value v6) w6 ∧ S w6 ∧
      (execOp (((a1.put (some d3) sv).put (some d5) v5).put (some d6) v6).eval o7).run P w6 = .ok (.value v7) w6 ∧
      ∃ w8, (execOp ((((a1.put (some d3) sv).put (some d5) v5).put (some d6) v6).put (some d7) v7).eval o8).run P w6 = .ok .skip w8 ∧ S w8 ∧ Q .normal ((((a1.put (some d3) sv).put (some d5) v5).put (some d6) v6).put (some d7) v7) w8) :
    (Code.region id l.toArray true).wp P Q a w := by
  simp only [Bool.and_eq_true, decide_eq_true_eq] at hB
  obtain ⟨⟨hsel, hp⟩, hsz⟩ := hB
  obtain ⟨hg3, hg5, hg6, hg7, hg8⟩ := hg
  obtain ⟨v6, w6, hr6, hs6, hr7, w8, hr8, hs8, hK⟩ := h6
  refine wp_region_held (S := S) hm ?_
  have fin : ∀ (li : Array Bool), Region.ready .any l.toArray li = [c6] → Region.ready .any l.toArray (li.setIfInBounds c6 true) = [c7] → Region.ready .any l.toArray ((li.setIfInBounds c6 true).setIfInBounds c7 true) = [c8] → Region.ready .any l.toArray (((li.setIfInBounds c6 true).setIfInBounds c7 true).setIfInBounds c8 true) = [] →
      wpAnyH P .any l.toArray Q S 3 li ((a1.put (some d3) sv).put (some d5) v5) (({ w with drawn := w.drawn + 1 } : World).alloc ob) := by
    intro li r0 r1 r2 r3
    refine wpAnyH_all r0 (by simp) fun i hi => ?_
    obtain rfl : i = c6 := by simpa using hi
    refine op_value ho6 hg6 hr6 ⟨hs6, ?_⟩
    rw [hd6]
    refine wpAnyH_all r1 (by simp) fun i hi => ?_
    obtain rfl : i = c7 := by simpa using hi
    refine op_value ho7 hg7 hr7 ⟨hs6, ?_⟩
    rw [hd7]
    refine wpAnyH_all r2 (by simp) fun i hi => ?_
    obtain rfl : i = c8 := by simpa using hi
    refine op_skip ho8 hg8 hr8 ⟨hs8, wpAnyH_done r3 ?_ _⟩
    rw [hd8]
    exact hK
  have key := wpAnyH_of_heldg (Q := Q) (S := S) (w := { w with drawn := w.drawn + 1 }) (k := appN .any l.toArray c3 c5 c6 c7 c8) (K := fun a' => a' = a1) (g := 5) hsel hQ hS0
    (fun li a' hk ha' => ?_) hd (Array.replicate l.toArray.size false) a hp hread
  · rw [hsz] at key; exact key
  subst ha'
  simp only [appN, Bool.and_eq_true, decide_eq_true_eq] at hk
  obtain ⟨⟨⟨⟨⟨⟨⟨⟨⟨⟨r0, r1⟩, r2⟩, r3⟩, r4⟩, r5⟩, r6⟩, r7⟩, r8⟩, r9⟩, r10⟩ := hk
  refine wpAnyH_all r0 (by simp) fun i hi => ?_
  rcases List.mem_cons.1 hi with rfl | hi
  · refine op_value ho3 hg3 (h3 _ (Or.inl rfl) _ (Or.inl rfl)) ⟨hS0, wpAnyH_all r1 (by simp) fun j hj => ?_⟩
    obtain rfl : j = c5 := by simpa using hj
    rw [hd3]
    refine op_value ho5 hg5 (h5 _ (Or.inr rfl)) ⟨hS5, ?_⟩
    rw [hd5]
    exact fin _ r3 r5 r7 r9
  · obtain rfl : i = c5 := by simpa using hi
    refine op_value ho5 hg5 (h5 _ (Or.inl rfl)) ⟨hS5, wpAnyH_all r2 (by simp) fun j hj => ?_⟩
    obtain rfl : j = c3 := by simpa using hj
    rw [hd5]
    refine op_value ho3 hg3 (h3 _ (Or.inr rfl) _ (Or.inr rfl)) ⟨hS5, ?_⟩
    rw [hd3, Act.put_comm _ _ _ (by simpa using hne)]
    exact fin _ r4 r6 r8 r10
theorem run_op_append {o : Oper} {a : Act} (s x : Operand) (t : TypeId)
    (ho : o.op = .call { callee := .builtin .append, args := #[s, x], argTypes := #[t, t] })
    (base : Nat) (e : TypeId) (i : TypeInfo) (z : Value) (size bytes : Nat) (ht : P.underlying t = some (.slice e)) (hi : P.info? e = some i) (hz : i.zero = some z)
    (hsize : i.size = size) (hby : i.bytes = bytes) (hzs : z.cells.size = size) (hsz : 0 < size)
    (v : Value) (n : Nat) (xs : List Value) (hs : a.eval s = v) (hown : w.ownsRow base e size v n xs)
    (ad : Addr) (m c : Nat) (news : List Value) (hx : a.eval x = .slice (some ad) m c) (hl : news.length = m * size) (hnews : ∀ j u, news[j]? = some u → w.cell? (ad.add j) = some u) (h1 : ∀ u ∈ news, u.oneCell' = true)
    (h63 : n + m ≤ maxLen) (hbytes : (n + m) * bytes ≤ 140737488355328) (hbase : base ≤ w.heap.size) :
    ∃ v' w', (execOp a.eval o).run P w = .ok (.value v') w' ∧ w'.ownsRow base e size v' (n + m) (xs ++ news) ∧ w.grownBy w' v.ownBlock ∧ (v'.ownBlock = v.ownBlock ∨ v'.ownBlock = some w.heap.size) := by
  obtain ⟨v', w', hr, h2, h3, h4, h5⟩ := run_append_own_at (P := P) w base t o.type e i z size bytes ht hi hz hsize hby hzs hsz v n xs hown ad m c news hl hnews h1 h63 hbytes hbase
  refine ⟨v', w', ?_, h2, h3, h5⟩
  unfold execOp
  simp only [ho, resolve, invoke, builtin, Sem.run_bind, Sem.run_pure, Result.andThen_ok, List.map_toArray, List.map_cons, List.map_nil, hs, hx, hr]
theorem app_mk {K : Value → World → Prop} {o : Oper} {a : Act} (s x : Operand) (t : TypeId)
    (ho : o.op = .call { callee := .builtin .append, args := #[s, x], argTypes := #[t, t] })
    (base : Nat) (e : TypeId) (i : TypeInfo) (z : Value) (size bytes : Nat) (ht : P.underlying t = some (.slice e)) (hi : P.info? e = some i) (hz : i.zero = some z)
    (hsize : i.size = size) (hby : i.bytes = bytes) (hzs : z.cells.size = size) (hsz : 0 < size)
    (v : Value) (n : Nat) (xs : List Value) (hs : a.eval s = v) (hown : w.ownsRow base e size v n xs)
    (ad : Addr) (m c : Nat) (news : List Value) (hx : a.eval x = .slice (some ad) m c) (hl : news.length = m * size) (hnews : ∀ j u, news[j]? = some u → w.cell? (ad.add j) = some u) (h1 : ∀ u ∈ news, u.oneCell' = true)
    (h63 : n + m ≤ maxLen) (hbytes : (n + m) * bytes ≤ 140737488355328) (hbase : base ≤ w.heap.size)
    (hK : ∀ v' w', w'.ownsRow base e size v' (n + m) (xs ++ news) → w.grownBy w' v.ownBlock → (v'.ownBlock = v.ownBlock ∨ v'.ownBlock = some w.heap.size) → K v' w') :
    ∃ v' w', (execOp a.eval o).run P w = .ok (.value v') w' ∧ K v' w' := by
  obtain ⟨v', w', h1, h2, h3, h4⟩ := run_op_append (P := P) s x t ho base e i z size bytes ht hi hz hsize hby hzs hsz v n xs hs hown ad m c news hx hl hnews h1 h63 hbytes hbase
  exact ⟨v', w', h1, hK v' w' h2 h3 h4⟩
end
end BB
