/-
  A region that draws its order: reads, then an empty slice made and appended to beside another slice made, then a plan that ends in a store which turns what was read. No program is named here.
-/
import Derived.Test.YtphlpgdbngbplaaKPlanE
import Derived.Test.YtphlpgdbngbplaaKJMath
import Derived.Laws.AppendOwn
section
open Go Go.RowKit
namespace BB
section
variable {P : Program} {ops : Array Oper} {md : Region.Mode} {w : World} {S : World → Prop} {Q : Exit → Act → World → Prop}
def twoPlanB (md : Region.Mode) (ops : Array Oper) (c0 c2 c7 : Nat) (rest : List (Bool × Nat)) (li : Array Bool) : Bool :=
  decide (Region.ready md ops li = [c0, c7]) && decide (Region.ready md ops (li.setIfInBounds c0 true) = [c2, c7]) && decide (Region.ready md ops (li.setIfInBounds c7 true) = [c0]) &&
  decide (Region.ready md ops ((li.setIfInBounds c0 true).setIfInBounds c2 true) = [c7]) && decide (Region.ready md ops ((li.setIfInBounds c0 true).setIfInBounds c7 true) = [c2]) && decide (Region.ready md ops ((li.setIfInBounds c7 true).setIfInBounds c0 true) = [c2]) &&
  planB md ops rest (((li.setIfInBounds c0 true).setIfInBounds c2 true).setIfInBounds c7 true) && planB md ops rest (((li.setIfInBounds c0 true).setIfInBounds c7 true).setIfInBounds c2 true) && planB md ops rest (((li.setIfInBounds c7 true).setIfInBounds c0 true).setIfInBounds c2 true)
/-- what is known behind the three of them -/
structure TwoAt (w : World) (e : TypeId) (size : Nat) (j : Nat) (news cs : List Value) (v : Value) (b : Nat) (w' : World) : Prop where
  below : Below w.heap.size w w'
  row : w'.ownsRow w.heap.size e size v j news
  cell : ∀ i u, cs[i]? = some u → w'.cell? ⟨b, i, none⟩ = some u
  lo : w.heap.size ≤ b
  lt : b < w'.heap.size
  ne : v.ownBlock ≠ some b
theorem wpAnyH_two {listed : Array Bool} {a : Act} (hsel : Region.noSelect ops = true) (hQ : ∀ c a d v w, Q (.panic c) (Act.put a d v) w → Q (.panic c) a w)
    (c0 c2 c7 d0 d2 d7 : Nat) (rest : List (Bool × Nat)) (o0 o2 o7 : Oper) (e : TypeId) (size j : Nat) (news cs : List Value)
    (hB : twoPlanB md ops c0 c2 c7 rest listed = true) (ho0 : ops[c0]? = some o0) (ho2 : ops[c2]? = some o2) (ho7 : ops[c7]? = some o7)
    (hg : o0.guard = none ∧ o2.guard = none ∧ o7.guard = none) (hd : o0.dst = some d0 ∧ o2.dst = some d2 ∧ o7.dst = some d7) (hne : d0 ≠ d2 ∧ d0 ≠ d7 ∧ d2 ≠ d7)
    (hS : ∀ w', Below w.heap.size w w' → S w')
    (h0 : ∀ a', a' = a ∨ (∃ x, a' = a.put (some d7) x) → ∀ w', (execOp a'.eval o0).run P w' = .ok (.value (.slice (some ⟨w'.heap.size, 0, none⟩) 0 0)) (w'.alloc (.cells #[] e)))
    (h7 : ∀ a', a' = a ∨ (∃ x, a' = a.put (some d0) x) ∨ (∃ x y, a' = (a.put (some d0) x).put (some d2) y) → ∀ w', Below w.heap.size w w' → (execOp a'.eval o7).run P w' = .ok (.value (.slice (some ⟨w'.heap.size, 0, none⟩) 1 1)) (w'.alloc (.cells cs.toArray e)))
    (h2 : ∀ b a', a' = a.put (some d0) (.slice (some ⟨b, 0, none⟩) 0 0) ∨ (∃ x, a' = (a.put (some d0) (.slice (some ⟨b, 0, none⟩) 0 0)).put (some d7) x) ∨ (∃ x, a' = (a.put (some d7) x).put (some d0) (.slice (some ⟨b, 0, none⟩) 0 0)) → ∀ w', Below w.heap.size w w' → w'.ownsRow w.heap.size e size (.slice (some ⟨b, 0, none⟩) 0 0) 0 [] →
      ∃ v' w'', (execOp a'.eval o2).run P w' = .ok (.value v') w'' ∧ w''.ownsRow w.heap.size e size v' j news ∧ w'.grownBy w'' (some b) ∧ ∀ c, v'.ownBlock = some c → c = b ∨ w'.heap.size ≤ c)
    (hK : ∀ b v' b7 w', TwoAt w e size j news cs v' b7 w' → wpPlan P ops Q S rest (((a.put (some d0) (.slice (some ⟨b, 0, none⟩) 0 0)).put (some d2) v').put (some d7) (.slice (some ⟨b7, 0, none⟩) 1 1)) w') :
    wpAnyH P md ops Q S (3 + rest.length) listed a w := by
  simp only [twoPlanB, Bool.and_eq_true, decide_eq_true_eq] at hB
  obtain ⟨⟨⟨⟨⟨⟨⟨⟨r0, r1⟩, r2⟩, r3⟩, r4⟩, r5⟩, p1⟩, p2⟩, p3⟩ := hB
  obtain ⟨g0, g2, g7⟩ := hg
  obtain ⟨e0, e2, e7⟩ := hd
  obtain ⟨n02, n07, n27⟩ := hne
  have made : ∀ (w' : World), Below w.heap.size w w' → (w'.alloc (.cells #[] e)).ownsRow w.heap.size e size (.slice (some ⟨w'.heap.size, 0, none⟩) 0 0) 0 [] := fun w' hb => World.ownsRow_made w' #[] 0 hb.size (Nat.zero_le _) (by simp)
  have cells : ∀ (w' : World) i u, cs[i]? = some u → (w'.alloc (.cells cs.toArray e)).cell? ⟨w'.heap.size, i, none⟩ = some u := fun w' i u hu => WW.cell_new w' cs.toArray e i u (by simpa using hu)
  have rowk : ∀ {w1 w2 : World} {v : Value} {k : Nat} {xs : List Value}, w1.ownsRow w.heap.size e size v k xs → (∀ c, v.ownBlock = some c → w2.heap[c]? = w1.heap[c]?) → w2.ownsRow w.heap.size e size v k xs := fun {w1 w2 v k xs} h hk => by
    obtain ⟨h1, h2 | ⟨g, cap, cur, hv, hb, hc, rest⟩⟩ := h
    · exact ⟨h1, Or.inl h2⟩
    · subst hv; exact ⟨h1, Or.inr ⟨g, cap, cur, rfl, hb, (hk g rfl).trans hc, rest⟩⟩
  rw [show 3 + rest.length = rest.length + 1 + 1 + 1 by omega]
  refine wpAnyH_all r0 (by simp) fun i hi => ?_
  rcases List.mem_cons.1 hi with rfl | hi
  · refine op_value ho0 g0 (h0 a (Or.inl rfl) w) ?_
    rw [e0]
    have b1 := (Below.refl w.heap.size w).alloc (Nat.le_refl _) (.cells #[] e)
    have m1 := made w (Below.refl _ _)
    refine ⟨hS _ b1, wpAnyH_all r1 (by simp) fun i hi => ?_⟩
    rcases List.mem_cons.1 hi with rfl | hi
    · obtain ⟨v', w2, hr2, ho2', hg2, hob⟩ := h2 w.heap.size _ (Or.inl rfl) _ b1 m1
      refine op_value ho2 g2 hr2 ?_
      rw [e2]
      have b2 := b1.grown hg2 b1.size (fun k hk => by cases hk; exact Nat.le_refl _)
      refine ⟨hS _ b2, wpAnyH_all r3 (by simp) fun i hi => ?_⟩
      obtain rfl : i = c7 := by simpa using hi
      refine op_value ho7 g7 (h7 _ (Or.inr (Or.inr ⟨_, _, rfl⟩)) w2 b2) ?_
      rw [e7]
      have b3 := b2.alloc b2.size (.cells cs.toArray e)
      have a3 := (Below.refl w2.heap.size w2).alloc (Nat.le_refl _) (.cells cs.toArray e)
      refine ⟨hS _ b3, wpAnyH_plan hsel hQ rest _ _ _ (hS _ b3) p1 (hK _ _ _ _ ⟨b3, rowk ho2' fun c hc => a3.block c (ho2'.lt c hc).2, cells w2, b2.size, by simp, fun hx => ?_⟩)⟩
      have := (ho2'.lt _ hx).2
      omega
    · obtain rfl : i = c7 := by simpa using hi
      refine op_value ho7 g7 (h7 _ (Or.inr (Or.inl ⟨_, rfl⟩)) _ b1) ?_
      rw [e7]
      have b2 := b1.alloc b1.size (.cells cs.toArray e)
      have a2 := (Below.refl (w.alloc (.cells #[] e)).heap.size (w.alloc (.cells #[] e))).alloc (Nat.le_refl _) (.cells cs.toArray e)
      have m2 := rowk m1 fun c hc => a2.block c (m1.lt c hc).2
      refine ⟨hS _ b2, wpAnyH_all r4 (by simp) fun i hi => ?_⟩
      obtain rfl : i = c2 := by simpa using hi
      obtain ⟨v', w3, hr3, ho3', hg3, hob⟩ := h2 w.heap.size _ (Or.inr (Or.inl ⟨_, rfl⟩)) _ b2 m2
      refine op_value ho2 g2 hr3 ?_
      rw [e2]
      have b3 := b2.grown hg3 b2.size (fun k hk => by cases hk; exact Nat.le_refl _)
      refine ⟨hS _ b3, wpAnyH_plan hsel hQ rest _ _ _ (hS _ b3) p2 ?_⟩
      rw [Act.put_comm _ _ _ (by simpa using n27)]
      refine hK _ _ _ _ ⟨b3, ho3', fun i u hu => ?_, b1.size, ?_, fun hx => ?_⟩
      · rw [World.cell?_of_block (w := (w.alloc (.cells #[] e)).alloc (.cells cs.toArray e)) (a := ⟨(w.alloc (.cells #[] e)).heap.size, i, none⟩) (hg3.block _ (by simp) (by simp))]
        exact cells _ i u hu
      · exact Nat.lt_of_lt_of_le (by simp) hg3.size
      · rcases hob _ hx with h | h
        · simp at h
        · simp at h; omega
  · obtain rfl : i = c7 := by simpa using hi
    refine op_value ho7 g7 (h7 _ (Or.inl rfl) w (Below.refl _ _)) ?_
    rw [e7]
    have b1 := (Below.refl w.heap.size w).alloc (Nat.le_refl _) (.cells cs.toArray e)
    refine ⟨hS _ b1, wpAnyH_all r2 (by simp) fun i hi => ?_⟩
    obtain rfl : i = c0 := by simpa using hi
    refine op_value ho0 g0 (h0 _ (Or.inr ⟨_, rfl⟩) _) ?_
    rw [e0]
    have b2 := b1.alloc b1.size (.cells #[] e)
    have m2 := made _ b1
    refine ⟨hS _ b2, wpAnyH_all r5 (by simp) fun i hi => ?_⟩
    obtain rfl : i = c2 := by simpa using hi
    obtain ⟨v', w3, hr3, ho3', hg3, hob⟩ := h2 _ _ (Or.inr (Or.inr ⟨_, rfl⟩)) _ b2 m2
    refine op_value ho2 g2 hr3 ?_
    rw [e2]
    have b3 := b2.grown hg3 b2.size (fun k hk => by cases hk; exact b1.size)
    refine ⟨hS _ b3, wpAnyH_plan hsel hQ rest _ _ _ (hS _ b3) p3 ?_⟩
    rw [Act.put_comm a _ _ (by simpa using n07), Act.put_comm _ _ _ (by simpa using n27)]
    refine hK _ _ _ _ ⟨b3, ho3', fun i u hu => ?_, Nat.le_refl _, ?_, fun hx => ?_⟩
    · rw [World.cell?_of_block (w := (w.alloc (.cells cs.toArray e)).alloc (.cells #[] e)) (a := ⟨w.heap.size, i, none⟩) (hg3.block _ (by simp; omega) (by simp))]
      have a9 := (Below.refl (w.alloc (.cells cs.toArray e)).heap.size (w.alloc (.cells cs.toArray e))).alloc (Nat.le_refl _) (.cells #[] e)
      exact (a9.cell (p := ⟨w.heap.size, i, none⟩) (by simp)).trans (cells w i u hu)
    · exact Nat.lt_of_lt_of_le (by simp; omega) hg3.size
    · rcases hob _ hx with h | h
      · simp at h
      · simp at h; omega
/-- what is asked behind the reads -/
def TwoK (P : Program) (ops : Array Oper) (Q : Exit → Act → World → Prop) (rest : List (Bool × Nat)) (o0 o2 o7 : Oper) (d0 d2 d7 : Nat) (e : TypeId) (size j : Nat) (news cs : List Value) (w : World) (a : Act) : Prop :=
  (∀ a', a' = a ∨ (∃ x, a' = a.put (some d7) x) → ∀ w', (execOp a'.eval o0).run P w' = .ok (.value (.slice (some ⟨w'.heap.size, 0, none⟩) 0 0)) (w'.alloc (.cells #[] e))) ∧
  (∀ a', a' = a ∨ (∃ x, a' = a.put (some d0) x) ∨ (∃ x y, a' = (a.put (some d0) x).put (some d2) y) → ∀ w', Below w.heap.size w w' → (execOp a'.eval o7).run P w' = .ok (.value (.slice (some ⟨w'.heap.size, 0, none⟩) 1 1)) (w'.alloc (.cells cs.toArray e))) ∧
  (∀ b a', a' = a.put (some d0) (.slice (some ⟨b, 0, none⟩) 0 0) ∨ (∃ x, a' = (a.put (some d0) (.slice (some ⟨b, 0, none⟩) 0 0)).put (some d7) x) ∨ (∃ x, a' = (a.put (some d7) x).put (some d0) (.slice (some ⟨b, 0, none⟩) 0 0)) → ∀ w', Below w.heap.size w w' → w'.ownsRow w.heap.size e size (.slice (some ⟨b, 0, none⟩) 0 0) 0 [] →
      ∃ v' w'', (execOp a'.eval o2).run P w' = .ok (.value v') w'' ∧ w''.ownsRow w.heap.size e size v' j news ∧ w'.grownBy w'' (some b) ∧ ∀ c, v'.ownBlock = some c → c = b ∨ w'.heap.size ≤ c) ∧
  (∀ b v' b7 w', TwoAt w e size j news cs v' b7 w' → wpPlan P ops Q (Below w.heap.size w) rest (((a.put (some d0) (.slice (some ⟨b, 0, none⟩) 0 0)).put (some d2) v').put (some d7) (.slice (some ⟨b7, 0, none⟩) 1 1)) w')
theorem two_abs {id : Nat} {a : Act} {l : List Oper} (pre : List Nat) (c0 c2 c7 d0 d2 d7 : Nat) (rest : List (Bool × Nat)) (o0 o2 o7 : Oper) (e : TypeId) (size j : Nat) (news cs : List Value) (hm : P.follows .mixedOrders = true)
    (hB : (Region.noSelect l.toArray && preB .any l.toArray (twoPlanB .any l.toArray c0 c2 c7 rest) pre (Array.replicate l.toArray.size false) && decide (pre.length + (3 + rest.length) = l.toArray.size)) = true)
    (hQ : ∀ c a d v w, Q (.panic c) (Act.put a d v) w → Q (.panic c) a w)
    (ho0 : l.toArray[c0]? = some o0) (ho2 : l.toArray[c2]? = some o2) (ho7 : l.toArray[c7]? = some o7)
    (hg : o0.guard = none ∧ o2.guard = none ∧ o7.guard = none) (hd : o0.dst = some d0 ∧ o2.dst = some d2 ∧ o7.dst = some d7) (hne : d0 ≠ d2 ∧ d0 ≠ d7 ∧ d2 ≠ d7)
    (h : ∀ w2, Same w w2 → wpHeld P l.toArray (Below w2.heap.size w2) (TwoK P l.toArray Q rest o0 o2 o7 d0 d2 d7 e size j news cs w2) (pick l.toArray pre) a) : (Code.region id l.toArray true).wp P Q a w := by
  simp only [Bool.and_eq_true, decide_eq_true_eq] at hB
  obtain ⟨⟨hsel, hp⟩, hn⟩ := hB
  have h := h { w with drawn := w.drawn + 1 } ⟨rfl, rfl, rfl, rfl⟩
  refine wp_region_held (S := Below ({ w with drawn := w.drawn + 1 } : World).heap.size { w with drawn := w.drawn + 1 }) hm ?_
  have key := wpAnyH_of_held (Q := Q) (S := Below ({ w with drawn := w.drawn + 1 } : World).heap.size { w with drawn := w.drawn + 1 }) (w := { w with drawn := w.drawn + 1 }) (g := 3 + rest.length) hsel hQ (Below.refl _ _)
    (fun listed a1 hk hK => wpAnyH_two (w := { w with drawn := w.drawn + 1 }) hsel hQ c0 c2 c7 d0 d2 d7 rest o0 o2 o7 e size j news cs hk ho0 ho2 ho7 hg hd hne (fun _ h => h) hK.1 hK.2.1 hK.2.2.1 hK.2.2.2) pre _ a hp h
  rw [hn] at key
  exact key
end
end BB
end
section
open Go Go.RowKit
namespace BB
section
variable {P : Program} {ops : Array Oper} {md : Region.Mode} {w : World} {S : World → Prop} {Q : Exit → Act → World → Prop} {t : Nat}
def twoPlanEB (md : Region.Mode) (ops : Array Oper) (t : Nat) (c0 c2 c7 : Nat) (rest : List (Bool × Nat)) (li : Array Bool) : Bool :=
  decide (Region.ready md ops li = [c0, c7]) && decide (Region.ready md ops (li.setIfInBounds c0 true) = [c2, c7]) && decide (Region.ready md ops (li.setIfInBounds c7 true) = [c0]) &&
  decide (Region.ready md ops ((li.setIfInBounds c0 true).setIfInBounds c2 true) = [c7]) && decide (Region.ready md ops ((li.setIfInBounds c0 true).setIfInBounds c7 true) = [c2]) && decide (Region.ready md ops ((li.setIfInBounds c7 true).setIfInBounds c0 true) = [c2]) &&
  planEB md ops t rest (((li.setIfInBounds c0 true).setIfInBounds c2 true).setIfInBounds c7 true) && planEB md ops t rest (((li.setIfInBounds c0 true).setIfInBounds c7 true).setIfInBounds c2 true) && planEB md ops t rest (((li.setIfInBounds c7 true).setIfInBounds c0 true).setIfInBounds c2 true)
theorem wpAnyE_all {l : List Nat} {n : Nat} {listed : Array Bool} {a : Act} (hr : Region.ready md ops listed = l) (hne : l ≠ []) (h : ∀ i ∈ l, wpOp P ops Q i (fun a' w' => (i ≠ t → S w') ∧ wpAnyE P md ops Q S t n (listed.setIfInBounds i true) a' w') a w) : wpAnyE P md ops Q S t (n + 1) listed a w :=
  ⟨fun h0 => absurd (hr.symm.trans h0) hne, fun i hi => h i (by rw [hr] at hi; exact hi)⟩
theorem wpAnyE_two {listed : Array Bool} {a : Act} (hsel : Region.noSelect ops = true) (hQ : ∀ c a d v w, Q (.panic c) (Act.put a d v) w → Q (.panic c) a w)
    (c0 c2 c7 d0 d2 d7 : Nat) (rest : List (Bool × Nat)) (o0 o2 o7 : Oper) (e : TypeId) (size j : Nat) (news cs : List Value)
    (hB : twoPlanEB md ops t c0 c2 c7 rest listed = true) (ho0 : ops[c0]? = some o0) (ho2 : ops[c2]? = some o2) (ho7 : ops[c7]? = some o7)
    (hg : o0.guard = none ∧ o2.guard = none ∧ o7.guard = none) (hd : o0.dst = some d0 ∧ o2.dst = some d2 ∧ o7.dst = some d7) (hne : d0 ≠ d2 ∧ d0 ≠ d7 ∧ d2 ≠ d7)
    (hS : ∀ w', Below w.heap.size w w' → S w')
    (h0 : ∀ a', a' = a ∨ (∃ x, a' = a.put (some d7) x) → ∀ w', (execOp a'.eval o0).run P w' = .ok (.value (.slice (some ⟨w'.heap.size, 0, none⟩) 0 0)) (w'.alloc (.cells #[] e)))
    (h7 : ∀ a', a' = a ∨ (∃ x, a' = a.put (some d0) x) ∨ (∃ x y, a' = (a.put (some d0) x).put (some d2) y) → ∀ w', Below w.heap.size w w' → (execOp a'.eval o7).run P w' = .ok (.value (.slice (some ⟨w'.heap.size, 0, none⟩) 1 1)) (w'.alloc (.cells cs.toArray e)))
    (h2 : ∀ b a', a' = a.put (some d0) (.slice (some ⟨b, 0, none⟩) 0 0) ∨ (∃ x, a' = (a.put (some d0) (.slice (some ⟨b, 0, none⟩) 0 0)).put (some d7) x) ∨ (∃ x, a' = (a.put (some d7) x).put (some d0) (.slice (some ⟨b, 0, none⟩) 0 0)) → ∀ w', Below w.heap.size w w' → w'.ownsRow w.heap.size e size (.slice (some ⟨b, 0, none⟩) 0 0) 0 [] →
      ∃ v' w'', (execOp a'.eval o2).run P w' = .ok (.value v') w'' ∧ w''.ownsRow w.heap.size e size v' j news ∧ w'.grownBy w'' (some b) ∧ ∀ c, v'.ownBlock = some c → c = b ∨ w'.heap.size ≤ c)
    (hK : ∀ b v' b7 w', TwoAt w e size j news cs v' b7 w' → wpPlanE P ops Q S t rest (((a.put (some d0) (.slice (some ⟨b, 0, none⟩) 0 0)).put (some d2) v').put (some d7) (.slice (some ⟨b7, 0, none⟩) 1 1)) w') :
    wpAnyE P md ops Q S t (3 + rest.length) listed a w := by
  simp only [twoPlanEB, Bool.and_eq_true, decide_eq_true_eq] at hB
  obtain ⟨⟨⟨⟨⟨⟨⟨⟨r0, r1⟩, r2⟩, r3⟩, r4⟩, r5⟩, p1⟩, p2⟩, p3⟩ := hB
  obtain ⟨g0, g2, g7⟩ := hg
  obtain ⟨e0, e2, e7⟩ := hd
  obtain ⟨n02, n07, n27⟩ := hne
  have made : ∀ (w' : World), Below w.heap.size w w' → (w'.alloc (.cells #[] e)).ownsRow w.heap.size e size (.slice (some ⟨w'.heap.size, 0, none⟩) 0 0) 0 [] := fun w' hb => World.ownsRow_made w' #[] 0 hb.size (Nat.zero_le _) (by simp)
  have cells : ∀ (w' : World) i u, cs[i]? = some u → (w'.alloc (.cells cs.toArray e)).cell? ⟨w'.heap.size, i, none⟩ = some u := fun w' i u hu => WW.cell_new w' cs.toArray e i u (by simpa using hu)
  have rowk : ∀ {w1 w2 : World} {v : Value} {k : Nat} {xs : List Value}, w1.ownsRow w.heap.size e size v k xs → (∀ c, v.ownBlock = some c → w2.heap[c]? = w1.heap[c]?) → w2.ownsRow w.heap.size e size v k xs := fun {w1 w2 v k xs} h hk => by
    obtain ⟨h1, h2 | ⟨g, cap, cur, hv, hb, hc, rest⟩⟩ := h
    · exact ⟨h1, Or.inl h2⟩
    · subst hv; exact ⟨h1, Or.inr ⟨g, cap, cur, rfl, hb, (hk g rfl).trans hc, rest⟩⟩
  rw [show 3 + rest.length = rest.length + 1 + 1 + 1 by omega]
  refine wpAnyE_all r0 (by simp) fun i hi => ?_
  rcases List.mem_cons.1 hi with rfl | hi
  · refine op_value ho0 g0 (h0 a (Or.inl rfl) w) ?_
    rw [e0]
    have b1 := (Below.refl w.heap.size w).alloc (Nat.le_refl _) (.cells #[] e)
    have m1 := made w (Below.refl _ _)
    refine ⟨fun _ => hS _ b1, wpAnyE_all r1 (by simp) fun i hi => ?_⟩
    rcases List.mem_cons.1 hi with rfl | hi
    · obtain ⟨v', w2, hr2, ho2', hg2, hob⟩ := h2 w.heap.size _ (Or.inl rfl) _ b1 m1
      refine op_value ho2 g2 hr2 ?_
      rw [e2]
      have b2 := b1.grown hg2 b1.size (fun k hk => by cases hk; exact Nat.le_refl _)
      refine ⟨fun _ => hS _ b2, wpAnyE_all r3 (by simp) fun i hi => ?_⟩
      obtain rfl : i = c7 := by simpa using hi
      refine op_value ho7 g7 (h7 _ (Or.inr (Or.inr ⟨_, _, rfl⟩)) w2 b2) ?_
      rw [e7]
      have b3 := b2.alloc b2.size (.cells cs.toArray e)
      have a3 := (Below.refl w2.heap.size w2).alloc (Nat.le_refl _) (.cells cs.toArray e)
      refine ⟨fun _ => hS _ b3, wpAnyE_plan hsel hQ rest _ _ _ (fun _ => hS _ b3) p1 (hK _ _ _ _ ⟨b3, rowk ho2' fun c hc => a3.block c (ho2'.lt c hc).2, cells w2, b2.size, by simp, fun hx => ?_⟩)⟩
      have := (ho2'.lt _ hx).2
      omega
    · obtain rfl : i = c7 := by simpa using hi
      refine op_value ho7 g7 (h7 _ (Or.inr (Or.inl ⟨_, rfl⟩)) _ b1) ?_
      rw [e7]
      have b2 := b1.alloc b1.size (.cells cs.toArray e)
      have a2 := (Below.refl (w.alloc (.cells #[] e)).heap.size (w.alloc (.cells #[] e))).alloc (Nat.le_refl _) (.cells cs.toArray e)
      have m2 := rowk m1 fun c hc => a2.block c (m1.lt c hc).2
      refine ⟨fun _ => hS _ b2, wpAnyE_all r4 (by simp) fun i hi => ?_⟩
      obtain rfl : i = c2 := by simpa using hi
      obtain ⟨v', w3, hr3, ho3', hg3, hob⟩ := h2 w.heap.size _ (Or.inr (Or.inl ⟨_, rfl⟩)) _ b2 m2
      refine op_value ho2 g2 hr3 ?_
      rw [e2]
      have b3 := b2.grown hg3 b2.size (fun k hk => by cases hk; exact Nat.le_refl _)
      refine ⟨fun _ => hS _ b3, wpAnyE_plan hsel hQ rest _ _ _ (fun _ => hS _ b3) p2 ?_⟩
      rw [Act.put_comm _ _ _ (by simpa using n27)]
      refine hK _ _ _ _ ⟨b3, ho3', fun i u hu => ?_, b1.size, ?_, fun hx => ?_⟩
      · rw [World.cell?_of_block (w := (w.alloc (.cells #[] e)).alloc (.cells cs.toArray e)) (a := ⟨(w.alloc (.cells #[] e)).heap.size, i, none⟩) (hg3.block _ (by simp) (by simp))]
        exact cells _ i u hu
      · exact Nat.lt_of_lt_of_le (by simp) hg3.size
      · rcases hob _ hx with h | h
        · simp at h
        · simp at h; omega
  · obtain rfl : i = c7 := by simpa using hi
    refine op_value ho7 g7 (h7 _ (Or.inl rfl) w (Below.refl _ _)) ?_
    rw [e7]
    have b1 := (Below.refl w.heap.size w).alloc (Nat.le_refl _) (.cells cs.toArray e)
    refine ⟨fun _ => hS _ b1, wpAnyE_all r2 (by simp) fun i hi => ?_⟩
    obtain rfl : i = c0 := by simpa using hi
    refine op_value ho0 g0 (h0 _ (Or.inr ⟨_, rfl⟩) _) ?_
    rw [e0]
    have b2 := b1.alloc b1.size (.cells #[] e)
    have m2 := made _ b1
    refine ⟨fun _ => hS _ b2, wpAnyE_all r5 (by simp) fun i hi => ?_⟩
    obtain rfl : i = c2 := by simpa using hi
    obtain ⟨v', w3, hr3, ho3', hg3, hob⟩ := h2 _ _ (Or.inr (Or.inr ⟨_, rfl⟩)) _ b2 m2
    refine op_value ho2 g2 hr3 ?_
    rw [e2]
    have b3 := b2.grown hg3 b2.size (fun k hk => by cases hk; exact b1.size)
    refine ⟨fun _ => hS _ b3, wpAnyE_plan hsel hQ rest _ _ _ (fun _ => hS _ b3) p3 ?_⟩
    rw [Act.put_comm a _ _ (by simpa using n07), Act.put_comm _ _ _ (by simpa using n27)]
    refine hK _ _ _ _ ⟨b3, ho3', fun i u hu => ?_, Nat.le_refl _, ?_, fun hx => ?_⟩
    · rw [World.cell?_of_block (w := (w.alloc (.cells cs.toArray e)).alloc (.cells #[] e)) (a := ⟨w.heap.size, i, none⟩) (hg3.block _ (by simp; omega) (by simp))]
      have a9 := (Below.refl (w.alloc (.cells cs.toArray e)).heap.size (w.alloc (.cells cs.toArray e))).alloc (Nat.le_refl _) (.cells #[] e)
      exact (a9.cell (p := ⟨w.heap.size, i, none⟩) (by simp)).trans (cells w i u hu)
    · exact Nat.lt_of_lt_of_le (by simp; omega) hg3.size
    · rcases hob _ hx with h | h
      · simp at h
      · simp at h; omega
def preEB (md : Region.Mode) (ops : Array Oper) (t : Nat) (k : Array Bool → Bool) : List Nat → Array Bool → Bool
  | [], listed => k listed
  | i :: r, listed => (Region.ready md ops listed).contains i && Region.free md ops listed i && Region.waitsFor md ops t i && decide (i ≠ t) && preEB md ops t k r (listed.setIfInBounds i true)
def wpPreE (P : Program) (ops : Array Oper) (S : World → Prop) (K : Act → Prop) : List Nat → Act → Prop
  | [], a => K a
  | i :: r, a => ∃ o v, ops[i]? = some o ∧ YieldsIf P ops S o v a ∧ wpPreE P ops S K r (a.put o.dst v)
theorem wpAnyE_pre (hsel : Region.noSelect ops = true) (hQ : ∀ c a d v w, Q (.panic c) (Act.put a d v) w → Q (.panic c) a w) {n : Nat} {k : Array Bool → Bool} {K : Act → Prop} (hS : S w)
    (hk : ∀ listed a, k listed = true → K a → wpAnyE P md ops Q S t n listed a w) : ∀ (l : List Nat) (listed : Array Bool) (a : Act), preEB md ops t k l listed = true → wpPreE P ops S K l a → wpAnyE P md ops Q S t (l.length + n) listed a w
  | [], listed, a, hB, h => by
    rw [List.length_nil, Nat.zero_add]; exact hk listed a hB h
  | i :: r, listed, a, hB, h => by
    simp only [preEB, Bool.and_eq_true, decide_eq_true_eq] at hB
    obtain ⟨o, v, h0, hy, h⟩ := h
    rw [show (i :: r).length + n = (r.length + n) + 1 by simp only [List.length_cons]; omega]
    exact wpAnyE_first h0 (Region.noSelect_spec hsel) (fun c a w => hQ c a _ _ w) hB.1.2 (waits_spec hB.1.1.2) _ listed a w (Region.free_spec h0 hB.1.1.1.2) (by simpa using hB.1.1.1.1) hy hS (wpAnyE_pre hsel hQ hS hk r _ _ hB.2 h)
theorem pre_run {i : Nat} {r : List Nat} {a : Act} {K : Act → Prop} (o : Oper) (v : Value) (ho : ops[i]? = some o) (hg : Region.wanted o (yielded ops a.tmps) = true) (h : ∀ w, S w → (execOp a.eval o).run P w = .ok (.value v) w) (hK : wpPreE P ops S K r (a.put o.dst v)) : wpPreE P ops S K (i :: r) a := ⟨o, v, ho, .inl ⟨hg, h⟩, hK⟩
theorem pre_end {a : Act} {K : Act → Prop} (h : K a) : wpPreE P ops S K [] a := h
/-- what is asked behind the reads -/
def TwoKE (P : Program) (ops : Array Oper) (Q : Exit → Act → World → Prop) (t : Nat) (rest : List (Bool × Nat)) (o0 o2 o7 : Oper) (d0 d2 d7 : Nat) (e : TypeId) (size j : Nat) (news cs : List Value) (w : World) (a : Act) : Prop :=
  (∀ a', a' = a ∨ (∃ x, a' = a.put (some d7) x) → ∀ w', (execOp a'.eval o0).run P w' = .ok (.value (.slice (some ⟨w'.heap.size, 0, none⟩) 0 0)) (w'.alloc (.cells #[] e))) ∧
  (∀ a', a' = a ∨ (∃ x, a' = a.put (some d0) x) ∨ (∃ x y, a' = (a.put (some d0) x).put (some d2) y) → ∀ w', Below w.heap.size w w' → (execOp a'.eval o7).run P w' = .ok (.value (.slice (some ⟨w'.heap.size, 0, none⟩) 1 1)) (w'.alloc (.cells cs.toArray e))) ∧
  (∀ b a', a' = a.put (some d0) (.slice (some ⟨b, 0, none⟩) 0 0) ∨ (∃ x, a' = (a.put (some d0) (.slice (some ⟨b, 0, none⟩) 0 0)).put (some d7) x) ∨ (∃ x, a' = (a.put (some d7) x).put (some d0) (.slice (some ⟨b, 0, none⟩) 0 0)) → ∀ w', Below w.heap.size w w' → w'.ownsRow w.heap.size e size (.slice (some ⟨b, 0, none⟩) 0 0) 0 [] →
      ∃ v' w'', (execOp a'.eval o2).run P w' = .ok (.value v') w'' ∧ w''.ownsRow w.heap.size e size v' j news ∧ w'.grownBy w'' (some b) ∧ ∀ c, v'.ownBlock = some c → c = b ∨ w'.heap.size ≤ c) ∧
  (∀ b v' b7 w', TwoAt w e size j news cs v' b7 w' → wpPlanE P ops Q (Below w.heap.size w) t rest (((a.put (some d0) (.slice (some ⟨b, 0, none⟩) 0 0)).put (some d2) v').put (some d7) (.slice (some ⟨b7, 0, none⟩) 1 1)) w')
theorem twoE_abs {id : Nat} {a : Act} {l : List Oper} (t : Nat) (pre : List Nat) (c0 c2 c7 d0 d2 d7 : Nat) (rest : List (Bool × Nat)) (o0 o2 o7 : Oper) (e : TypeId) (size j : Nat) (news cs : List Value) (hm : P.follows .mixedOrders = true)
    (hB : (Region.noSelect l.toArray && preEB .any l.toArray t (twoPlanEB .any l.toArray t c0 c2 c7 rest) pre (Array.replicate l.toArray.size false) && decide (pre.length + (3 + rest.length) = l.toArray.size)) = true)
    (hQ : ∀ c a d v w, Q (.panic c) (Act.put a d v) w → Q (.panic c) a w)
    (ho0 : l.toArray[c0]? = some o0) (ho2 : l.toArray[c2]? = some o2) (ho7 : l.toArray[c7]? = some o7)
    (hg : o0.guard = none ∧ o2.guard = none ∧ o7.guard = none) (hd : o0.dst = some d0 ∧ o2.dst = some d2 ∧ o7.dst = some d7) (hne : d0 ≠ d2 ∧ d0 ≠ d7 ∧ d2 ≠ d7)
    (h : ∀ w2, Same w w2 → wpPreE P l.toArray (Below w2.heap.size w2) (TwoKE P l.toArray Q t rest o0 o2 o7 d0 d2 d7 e size j news cs w2) pre a) : (Code.region id l.toArray true).wp P Q a w := by
  simp only [Bool.and_eq_true, decide_eq_true_eq] at hB
  obtain ⟨⟨hsel, hp⟩, hn⟩ := hB
  have h := h { w with drawn := w.drawn + 1 } ⟨rfl, rfl, rfl, rfl⟩
  have key := wpAnyE_pre (Q := Q) (t := t) (S := Below ({ w with drawn := w.drawn + 1 } : World).heap.size { w with drawn := w.drawn + 1 }) (w := { w with drawn := w.drawn + 1 }) (n := 3 + rest.length) hsel hQ (Below.refl _ _)
    (fun listed a1 hk hK => wpAnyE_two (w := { w with drawn := w.drawn + 1 }) hsel hQ c0 c2 c7 d0 d2 d7 rest o0 o2 o7 e size j news cs hk ho0 ho2 ho7 hg hd hne (fun _ h => h) hK.1 hK.2.1 hK.2.2.1 hK.2.2.2) pre _ a hp h
  rw [hn] at key
  exact wp_region_any hm (wpAny_of_E _ _ _ _ key)
end
end BB
end
