/-
  A region that draws its order, with one call: reads first, the call, then reads that may be guarded. No program is named here.
-/
import Derived.Test.YtbeodmijjanmeaaOrd
import Derived.OrdersHeld
open Go Go.RowKit
namespace BB
section
variable {P : Program} {ops : Array Oper} {md : Region.Mode} {w : World} {S : World → Prop} {Q : Exit → Act → World → Prop}
/-- these operations, one behind the other, in every world that meets S -/
def wpHeldG (P : Program) (ops : Array Oper) (S : World → Prop) (K : Act → Prop) : List Oper → Act → Prop
  | [], a => K a
  | o :: r, a => ∃ v, YieldsIf P ops S o v a ∧ wpHeldG P ops S K r (a.put o.dst v)
theorem heldg_run {K : Act → Prop} {o : Oper} {rest : List Oper} {a : Act} (v : Value) (hg : Region.wanted o (yielded ops a.tmps) = true) (h : ∀ w, S w → (execOp a.eval o).run P w = .ok (.value v) w)
    (hK : wpHeldG P ops S K rest (a.put o.dst v)) : wpHeldG P ops S K (o :: rest) a := ⟨v, .inl ⟨hg, h⟩, hK⟩
theorem heldg_skip {K : Act → Prop} {o : Oper} {rest : List Oper} {a : Act} (hg : Region.wanted o (yielded ops a.tmps) = false)
    (hK : wpHeldG P ops S K rest (a.put o.dst undef)) : wpHeldG P ops S K (o :: rest) a := ⟨undef, .inr ⟨hg, rfl⟩, hK⟩
theorem heldg_nil {K : Act → Prop} {a : Act} (h : K a) : wpHeldG P ops S K [] a := h
theorem wpAnyH_of_heldg {K : Act → Prop} {k : Array Bool → Bool} {g : Nat} (hsel : Region.noSelect ops = true) (hQ : ∀ c a d v w, Q (.panic c) (Act.put a d v) w → Q (.panic c) a w) (hS : S w)
    (hK : ∀ listed a, k listed = true → K a → wpAnyH P md ops Q S g listed a w) : ∀ (l : List Nat) (listed : Array Bool) (a : Act), preB md ops k l listed = true → wpHeldG P ops S K (pick ops l) a →
    wpAnyH P md ops Q S (l.length + g) listed a w
  | [], listed, a, hB, h => by simpa using hK listed a hB h
  | i :: l, listed, a, hB, h => by
    simp only [preB, Bool.and_eq_true] at hB
    obtain ⟨⟨hr, hf⟩, hB'⟩ := hB
    obtain ⟨_, o, h0, _⟩ := mem_ready.1 (show i ∈ Region.ready md ops listed by simpa using hr)
    rw [pick_cons h0] at h
    obtain ⟨v, hy, h⟩ := h
    rw [show (i :: l).length + g = (l.length + g) + 1 by simp; omega]
    exact wpAnyH_take h0 hsel hf hr (fun c a w => hQ c a _ _ w) hy hS (wpAnyH_of_heldg hsel hQ hS hK l _ _ hB' h)
/-- c alone may come up, then tl, one behind the other -/
def oneB (md : Region.Mode) (ops : Array Oper) (c : Nat) (tl : List Nat) (listed : Array Bool) : Bool :=
  decide (Region.ready md ops listed = [c]) && preB md ops (fun li => decide (Region.ready md ops li = [])) tl (listed.setIfInBounds c true)
theorem one_call {id : Nat} {a a1 : Act} {l : List Oper} (hd tl : List Nat) (c : Nat) (oc : Oper) (dc : Nat) (f : Nat) (args : Array Value) (v : Value) (S : World → Prop) (hm : P.follows .mixedOrders = true)
    (hB : (Region.noSelect l.toArray && preB .any l.toArray (oneB .any l.toArray c tl) hd (Array.replicate l.toArray.size false) && decide (hd.length + (tl.length + 1) = l.toArray.size)) = true)
    (hQ : ∀ c a d v w, Q (.panic c) (Act.put a d v) w → Q (.panic c) a w) (hoc : l.toArray[c]? = some oc) (hgc : oc.guard = none) (hdc : oc.dst = some dc) (hS : S { w with drawn := w.drawn + 1 })
    (hread : wpHeldG P l.toArray S (fun a' => a' = a1) (pick l.toArray hd) a)
    (henter : ∀ w', (execOp a1.eval oc).run P w' = .ok (.enter f args) w')
    (hcall : ∀ w', S w' → Calls P f args w' fun e w'' => e = .returned v ∧ S w'')
    (htail : wpHeldG P l.toArray S (fun a' => ∀ w', S w' → Q .normal a' w') (pick l.toArray tl) (a1.put (some dc) v)) :
    (Code.region id l.toArray true).wp P Q a w := by
  simp only [Bool.and_eq_true, decide_eq_true_eq] at hB
  obtain ⟨⟨hsel, hp⟩, hsz⟩ := hB
  refine wp_region_held (S := S) hm ?_
  have key := wpAnyH_of_heldg (Q := Q) (S := S) (w := { w with drawn := w.drawn + 1 }) (k := oneB .any l.toArray c tl) (K := fun a' => a' = a1) (g := tl.length + 1) hsel hQ hS
    (fun listed a' hk ha' => ?_) hd (Array.replicate l.toArray.size false) a hp hread
  · rw [hsz] at key; exact key
  subst ha'
  simp only [oneB, Bool.and_eq_true, decide_eq_true_eq] at hk
  obtain ⟨r0, r1⟩ := hk
  refine wpAnyH_all r0 (by simp) fun i hi => ?_
  obtain rfl : i = c := by simpa using hi
  unfold wpOp
  simp only [hoc, Region.wanted, hgc, if_true]
  left
  unfold Oper.wp
  rw [henter]
  refine (hcall _ hS).mono fun e w' ⟨he, hS'⟩ => ?_
  subst he
  refine ⟨hS', ?_⟩
  rw [hdc]
  have tail := wpAnyH_of_heldg (Q := Q) (S := S) (w := w') (k := fun li => decide (Region.ready .any l.toArray li = [])) (K := fun a' => ∀ w', S w' → Q .normal a' w') (g := 0) hsel hQ hS'
    (fun listed a' hk ha' => wpAnyH_done (by simpa using hk) (ha' _ hS') _) tl _ _ r1 htail
  simpa using tail
end
end BB
