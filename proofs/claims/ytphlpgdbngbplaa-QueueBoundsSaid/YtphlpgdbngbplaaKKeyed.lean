/-
  The walks of the code's digest with a key, Keyed and Tag.
-/
import Derived.Test.YtphlpgdbngbplaaKPlanE
import Derived.Test.YtphlpgdbngbplaaKJMath
import Derived.OrdersHeld
section
open Go Go.RowKit
namespace BB
open WW
section
variable {P : Program} {ops : Array Oper} {md : Region.Mode} {w : World} {Q : Exit → Act → World → Prop}
theorem op_callv {i : Nat} {x : Operand} {xs : Array Operand} {tys : Array TypeId} {o : Oper} {a : Act} {w : World} {K : Act → World → Prop} {R : Ending → World → Prop} (v : Value) (args : Array Value) (ho : ops[i]? = some o) (hg : Region.wanted o (yielded ops a.tmps) = true)
    (hop : o.op = .call { callee := .value x, args := xs, argTypes := tys }) (hx : a.eval x = v) (has : xs.map a.eval = args) (hc : CallsV P v args w R) (hR : ∀ e w', R e w' → ∃ u, e = .returned u) (hK : ∀ u w', R (.returned u) w' → K (a.put o.dst u) w') : wpOp P ops Q i K a w := by
  obtain ⟨k, env, hv, hk, hc⟩ := hc
  have hrun := run_enter (P := P) (w := w) (o := o) (a := a) hop (hx.trans hv) hk
  unfold wpOp; simp only [ho, hg, if_true]
  left; unfold Oper.wp; rw [hrun, has]
  refine hc.mono fun e w' hr => ?_
  obtain ⟨u, rfl⟩ := hR e w' hr
  exact hK u w' hr
/-- c1 alone, c2 alone, then tl -/
def twoC (md : Region.Mode) (ops : Array Oper) (c1 c2 : Nat) (tl : List Nat) (li : Array Bool) : Bool :=
  decide (Region.ready md ops li = [c1]) && decide (Region.ready md ops (li.setIfInBounds c1 true) = [c2]) && preB md ops (fun li => decide (Region.ready md ops li = [])) tl ((li.setIfInBounds c1 true).setIfInBounds c2 true)
theorem two_callv {id : Nat} {a a1 : Act} {l : List Oper} (hd tl : List Nat) (c1 c2 : Nat) (o1 o2 : Oper) (d1 d2 : Nat) (x1 x2 : Operand) (xs1 xs2 : Array Operand) (ty1 ty2 : Array TypeId) (S : World → Prop) (v1 : Value) (args1 args2 : Array Value) (R1 : Ending → World → Prop) (R2 : Value → World → Ending → World → Prop) (hm : P.follows .mixedOrders = true)
    (hB : (Region.noSelect l.toArray && preB .any l.toArray (twoC .any l.toArray c1 c2 tl) hd (Array.replicate l.toArray.size false) && decide (hd.length + (tl.length + 2) = l.toArray.size)) = true)
    (hQ : ∀ c a d v w, Q (.panic c) (Act.put a d v) w → Q (.panic c) a w) (ho1 : l.toArray[c1]? = some o1) (ho2 : l.toArray[c2]? = some o2) (hg : o1.guard = none ∧ o2.guard = none) (hd1 : o1.dst = some d1) (hd2 : o2.dst = some d2)
    (hp1 : o1.op = .call { callee := .value x1, args := xs1, argTypes := ty1 }) (hp2 : o2.op = .call { callee := .value x2, args := xs2, argTypes := ty2 })
    (hS : S { w with drawn := w.drawn + 1 }) (hread : wpHeldG P l.toArray S (fun a' => a' = a1) (pick l.toArray hd) a)
    (hx1 : a1.eval x1 = v1) (ha1 : xs1.map a1.eval = args1) (hc1 : CallsV P v1 args1 { w with drawn := w.drawn + 1 } R1) (hR1 : ∀ e w', R1 e w' → ∃ u, e = .returned u)
    (h2 : ∀ u w1, R1 (.returned u) w1 → S w1 ∧ ((a1.put (some d1) u).eval x2 = u ∧ xs2.map (a1.put (some d1) u).eval = args2) ∧ CallsV P u args2 w1 (R2 u w1) ∧ (∀ e w', R2 u w1 e w' → ∃ u2, e = .returned u2) ∧
      ∀ u2 w2, R2 u w1 (.returned u2) w2 → S w2 ∧ wpHeldG P l.toArray S (fun a' => Q .normal a' w2) (pick l.toArray tl) ((a1.put (some d1) u).put (some d2) u2)) :
    (Code.region id l.toArray true).wp P Q a w := by
  simp only [Bool.and_eq_true, decide_eq_true_eq] at hB
  obtain ⟨⟨hsel, hp⟩, hsz⟩ := hB
  refine wp_region_held (S := S) hm ?_
  have key := wpAnyH_of_heldg (Q := Q) (S := S) (w := { w with drawn := w.drawn + 1 }) (k := twoC .any l.toArray c1 c2 tl) (K := fun a' => a' = a1) (g := tl.length + 2) hsel hQ hS
    (fun li a' hk ha' => ?_) hd (Array.replicate l.toArray.size false) a hp hread
  · rw [hsz] at key; exact key
  subst ha'
  simp only [twoC, Bool.and_eq_true, decide_eq_true_eq] at hk
  obtain ⟨⟨r0, r1⟩, r2⟩ := hk
  refine wpAnyH_all r0 (by simp) fun i hi => ?_
  obtain rfl : i = c1 := by simpa using hi
  refine op_callv v1 args1 ho1 (by simp [Region.wanted, hg.1]) hp1 hx1 ha1 hc1 hR1 fun u w1 hr => ?_
  obtain ⟨hs1, ⟨e1, e2⟩, hc2, hR2, hk2⟩ := h2 u w1 hr
  refine ⟨hs1, wpAnyH_all r1 (by simp) fun j hj => ?_⟩
  obtain rfl : j = c2 := by simpa using hj
  rw [hd1]
  refine op_callv u args2 ho2 (by simp [Region.wanted, hg.2]) hp2 e1 e2 hc2 hR2 fun u2 w2 hr2 => ?_
  obtain ⟨hs2, htail⟩ := hk2 u2 w2 hr2
  refine ⟨hs2, ?_⟩
  rw [hd2]
  have tail := wpAnyH_of_heldg (Q := Q) (S := S) (w := w2) (k := fun li => decide (Region.ready .any l.toArray li = [])) (K := fun a' => Q .normal a' w2) (g := 0) hsel hQ hs2
    (fun li a' hk ha' => wpAnyH_done (by simpa using hk) ha' _) tl _ _ r2 htail
  simpa using tail
/-- one call of a function value, that may be guarded -/
theorem one_callv {id : Nat} {a a1 : Act} {l : List Oper} (hd tl : List Nat) (c : Nat) (oc : Oper) (dc : Nat) (x : Operand) (xs : Array Operand) (tys : Array TypeId) (v : Value) (args : Array Value) (R : Ending → World → Prop) (S : World → Prop) (hm : P.follows .mixedOrders = true)
    (hB : (Region.noSelect l.toArray && preB .any l.toArray (oneB .any l.toArray c tl) hd (Array.replicate l.toArray.size false) && decide (hd.length + (tl.length + 1) = l.toArray.size)) = true)
    (hQ : ∀ c a d v w, Q (.panic c) (Act.put a d v) w → Q (.panic c) a w) (hoc : l.toArray[c]? = some oc) (hdc : oc.dst = some dc) (hop : oc.op = .call { callee := .value x, args := xs, argTypes := tys }) (hS : S { w with drawn := w.drawn + 1 })
    (hread : wpHeldG P l.toArray S (fun a' => a' = a1) (pick l.toArray hd) a) (hgc : Region.wanted oc (yielded l.toArray a1.tmps) = true)
    (hx : a1.eval x = v) (has : xs.map a1.eval = args) (hc : CallsV P v args { w with drawn := w.drawn + 1 } R) (hR : ∀ e w', R e w' → ∃ u, e = .returned u)
    (htail : ∀ u w', R (.returned u) w' → S w' ∧ wpHeldG P l.toArray S (fun a' => Q .normal a' w') (pick l.toArray tl) (a1.put (some dc) u)) :
    (Code.region id l.toArray true).wp P Q a w := by
  simp only [Bool.and_eq_true, decide_eq_true_eq] at hB
  obtain ⟨⟨hsel, hp⟩, hsz⟩ := hB
  -- the reads, with the world as it is
  refine wp_region_held (S := S) hm ?_
  have key := wpAnyH_of_heldg (Q := Q) (S := S) (w := { w with drawn := w.drawn + 1 }) (k := oneB .any l.toArray c tl) (K := fun a' => a' = a1) (g := tl.length + 1) hsel hQ hS
    (fun listed a' hk ha' => ?_) hd (Array.replicate l.toArray.size false) a hp hread
  · rw [hsz] at key; exact key
  subst ha'
  simp only [oneB, Bool.and_eq_true, decide_eq_true_eq] at hk
  obtain ⟨r0, r1⟩ := hk
  refine wpAnyH_all r0 (by simp) fun i hi => ?_
  obtain rfl : i = c := by simpa using hi
  refine op_callv v args hoc hgc hop hx has hc hR fun u w' hr => ?_
  obtain ⟨hs, ht⟩ := htail u w' hr
  refine ⟨hs, ?_⟩
  rw [hdc]
  have tail := wpAnyH_of_heldg (Q := Q) (S := S) (w := w') (k := fun li => decide (Region.ready .any l.toArray li = [])) (K := fun a' => Q .normal a' w') (g := 0) hsel hQ hs
    (fun listed a' hk ha' => wpAnyH_done (by simpa using hk) ha' _) tl _ _ r1 ht
  simpa using tail
end
end BB
end
section
open Go Go.RowKit
namespace BB
def obyte (v : Nat → BitVec 32) (i : Nat) : Nat := (v (i / 4)).toNat / 2 ^ (8 * (i % 4)) % 256
def ostep (v : Nat → BitVec 32) : Nat → Nat → Nat
  | 0 => fun _ => 0
  | k + 1 => put (ostep v k) k (obyte v k)
theorem ostep_lt (v : Nat → BitVec 32) (k i : Nat) (h : i < k) : ostep v k i = obyte v i := by
  induction k with
  | zero => omega
  | succ k ih =>
    show put (ostep v k) k (obyte v k) i = _
    by_cases e : i = k
    · subst e; rw [put_same]
    · rw [put_other _ _ e]; exact ih (by omega)
/-- the digest's text -/
def outL (v : Nat → BitVec 32) : List UInt8 := (List.range 32).map fun i => UInt8.ofNat (obyte v i)
def outS (v : Nat → BitVec 32) : ByteArray := ⟨(outL v).toArray⟩
/-- the words behind all that was written -/
def St.done (s : St) : Nat → BitVec 32 := comp s.h s.B (s.be + s.fl) true
theorem out_conv {P : Program} {w : World} {src dst e ob : Nat} {v : Nat → BitVec 32} (hs : P.underlying src = some (.slice e)) (he : P.underlying e = some (.int .u8)) (hd : P.underlying dst = some .string)
    (hb : Blk w ob 32 (cb (ostep v 32))) : (convert src dst (.slice (some ⟨ob, 0, none⟩) 32 32)).run P w = .ok (.string (outS v)) w := by
  have h := run_convert_bytes_arg (P := P) w src e hs he ob 0 32 32 ((List.range 32).map fun i => (obyte v i : Int)) (by simp) (fun i hi => by
    rw [Nat.zero_add, hb.get i hi]
    unfold cb
    rw [ostep_lt v 32 i hi]
    simp [hi]) dst hd
  rw [h]
  have : strOfNums ((List.range 32).map fun i => (obyte v i : Int)) = outS v := by
    unfold outS outL strOfNums
    simp [List.map_map, Function.comp_def]
  rw [this]
end BB
namespace Go.Proofs.Ytphlpgdbngbplaa
open BB
theorem Dg.be {w : World} {b : Nat} {s : St} (h : Dg w b s) : w.cell? ⟨b, 73, none⟩ = some (.int .u64 (s.be : Int)) := h.get 73 (by omega)
structure SumAt (v : Nat → BitVec 32) (w : World) (wb ob k : Nat) (w' : World) : Prop where
  below : Below w.heap.size w w'
  words : Blk w' wb 8 (cw .u32 v)
  out : Blk w' ob 32 (cb (ostep v k))
  l1 : w.heap.size ≤ wb
  l2 : w.heap.size ≤ ob
  ne : wb ≠ ob
theorem SumAt.next {v : Nat → BitVec 32} {w : World} {wb ob k : Nat} {w' : World} (h : SumAt v w wb ob k w') (q r : Nat) (hq : q = k / 4) (hr : r = k % 4) :
    SumAt v w wb ob (k + 1) (w'.setCell ⟨ob, k, none⟩ (.int .u8 (((v q).toNat : Int) / 2 ^ (8 * r) % 256))) := by
  refine ⟨h.below.setCell h.l2 _, h.words.set_other _ _ h.ne, ?_, h.l1, h.l2, h.ne⟩
  have e : Value.int .u8 (((v q).toNat : Int) / 2 ^ (8 * r) % 256) = .int .u8 ((obyte v k : Nat) : Int) := by
    subst hq; subst hr; unfold obyte; congr 1
  rw [e]
  exact (h.out.set k _).congr _ fun i _ => by
    show put (cb (ostep v k)) k _ i = cb (put (ostep v k) k (obyte v k)) i
    unfold cb put; split <;> rfl
end Go.Proofs.Ytphlpgdbngbplaa
end
section
open Go Go.RowKit
namespace BB
/-- how the words begin, by the key's length -/
def h0 (n : Nat) : Nat → BitVec 32 := put iv 0 (iv 0 ^^^ (0x01010020 ^^^ BitVec.ofNat 32 (n * 256)))
/-- a digest that begins with the key l, of at most 32 bytes -/
def st0 (l : List UInt8) : St := if l = [] then ⟨h0 0, fun _ => 0, 0, 0⟩ else ⟨h0 l.length, fun j => if j < l.length then sb l j else 0, 64, 0⟩
theorem st0_ok (l : List UInt8) : (st0 l).Ok (if l = [] then 0 else 64) := by
  unfold st0
  split
  · exact ⟨by show 0 ≤ 64; omega, fun _ => by show 0 < 256; omega, rfl⟩
  · refine ⟨Nat.le_refl _, fun i => ?_, rfl⟩
    show (if i < l.length then sb l i else 0) < 256
    split
    · exact sb_lt _ _
    · omega
theorem xor_h0 (n : Nat) (hn : n ≤ 32) : Value.int .u32 (bits .xor .u32 ((iv 0).toNat : Int) (bits .xor .u32 16842784 ((n : Int) * 256))) = .int .u32 ((iv 0 ^^^ (0x01010020 ^^^ BitVec.ofNat 32 (n * 256))).toNat : Int) := by
  have e1 : ((n : Int) * 256) = ((BitVec.ofNat 32 (n * 256)).toNat : Int) := by rw [BitVec.toNat_ofNat]; omega
  have e2 : (16842784 : Int) = ((0x01010020 : BitVec 32).toNat : Int) := rfl
  rw [e1, e2, bvxor, bvxor]
theorem dgc_put0 (h : Nat → BitVec 32) (B : Nat → Nat) (fl be : Nat) (x : BitVec 32) (u : Value) (hu : u = .int .u32 (x.toNat : Int)) : ∀ i, i < 74 → put (dgc h B fl be) 0 u i = dgc (put h 0 x) B fl be i := fun i _ => by
  subst hu
  unfold put dgc
  by_cases e : i = 0
  · subst e; simp [cw]
  · simp only [if_neg e]
    by_cases e8 : i < 8
    · simp [e8, cw, e]
    · simp [e8]
section
variable {P : Program} {ops : Array Oper} {Q : Exit → Act → World → Prop} {a : Act} {w : World} {rest : List Oper} {o : Oper}
theorem wpl_build1 {T i : Nat} (x : Operand) (v0 v : Value) (hg : o.guard = none) (ho : o.op = .build T #[(i, x)]) (hx : a.eval x = v0) (h : (Instr.build T #[(i, v0)]).run P w = .ok v w)
    (hK : wpList P ops Q rest (a.put o.dst v) w) : wpList P ops Q (o :: rest) a w := by
  refine wpl_value hg ?_ hK
  unfold execOp
  simp only [ho, Sem.run_bind, Sem.run_pure, List.map_toArray, List.map_cons, List.map_nil, hx, h, Result.andThen_ok]
end
end BB
namespace Go.Proofs.Ytphlpgdbngbplaa
open BB
end Go.Proofs.Ytphlpgdbngbplaa
end
section
open Go Go.RowKit
namespace BB
theorem wstep_congr (B B' : Nat → Nat) (k : Nat) (h : ∀ j, j < k → B j = B' j) : wstep B k = wstep B' k := by
  induction k with
  | zero => rfl
  | succ k ih =>
    show put (wstep B k) (k / 4) _ = put (wstep B' k) (k / 4) _
    rw [ih (fun j hj => h j (by omega)), h k (by omega)]
theorem comp_congr (w : Nat → BitVec 32) (B B' : Nat → Nat) (n : Nat) (last : Bool) (h : ∀ j, j < 64 → B j = B' j) : comp w B n last = comp w B' n last := by
  unfold comp; rw [wstep_congr B B' 64 h]
/-- the k-th block of the bytes b -/
def rblk (b : Nat → Nat) (k : Nat) : Nat → Nat := fun j => b (64 * k + j)
/-- the words behind k blocks, none of which was the last one -/
def rwords (n : Nat) (b : Nat → Nat) : Nat → Nat → BitVec 32
  | 0 => h0 n
  | k + 1 => comp (rwords n b k) (rblk b k) (64 * (k + 1)) false
theorem rwords_congr (n : Nat) (b b' : Nat → Nat) (k : Nat) (h : ∀ j, j < 64 * k → b j = b' j) : rwords n b k = rwords n b' k := by
  induction k with
  | zero => rfl
  | succ k ih =>
    show comp _ _ _ _ = comp _ _ _ _
    rw [ih (fun j hj => h j (by omega))]
    exact comp_congr _ _ _ _ _ fun j hj => h _ (by omega)
theorem sb_append_lt (A : List UInt8) (c : UInt8) (j : Nat) (h : j < A.length) : sb (A ++ [c]) j = sb A j := by
  simp [sb, List.getElem?_append_left h]
theorem sb_append_at (A : List UInt8) (c : UInt8) : sb (A ++ [c]) A.length = c.toNat := by simp [sb]
theorem sb_ge (A : List UInt8) (j : Nat) (h : A.length ≤ j) : sb A j = 0 := by simp [sb, List.getElem?_eq_none h]
/-- s is what the bytes A make of an empty digest -/
def FedAs (n : Nat) (A : List UInt8) (s : St) : Prop :=
  ∃ m, s.h = rwords n (sb A) m ∧ s.be = 64 * m ∧ A.length = 64 * m + s.fl ∧ s.fl ≤ 64 ∧ (m = 0 ∨ 0 < s.fl) ∧ ∀ j, s.B j = if j < s.fl then sb A (64 * m + j) else 0
theorem fed_nil (n : Nat) : FedAs n [] ⟨h0 n, fun _ => 0, 0, 0⟩ := ⟨0, rfl, rfl, rfl, Nat.zero_le _, Or.inl rfl, fun j => by simp⟩
theorem fed_add (n : Nat) (A : List UInt8) (c : UInt8) (s : St) (h : FedAs n A s) : FedAs n (A ++ [c]) (s.add c) := by
  obtain ⟨m, hh, hb, hl, hf, hm, hB⟩ := h
  by_cases e : s.fl = 64
  · have hn : s.next = ⟨comp s.h s.B (s.be + 64) false, fun _ => 0, 0, s.be + 64⟩ := by unfold St.next; rw [if_pos e]
    have ha : s.add c = ⟨comp s.h s.B (s.be + 64) false, put (fun _ => 0) 0 c.toNat, 1, s.be + 64⟩ := by unfold St.add; rw [hn]
    rw [ha]
    refine ⟨m + 1, ?_, ?_, ?_, by show 1 ≤ 64; omega, Or.inr (by show 0 < 1; omega), fun j => ?_⟩
    · show comp s.h s.B (s.be + 64) false = comp (rwords n (sb (A ++ [c])) m) (rblk (sb (A ++ [c])) m) (64 * (m + 1)) false
      rw [hh, hb, rwords_congr n (sb A) (sb (A ++ [c])) m (fun j hj => (sb_append_lt A c j (by omega)).symm)]
      refine comp_congr _ _ _ _ _ fun j hj => ?_
      rw [hB, if_pos (by omega)]
      exact (sb_append_lt A c _ (by omega)).symm
    · show s.be + 64 = 64 * (m + 1); omega
    · show (A ++ [c]).length = 64 * (m + 1) + 1; simp; omega
    · show put (fun _ => 0) 0 c.toNat j = if j < 1 then sb (A ++ [c]) (64 * (m + 1) + j) else 0
      by_cases hj : j = 0
      · subst hj
        rw [put_same, if_pos (by omega), show 64 * (m + 1) + 0 = A.length by omega, sb_append_at]
      · rw [put_other _ _ hj, if_neg (by omega)]
  · have hn : s.next = s := by unfold St.next; rw [if_neg e]
    have ha : s.add c = ⟨s.h, put s.B s.fl c.toNat, s.fl + 1, s.be⟩ := by unfold St.add; rw [hn]
    rw [ha]
    refine ⟨m, ?_, hb, ?_, by show s.fl + 1 ≤ 64; omega, Or.inr (by show 0 < s.fl + 1; omega), fun j => ?_⟩
    · show s.h = _
      rw [hh]
      exact rwords_congr n (sb A) (sb (A ++ [c])) m (fun j hj => (sb_append_lt A c j (by omega)).symm)
    · show (A ++ [c]).length = 64 * m + (s.fl + 1); simp; omega
    · show put s.B s.fl c.toNat j = if j < s.fl + 1 then sb (A ++ [c]) (64 * m + j) else 0
      by_cases hj : j = s.fl
      · subst hj
        rw [put_same, if_pos (by omega), ← hl, sb_append_at]
      · rw [put_other _ _ hj, hB]
        by_cases h2 : j < s.fl
        · rw [if_pos h2, if_pos (by omega), sb_append_lt A c _ (by omega)]
        · rw [if_neg h2, if_neg (by omega)]
theorem fed_feed (n : Nat) (l : List UInt8) : ∀ (A : List UInt8) (s : St), FedAs n A s → FedAs n (A ++ l) (s.feed l) := by
  induction l with
  | nil => intro A s h; simpa [St.feed] using h
  | cons c l ih =>
    intro A s h
    have := ih (A ++ [c]) (s.add c) (fed_add n A c s h)
    rw [List.append_assoc, List.singleton_append] at this
    exact this
/-- the words that the reference makes of the bytes A -/
def rdone (n : Nat) (A : List UInt8) : Nat → BitVec 32 := comp (rwords n (sb A) ((A.length - 1) / 64)) (rblk (sb A) ((A.length - 1) / 64)) A.length true
theorem fed_done (n : Nat) (A : List UInt8) (s : St) (h : FedAs n A s) : s.done = rdone n A := by
  obtain ⟨m, hh, hb, hl, hf, hm, hB⟩ := h
  have e : (A.length - 1) / 64 = m := by omega
  unfold St.done rdone
  rw [e, hh, hb, ← hl]
  refine comp_congr _ _ _ _ _ fun j hj => ?_
  rw [hB]
  show _ = sb A (64 * m + j)
  by_cases h2 : j < s.fl
  · rw [if_pos h2]
  · rw [if_neg h2, sb_ge A _ (by omega)]
/-- the key's block -/
def kblock (l : List UInt8) : List UInt8 := if l = [] then [] else l ++ List.replicate (64 - l.length) 0
theorem fed_st0 (l : List UInt8) (h32 : l.length ≤ 32) : FedAs l.length (kblock l) (st0 l) := by
  by_cases h : l = []
  · subst h
    exact fed_nil 0
  · have e1 : kblock l = l ++ List.replicate (64 - l.length) 0 := by unfold kblock; rw [if_neg h]
    have e2 : st0 l = ⟨h0 l.length, fun j => if j < l.length then sb l j else 0, 64, 0⟩ := by unfold st0; rw [if_neg h]
    rw [e1, e2]
    refine ⟨0, rfl, rfl, by simp; omega, Nat.le_refl _, Or.inl rfl, fun j => ?_⟩
    show (if j < l.length then sb l j else 0) = if j < 64 then sb (l ++ List.replicate (64 - l.length) 0) (64 * 0 + j) else 0
    rw [Nat.mul_zero, Nat.zero_add]
    by_cases h1 : j < l.length
    · rw [if_pos h1, if_pos (by omega)]
      simp [sb, List.getElem?_append_left h1]
    · rw [if_neg h1]
      by_cases h2 : j < 64
      · rw [if_pos h2]
        have h3 : j - l.length < 64 - l.length := by omega
        simp [sb, List.getElem?_append_right (show l.length ≤ j by omega), h3]
      · rw [if_neg h2]
/-- the digest is the reference's -/
theorem done_eq (key b : List UInt8) (h32 : key.length ≤ 32) : ((st0 key).feed b).done = rdone key.length (kblock key ++ b) :=
  fed_done _ _ _ (fed_feed _ b _ _ (fed_st0 key h32))
end BB
end
section
open Go Go.RowKit
namespace BB
theorem conv4 {P : Program} (w : World) (src dst e : TypeId) (hs : P.underlying src = some (.slice e)) (he : P.underlying e = some (.int .u8)) (hd : P.underlying dst = some .string) (a b c d : Int) :
    (convert src dst (.slice (some ⟨w.heap.size, 0, none⟩) 4 4)).run P (w.alloc (.cells #[.int .u8 a, .int .u8 b, .int .u8 c, .int .u8 d] e)) = .ok (.string (strOfNums [a, b, c, d])) (w.alloc (.cells #[.int .u8 a, .int .u8 b, .int .u8 c, .int .u8 d] e)) := by
  refine run_convert_bytes_arg _ src e hs he _ 0 4 4 [a, b, c, d] rfl (fun i hi => ?_) dst hd
  have hn : (w.alloc (.cells #[.int .u8 a, .int .u8 b, .int .u8 c, .int .u8 d] e)).heap[w.heap.size]? = some (.cells #[.int .u8 a, .int .u8 b, .int .u8 c, .int .u8 d] e) := by show (w.heap.push _)[w.heap.size]? = _; simp
  rw [Nat.zero_add]
  match i, hi with
  | 0, _ => unfold World.cell?; rw [hn]; rfl
  | 1, _ => unfold World.cell?; rw [hn]; rfl
  | 2, _ => unfold World.cell?; rw [hn]; rfl
  | 3, _ => unfold World.cell?; rw [hn]; rfl
/-- a word's four bytes, the lowest first -/
def quad (x : BitVec 32) : ByteArray := ⟨#[UInt8.ofNat (x.toNat % 256), UInt8.ofNat (x.toNat / 256 % 256), UInt8.ofNat (x.toNat / 65536 % 256), UInt8.ofNat (x.toNat / 16777216 % 256)]⟩
theorem quad_nums (x : BitVec 32) : strOfNums [(x.toNat : Int) % 256, (x.toNat : Int) / 256 % 256, (x.toNat : Int) / 65536 % 256, (x.toNat : Int) / 16777216] = quad x := by
  have hx := x.isLt
  unfold quad strOfNums
  generalize x.toNat = n at *
  have e1 : ((n : Int) / 16777216).toNat = n / 16777216 % 256 := by omega
  have e2 : ((n : Int) / 65536 % 256).toNat = n / 65536 % 256 := by omega
  have e3 : ((n : Int) / 256 % 256).toNat = n / 256 % 256 := by omega
  have e4 : ((n : Int) % 256).toNat = n % 256 := by omega
  simp only [List.map_cons, List.map_nil, e1, e2, e3, e4]
theorem outL_len (v : Nat → BitVec 32) : (outL v).length = 32 := by simp [outL]
theorem outL_get (v : Nat → BitVec 32) (i : Nat) (h : i < 32) : (outL v)[i]? = some (UInt8.ofNat (obyte v i)) := by
  simp [outL, h]
theorem quad_take (v : Nat → BitVec 32) (k : Nat) (h : k < 8) : (outL v).take (4 * k) ++ (quad (v k)).data.toList = (outL v).take (4 * (k + 1)) := by
  have hl := outL_len v
  apply List.ext_getElem?
  intro j
  by_cases h1 : j < 4 * k
  · rw [List.getElem?_append_left (by simp; omega), List.getElem?_take_of_lt h1, List.getElem?_take_of_lt (by omega)]
  · rw [List.getElem?_append_right (by simp; omega)]
    have ht : (List.take (4 * k) (outL v)).length = 4 * k := by simp; omega
    rw [ht]
    by_cases h2 : j < 4 * (k + 1)
    · rw [List.getElem?_take_of_lt h2, outL_get v j (by omega)]
      have hc : j - 4 * k = 0 ∨ j - 4 * k = 1 ∨ j - 4 * k = 2 ∨ j - 4 * k = 3 := by omega
      rcases hc with h3 | h3 | h3 | h3
      · have : j = 4 * k := by omega
        subst this
        simp [quad, obyte, show 4 * k / 4 = k by omega]
      · obtain rfl : j = 4 * k + 1 := by omega
        simp [quad, obyte, show (4 * k + 1) / 4 = k by omega, show (4 * k + 1) % 4 = 1 by omega]
      · obtain rfl : j = 4 * k + 2 := by omega
        simp [quad, obyte, show (4 * k + 2) / 4 = k by omega, show (4 * k + 2) % 4 = 2 by omega]
      · obtain rfl : j = 4 * k + 3 := by omega
        simp [quad, obyte, show (4 * k + 3) / 4 = k by omega, show (4 * k + 3) % 4 = 3 by omega]
    · rw [List.getElem?_eq_none (by simp [quad]; omega), List.getElem?_eq_none (by simp; omega)]
theorem out_take8 (v : Nat → BitVec 32) : (⟨((outL v).take (4 * 8)).toArray⟩ : ByteArray) = outS v := by
  unfold outS; rw [List.take_of_length_le (by simp [outL])]
theorem quad_snoc (v : Nat → BitVec 32) (k : Nat) (h : k < 8) : Value.string (⟨((outL v).take (4 * k)).toArray⟩ ++ quad (v k)) = .string ⟨((outL v).take (4 * (k + 1))).toArray⟩ := by
  congr 1
  apply ByteArray.ext
  apply Array.toList_inj.1
  rw [← quad_take v k h]
  simp
end BB
end
section
open Go Go.RowKit
namespace BB
/-- the digest of b, without a key -/
def dg (b : ByteArray) : ByteArray := outS ((st0 []).feed b.data.toList).done
theorem dsize (b : ByteArray) : (dg b).size = 32 := by simp [dg, outS, outL, ByteArray.size]
end BB
namespace Go.Proofs.Ytphlpgdbngbplaa
open BB
end Go.Proofs.Ytphlpgdbngbplaa
end
section
open Go Go.RowKit
namespace BB
/-- the digest of b with a key -/
def kdg (key b : ByteArray) : ByteArray := outS ((st0 key.data.toList).feed b.data.toList).done
theorem kdg_size (key b : ByteArray) : (kdg key b).size = 32 := by simp [kdg, outS, outL, ByteArray.size]
theorem nil_of_size (K : ByteArray) (h : K.size = 0) : K = ⟨#[]⟩ := by
  cases K with
  | mk d =>
    have : d.size = 0 := h
    rw [Array.size_eq_zero_iff.1 this]
end BB
namespace Go.Proofs.Ytphlpgdbngbplaa
open BB
theorem st0_ok64 (l : List UInt8) : ∃ L, L ≤ 64 ∧ (st0 l).Ok L := ⟨_, by split <;> omega, st0_ok l⟩
end Go.Proofs.Ytphlpgdbngbplaa
end
