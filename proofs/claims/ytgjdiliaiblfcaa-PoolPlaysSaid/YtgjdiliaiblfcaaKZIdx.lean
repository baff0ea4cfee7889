/-
  The walks of slices.IndexFunc and ContainsFunc over requests, and of what tells whether a list has a number.
-/
import Derived.Test.YtgjdiliaiblfcaaKGMap
import Derived.Test.YtgjdiliaiblfcaaKZTw
import Derived.Test.YtgjdiliaiblfcaaKJDig
import Derived.Test.YtgjdiliaiblfcaaKMSign
import Derived.Test.YtgjdiliaiblfcaaKJBox
section
open Go Go.RowKit
namespace FF
open WW BB MM
/-- a block of a size that is looked at -/
def SmallI (b : BlockD) : Prop := (parI b).size ≤ 1000 ∧ SmallS (sigsI b) ∧ SmallR b.2
theorem Keeps.grown {A : Nat → Prop} {w w' : World} {row : Option Nat} (h : w.grownBy w' row) (hA : ∀ b, row = some b → ¬ A b) : Keeps A w w' :=
  ⟨⟨h.os, h.tape, h.output, h.size, fun k hk => absurd hk (Nat.not_lt_zero k)⟩, fun c hb hl => h.block c hl fun e => hA c e.symm hb⟩
theorem Keeps.alloc {A : Nat → Prop} {w w' : World} (h : Keeps A w w') (o : Obj) : Keeps A w (w'.alloc o) := h.trans (Keeps.of ((Below.refl _ _).alloc (Nat.le_refl _) o))
theorem ba_full {b : ByteArray} (h : 0 < b.size) : b.toList.isEmpty = false := by
  cases hz : b.toList.isEmpty with
  | false => rfl
  | true =>
    rw [List.isEmpty_iff] at hz
    rw [CC.ba_toList (a := b) (b := ⟨#[]⟩) (hz.trans (by simp))] at h
    cases h
end FF
namespace Go.Proofs.Ytgjdiliaiblfcaa
open FF JJ CC MM WW BB
section
variable {B : Nat} {w w' : World} {g : Nat} {F : Fo} {rt : ByteArray} {mv ov : Value} {N O : List Iv} {C : Nat → Prop}
/-- the forest's own blocks -/
def MineB (g : Nat) (mv ov : Value) (C : Nat → Prop) (b : Nat) : Prop := b = g ∨ mapBlk mv = some b ∨ ov.ownBlock = some b ∨ C b
end
/-- an entry, taken apart -/
theorem sv_parts (s : Sv) : ∃ v p j k a1 n1 c1 a2 n2 c2 t, s = ((v, p, j, k), (a1, n1, c1), (a2, n2, c2), t) := by
  obtain ⟨⟨v, p, j, k⟩, ⟨a1, n1, c1⟩, ⟨a2, n2, c2⟩, t⟩ := s
  exact ⟨v, p, j, k, a1, n1, c1, a2, n2, c2, t, rfl⟩
end Go.Proofs.Ytgjdiliaiblfcaa
end
section
open Go Go.RowKit
namespace FF
open WW BB
/-- where the first one is; -1 -/
def idxI {α : Type} (l : List α) (p : α → Bool) : Int :=
  match l.findIdx? p with
  | some i => (i : Int)
  | none => -1
theorem idx_hit {α : Type} {l : List α} {p : α → Bool} (i : Nat) (hi : i < l.length) (hn : ∀ j (hj : j < i), p (l[j]'(by omega)) = false) (he : p l[i] = true) : idxI l p = (i : Int) := by
  unfold idxI
  rw [List.findIdx?_eq_some_iff_getElem.2 ⟨hi, he, fun j hj => by simpa using hn j hj⟩]
theorem idx_none {α : Type} {l : List α} {p : α → Bool} (hn : ∀ j (hj : j < l.length), p l[j] = false) : idxI l p = -1 := by
  unfold idxI
  rw [List.findIdx?_eq_none_iff.2 fun x hx => ?_]
  obtain ⟨j, hj, rfl⟩ := List.getElem_of_mem hx
  exact hn j hj
theorem idx_bound {α : Type} (l : List α) (p : α → Bool) : -1 ≤ idxI l p ∧ idxI l p < l.length := by
  unfold idxI
  split
  · rename_i i hi
    have := (List.findIdx?_eq_some_iff_getElem.1 hi).1
    omega
  · omega
theorem idx_any {α : Type} (l : List α) (p : α → Bool) : decide (0 ≤ idxI l p) = l.any p := by
  unfold idxI
  cases h : l.findIdx? p with
  | none =>
    have := List.findIdx?_eq_none_iff.1 h
    symm
    simp only [List.any_eq_false, show decide ((0 : Int) ≤ -1) = false from rfl]
    exact fun x hx => by simp [this x hx]
  | some i =>
    obtain ⟨h1, h2, _⟩ := List.findIdx?_eq_some_iff_getElem.1 h
    symm
    rw [show decide ((0 : Int) ≤ (i : Int)) = true by simp, List.any_eq_true]
    exact ⟨_, List.getElem_mem h1, h2⟩
theorem idx_map {α β : Type} (l : List α) (f : α → β) (p : β → Bool) : idxI (l.map f) p = idxI l (fun x => p (f x)) := by
  unfold idxI; rw [List.findIdx?_map]; rfl
theorem idx_at (l : List It) (h : ByteArray) : idxI l (fun x => decide (x.1 = h)) = atI l h := rfl
end FF
namespace Go.Proofs.Ytgjdiliaiblfcaa
open FF JJ CC MM WW BB
end Go.Proofs.Ytgjdiliaiblfcaa
end
section
open Go Go.RowKit
namespace ZZ
open FF JJ WW BB
section
variable {P : Program} {ops : Array Oper} {Q : Exit → Act → World → Prop} {a : Act} {w : World} {rest : List Oper} {o : Oper}
/-- a function's value, called with args: what is bound comes ahead, what is captured behind -/
def CallsW (P : Program) (v : Value) (args : Array Value) (w : World) (R : Ending → World → Prop) : Prop :=
  ∃ k first env, v = .func (.func k) first env ∧ Own P k ∧ Calls P k (first ++ args ++ env) w R
theorem CallsW.mono {v : Value} {args : Array Value} {R R' : Ending → World → Prop} (h : CallsW P v args w R) (hR : ∀ e w', R e w' → R' e w') : CallsW P v args w R' := by
  obtain ⟨k, f, env, hv, ho, hc⟩ := h
  exact ⟨k, f, env, hv, ho, hc.mono hR⟩
theorem run_enterW {x : Operand} {xs : Array Operand} {tys : Array TypeId} {k : Nat} {first env : Array Value} (ho : o.op = .call { callee := .value x, args := xs, argTypes := tys }) (hx : a.eval x = .func (.func k) first env) (hk : Own P k) :
    (execOp a.eval o).run P w = .ok (.enter k (first ++ xs.map a.eval ++ env)) w := by
  obtain ⟨fn, h1, h2, h3⟩ := hk
  have h2' : ¬ fn.name = "runtime.NumGoroutine" := by simpa using h2
  have h3' : ¬ fn.body = none := by intro h; rw [h] at h3; cases h3
  unfold execOp
  simp [ho, resolve, hx, Deferred.ofValue, invoke, callFunc, h1, h2', h3', Result.andThen]
theorem wpl_callw {x : Operand} {xs : Array Operand} {tys : Array TypeId} (v : Value) (args : Array Value) (R : Ending → World → Prop) (hg : o.guard = none) (ho : o.op = .call { callee := .value x, args := xs, argTypes := tys })
    (hx : a.eval x = v) (has : xs.map a.eval = args) (hc : CallsW P v args w R) (hR : ∀ e w', R e w' → ∃ u, e = .returned u)
    (hK : ∀ u w', R (.returned u) w' → wpList P ops Q rest (a.put o.dst u) w') : wpList P ops Q (o :: rest) a w := by
  obtain ⟨k, f, env, hv, hk, hc⟩ := hc
  refine wpList_plain hg fun K hK' => ?_
  have hrun := run_enterW (P := P) (w := w) (o := o) (a := a) ho (hx.trans hv) hk
  unfold Oper.wp
  rw [hrun, has]
  refine hc.mono fun e w' hr => ?_
  obtain ⟨u, rfl⟩ := hR e w' hr
  exact hK' _ _ (hK u w' hr)
end
/-- may a request have this number? -/
def possK (k : Int × Int) : Bool := decide (0 ≤ k.1 ∧ k.1 < 4 ∧ 1 ≤ k.2 ∧ k.2 ≤ 2147483647)
theorem poss64 {k : Int × Int} (h : possK k = true) : In64 k := by
  have h := of_decide_eq_true h
  unfold In64; omega
end ZZ
namespace Go.Proofs.Ytgjdiliaiblfcaa
open ZZ FF JJ WW BB RR
set_option maxRecDepth 100000 in
set_option maxHeartbeats 2000000 in
theorem znum_is (r : Rq) (w : World) : Calls Try.prog 24 #[rqV r] w fun e w' => e = .returned (.agg #[.int .i64 r.1, .int .i64 r.2.1]) ∧ Below w.heap.size w w' := by
  obtain ⟨c, q, t⟩ := r
  show Calls Try.prog 24 #[.agg #[.int .i64 c, .int .i64 q, .string t]] w fun e w' => e = .returned (.agg #[.int .i64 c, .int .i64 q]) ∧ Below w.heap.size w w'
  have X2 := Lib.hid (((Below.refl w.heap.size w).alloc (Nat.le_refl _) (.cells #[.int .i64 c, .int .i64 q, .string t] 33)).alloc (by simp) (.cells #[.int .i64 c, .int .i64 q] 58))
  go_enter Try.func24, Try.ntmps24
  go_wp2_with fail
  refine bodyPost_ret (v := .agg #[.int .i64 c, .int .i64 q]) (by simp [results, Try.results24, go_sem]) rfl ⟨rfl, X2.out⟩
set_option maxRecDepth 100000 in
set_option maxHeartbeats 2000000 in
theorem zposs_is (c q : Int) (X : Bool) (hX : possK (c, q) = X) (w : World) : Calls Try.prog 28 #[.agg #[.int .i64 c, .int .i64 q]] w fun e w' => e = .returned (.bool X) ∧ Below w.heap.size w w' := by
  have HX := Lib.hid hX
  clear hX
  by_cases h1 : 0 ≤ c
  · by_cases h2 : c < 4
    · by_cases h3 : 1 ≤ q
      · by_cases h4 : q ≤ 2147483647
        · have HXV := Lib.hid (show X = true by rw [← HX.out]; exact decide_eq_true ⟨h1, h2, h3, h4⟩)
          go_enter Try.func28, Try.ntmps28
          go_wp2_with fail
          go_ret
          exact ⟨by rw [HXV.out]; rfl, (Below.refl w.heap.size w).alloc (Nat.le_refl _) _⟩
        · have HXV := Lib.hid (show X = false by rw [← HX.out]; exact decide_eq_false fun h => h4 h.2.2.2)
          go_enter Try.func28, Try.ntmps28
          go_wp2_with fail
          go_ret
          exact ⟨by rw [HXV.out]; rfl, (Below.refl w.heap.size w).alloc (Nat.le_refl _) _⟩
      · have HXV := Lib.hid (show X = false by rw [← HX.out]; exact decide_eq_false fun h => h3 h.2.2.1)
        go_enter Try.func28, Try.ntmps28
        go_wp2_with fail
        go_ret
        exact ⟨by rw [HXV.out]; rfl, (Below.refl w.heap.size w).alloc (Nat.le_refl _) _⟩
    · have HXV := Lib.hid (show X = false by rw [← HX.out]; exact decide_eq_false fun h => h2 h.2.1)
      go_enter Try.func28, Try.ntmps28
      go_wp2_with fail
      go_ret
      exact ⟨by rw [HXV.out]; rfl, (Below.refl w.heap.size w).alloc (Nat.le_refl _) _⟩
  · have HXV := Lib.hid (show X = false by rw [← HX.out]; exact decide_eq_false fun h => h1 h.1)
    go_enter Try.func28, Try.ntmps28
    go_wp2_with fail
    go_ret
    exact ⟨by rw [HXV.out]; rfl, (Below.refl w.heap.size w).alloc (Nat.le_refl _) _⟩
theorem own_among1 : WW.Own Try.prog 29 := ⟨_, Try.func29, by kernel_rfl, by kernel_rfl⟩
theorem own_among2 : WW.Own Try.prog 31 := ⟨_, Try.func31, by kernel_rfl, by kernel_rfl⟩
theorem own_isdone : WW.Own Try.prog 27 := ⟨_, Try.func27, by kernel_rfl, by kernel_rfl⟩
set_option maxRecDepth 100000 in
set_option maxHeartbeats 4000000 in
/-- has this request the number that lies in block q? -/
theorem among2_any (r : Rq) (k : Int × Int) (q : Nat) (X : Bool) (hX : decide (keyR r = k) = X) (w : World) (hq : Blk w q 2 (rowL [.int .i64 k.1, .int .i64 k.2])) :
    Calls Try.prog 31 #[rqV r, .pointer (some ⟨q, 0, none⟩)] w fun e w' => e = .returned (.bool X) ∧ Below w.heap.size w w' := by
  obtain ⟨c, s, t⟩ := r
  obtain ⟨k1, k2⟩ := k
  show Calls Try.prog 31 #[.agg #[.int .i64 c, .int .i64 s, .string t], .pointer (some ⟨q, 0, none⟩)] w fun e w' => e = .returned (.bool X) ∧ Below w.heap.size w w'
  have HQ := Lib.hid hq
  have HX := Lib.hid hX
  have X1 := Lib.hid ((Below.refl w.heap.size w).alloc (Nat.le_refl _) (.cells #[.int .i64 c, .int .i64 s, .string t] 33))
  have R1 := Lib.hid (show Blk (w.alloc (.cells #[.int .i64 c, .int .i64 s, .string t] 33)) w.heap.size 3 (rowL [.int .i64 c, .int .i64 s, .string t]) from Blk.new' rfl (row3_ _ _ _))
  clear hq hX
  go_enter Try.func31, Try.ntmps31
  go_wp2_with fail
  obtain ⟨w1, hw1⟩ : ∃ w1, w.alloc (.cells #[.int .i64 c, .int .i64 s, .string t] 33) = w1 := ⟨_, rfl⟩
  have HZ := Lib.hid (show w.heap.size < w1.heap.size by rw [← hw1]; simp)
  rw [hw1] at X1 R1 ⊢
  clear hw1
  have HSC := Lib.hid (fun (wx : World) (h : Below w1.heap.size w1 wx) => And.intro (cells3 (R1.out.below h R1.out.lt)) (cells2 ((HQ.out.below X1.out HQ.out.lt).below h (Nat.lt_trans HQ.out.lt HZ.out))))
  refine plan_abs (fun wx => Below w1.heap.size w1 wx) [(true, 0), (true, 2), (false, 1), (true, 3), (true, 4)] (by kernel_rfl) (by kernel_rfl) (fun _ _ d _ _ h => by cases d <;> exact h) fun w5 hs5 => ⟨hs5.below _, ?_⟩
  have Z5 := Lib.hid (show Below w1.heap.size w1 w5 from hs5.below _)
  clear hs5
  iterate 2 (refine pl_run _ ?_ rfl rfl ?_ ?_; rotate_left; (focus (intro w' hS; obtain ⟨⟨d0, d1, d2⟩, e0, e1⟩ := HSC.out w' hS; go_simp; exact rfl)); simp only [Act.put, List.setIfInBounds_toArray, List.set_cons_zero, List.set_cons_succ, List.getElem_toArray, List.getElem_cons_zero, List.getElem_cons_succ])
  refine pl_call1 (v := .agg #[.int .i64 c, .int .i64 s]) (R := fun w' => Below w5.heap.size w5 w') _ rfl rfl (by go_simp; rfl) (znum_is (c, s, t) _) (fun w' h => Z5.out.trans (h.mono Z5.out.size)) fun w6 hb6 => ?_
  have Z6 := Lib.hid (Z5.out.trans (hb6.mono Z5.out.size))
  clear hb6
  simp only [Act.put, List.setIfInBounds_toArray, List.set_cons_zero, List.set_cons_succ, List.getElem_toArray, List.getElem_cons_zero, List.getElem_cons_succ]
  refine pl_run _ (.bool X) rfl rfl (fun w' hS => ?_) ?_
  · go_simp
    rw [← HX.out]
    by_cases h1 : c = k1
    · by_cases h2 : s = k2
      · rw [if_pos h1, if_pos h2, decide_eq_true (show keyR (c, s, t) = (k1, k2) by rw [h1, h2]; rfl)]
      · rw [if_pos h1, if_neg h2, decide_eq_false (show ¬ keyR (c, s, t) = (k1, k2) from fun h => h2 (congrArg Prod.snd h))]
    · rw [if_neg h1, decide_eq_false (show ¬ keyR (c, s, t) = (k1, k2) from fun h => h1 (congrArg Prod.fst h))]
  simp only [Act.put, List.setIfInBounds_toArray, List.set_cons_zero, List.set_cons_succ, List.getElem_toArray, List.getElem_cons_zero, List.getElem_cons_succ]
  iterate 1 (refine pl_run _ ?_ rfl rfl ?_ ?_; rotate_left; (focus (intro w' hS; go_simp; exact rfl)); simp only [Act.put, List.setIfInBounds_toArray, List.set_cons_zero, List.set_cons_succ, List.getElem_toArray, List.getElem_cons_zero, List.getElem_cons_succ])
  refine pl_end ?_
  go_wp2_with fail
  go_ret
  exact ⟨rfl, X1.out.trans (Z6.out.mono X1.out.size)⟩
end Go.Proofs.Ytgjdiliaiblfcaa
end
section
open Go Go.RowKit
namespace Go.Proofs.Ytgjdiliaiblfcaa
open ZZ FF JJ WW BB RR
set_option maxRecDepth 100000 in
set_option maxHeartbeats 4000000 in
theorem zifun_any (O : List Rq) (v fv : Value) (p : Rq → Bool) (w : World) (hv : ReqsAt w v O) (hl : O.length ≤ 1000)
    (hp : ∀ i (_ : i < O.length) (wr : World), Below w.heap.size w wr → CallsW Try.prog fv #[rqV (O.getD i r0)] wr fun e w' => e = .returned (.bool (p (O.getD i r0))) ∧ Below wr.heap.size wr w') :
    Calls Try.prog 32 #[v, fv] w fun e w' => e = .returned (.int .i64 (idxI O p)) ∧ Below w.heap.size w w' := by
  have HV := Lib.hid hv
  have HL := Lib.hid hl
  have HP := Lib.hid hp
  obtain ⟨a0, cap, rfl, hx⟩ := hv
  have HX := Lib.hid hx
  obtain ⟨X, hX⟩ : ∃ X, idxI O p = X := ⟨_, rfl⟩
  have HTX := Lib.hid hX
  rw [hX]
  clear hl hX hp hx
  go_enter Try.func32, Try.ntmps32
  go_wp2_with fail
  go_loopw [8] (fun y wr => ∃ i : Nat, i ≤ O.length ∧ y = .int .i64 (i : Int) ∧ (∀ j, j < i → p (O.getD j r0) = false) ∧ Below w.heap.size w wr) (fun y _ => O.length - (RowKit.intOf y).toNat)
  case atStart => exact ⟨0, Nat.zero_le _, rfl, fun j hj => absurd hj (Nat.not_lt_zero _), Below.refl _ _⟩
  case round =>
    obtain ⟨i, hi, rfl, hall, hbr⟩ := hrel
    have HALL := Lib.hid hall
    have HBR := Lib.hid hbr
    have i0 : (0 : Int) ≤ (i : Int) := by omega
    have ib : (i : Int) ≤ 1000 := by have := HL.out; omega
    clear hall
    by_cases hlt : i < O.length
    · have hlt' : (i : Int) < (O.length : Int) := by omega
      have HLT := Lib.hid hlt
      obtain ⟨qb, qoff, rfl, hqb, hcell⟩ : ∃ b off, a0 = some ⟨b, off, none⟩ ∧ b < w.heap.size ∧ _ := by
        rcases HX.out with h | h
        · rw [h] at hlt; simp at hlt
        · exact h
      obtain ⟨q0, q1, q2⟩ := JJ.reqs_at hbr hqb hcell i hlt
      obtain ⟨y, hy⟩ : ∃ y, O.getD i r0 = y := ⟨_, rfl⟩
      have HY := Lib.hid hy
      have HQ := Lib.hid (HP.out i hlt)
      rw [hy] at q0 q1 q2 HQ
      obtain ⟨c, s, t⟩ := y
      clear hi hlt hy hbr hqb hcell
      go_wp2_with (with_reducible refine hold_callv rfl rfl ?_)
      refine wpl_callw (v := fv) (args := #[rqV (c, s, t)]) _ rfl rfl rfl (by simp [Act.eval]; rfl) (HQ.out wr HBR.out) (fun e w' h => ⟨_, h.1⟩) ?_
      rintro u w3 ⟨hu, hb3⟩
      injection hu with hu
      subst hu
      have HB3 := Lib.hid (HBR.out.trans (hb3.mono HBR.out.size))
      clear hb3 HQ
      rcases hpp : p (c, s, t) with _ | _
      · have HPP := Lib.hid hpp
        clear hpp
        go_wp2_with fail
        go_roundw
        case rel => exact ⟨i + 1, by have := HLT.out; omega, by go_num, fun j hj => if h : j = i then by subst h; rw [HY.out]; exact HPP.out else HALL.out j (by omega), HB3.out⟩
        case measure => have := HLT.out; simp [RowKit.intOf]; omega
      · have HPP := Lib.hid hpp
        clear hpp
        go_wp2_with fail
        go_ret
        refine ⟨?_, HB3.out⟩
        rw [← HTX.out, idx_hit i HLT.out (fun j hj => by rw [← getD_at (d := r0)]; exact HALL.out j hj) (by rw [← getD_at (d := r0) HLT.out, HY.out]; exact HPP.out)]
        rfl
    · obtain rfl : i = O.length := by omega
      have hlt' : ¬ (O.length : Int) < (O.length : Int) := by omega
      clear hi hlt
      go_wp2_with fail
      go_ret
      refine ⟨?_, HBR.out⟩
      rw [← HTX.out, idx_none (fun j hj => by rw [← getD_at (d := r0)]; exact HALL.out j hj)]
      rfl
set_option maxRecDepth 100000 in
set_option maxHeartbeats 4000000 in
theorem zcfun_any (O : List Rq) (v fv : Value) (p : Rq → Bool) (b : Bool) (hb : O.any p = b) (w : World) (hv : ReqsAt w v O) (hl : O.length ≤ 1000)
    (hp : ∀ i (_ : i < O.length) (wr : World), Below w.heap.size w wr → CallsW Try.prog fv #[rqV (O.getD i r0)] wr fun e w' => e = .returned (.bool (p (O.getD i r0))) ∧ Below wr.heap.size wr w') :
    Calls Try.prog 30 #[v, fv] w fun e w' => e = .returned (.bool b) ∧ Below w.heap.size w w' := by
  have HV := Lib.hid hv
  have HL := Lib.hid hl
  have HP := Lib.hid hp
  have HB := Lib.hid hb
  obtain ⟨a0, cap, rfl, _⟩ := hv
  clear hl hb hp
  go_enter Try.func30, Try.ntmps30
  go_wp2_with fail
  refine (zifun_any O _ fv p w HV.out HL.out HP.out).mono ?_
  rintro e w2 ⟨rfl, hb2⟩
  go_wp2_with fail
  go_ret
  refine ⟨?_, hb2⟩
  rw [← HB.out, ← idx_any]; rfl
theorem any_key (l : List Rq) (k : Int × Int) : (l.any fun r => decide (keyR r = k)) = hasR l k := by
  unfold hasR
  rw [Bool.eq_iff_iff]
  simp only [List.any_eq_true, decide_eq_true_eq, List.mem_map]
set_option maxRecDepth 100000 in
set_option maxHeartbeats 4000000 in
/-- has the list in block g this number? -/
theorem among1_any (l : List Rq) (v : Value) (k : Int × Int) (g : Nat) (X : Bool) (hX : hasR l k = X) (w : World) (hg : Blk w g 1 (rowL [v])) (hv : ReqsAt w v l) (hl : l.length ≤ 1000) :
    Calls Try.prog 29 #[.agg #[.int .i64 k.1, .int .i64 k.2], .pointer (some ⟨g, 0, none⟩)] w fun e w' => e = .returned (.bool X) ∧ Below w.heap.size w w' := by
  obtain ⟨k1, k2⟩ := k
  show Calls Try.prog 29 #[.agg #[.int .i64 k1, .int .i64 k2], .pointer (some ⟨g, 0, none⟩)] w fun e w' => e = .returned (.bool X) ∧ Below w.heap.size w w'
  have HV := Lib.hid hv
  have HL := Lib.hid hl
  have HX := Lib.hid ((any_key l (k1, k2)).trans hX)
  have X1 := Lib.hid ((Below.refl w.heap.size w).alloc (Nat.le_refl _) (.cells #[.int .i64 k1, .int .i64 k2] 58))
  have R1 := Lib.hid (show Blk (w.alloc (.cells #[.int .i64 k1, .int .i64 k2] 58)) w.heap.size 2 (rowL [.int .i64 k1, .int .i64 k2]) from Blk.new' rfl (row2_ _ _))
  have q1 : (w.alloc (.cells #[.int .i64 k1, .int .i64 k2] 58)).cell? ⟨g, 0, none⟩ = some v := (X1.out.cell (p := ⟨g, 0, none⟩) hg.lt).trans (hg.get 0 (by omega))
  obtain ⟨a0, cap, rfl, _⟩ := hv
  clear hg hl hX
  go_enter Try.func29, Try.ntmps29
  go_wp2_with fail
  clear q1
  refine (zcfun_any l _ (.func (.func 31) #[] #[.pointer (some ⟨w.heap.size, 0, none⟩)]) _ X HX.out _ (HV.out.later X1.out) HL.out fun i hi wr hbr => ⟨_, _, _, rfl, own_among2, among2_any (l.getD i r0) (k1, k2) w.heap.size _ rfl wr (R1.out.below hbr R1.out.lt)⟩).mono ?_
  rintro e w2 ⟨rfl, hb2⟩
  go_wp2_with fail
  go_ret
  exact ⟨rfl, X1.out.trans (hb2.mono X1.out.size)⟩
set_option maxRecDepth 100000 in
set_option maxHeartbeats 4000000 in
/-- what tells of a list's numbers: behind it, the list lies in a block of its own -/
theorem zamong_any (v : Value) (w : World) (a0 : Option Addr) (n c : Nat) (hv : v = .slice a0 n c) :
    Calls Try.prog 22 #[v] w fun e w' => e = .returned (.func (.func 29) #[] #[.pointer (some ⟨w.heap.size, 0, none⟩)]) ∧ Below w.heap.size w w' ∧ w'.heap.size = w.heap.size + 1 ∧ Blk w' w.heap.size 1 (rowL [v]) := by
  subst hv
  go_enter Try.func22, Try.ntmps22
  go_wp2_with fail
  go_ret
  exact ⟨rfl, (Below.refl w.heap.size w).alloc (Nat.le_refl _) _, by simp, Blk.new' rfl rfl⟩
end Go.Proofs.Ytgjdiliaiblfcaa
end
