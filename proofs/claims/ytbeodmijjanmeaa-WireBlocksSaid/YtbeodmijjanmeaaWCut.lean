/-
  Closures that cut something off a string: what a call of one comes to; calls one behind the other. 
-/
import Derived.Test.YtbeodmijjanmeaaWMem
import Derived.Test.YtbeodmijjanmeaaChecked
open Go Go.RowKit
namespace WW
open BB
section
variable {P : Program} {ops : Array Oper} {Q : Exit → Act → World → Prop} {a : Act} {w : World} {rest : List Oper} {o : Oper}
/-- function k has a body of its own -/
def Own (P : Program) (k : Nat) : Prop := ∃ fn, P.funcs[k]? = some fn ∧ (fn.name == "runtime.NumGoroutine") = false ∧ fn.body.isNone = false
/-- the closure v, called with args -/
def CallsV (P : Program) (v : Value) (args : Array Value) (w : World) (R : Ending → World → Prop) : Prop :=
  ∃ k env, v = .func (.func k) #[] env ∧ Own P k ∧ Calls P k (args ++ env) w R
theorem CallsV.mono {v : Value} {args : Array Value} {R R' : Ending → World → Prop} (h : CallsV P v args w R) (hR : ∀ e w', R e w' → R' e w') : CallsV P v args w R' := by
  obtain ⟨k, env, hv, ho, hc⟩ := h
  exact ⟨k, env, hv, ho, hc.mono hR⟩
theorem run_enter {x : Operand} {xs : Array Operand} {tys : Array TypeId} {k : Nat} {env : Array Value} (ho : o.op = .call { callee := .value x, args := xs, argTypes := tys }) (hx : a.eval x = .func (.func k) #[] env) (hk : Own P k) :
    (execOp a.eval o).run P w = .ok (.enter k (xs.map a.eval ++ env)) w := by
  obtain ⟨fn, h1, h2, h3⟩ := hk
  have h2' : ¬ fn.name = "runtime.NumGoroutine" := by simpa using h2
  have h3' : ¬ fn.body = none := by intro h; rw [h] at h3; cases h3
  unfold execOp
  simp [ho, resolve, hx, Deferred.ofValue, invoke, callFunc, h1, h2', h3', Result.andThen]
theorem hold_callv {x : Operand} {xs : Array Operand} {tys : Array TypeId} {i : Nat} (_ho : o.op = .call { callee := .value x, args := xs, argTypes := tys }) (_hx : x = .tmp i) (h : Held (wpList P ops Q (o :: rest) a w)) : wpList P ops Q (o :: rest) a w := h
theorem wpl_callv {x : Operand} {xs : Array Operand} {tys : Array TypeId} (v : Value) (args : Array Value) (R : Ending → World → Prop) (hg : o.guard = none) (ho : o.op = .call { callee := .value x, args := xs, argTypes := tys })
    (hx : a.eval x = v) (has : xs.map a.eval = args) (hc : CallsV P v args w R) (hR : ∀ e w', R e w' → ∃ u, e = .returned u)
    (hK : ∀ u w', R (.returned u) w' → wpList P ops Q rest (a.put o.dst u) w') : wpList P ops Q (o :: rest) a w := by
  obtain ⟨k, env, hv, hk, hc⟩ := hc
  refine wpList_plain hg fun K hK' => ?_
  have hrun := run_enter (P := P) (w := w) (o := o) (a := a) ho (hx.trans hv) hk
  unfold Oper.wp
  rw [hrun, has]
  refine hc.mono fun e w' hr => ?_
  obtain ⟨u, rfl⟩ := hR e w' hr
  exact hK' _ _ (hK u w' hr)
theorem wpl_callv_w {x : Operand} {xs : Array Operand} {tys : Array TypeId} (v : Value) (args : Array Value) (R : Ending → World → Prop) (hg : Region.wanted o (yielded ops a.tmps) = true) (ho : o.op = .call { callee := .value x, args := xs, argTypes := tys })
    (hx : a.eval x = v) (has : xs.map a.eval = args) (hc : CallsV P v args w R) (hR : ∀ e w', R e w' → ∃ u, e = .returned u)
    (hK : ∀ u w', R (.returned u) w' → wpList P ops Q rest (a.put o.dst u) w') : wpList P ops Q (o :: rest) a w := by
  obtain ⟨k, env, hv, hk, hc⟩ := hc
  refine wpList_step fun K hK' => ?_
  rw [if_pos hg]
  have hrun := run_enter (P := P) (w := w) (o := o) (a := a) ho (hx.trans hv) hk
  unfold Oper.wp
  rw [hrun, has]
  refine hc.mono fun e w' hr => ?_
  obtain ⟨u, rfl⟩ := hR e w' hr
  exact hK' _ _ (hK u w' hr)
end
/-- what a cut answers -/
def Ans (Q : Bool → ByteArray → World → Prop) (e : Ending) (w : World) : Prop := ∃ ok r, e = .returned (.tuple #[.string r, .bool ok]) ∧ Q ok r w
theorem Ans.ret {Q : Bool → ByteArray → World → Prop} (e : Ending) (w : World) (h : Ans Q e w) : ∃ u, e = .returned u := by obtain ⟨ok, r, rfl, _⟩ := h; exact ⟨_, rfl⟩
/-- v cuts something off b -/
def Cut (P : Program) (v : Value) (b : ByteArray) (w : World) (Q : Bool → ByteArray → World → Prop) : Prop := CallsV P v #[.string b] w (Ans Q)
theorem Cut.mono {P : Program} {v : Value} {b : ByteArray} {w : World} {Q Q' : Bool → ByteArray → World → Prop} (h : Cut P v b w Q) (hQ : ∀ ok r w', Q ok r w' → Q' ok r w') : Cut P v b w Q' :=
  CallsV.mono h fun _ _ ⟨ok, r, he, hq⟩ => ⟨ok, r, he, hQ _ _ _ hq⟩
/-- one cut behind the other, up to the first one that is wrong; E holds all the while -/
def OrderWp (P : Program) (E : World → Prop) (Q : Bool → ByteArray → World → Prop) : List Value → ByteArray → World → Prop
  | [], b, w => Q true b w
  | v :: vs, b, w => Cut P v b w fun ok r w' => E w' ∧ (if ok then OrderWp P E Q vs r w' else Q false ⟨#[]⟩ w')
end WW
namespace Go.Proofs.Ytbeodmijjanmeaa
open WW BB
/-- the cuts that lie in block gc -/
def InRow (gc : Nat) (vs : List Value) (w : World) : Prop := ∀ i, i < vs.length → w.cell? ⟨gc, i, none⟩ = some (vs.getD i .nilFunc)
set_option maxRecDepth 100000 in
set_option maxHeartbeats 2000000 in
theorem order_any (vs : List Value) (bx gc cap : Nat) (Q : Bool → ByteArray → World → Prop) (b : ByteArray) (w : World) (hlen : vs.length ≤ 100)
    (hb : w.cell? ⟨bx, 0, none⟩ = some (.slice (some ⟨gc, 0, none⟩) vs.length cap)) (hE : InRow gc vs w) (h : OrderWp Try.prog (InRow gc vs) Q vs b w) :
    Calls Try.prog 85 #[.string b, .pointer (some ⟨bx, 0, none⟩)] w (Ans Q) := by
  have HE := Lib.hid hE
  have H := Lib.hid h
  have HL := Lib.hid hlen
  clear hE h hlen
  go_enter Try.func85, Try.ntmps85
  go_wp2_with fail
  clear hb
  go_loopw [0, 11] (fun s v wr => ∃ (j : Nat) (b' : ByteArray), j ≤ vs.length ∧ v = .int .i64 (j : Int) ∧ s = .string b' ∧ InRow gc vs wr ∧ OrderWp Try.prog (InRow gc vs) Q (vs.drop j) b' wr) (fun _ v _ => vs.length - (intOf v).toNat)
  case atStart => exact ⟨0, b, Nat.zero_le _, rfl, rfl, HE.out, H.out⟩
  case round =>
    clear HE H
    obtain ⟨j, b', hj, rfl, rfl, hE, hO⟩ := hrel
    by_cases hlt : j < vs.length
    · have hlt' : (j : Int) < (vs.length : Int) := by omega
      have j0 : (0 : Int) ≤ (j : Int) := by omega
      have jb : (j : Int) ≤ 100 := by have := HL.out; omega
      have hc := hE j hlt
      have hd : vs.drop j = vs.getD j .nilFunc :: vs.drop (j + 1) := by
        rw [List.drop_eq_getElem_cons hlt]; simp [List.getD, List.getElem?_eq_getElem hlt]
      rw [hd] at hO
      obtain ⟨v, hv⟩ : ∃ v, vs.getD j .nilFunc = v := ⟨_, rfl⟩
      rw [hv] at hO hc
      have HO := Lib.hid (show Cut Try.prog v b' wr (fun ok r w' => InRow gc vs w' ∧ (if ok then OrderWp Try.prog (InRow gc vs) Q (vs.drop (j + 1)) r w' else Q false ⟨#[]⟩ w')) from hO)
      have HLT := Lib.hid hlt
      clear hO hd hv hE hj hlt
      go_wp2_with (with_reducible refine hold_callv rfl rfl ?_)
      refine wpl_callv (v := v) (args := #[.string b']) _ rfl rfl rfl (by simp [Act.eval]) HO.out Ans.ret ?_
      intro u w' hu
      obtain ⟨ok, r, hr, hE, hO⟩ := hu
      injection hr with hr
      subst hr
      cases ok
      · have HQ := Lib.hid (show Q false ⟨#[]⟩ w' from hO)
        clear hO hE
        go_wp2_with fail
        go_ret2
        exact ⟨false, ⟨#[]⟩, rfl, HQ.out⟩
      · have HO' := Lib.hid (show OrderWp Try.prog (InRow gc vs) Q (vs.drop (j + 1)) r w' from hO)
        have HE := Lib.hid hE
        clear hO hE
        go_wp2_with fail
        go_roundw
        case rel => exact ⟨j + 1, r, by have := HLT.out; omega, by go_num, rfl, HE.out, HO'.out⟩
        case measure => have := HLT.out; simp [intOf]; omega
    · have hlt' : ¬ (j : Int) < (vs.length : Int) := by omega
      rw [List.drop_of_length_le (by omega)] at hO
      have HQ := Lib.hid (show Q true b' wr from hO)
      clear hO hE hlt hj
      go_wp2_with fail
      go_ret2
      exact ⟨true, b', rfl, HQ.out⟩
end Go.Proofs.Ytbeodmijjanmeaa
