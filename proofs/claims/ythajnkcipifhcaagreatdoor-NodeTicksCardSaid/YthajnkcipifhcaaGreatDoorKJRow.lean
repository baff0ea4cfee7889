/-
  A row of the call's own that is appended to another one. No program is named here.
-/
import Derived.Test.YthajnkcipifhcaaGreatDoorKCallsW
import Derived.Laws.OwnMore
import Derived.Laws.AppendOwn
open Go Go.RowKit
namespace JJ
open BB WW
theorem run_op_append {P : Program} {w w' : World} {o : Oper} {a : Act} {v' : Value} (s x : Operand) (t : TypeId) (ho : o.op = .call { callee := .builtin .append, args := #[s, x], argTypes := #[t, t] }) (v u : Value) (hs : a.eval s = v) (hx : a.eval x = u)
    (hr : (Builtin.append_ #[t, t] o.type #[v, u]).run P w = .ok v' w') : (execOp a.eval o).run P w = .ok (.value v') w' := by
  unfold execOp
  simp only [ho, resolve, invoke, builtin, Sem.run_bind, Sem.run_pure, Result.andThen_ok, List.map_toArray, List.map_cons, List.map_nil, hs, hx, hr]
end JJ
