/-
  Proved: for every request the law WireRequests answers true: its bytes are the reference's, and a right one comes again when they are read; of another one there is an error, or a right request that has just those bytes (bodies of at most 60 bytes).
-/
import Derived.Test.YtbeodmijjanmeaaRows
import Derived.Test.YtbeodmijjanmeaaWReqLaw
import Derived.Test.YtbeodmijjanmeaaPost
import Derived.ShutString
import Derived.Lib.SmallJoins
namespace Go.Proofs.Ytbeodmijjanmeaa
namespace WReqP
open Go.ChangeShapes Go.WideShapes Go.ChangeAt Go.RowKit WW
open Go.ChangeMaps (open_string shut_string)
theorem cells_req : Try.prog.cellsOf 34 = 3 := by kernel_rfl
theorem laidOut : laidOutB Try.prog = true := by kernel_rfl
theorem own : ownKnob Try.prog.godebug = none := by kernel_rfl
set_option maxRecDepth 100000 in
theorem lifted (os : Os) (started : os.Started) (H : Type) (enc : TypeId × Value → H) :
    ReturnsInHanded {} Try.checked os 5 .any (Rows.wireRequestsSpec.pre6 enc Try.prog Try.f5 Rows.wireRequestsRow.domain false) (Rows.wireRequestsSpec.post enc Try.prog Try.f5 false true false false) := by
  refine returnsInHanded_of_change (C := Try.checked) own started (by kernel_rfl) Try.func5
    (ChangeSpec.witness6 (enc := enc) (C := Try.checked) false ⟨#[], #[.agg #[.int .i64 0, .int .i64 0, .string ByteArray.empty]], []⟩ 8 (by kernel_rfl) (by kernel_rfl) (by kernel_rfl) (by kernel_rfl)) ?_
  intro W base args ds gs before hval0 hW hcnd _
  have hval : ∀ (j : Nat) t v, Try.f5.params[j]? = some t → args[j]? = some v → Value.okWide Try.prog W .any base t v := hval0
  have hW' := hW
  obtain ⟨p, q, hA0, hV, rfl, hfz, hnd⟩ := hW
  have hA : DataW.TrodAll enc Try.prog W 0 (fun _ => true) true Try.f5.params.toList args.toList ds p := hA0
  rw [Try.params5] at hA hval
  obtain ⟨v0, d0, rfl, rfl, h0⟩ := trodAll_one hA
  obtain ⟨rfl, rfl⟩ := trodVars_none hV
  have h0k := h0
  obtain ⟨c0, c1, c2, y0, y1, y2, m, rfl, rfl, rfl, hy0, hy1, hy2⟩ := Joins.open_agg3 Try.underlying34 (by kernel_rfl) cells_req (hval 0 34 v0 rfl rfl) h0
  obtain ⟨a, ha, hxa, wa⟩ := DataW.trod_int Try.underlying3 hy0
  obtain ⟨b, hb, hxb, wb⟩ := DataW.trod_int Try.underlying3 hy1
  obtain ⟨c, hc, hxc, wc⟩ := DataW.trod_string Try.underlying9 hy2
  simp only [List.cons.injEq, and_true] at ha hb hc
  subst ha hb hc
  clear hA0 hval0
  simp only [List.append_nil] at hW'
  have hlt0 := fun x hx => hW'.lt x hx
  refine (requests_walk a b c W).mono fun e W' ⟨he, hg⟩ => ?_
  subst he
  exact ⟨_, rfl, post_of_below (pa := y0.2 ++ (y1.2 ++ y2.2)) (pv := []) hW' (fun _ _ _ => trodAll_mk1 (shut_bool Try.underlying4 _)) (fun sp hsp => trodAll_mk1 (WideElems.Trod_stays laidOut (by kernel_rfl) (of_decide_eq_true (by kernel_rfl)) h0k (fun x hx => hg.same (hlt0 x hx)) (fun x hx => hsp x hx))) (fun _ _ => rfl) (by simp)
    hg (ok_one (by kernel_rfl) rfl (okWide_bool_mk Try.underlying4 _))⟩
end WReqP
theorem wireRequests_holds : Rows.WireRequestsSaid :=
  OpenClaim.holds_of_wide 5 Try.f5 rfl rfl rfl rfl rfl rfl rfl ⟨rfl, rfl, rfl, rfl, rfl⟩ rfl rfl rfl rfl rfl (by kernel_rfl) Try.func5 (by kernel_rfl)
    (of_decide_eq_true (by kernel_rfl)) (by unfold Func.isWrapper; first | (rw [if_pos (by decide +kernel)]; kernel_rfl) | (rw [if_neg (by decide +kernel)]; exact ⟨rfl, rfl⟩))
    (fun os started H enc _ => WReqP.lifted os started H enc)
#print axioms wireRequests_holds
end Go.Proofs.Ytbeodmijjanmeaa
