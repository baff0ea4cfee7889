/-
  Proved: for every block the law WireBlocks answers true: its bytes, and its core's, are the reference's, and a right one comes again when they are read; of another one there is an error, or a right block that has just those bytes (blocks of a size that is looked at).
-/
import Derived.Test.YtbeodmijjanmeaaRows
import Derived.Test.YtbeodmijjanmeaaWLawB
import Derived.Test.YtbeodmijjanmeaaWOpen
import Derived.Test.YtbeodmijjanmeaaPost
import Derived.ShutString
import Derived.Lib.SmallJoins
namespace Go.Proofs.Ytbeodmijjanmeaa
namespace WireBlocksP
open Go.ChangeShapes Go.WideShapes Go.ChangeAt Go.RowKit WW
theorem laidOut : laidOutB Try.prog = true := by kernel_rfl
theorem own : ownKnob Try.prog.godebug = none := by kernel_rfl
set_option maxRecDepth 100000 in
theorem openv {H : Type} {enc : TypeId × Value → H} {W : World} {v : Value} {d : DataW H} {p : List MemPlace} (hval : Value.okWide Try.prog W .any 0 31 v) (h : DataW.Trod enc Try.prog W 0 (fun _ => true) true 31 v d p) :
    ∃ v' p' cv k sv rv l m, v = .agg #[.int .i64 v', .int .i64 p', .int .i64 cv, .string k, sv, rv] ∧ (SigsAt W sv l ∧ ReqsAt W rv m ∧ MemS l ∧ k.size ≤ 9223372036854775807 ∧ m.length ≤ 9223372036854775807) := by
  obtain ⟨cs, rfl, _⟩ := okWide_struct Try.underlying31 hval
  obtain ⟨fuel, hf⟩ := h
  obtain ⟨v', p', cv, k, sv, rv, l, m, hc, hF⟩ := open_block hf
  refine ⟨v', p', cv, k, sv, rv, l, m, ?_, hF⟩
  have hc : cs.toList = _ := hc
  rw [show cs = cs.toList.toArray by simp, hc]
set_option maxRecDepth 100000 in
theorem lifted (os : Os) (started : os.Started) (H : Type) (enc : TypeId × Value → H) :
    ReturnsInHanded {} Try.checked os 7 .any (Rows.wireBlocksSpec.pre6 enc Try.prog Try.f7 Rows.wireBlocksRow.domain false) (Rows.wireBlocksSpec.post enc Try.prog Try.f7 false true false false) := by
  refine returnsInHanded_of_change (C := Try.checked) own started (by kernel_rfl) Try.func7
    (ChangeSpec.witness6 (enc := enc) (C := Try.checked) false ⟨#[], #[.agg #[.int .i64 0, .int .i64 0, .int .i64 0, .string ByteArray.empty, .slice none 0 0, .slice none 0 0]], []⟩ 8 (by kernel_rfl) (by kernel_rfl) (by kernel_rfl) (by kernel_rfl)) ?_
  intro W base args ds gs before hval0 hW hcnd _
  have hval : ∀ (j : Nat) t v, Try.f7.params[j]? = some t → args[j]? = some v → Value.okWide Try.prog W .any base t v := hval0
  have hW' := hW
  obtain ⟨p, q, hA0, hV, rfl, hfz, hnd⟩ := hW
  have hA : DataW.TrodAll enc Try.prog W 0 (fun _ => true) true Try.f7.params.toList args.toList ds p := hA0
  rw [Try.params7] at hA hval
  obtain ⟨v0, d0, rfl, rfl, h0⟩ := trodAll_one hA
  obtain ⟨rfl, rfl⟩ := trodVars_none hV
  obtain ⟨v', p', cv, k, sv, rv, l, m, rfl, hF⟩ := openv (hval 0 31 v0 rfl rfl) h0
  clear hA0 hval0
  simp only [List.append_nil] at hW'
  have hlt0 := fun x hx => hW'.lt x hx
  refine (blocks_walk v' p' cv k sv rv l m W hF.1 hF.2.1 hF.2.2.1 hF.2.2.2.1 hF.2.2.2.2).mono fun e W' ⟨he, hg⟩ => ?_
  subst he
  exact ⟨_, rfl, post_of_below (pa := p) (pv := []) hW' (fun _ _ _ => trodAll_mk1 (shut_bool Try.underlying4 _)) (fun sp hsp => trodAll_mk1 (WideElems.Trod_stays laidOut (by kernel_rfl) (of_decide_eq_true (by kernel_rfl)) h0 (fun x hx => hg.same (hlt0 x hx)) (fun x hx => hsp x hx))) (fun _ _ => rfl) (by simp)
    hg (ok_one (by kernel_rfl) rfl (okWide_bool_mk Try.underlying4 _))⟩
end WireBlocksP
theorem wireBlocks_holds : Rows.WireBlocksSaid :=
  OpenClaim.holds_of_wide 7 Try.f7 rfl rfl rfl rfl rfl rfl rfl ⟨rfl, rfl, rfl, rfl, rfl⟩ rfl rfl rfl rfl rfl (by kernel_rfl) Try.func7 (by kernel_rfl)
    (of_decide_eq_true (by kernel_rfl)) (by unfold Func.isWrapper; first | (rw [if_pos (by decide +kernel)]; kernel_rfl) | (rw [if_neg (by decide +kernel)]; exact ⟨rfl, rfl⟩))
    (fun os started H enc _ => WireBlocksP.lifted os started H enc)
#print axioms wireBlocks_holds
end Go.Proofs.Ytbeodmijjanmeaa
