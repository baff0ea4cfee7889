/-
  Proved: for every two blocks the law WireApart answers true: of blocks that are looked at (signatures, tags and requests no more than the law's bounds) and right, the bytes are the same just if each part is.
-/
import Derived.Test.YtbeodmijjanmeaaRows
import Derived.Test.YtbeodmijjanmeaaWApartY
import Derived.Test.YtbeodmijjanmeaaWOpen
import Derived.Test.YtbeodmijjanmeaaPost
import Derived.ShutString
import Derived.Lib.SmallJoins
namespace Go.Proofs.Ytbeodmijjanmeaa
namespace ApartP
open Go.ChangeShapes Go.WideShapes Go.ChangeAt Go.RowKit WW
theorem laidOut : laidOutB Try.prog = true := by kernel_rfl
theorem own : ownKnob Try.prog.godebug = none := by kernel_rfl
set_option maxRecDepth 100000 in
theorem walk (v p cv v' p' cv' : Int) (k k' : ByteArray) (sv rv sv' rv' : Value) (l l' : List (Int × List ByteArray)) (m m' : List (Int × Int × ByteArray)) (w : World)
    (hv : SigsAt w sv l) (hr : ReqsAt w rv m) (hv' : SigsAt w sv' l') (hr' : ReqsAt w rv' m') (hn : MemS l) (hn' : MemS l') (hk : k.size ≤ 9223372036854775807) (hk' : k'.size ≤ 9223372036854775807) (hm : m.length ≤ 9223372036854775807) (hm' : m'.length ≤ 9223372036854775807) :
    Calls Try.prog 4 #[.agg #[.int .i64 v, .int .i64 p, .int .i64 cv, .string k, sv, rv], .agg #[.int .i64 v', .int .i64 p', .int .i64 cv', .string k', sv', rv']] w fun e w' => e = .returned (.bool true) ∧ Below w.heap.size w w' := by
  rcases h1 : fewBlock k l m with _ | _
  · exact apart_not v p cv v' p' cv' k k' sv rv sv' rv' l l' m m' w hv hr hv' hr' hn hn' hk hk' hm hm' (Or.inl h1)
  rcases h2 : fewBlock k' l' m' with _ | _
  · exact apart_not v p cv v' p' cv' k k' sv rv sv' rv' l l' m m' w hv hr hv' hr' hn hn' hk hk' hm hm' (Or.inr ⟨h1, Or.inl h2⟩)
  rcases h3 : rightBlock v p cv k l m with _ | _
  · exact apart_not v p cv v' p' cv' k k' sv rv sv' rv' l l' m m' w hv hr hv' hr' hn hn' hk hk' hm hm' (Or.inr ⟨h1, Or.inr ⟨h2, Or.inl h3⟩⟩)
  rcases h4 : rightBlock v' p' cv' k' l' m' with _ | _
  · exact apart_not v p cv v' p' cv' k k' sv rv sv' rv' l l' m m' w hv hr hv' hr' hn hn' hk hk' hm hm' (Or.inr ⟨h1, Or.inr ⟨h2, Or.inr ⟨h3, h4⟩⟩⟩)
  exact apart_yes v p cv v' p' cv' k k' sv rv sv' rv' l l' m m' w hv hr hv' hr' hn hn' hk hk' hm hm' h1 h2 h3 h4
set_option maxRecDepth 100000 in
theorem open_blockv {H : Type} {enc : TypeId × Value → H} {W : World} {v : Value} {d : DataW H} {p : List MemPlace} (hval : Value.okWide Try.prog W .any 0 31 v) (h : DataW.Trod enc Try.prog W 0 (fun _ => true) true 31 v d p) :
    ∃ v' p' cv k sv rv l m, v = .agg #[.int .i64 v', .int .i64 p', .int .i64 cv, .string k, sv, rv] ∧ SigsAt W sv l ∧ ReqsAt W rv m ∧ MemS l ∧ k.size ≤ 9223372036854775807 ∧ m.length ≤ 9223372036854775807 := by
  obtain ⟨cs, rfl, _⟩ := okWide_struct Try.underlying31 hval
  obtain ⟨fuel, hf⟩ := h
  obtain ⟨v', p', cv, k, sv, rv, l, m, hc, h1, h2, h3, h4, h5⟩ := open_block hf
  refine ⟨v', p', cv, k, sv, rv, l, m, ?_, h1, h2, h3, h4, h5⟩
  have hc : cs.toList = _ := hc
  rw [show cs = cs.toList.toArray by simp, hc]
set_option maxRecDepth 100000 in
theorem lifted (os : Os) (started : os.Started) (H : Type) (enc : TypeId × Value → H) :
    ReturnsInHanded {} Try.checked os 4 .any (Rows.wireApartSpec.pre6 enc Try.prog Try.f4 Rows.wireApartRow.domain false) (Rows.wireApartSpec.post enc Try.prog Try.f4 false true false false) := by
  refine returnsInHanded_of_change (C := Try.checked) own started (by kernel_rfl) Try.func4
    (ChangeSpec.witness6 (enc := enc) (C := Try.checked) false ⟨#[], #[.agg #[.int .i64 0, .int .i64 0, .int .i64 0, .string ByteArray.empty, .slice none 0 0, .slice none 0 0], .agg #[.int .i64 0, .int .i64 0, .int .i64 0, .string ByteArray.empty, .slice none 0 0, .slice none 0 0]], []⟩ 8 (by kernel_rfl) (by kernel_rfl) (by kernel_rfl) (by kernel_rfl)) ?_
  intro W base args ds gs before hval0 hW hcnd _
  have hval : ∀ (j : Nat) t v, Try.f4.params[j]? = some t → args[j]? = some v → Value.okWide Try.prog W .any base t v := hval0
  have hW' := hW
  obtain ⟨p, q, hA0, hV, rfl, hfz, hnd⟩ := hW
  have hA : DataW.TrodAll enc Try.prog W 0 (fun _ => true) true Try.f4.params.toList args.toList ds p := hA0
  rw [Try.params4] at hA hval
  obtain ⟨v0, v1, d0, d1, p0, p1, rfl, rfl, rfl, h0, h1⟩ := trodAll_two hA
  obtain ⟨rfl, rfl⟩ := trodVars_none hV
  obtain ⟨a1, a2, a3, a4, a5, a6, l, m, rfl, b1, b2, b3, b4, b5⟩ := open_blockv (hval 0 31 v0 rfl rfl) h0
  obtain ⟨c1, c2, c3, c4, c5, c6, l', m', rfl, e1, e2, e3, e4, e5⟩ := open_blockv (hval 1 31 v1 rfl rfl) h1
  clear hA0 hval0
  have hlt0 : ∀ x ∈ p0 ++ p1, x.block < W.heap.size := fun x hx => hW'.lt x (by simpa using hx)
  simp only [List.append_nil] at hW'
  refine (walk a1 a2 a3 c1 c2 c3 a4 c4 a5 a6 c5 c6 l l' m m' W b1 b2 e1 e2 b3 e3 b4 e4 b5 e5).mono fun e W' ⟨he, hg⟩ => ?_
  subst he
  exact ⟨_, rfl, post_of_below (pa := p0 ++ p1) (pv := []) hW' (fun _ _ _ => trodAll_mk1 (shut_bool Try.underlying4 _))
    (fun sp hsp => trodAll_mk2 (WideElems.Trod_stays laidOut (by kernel_rfl) (of_decide_eq_true (by kernel_rfl)) h0 (fun x hx => hg.same (hlt0 x (by simp [hx]))) (fun x hx => hsp x (by simp [hx]))) (WideElems.Trod_stays laidOut (by kernel_rfl) (of_decide_eq_true (by kernel_rfl)) h1 (fun x hx => hg.same (hlt0 x (by simp [hx]))) (fun x hx => hsp x (by simp [hx]))))
    (fun _ _ => rfl) (by simp) hg (ok_one (by kernel_rfl) rfl (okWide_bool_mk Try.underlying4 _))⟩
end ApartP
theorem wireApart_holds : Rows.WireApartSaid :=
  OpenClaim.holds_of_wide 4 Try.f4 rfl rfl rfl rfl rfl rfl rfl ⟨rfl, rfl, rfl, rfl, rfl⟩ rfl rfl rfl rfl rfl (by kernel_rfl) Try.func4 (by kernel_rfl)
    (of_decide_eq_true (by kernel_rfl)) (by unfold Func.isWrapper; first | (rw [if_pos (by decide +kernel)]; kernel_rfl) | (rw [if_neg (by decide +kernel)]; exact ⟨rfl, rfl⟩))
    (fun os started H enc _ => ApartP.lifted os started H enc)
#print axioms wireApart_holds
end Go.Proofs.Ytbeodmijjanmeaa
