/-
  Proved: of all messages (of a size that is looked at) the law NodeTexts answers true: the text is the chapter's.
-/
import Derived.Test.YthajnkcipifhcaaGreatDoorRows
import Derived.Test.YthajnkcipifhcaaGreatDoorKNoLaws
import Derived.Test.YthajnkcipifhcaaGreatDoorCards
import Derived.Test.YthajnkcipifhcaaGreatDoorTie
import Derived.Test.YthajnkcipifhcaaGreatDoorKLaid
import Derived.Test.YthajnkcipifhcaaGreatDoorKWOpenM
import Derived.ShutString
import Derived.Lib.SmallJoins
import Derived.SevenTiedAt
import Derived.Stop.Joined
namespace Go.Proofs.YthajnkcipifhcaaGreatDoor
namespace NodeTextsP
open Go.ChangeShapes Go.WideShapes Go.ChangeAt Go.RowKit BB WW
theorem laidOut : laidOutB Tryz.prog = true := by kernel_rfl
set_option maxRecDepth 100000 in
theorem openv_msg {H : Type} {enc : TypeId × Value → H} {W : World} {v : Value} {d : DataW H} {p : List MemPlace} (hval : Value.okWide Tryz.prog W .any 0 43 v) (h : DataW.Trod enc Tryz.prog W 0 (fun _ => true) true 43 v d p) :
    ∃ f k fr dst v' h x c s r ix tg s9 r10 s13 t15, v = .agg (BB.row 21 f) ∧ MsgAt W f k fr dst v' h x c s r ix tg s9 r10 s13 t15 ∧ MemM x c s := by
  obtain ⟨cs, rfl, _⟩ := okWide_struct Tryz.underlying43 hval
  obtain ⟨fuel, hf⟩ := h
  obtain ⟨f, k, fr, dst, v', h, x, c, s, r, ix, tg, s9, r10, s13, t15, hc, hF⟩ := open_msg hf
  refine ⟨f, k, fr, dst, v', h, x, c, s, r, ix, tg, s9, r10, s13, t15, ?_, hF⟩
  have hc : cs.toList = _ := hc
  rw [show cs = cs.toList.toArray by simp, hc]
set_option maxRecDepth 100000 in
theorem lifted (os : Os) (started : os.Started) (H : Type) (enc : TypeId × Value → H) :
    ReturnsInHanded {} Tryz.checked os 5 .any (fun w args => (Rows.nodeTextsSpec.pre enc Tryz.prog Tryz.f5 [] false w args ∧ laidMetH Tryz.prog laid3 w) ∧ sizedMet enc Tryz.prog Tryz.f5 (OpenSpec.ofChange Rows.nodeTextsSpec) false w args)
      (Rows.nodeTextsSpec.post enc Tryz.prog Tryz.f5 false true false false) := by
  refine returnsInHanded_of_change_and (C := Tryz.checked) (X := fun w _ => laidMetH Tryz.prog laid3 w) (fun _ _ _ hh h => h.of_heap hh) own started (by kernel_rfl) Tryz.func5
    (ChangeSpec.witness_shaped (enc := enc) (C := Tryz.checked) (os := os) (X := fun w _ => laidMetH Tryz.prog laid3 w) false (World.doorLaid Tryz.prog 42 os) #[.agg #[.int .i64 0, .int .i64 0, .int .i64 0, .int .i64 0, .string ByteArray.empty, .int .i64 0, .int .i64 0, .int .i64 0, .string ByteArray.empty, .slice none 0 0, .slice none 0 0, .int .i64 0, .string ByteArray.empty, .slice none 0 0, .int .i64 0, .slice none 0 0, .int .i64 0, .int .i64 0, .string ByteArray.empty, .int .i64 0, .string ByteArray.empty]] 8 rfl (World.shaped_of_RefB (by kernel_rfl) (by kernel_rfl)) (by kernel_rfl) (by kernel_rfl) (by kernel_rfl) (door_met os _)) ?_
  intro W base args ds gs before hval0 hW _ _ hL _
  have hval : ∀ (j : Nat) t v, Tryz.f5.params[j]? = some t → args[j]? = some v → Value.okWide Tryz.prog W .any base t v := hval0
  have hW' := hW
  obtain ⟨p, q, hA0, hV, rfl, hfz, hnd⟩ := hW
  have hA : DataW.TrodAll enc Tryz.prog W 0 (fun _ => true) true Tryz.f5.params.toList args.toList ds p := hA0
  rw [Tryz.params5] at hA hval
  obtain ⟨v0, d0, rfl, rfl, h0⟩ := trodAll_one hA
  obtain ⟨rfl, rfl⟩ := trodVars_none hV
  have hlt0 : ∀ x ∈ p, x.block < W.heap.size := fun x hx => hW'.lt x (by simpa using hx)
  obtain ⟨f, k, fr, dst, v, h, x, c, s, r, ix, tg, s9, r10, s13, t15, rfl, hM, hmm⟩ := openv_msg (hval 0 43 v0 rfl rfl) h0
  have hT := tabs_of_laid hL
  clear hA0 hval0 hL
  simp only [List.append_nil] at hW'
  refine (lawTno W f k fr dst v h x c s r ix tg s9 r10 s13 t15 hM hmm hT).mono fun e W' ⟨he, hg⟩ => ?_
  subst he
  exact ⟨_, rfl, post_of_below (pa := p) (pv := []) hW' (fun _ _ _ => trodAll_mk1 (shut_bool Tryz.underlying4 _)) (fun sp hsp => trodAll_mk1 (WideElems.Trod_stays laidOut (by kernel_rfl) (of_decide_eq_true (by kernel_rfl)) h0 (fun x hx => hg.same (hlt0 x (by simp [hx]))) (fun x hx => hsp x (by simp [hx])))) (fun _ _ => rfl) (by simp)
    hg (ok_one (by kernel_rfl) rfl (okWide_bool_mk Tryz.underlying4 _))⟩
theorem j0 : (Rows.nodeTextsRow.wf (OpenSpec.ofChange Rows.nodeTextsSpec)) = true := by kernel_rfl
theorem j1 : (laidOutB Tryz.prog) = true := by kernel_rfl
theorem j2 : (mapsRowed Tryz.prog) = true := by kernel_rfl
theorem j3 : (Tryz.f5.params.all (Tryz.prog.readableRec ·)) = true := by kernel_rfl
theorem j4 : (namedTie Tryz.prog Rows.nodeTextsRow.named Rows.nodeTextsSpec.vars) = true := by kernel_rfl
theorem j5 : ((Rows.nodeTextsRow.stops == [])) = true := by kernel_rfl
theorem j6 : ((Tryz.prog.stops == [])) = true := by kernel_rfl
theorem j7 : ((Rows.nodeTextsRow.knobs == [])) = true := by kernel_rfl
theorem j8 : ((Tryz.prog.stopKnobs == [])) = true := by kernel_rfl
theorem j9 : ((Rows.nodeTextsRow.inPlace == Tryz.prog.inPlace 5)) = true := by kernel_rfl
theorem j10 : ((Rows.nodeTextsRow.unfollowed == Tryz.prog.unfollowed 5)) = true := by kernel_rfl
theorem j11 : ((Rows.nodeTextsRow.recurses == Tryz.prog.recurses 5)) = true := by kernel_rfl
theorem j12 : ((Rows.nodeTextsRow.named == Tryz.prog.varsNamed 5)) = true := by kernel_rfl
theorem j13 : ((Rows.nodeTextsRow.maps == (Tryz.f5.params.toList ++ Rows.nodeTextsSpec.plain.varTypes Tryz.prog).any (Tryz.prog.mapsRec ·))) = true := by kernel_rfl
theorem j14 : ((Rows.nodeTextsRow.ifaces == (Tryz.f5.params.toList ++ Rows.nodeTextsSpec.plain.varTypes Tryz.prog).any (Tryz.prog.ifacesRec ·))) = true := by kernel_rfl
theorem j15 : ((Rows.nodeTextsRow.mapsOut == Tryz.prog.mapsAmong Tryz.f5.resultTypes.toList)) = true := by kernel_rfl
theorem j16 : ((Rows.nodeTextsRow.loops == (Tryz.f5.params.toList ++ Rows.nodeTextsSpec.plain.varTypes Tryz.prog).any (Tryz.prog.loopsFrom ·))) = true := by kernel_rfl
theorem j17 : ((Rows.nodeTextsRow.wideKeys == (Tryz.f5.params.toList ++ Rows.nodeTextsSpec.plain.varTypes Tryz.prog ++ Tryz.f5.resultTypes.toList).any (Tryz.prog.wideKeysFrom ·))) = true := by kernel_rfl
theorem j18 : (Rows.nodeTextsSpec.vars.all (Tryz.prog.varReadable ·)) = true := by kernel_rfl
theorem j19 : (Tryz.f5.resultTypes.all (fun t => Tryz.prog.readableRec t && decide (t < Tryz.prog.types.size))) = true := by kernel_rfl
theorem j20 : ((Rows.nodeTextsRow.ifacesOut == Tryz.f5.resultTypes.toList.any (Tryz.prog.ifacesRec ·))) = true := by kernel_rfl
theorem j21 : ((Rows.nodeTextsRow.loopsOut == Tryz.f5.resultTypes.toList.any (Tryz.prog.loopsFrom ·))) = true := by kernel_rfl
theorem j22 : ((Rows.nodeTextsRow.plainKeys == Tryz.prog.plainKeys)) = true := by kernel_rfl
theorem j23 : (Rows.nodeTextsRow.shortTexts.isNone) = true := by kernel_rfl
theorem j24 : (Tryz.prog.stopsHeard) = true := by kernel_rfl
theorem j25 : (Tryz.prog.mayEnter) = true := by kernel_rfl
theorem j26 : ((Rows.nodeTextsRow.lifted == Tryz.prog.liftsFinal)) = true := by kernel_rfl
theorem j27 : ((Tryz.prog.make == some Rows.nodeTextsRow.make)) = true := by kernel_rfl
theorem j28 : ((Rows.nodeTextsRow.kinds == (if Rows.nodeTextsRow.domain.isEmpty then [] else Tryz.f5.params.toList.map fun t => match Tryz.prog.underlying t with | some (.int k) => some k | _ => none))) = true := by kernel_rfl
theorem j29 : ((Rows.nodeTextsRow.pinned == Rows.nodeTextsRow.pinnedBy)) = true := by kernel_rfl
theorem j30 : ((Rows.nodeTextsRow.veiled == (Tryz.f5.params.toList ++ Rows.nodeTextsSpec.plain.varTypes Tryz.prog ++ Tryz.f5.resultTypes.toList).any (Tryz.prog.veiledRec ·))) = true := by kernel_rfl
theorem j31 : (Rows.nodeTextsRow.veiledFits Tryz.prog Tryz.f5.params.toList (Tryz.f5.params.toList ++ Rows.nodeTextsSpec.plain.varTypes Tryz.prog ++ Tryz.f5.resultTypes.toList)) = true := by kernel_rfl
theorem and_two {a b : Bool} (h : a = true) (k : b = true) : (a && b) = true := by rw [h, k]; rfl
set_option maxRecDepth 100000 in
theorem jall : joinedFacts Tryz.prog 5 Tryz.f5 Rows.nodeTextsSpec Rows.nodeTextsRow = true := by
  unfold joinedFacts
  exact (and_two (and_two (and_two (and_two (and_two (and_two (and_two (and_two (and_two (and_two (and_two (and_two (and_two (and_two (and_two (and_two (and_two (and_two (and_two (and_two (and_two (and_two (and_two (and_two (and_two (and_two (and_two (and_two (and_two (and_two (and_two j0 j1) j2) j3) j4) j5) j6) j7) j8) j9) j10) j11) j12) j13) j14) j15) j16) j17) j18) j19) j20) j21) j22) j23) j24) j25) j26) j27) j28) j29) j30) j31)
theorem jfn : Tryz.prog.funcNamed Rows.nodeTextsRow.func = some 5 := by kernel_rfl
theorem jname : Tryz.prog.funcNamed "comitia/comitialaw18.NodeTexts" = some 5 := by kernel_rfl
theorem jmain : Tryz.prog.mainIs = some (Rows.nodeTextsCard.stood.harness.1, Rows.nodeTextsCard.stood.harness.2.toList) := by kernel_rfl
theorem jlooks : false = Tryz.prog.looks [] := by kernel_rfl
theorem jgoes : false = Rows.nodeTextsRow.goesBy Tryz.prog := by kernel_rfl
theorem jtext : Rows.nodeTextsRow.wfByText (OpenSpec.ofChange Rows.nodeTextsSpec) = true := by kernel_rfl
theorem over : Rows.NodeTextsSaid :=
  OpenClaim.holds_of_wide 5 Tryz.f5 rfl rfl rfl rfl rfl rfl rfl ⟨rfl, rfl, rfl, rfl, rfl⟩ rfl rfl rfl rfl rfl jfn Tryz.func5 jall
    (of_decide_eq_true (by kernel_rfl)) (by unfold Func.isWrapper; first | (rw [if_pos (by decide +kernel)]; kernel_rfl) | (rw [if_neg (by decide +kernel)]; exact ⟨rfl, rfl⟩))
    (fun os started H enc _ => lifted os started H enc)
end NodeTextsP
theorem nodeTexts_holds : Rows.NodeTextsCardSaid :=
  Claim7.holds_tied_plain_at .later [] [.data, .data, .data] true Rows.nodeTextsCard.stood.harness false
    NodeTextsP.over (fun _ h => by cases h) NodeTextsP.jtext (fun _ h => by cases h) nodeTexts_row_tie rfl ⟨rfl, rfl⟩ NodeTextsP.jmain rfl
    (fun f fn hf hfn => by
      obtain rfl : f = 5 := Option.some.inj (NodeTextsP.jname.symm.trans hf) |>.symm
      obtain rfl : fn = Tryz.f5 := (Option.some.inj (Tryz.func5.symm.trans hfn)).symm
      exact ⟨NodeTextsP.jlooks, fun j t ht => by
        rw [Tryz.params5] at ht
        have hm : t ∈ [43] := by simpa using Array.mem_of_getElem? ht
        have hall : ([43].all fun u => !Tryz.prog.wantsStandIn u) = true := by kernel_rfl
        exact (show Tryz.prog.wantsStandIn t = false by simpa using List.all_eq_true.1 hall t hm)⟩)
    NodeTextsP.jgoes
#print axioms nodeTexts_holds
end Go.Proofs.YthajnkcipifhcaaGreatDoor
