/-
  The walks of the reference's Find, Learn and Commit.
-/
import Derived.Test.YtlpnggdghmccjaaDoorKGTwin
import Derived.Test.YtlpnggdghmccjaaDoorKRState
import Derived.Test.YtlpnggdghmccjaaDoorKJFirst
import Derived.Test.YtlpnggdghmccjaaDoorKRVote
import Derived.Test.YtlpnggdghmccjaaDoorKFAt
section
open Go Go.RowKit
namespace RR
open FF JJ CC WW BB MM
/-- all that a forest has is of some blocks -/
def FromF (F : Fo) (p : BlockD → Prop) : Prop := ∀ x ∈ F.nodes ++ F.orph, p x.2
theorem stand_from {F : Fo} {p : BlockD → Prop} (h : FromF F p) {x : It} (hx : p x.2) : FromF (standF F x).1 p := by
  unfold standF
  split
  · exact h
  · split
    · exact h
    · intro y hy
      have hy : y ∈ (F.nodes ++ [x]) ++ F.orph := hy
      rw [List.mem_append, List.mem_append, List.mem_singleton] at hy
      rcases hy with (hy | rfl) | hy
      · exact h y (List.mem_append_left _ hy)
      · exact hx
      · exact h y (List.mem_append_right _ hy)
theorem adopt_from {p : BlockD → Prop} : ∀ (m : Nat) (F : Fo), FromF F p → FromF (adoptF m F) p
  | 0, F, h => h
  | m + 1, F, h => by
    unfold adoptF
    split
    · exact h
    · rename_i i hi
      obtain ⟨hl, _⟩ := gready_some hi
      refine adopt_from m _ (stand_from (fun y hy => ?_) (h _ (List.mem_append_right _ ?_)))
      · have hy : y ∈ F.nodes ++ F.orph.eraseIdx i := hy
        rcases List.mem_append.1 hy with hy | hy
        · exact h y (List.mem_append_left _ hy)
        · exact h y (List.mem_append_right _ (List.mem_of_mem_eraseIdx hy))
      · rw [List.getD_eq_getElem?_getD, List.getElem?_eq_getElem hl]
        exact List.getElem_mem hl
theorem put_from {F : Fo} {p : BlockD → Prop} (h : FromF F p) {x : It} (hx : p x.2) : FromF (putF F x).1 p := by
  unfold putF
  split
  · exact h
  · split
    · split
      · exact h
      · intro y hy
        have hy : y ∈ F.nodes ++ (F.orph ++ [x]) := hy
        rw [List.mem_append, List.mem_append, List.mem_singleton] at hy
        rcases hy with hy | hy | rfl
        · exact h y (List.mem_append_left _ hy)
        · exact h y (List.mem_append_right _ hy)
        · exact hx
    · split
      · exact h
      · exact adopt_from _ _ (stand_from h hx)
theorem play_from {p : BlockD → Prop} (l : List BlockD) (hl : ∀ b ∈ l, p b) : FromF (playF l) p := by
  have key : ∀ (l : List BlockD) (F : Fo), (∀ b ∈ l, p b) → FromF F p → FromF (l.foldl (fun F b => (putF F (digI b, b)).1) F) p := by
    intro l
    induction l with
    | nil => exact fun _ _ h => h
    | cons b r ih => exact fun F hl h => ih _ (fun c hc => hl c (List.mem_cons_of_mem _ hc)) (put_from h (hl b (List.mem_cons_self ..)))
  exact key l _ hl fun x hx => by simp at hx
theorem rplay_wf (l : List BlockD) : WF (playF l) ∧ (playF l).height = 0 ∧ (playF l).root = CC.firstD := by
  have key : ∀ (l : List BlockD) (F : Fo), WF F → WF (l.foldl (fun F b => (putF F (digI b, b)).1) F) ∧ (l.foldl (fun F b => (putF F (digI b, b)).1) F).height = F.height ∧ (l.foldl (fun F b => (putF F (digI b, b)).1) F).root = F.root := by
    intro l
    induction l with
    | nil => exact fun F h => ⟨h, rfl, rfl⟩
    | cons b r ih =>
      intro F h
      obtain ⟨h1, h2, h3⟩ := ih _ (put_wf h (x := (digI b, b)) (dig_size b))
      obtain ⟨e1, e2⟩ := put_root F (digI b, b)
      exact ⟨h1, h2.trans e2, h3.trans e1⟩
  exact key l _ (new_wf _ CC.firstD_size)
/-- a struct of a text, a number and two slices: neither items nor requests lie there -/
def ForestBlk (w : World) (r : Nat) : Prop := ∃ s n a0 n0 c0 a1 n1 c1, Blk w r 4 (rowL [.string s, .int .i64 n, .slice a0 n0 c0, .slice a1 n1 c1])
theorem blk_none {w : World} {r n : Nat} {f : Nat → Value} (h : Blk w r n f) (i : Nat) (hi : n ≤ i) : w.cell? ⟨r, i, none⟩ = none := by
  obtain ⟨t, h⟩ := h
  unfold World.cell?; rw [h]; simp [row, hi]
theorem reqs_upd {w w' : World} {r : Nat} (hr : ForestBlk w r) (hu : Upd r w w') {v : Value} {l : List (Int × Int × ByteArray)} (h : ReqsAt w v l) : ReqsAt w' v l := by
  obtain ⟨a0, cap, rfl, h | ⟨b, off, rfl, hl, hc⟩⟩ := h
  · exact ⟨_, _, rfl, Or.inl h⟩
  · by_cases h0 : l = []
    · exact ⟨_, _, rfl, Or.inl h0⟩
    have hb : b ≠ r := by
      rintro rfl
      obtain ⟨s, n, a0, n0, c0, a1, n1, c1, hB⟩ := hr
      obtain ⟨k1, k2, _⟩ := hc 0 (List.length_pos_iff.2 h0)
      rw [Nat.zero_mul, Nat.add_zero] at k1 k2
      match off with
      | 0 => rw [hB.get 0 (by omega)] at k1; cases k1
      | 1 => rw [hB.get 2 (by omega)] at k2; cases k2
      | 2 => rw [hB.get 2 (by omega)] at k1; cases k1
      | 3 => rw [hB.get 3 (by omega)] at k1; cases k1
      | n + 4 => rw [blk_none hB (n + 4) (by omega)] at k1; cases k1
    refine ⟨_, _, rfl, Or.inr ⟨b, off, rfl, by rw [hu.size]; exact hl, fun i hi => ?_⟩⟩
    obtain ⟨k1, k2, k3⟩ := hc i hi
    exact ⟨(World.cell?_of_block (w := w) (a := ⟨b, off + i * 3, none⟩) (hu.block b hb)).trans k1, (World.cell?_of_block (w := w) (a := ⟨b, off + i * 3 + 1, none⟩) (hu.block b hb)).trans k2, (World.cell?_of_block (w := w) (a := ⟨b, off + i * 3 + 2, none⟩) (hu.block b hb)).trans k3⟩
theorem iv_upd {w w' : World} {r : Nat} (hr : ForestBlk w r) (hu : Upd r w w') {v : Value} {L : List Iv} (hs : ∀ x ∈ L, sigsI x.1.2 = []) (h : IvAt w v L) : IvAt w' v L := by
  obtain ⟨a0, cap, rfl, h | ⟨b, off, rfl, hl, hc⟩⟩ := h
  · exact ⟨_, _, rfl, Or.inl h⟩
  · by_cases h0 : L = []
    · exact ⟨_, _, rfl, Or.inl h0⟩
    have hb : b ≠ r := by
      rintro rfl
      obtain ⟨s, n, a0, n0, c0, a1, n1, c1, hB⟩ := hr
      have k := (hc 0 (List.length_pos_iff.2 h0)).1 6 _ rfl
      rw [Nat.zero_mul, Nat.add_zero, blk_none hB (off + 6) (by omega)] at k
      cases k
    refine ⟨_, _, rfl, Or.inr ⟨b, off, rfl, by rw [hu.size]; exact hl, fun i hi => ⟨fun j u hj => ?_, ?_, ?_⟩⟩⟩
    · exact (World.cell?_of_block (w := w) (a := ⟨b, off + i * 7 + j, none⟩) (hu.block b hb)).trans ((hc i hi).1 j u hj)
    · obtain ⟨a2, c2, e, _⟩ := (hc i hi).2.1
      have hx : sigsI (L.getD i v0).1.2 = [] := by
        rw [List.getD_eq_getElem?_getD, List.getElem?_eq_getElem hi]
        exact hs _ (List.getElem_mem hi)
      exact ⟨a2, c2, e, Or.inl hx⟩
    · exact reqs_upd hr hu (hc i hi).2.2
theorem fo_upd {w w' : World} {r : Nat} (hr : ForestBlk w r) (hu : Upd r w w') {F : Fo} {nv ov : Value} (hs : FromF F (fun b => sigsI b = [])) (h : FoAt w F nv ov) : FoAt w' F nv ov := by
  obtain ⟨N, O, h1, h2, h3, h4⟩ := h
  refine ⟨N, O, h1, h2, iv_upd hr hu (fun x hx => hs x.1 ?_) h3, iv_upd hr hu (fun x hx => hs x.1 ?_) h4⟩
  · rw [← h1]; exact List.mem_append_left _ (List.mem_map.2 ⟨x, hx, rfl⟩)
  · rw [← h2]; exact List.mem_append_right _ (List.mem_map.2 ⟨x, hx, rfl⟩)
end RR
end
section
open Go Go.RowKit
namespace FF
open JJ CC WW BB MM
/-- the block at a digest, or none -/
def GotF (F : Fo) (h : ByteArray) (b : BlockD) (bb : Bool) : Prop := (bb = true ∧ (h, b) ∈ F.nodes) ∨ (bb = false ∧ b = bd0 ∧ ¬ 0 ≤ atI F.nodes h)
def GetB (w : World) (b : BlockD) (bb : Bool) (e : Ending) (w' : World) : Prop :=
  ∃ a0 cap a1 cap1, e = .returned (.tuple #[.agg #[.int .i64 (viewI b), .int .i64 (propI b), .int .i64 (jvI b), .string (parI b), .slice a0 (sigsI b).length cap, .slice a1 b.2.length cap1], .bool bb]) ∧ SigsNew w.heap.size w' (.slice a0 (sigsI b).length cap) (sigsI b) ∧
    ReqsAt w' (.slice a1 b.2.length cap1) b.2 ∧ (∀ c, (Value.slice a1 b.2.length cap1).ownBlock = some c → w.heap.size ≤ c) ∧ Below w.heap.size w w'
theorem small_bd0 : SmallI bd0 := ⟨by decide, ⟨by decide, by decide, fun i hi => absurd hi (Nat.not_lt_zero i)⟩, by decide, by decide, fun i hi => absurd hi (Nat.not_lt_zero i)⟩
theorem sl_slT {w : World} {v : Value} {a : Option Addr} {n c : Nat} {l : List (Int × List ByteArray)} (h : SigsAt w v l) (e : slT v = (a, n, c)) : SigsAt w (.slice a n c) l ∧ n = l.length := by
  obtain ⟨a0, cap, rfl, h'⟩ := h
  simp only [slT, Prod.mk.injEq] at e
  obtain ⟨rfl, rfl, rfl⟩ := e
  exact ⟨⟨_, _, rfl, h'⟩, rfl⟩
theorem rl_slT {w : World} {v : Value} {a : Option Addr} {n c : Nat} {l : List (Int × Int × ByteArray)} (h : ReqsAt w v l) (e : slT v = (a, n, c)) : ReqsAt w (.slice a n c) l ∧ n = l.length := by
  obtain ⟨a0, cap, rfl, h'⟩ := h
  simp only [slT, Prod.mk.injEq] at e
  obtain ⟨rfl, rfl, rfl⟩ := e
  exact ⟨⟨_, _, rfl, h'⟩, rfl⟩
end FF
namespace Go.Proofs.YtlpnggdghmccjaaDoor
open FF JJ CC MM WW BB
theorem got_entry {B : Nat} {w : World} {g : Nat} {F : Fo} {rt : ByteArray} {mv ov : Value} {N O : List Iv} {C : Nat → Prop} (hC : CFs B w g F rt mv ov N O C) (h : ByteArray) (bb : Bool) {v p j : Int} {k : ByteArray} {a1 : Option Addr} {n1 c1 : Nat} {a2 : Option Addr} {n2 c2 : Nat} {t : Int}
    (hb : (entF F N h).isSome = bb) (hx : (entF F N h).getD zE = ((v, p, j, k), (a1, n1, c1), (a2, n2, c2), t)) :
    ∃ b : BlockD, viewI b = v ∧ propI b = p ∧ jvI b = j ∧ parI b = k ∧ SigsAt w (.slice a1 n1 c1) (sigsI b) ∧ ReqsAt w (.slice a2 n2 c2) b.2 ∧ SmallI b ∧ GotF F h b bb := by
  cases bb with
  | false =>
    have hn : entF F N h = none := by cases he : entF F N h with | none => rfl | some s => rw [he] at hb; cases hb
    rw [hn] at hx
    simp only [Option.getD_none, zE, Prod.mk.injEq] at hx
    obtain ⟨⟨rfl, rfl, rfl, rfl⟩, ⟨rfl, rfl, rfl⟩, ⟨rfl, rfl, rfl⟩, rfl⟩ := hx
    refine ⟨bd0, rfl, rfl, rfl, rfl, ⟨none, 0, rfl, Or.inl rfl⟩, ⟨none, 0, rfl, Or.inl rfl⟩, small_bd0, Or.inr ⟨rfl, rfl, fun c => ?_⟩⟩
    have := ent_some (F := F) hC.nodes h
    rw [hn, decide_eq_true c] at this
    cases this
  | true =>
    obtain ⟨h0, _, _, _, x, hxN, hxh, hxe, e1, e2, e3, e4, e5, e6⟩ := ent_node hC.wf hC.nodes hb hx
    have hm : x ∈ N ++ O := List.mem_append_left _ hxN
    obtain ⟨i1, i2⟩ := hC.innN x hm
    refine ⟨x.1.2, e1, e2, e3, e4, (sl_slT i1 e5).1, (rl_slT i2 e6).1, hC.small x hm, Or.inl ⟨rfl, ?_⟩⟩
    rw [← hC.nodes]
    exact List.mem_map.2 ⟨x, hxN, by rw [← hxh]⟩
set_option maxRecDepth 100000 in
set_option maxHeartbeats 4000000 in
theorem gget_any {B : Nat} {w : World} {g : Nat} {F : Fo} {rt : ByteArray} {mv ov : Value} {N O : List Iv} {C : Nat → Prop} (hC : CFs B w g F rt mv ov N O C) (h : ByteArray) (hs : h.size ≤ 1000000) :
    Calls Tryd.prog 39 #[.pointer (some ⟨g, 0, none⟩), .string h] w fun e w' => ∃ b bb, GotF F h b bb ∧ GetB w b bb e w' := by
  have HC := Lib.hid hC
  have HS := Lib.hid (show h.size ≤ maxLen by unfold maxLen; omega)
  have X1 := Lib.hid ((Below.refl w.heap.size w).alloc (Nat.le_refl _) (.cells #[.int .i64 0, .int .i64 0, .int .i64 0, .string ⟨#[]⟩, .slice none 0 0, .slice none 0 0] 39))
  have c2 := (hC.on X1.out).c2
  obtain ⟨mp, rfl⟩ := hC.shapeM
  obtain ⟨v, p, j, k, a1, n1, k1, a2, n2, k2, t, hx⟩ := sv_parts ((entF F N h).getD zE)
  have HX := Lib.hid hx
  obtain ⟨bb, hb⟩ : ∃ bb, (entF F N h).isSome = bb := ⟨_, rfl⟩
  have HB := Lib.hid hb
  have HMA := Lib.hid (hC.on X1.out).map
  obtain ⟨b, q1, q2, q3, q4, q5, q6, q7, q8⟩ := got_entry hC h bb hb hx
  have HQ := Lib.hid (And.intro q5 (And.intro q6 q7))
  have HG := Lib.hid q8
  have HL := Lib.hid (And.intro (And.intro q1 q2) (And.intro q3 q4))
  have X2 := Lib.hid (X1.out.alloc X1.out.size (.cells #[.int .i64 v, .int .i64 p, .int .i64 j, .string k, .slice a1 n1 k1, .slice a2 n2 k2, .int .i64 t] 88))
  have RR0 := Lib.hid (show Blk ((w.alloc (.cells #[.int .i64 0, .int .i64 0, .int .i64 0, .string ⟨#[]⟩, .slice none 0 0, .slice none 0 0] 39)).alloc (.cells #[.int .i64 v, .int .i64 p, .int .i64 j, .string k, .slice a1 n1 k1, .slice a2 n2 k2, .int .i64 t] 88)) w.heap.size 6 (rowL [.int .i64 0, .int .i64 0, .int .i64 0, .string ⟨#[]⟩, .slice none 0 0, .slice none 0 0]) from (Blk.new' rfl (rowL6 _ _ _ _ _ _)).alloc _)
  obtain ⟨gq, hgq⟩ : ∃ gq, w.heap.size = gq := ⟨_, rfl⟩
  have HGQ := Lib.hid hgq
  clear hC hs hx hb q1 q2 q3 q4 q5 q6 q7 q8 hgq
  go_enter Tryd.func39, Tryd.ntmps39
  go_wp2_with (at_lookup; refine wpl_look_ok _ _ h v p j k a1 n1 k1 a2 n2 k2 t bb HX.out HB.out rfl rfl (by kernel_rfl) (by kernel_rfl) zero_sv HMA.out rfl rfl HS.out ?_)
  refine (gcopied_any v p j k _ _ (sigsI b) b.2 _ (HQ.out.1.later X2.out) (HQ.out.2.1.later X2.out) HQ.out.2.2.2.1.1 (small_tags HQ.out.2.2.2.1) (Nat.le_trans HQ.out.2.2.2.2.1 (by omega))).mono ?_
  rintro e w3 ⟨a0, cap, a3, cap3, rfl, hsn, hrn, hon, hb3⟩
  have HSN := Lib.hid hsn
  have HRN := Lib.hid hrn
  have HON := Lib.hid hon
  have B3 := Lib.hid hb3
  have RR := Lib.hid (RR0.out.below hb3 RR0.out.lt)
  clear hsn hrn hon hb3
  have c0 := RR.out.get 0 (by omega)
  have c1 := RR.out.get 1 (by omega)
  have c2' := RR.out.get 2 (by omega)
  have c3 := RR.out.get 3 (by omega)
  have c4 := RR.out.get 4 (by omega)
  have c5 := RR.out.get 5 (by omega)
  have f0 := RR.out.frz 0
  have f1 := RR.out.frz 1
  have f2 := RR.out.frz 2
  have f3 := RR.out.frz 3
  have f4 := RR.out.frz 4
  have f5 := RR.out.frz 5
  go_wp2_with fail
  clear c0 c1 c2' c3 c4 c5 f0 f1 f2 f3 f4 f5
  obtain ⟨xi, ui⟩ := set6 RR.out (.int .i64 v) (.int .i64 p) (.int .i64 j) (.string k) (.slice a0 (sigsI b).length cap) (.slice a3 b.2.length cap3)
  have p0 : World.cell? _ ⟨w.heap.size, 0, none⟩ = some (.int .i64 v) := xi.get 0 (by omega)
  have p1 : World.cell? _ ⟨w.heap.size, 1, none⟩ = some (.int .i64 p) := xi.get 1 (by omega)
  have p2 : World.cell? _ ⟨w.heap.size, 2, none⟩ = some (.int .i64 j) := xi.get 2 (by omega)
  have p3 : World.cell? _ ⟨w.heap.size, 3, none⟩ = some (.string k) := xi.get 3 (by omega)
  have p4 : World.cell? _ ⟨w.heap.size, 4, none⟩ = some (.slice a0 (sigsI b).length cap) := xi.get 4 (by omega)
  have p5 : World.cell? _ ⟨w.heap.size, 5, none⟩ = some (.slice a3 b.2.length cap3) := xi.get 5 (by omega)
  refine bodyPost_ret (v := .tuple #[.agg #[.int .i64 v, .int .i64 p, .int .i64 j, .string k, .slice a0 (sigsI b).length cap, .slice a3 b.2.length cap3], .bool bb]) (by simp [results, Tryd.results39, go_sem, p0, p1, p2, p3, p4, p5]) rfl ?_
  refine ⟨b, bb, HG.out, a0, cap, a3, cap3, ?_, (HSN.out.keep (Nat.le_of_eq ui.size.symm) (fun c hc _ => ui.block c (by have := RR0.out.lt; omega))).mono (Nat.le_of_lt RR0.out.lt), reqs_keep HRN.out (by rw [ui.size]; exact Nat.le_refl _) (fun c hc _ => ui.block c (by have := HON.out c hc; have := RR0.out.lt; omega)), fun c hc => Nat.le_trans (Nat.le_of_lt RR0.out.lt) (HON.out c hc), (X2.out.trans (B3.out.mono X2.out.size)).trans (ui.below (Nat.le_refl _))⟩
  rw [HL.out.1.1, HL.out.1.2, HL.out.2.1, HL.out.2.2]
end Go.Proofs.YtlpnggdghmccjaaDoor
end
section
open Go Go.RowKit
namespace RR
open FF JJ CC WW BB
/-- the block that stands at a digest -/
def findF (F : Fo) (h : ByteArray) : Option BlockD := if 0 ≤ atI F.nodes h then some (F.nodes.getD (atI F.nodes h).toNat i0).2 else none
/-- one view more, as the numbers go -/
def nextV (v : Int) : Int := IntKind.i64.wrap (v + 1)
/-- the block that a certificate of a view is for -/
def certF (F : Fo) (v : Int) (h : ByteArray) : Option BlockD := (findF F h).bind fun b => if viewI b = v then some b else none
/-- its parent, one view ahead -/
def aheadF (F : Fo) (b : BlockD) : Option BlockD := (findF F (parI b)).bind fun p => if viewI b = nextV (viewI p) then some p else none
def learnS (F : Fo) (s : St) (v : Int) (h : ByteArray) : St :=
  match certF F v h with
  | some b => (s.1, max s.2 (jvI b))
  | none => s
def commitF (F : Fo) (v : Int) (h : ByteArray) : ByteArray × Bool :=
  match certF F v h with
  | some b => match aheadF F b with
    | some p => match aheadF F p with
      | some _ => (parI p, true)
      | none => (⟨#[]⟩, false)
    | none => (⟨#[]⟩, false)
  | none => (⟨#[]⟩, false)
theorem find_got {F : Fo} (hF : WF F) {h : ByteArray} {b : BlockD} {bb : Bool} (hg : GotF F h b bb) : findF F h = if bb = true then some b else none := by
  rcases hg with ⟨rfl, hm⟩ | ⟨rfl, rfl, hn⟩
  · have h0 : 0 ≤ atI F.nodes h := (at_mem _ _).2 ⟨_, hm, rfl⟩
    unfold findF
    rw [if_pos h0, if_pos rfl, show F.nodes.getD (atI F.nodes h).toNat i0 = (h, b) from at_node hF.nodup hm]
  · unfold findF
    rw [if_neg hn, if_neg (by decide)]
theorem find_root {F : Fo} (hF : WF F) : findF F F.root = none := by
  unfold findF
  rw [if_neg]
  intro h
  obtain ⟨x, hx, e⟩ := (at_mem _ _).1 h
  exact hF.ne x (List.mem_append_left _ hx) e
theorem learn_up (F : Fo) (s : St) (v : Int) (h : ByteArray) : s.2 ≤ (learnS F s v h).2 ∧ (learnS F s v h).1 = s.1 := by
  unfold learnS
  split
  · exact ⟨by show s.2 ≤ max s.2 _; omega, rfl⟩
  · exact ⟨Int.le_refl _, rfl⟩
end RR
end
section
open Go Go.RowKit
namespace RR
open FF JJ CC WW BB MM
/-- a block's numbers and its parent, or the zero block's -/
def IsO (o : Option BlockD) (v p j : Int) (k : ByteArray) (bb : Bool) : Prop :=
  (bb = true ∧ ∃ b, o = some b ∧ viewI b = v ∧ propI b = p ∧ jvI b = j ∧ parI b = k ∧ SmallI b) ∨ (bb = false ∧ o = none ∧ v = 0 ∧ p = 0 ∧ j = 0 ∧ k = ⟨#[]⟩)
theorem IsO.k1000 {o : Option BlockD} {v p j : Int} {k : ByteArray} {bb : Bool} (h : IsO o v p j k bb) : k.size ≤ 1000 := by
  rcases h with ⟨_, b, _, _, _, _, rfl, h⟩ | ⟨_, _, _, _, _, rfl⟩
  · exact h.1
  · decide
theorem IsO.no {o : Option BlockD} {v p j : Int} {k : ByteArray} (h : IsO o v p j k false) : o = none ∧ v = 0 ∧ p = 0 ∧ j = 0 ∧ k = ⟨#[]⟩ := by
  rcases h with ⟨h, _⟩ | ⟨_, h⟩
  · cases h
  · exact h
theorem IsO.yes {o : Option BlockD} {v p j : Int} {k : ByteArray} (h : IsO o v p j k true) : ∃ b, o = some b ∧ viewI b = v ∧ propI b = p ∧ jvI b = j ∧ parI b = k ∧ SmallI b := by
  rcases h with ⟨_, h⟩ | ⟨h, _⟩
  · exact h
  · cases h
theorem IsO.zero (o : Option BlockD) (h : o = none) : IsO o 0 0 0 ⟨#[]⟩ false := Or.inr ⟨rfl, h, rfl, rfl, rfl, rfl⟩
/-- a block that is answered, or none -/
def BAns (w : World) (o : Option BlockD) (e : Ending) (w' : World) : Prop :=
  ∃ v p j k a0 n0 c0 a1 n1 c1 bb, e = .returned (.tuple #[.agg #[.int .i64 v, .int .i64 p, .int .i64 j, .string k, .slice a0 n0 c0, .slice a1 n1 c1], .bool bb]) ∧ IsO o v p j k bb ∧ Below w.heap.size w w'
theorem cert_yes {F : Fo} {v : Int} {h : ByteArray} {b : BlockD} (h1 : findF F h = some b) (h2 : viewI b = v) : certF F v h = some b := by unfold certF; rw [h1]; exact if_pos h2
theorem cert_no {F : Fo} {v : Int} {h : ByteArray} (h1 : findF F h = none ∨ ∃ b, findF F h = some b ∧ viewI b ≠ v) : certF F v h = none := by
  unfold certF
  rcases h1 with h1 | ⟨b, h1, h2⟩
  · rw [h1]; rfl
  · rw [h1]; exact if_neg h2
theorem ahead_yes {F : Fo} {b p : BlockD} (h1 : findF F (parI b) = some p) (h2 : viewI b = nextV (viewI p)) : aheadF F b = some p := by unfold aheadF; rw [h1]; exact if_pos h2
theorem ahead_no {F : Fo} {b : BlockD} (h1 : findF F (parI b) = none ∨ ∃ p, findF F (parI b) = some p ∧ viewI b ≠ nextV (viewI p)) : aheadF F b = none := by
  unfold aheadF
  rcases h1 with h1 | ⟨p, h1, h2⟩
  · rw [h1]; rfl
  · rw [h1]; exact if_neg h2
end RR
namespace Go.Proofs.YtlpnggdghmccjaaDoor
open RR FF JJ CC MM WW BB
theorem rget_any {B : Nat} {w : World} {g : Nat} {F : Fo} {rt : ByteArray} {mv ov : Value} {N O : List Iv} {C : Nat → Prop} (hC : CFs B w g F rt mv ov N O C) (h : ByteArray) (hs : h.size ≤ 1000000) :
    Calls Tryd.prog 39 #[.pointer (some ⟨g, 0, none⟩), .string h] w (BAns w (findF F h)) := by
  refine (gget_any hC h hs).mono ?_
  rintro e w' ⟨b, bb, hg, a0, cap, a1, cap1, rfl, _, _, _, hb⟩
  refine ⟨_, _, _, _, _, _, _, _, _, _, bb, rfl, ?_, hb⟩
  have hf := find_got hC.wf hg
  rcases hg with ⟨rfl, hm⟩ | ⟨rfl, rfl, _⟩
  · refine Or.inl ⟨rfl, b, by rw [hf]; rfl, rfl, rfl, rfl, rfl, ?_⟩
    rw [← hC.nodes] at hm
    obtain ⟨x, hx, e⟩ := List.mem_map.1 hm
    have := hC.small x (List.mem_append_left _ hx)
    rw [show x.1.2 = b by rw [e]] at this
    exact this
  · exact Or.inr ⟨rfl, by rw [hf]; rfl, rfl, rfl, rfl, rfl⟩
/-- the code's forest is F, in a world that stands upon w0 -/
def CodeF (g : Nat) (F : Fo) (w : World) : Prop := ∃ B rt mv ov N O C, CFs B w g F rt mv ov N O C
theorem CodeF.on {g : Nat} {F : Fo} {w w' : World} (h : CodeF g F w) (hb : Below w.heap.size w w') : CodeF g F w' := by
  obtain ⟨B, rt, mv, ov, N, O, C, h⟩ := h
  exact ⟨B, rt, mv, ov, N, O, C, h.on hb⟩
theorem rget_is {g : Nat} {F : Fo} {w : World} (h : CodeF g F w) (d : ByteArray) (hs : d.size ≤ 1000000) :
    Calls Tryd.prog 39 #[.pointer (some ⟨g, 0, none⟩), .string d] w (BAns w (findF F d)) := by
  obtain ⟨B, rt, mv, ov, N, O, C, h⟩ := h
  exact rget_any h d hs
set_option maxRecDepth 100000 in
set_option maxHeartbeats 4000000 in
theorem certified_any {g : Nat} {F : Fo} {w : World} (hC : CodeF g F w) (cv : Int) (ch : ByteArray) (ca : Option Addr) (cn cc : Nat) (hs : ch.size ≤ 1000000) :
    Calls Tryd.prog 19 #[.pointer (some ⟨g, 0, none⟩), .agg #[.int .i64 cv, .string ch, .slice ca cn cc]] w (BAns w (certF F cv ch)) := by
  have HC := Lib.hid hC
  have HS := Lib.hid hs
  have X2 := Lib.hid (((Below.refl w.heap.size w).alloc (Nat.le_refl _) (.cells #[.int .i64 cv, .string ch, .slice ca cn cc] 36)).alloc (by simp) (.cells #[.int .i64 0, .int .i64 0, .int .i64 0, .string ⟨#[]⟩, .slice none 0 0, .slice none 0 0] 39))
  have R0 := Lib.hid (show Blk ((w.alloc (.cells #[.int .i64 cv, .string ch, .slice ca cn cc] 36)).alloc (.cells #[.int .i64 0, .int .i64 0, .int .i64 0, .string ⟨#[]⟩, .slice none 0 0, .slice none 0 0] 39)) w.heap.size 3 (rowL [.int .i64 cv, .string ch, .slice ca cn cc]) from (Blk.new' rfl (row3_ _ _ _)).alloc _)
  have R1 := Lib.hid (show Blk ((w.alloc (.cells #[.int .i64 cv, .string ch, .slice ca cn cc] 36)).alloc (.cells #[.int .i64 0, .int .i64 0, .int .i64 0, .string ⟨#[]⟩, .slice none 0 0, .slice none 0 0] 39)) (w.heap.size + 1) 6 (rowL [.int .i64 0, .int .i64 0, .int .i64 0, .string ⟨#[]⟩, .slice none 0 0, .slice none 0 0]) from Blk.new' (by simp) (row6_ _ _ _ _ _ _))
  clear hC hs
  go_enter Tryd.func19, Tryd.ntmps19
  go_wp2_with fail
  refine (rget_is (HC.out.on X2.out) ch HS.out).mono ?_
  rintro e w3 ⟨v, p, j, k, a0, n0, c0, a1, n1, c1, bb, rfl, ho, hb3⟩
  have HO := Lib.hid ho
  have X3 := Lib.hid (X2.out.trans (hb3.mono X2.out.size))
  have X4 := Lib.hid (X3.out.alloc X3.out.size (.cells #[.int .i64 v, .int .i64 p, .int .i64 j, .string k, .slice a0 n0 c0, .slice a1 n1 c1] 39))
  have C0 := Lib.hid ((R0.out.below hb3 R0.out.lt).alloc (.cells #[.int .i64 v, .int .i64 p, .int .i64 j, .string k, .slice a0 n0 c0, .slice a1 n1 c1] 39))
  have C1 := Lib.hid ((R1.out.below hb3 R1.out.lt).alloc (.cells #[.int .i64 v, .int .i64 p, .int .i64 j, .string k, .slice a0 n0 c0, .slice a1 n1 c1] 39))
  have C2 := Lib.hid (show Blk (w3.alloc (.cells #[.int .i64 v, .int .i64 p, .int .i64 j, .string k, .slice a0 n0 c0, .slice a1 n1 c1] 39)) w3.heap.size 6 (rowL [.int .i64 v, .int .i64 p, .int .i64 j, .string k, .slice a0 n0 c0, .slice a1 n1 c1]) from Blk.new' rfl (row6_ _ _ _ _ _ _))
  clear ho hb3
  obtain ⟨e0, e1, e2, e3, e4, e5⟩ := cells6 C1.out
  obtain ⟨g0, g1, g2, g3, g4, g5⟩ := cells6 C2.out
  have f0 := C1.out.frz 0
  have f1 := C1.out.frz 1
  have f2 := C1.out.frz 2
  have f3 := C1.out.frz 3
  have f4 := C1.out.frz 4
  have f5 := C1.out.frz 5
  obtain ⟨d0, _, _⟩ := cells3 C0.out
  cases bb with
  | false =>
    go_wp2_with fail
    obtain ⟨xi, ui⟩ := rset6 C1.out (.int .i64 0) (.int .i64 0) (.int .i64 0) (.string ⟨#[]⟩) (.slice none 0 0) (.slice none 0 0)
    obtain ⟨p0, p1, p2, p3, p4, p5⟩ := cells6 xi
    refine bodyPost_ret (v := .tuple #[.agg #[.int .i64 0, .int .i64 0, .int .i64 0, .string ⟨#[]⟩, .slice none 0 0, .slice none 0 0], .bool false]) (by simp [results, Tryd.results19, go_sem, p0, p1, p2, p3, p4, p5]) rfl ?_
    exact ⟨0, 0, 0, ⟨#[]⟩, none, 0, 0, none, 0, 0, false, rfl, IsO.zero _ (cert_no (Or.inl HO.out.no.1)), X4.out.trans (ui.below (by omega))⟩
  | true =>
    by_cases hv : v = cv
    · subst hv
      go_wp2_with fail
      obtain ⟨b, h1, h2, h3, h4, h5, h6⟩ := HO.out.yes
      obtain ⟨xi, ui⟩ := rset6 C1.out (.int .i64 v) (.int .i64 p) (.int .i64 j) (.string k) (.slice a0 n0 c0) (.slice a1 n1 c1)
      obtain ⟨p0, p1, p2, p3, p4, p5⟩ := cells6 xi
      refine bodyPost_ret (v := .tuple #[.agg #[.int .i64 v, .int .i64 p, .int .i64 j, .string k, .slice a0 n0 c0, .slice a1 n1 c1], .bool true]) (by simp [results, Tryd.results19, go_sem, p0, p1, p2, p3, p4, p5]) rfl ?_
      exact ⟨v, p, j, k, a0, n0, c0, a1, n1, c1, true, rfl, Or.inl ⟨rfl, b, cert_yes h1 h2, h2, h3, h4, h5, h6⟩, X4.out.trans (ui.below (by omega))⟩
    · have HV := Lib.hid hv
      have t1 : (v == cv) = false := beq_eq_false_iff_ne.2 hv
      clear hv
      go_wp2_with fail
      obtain ⟨b, h1, h2, h3, h4, h5, h6⟩ := HO.out.yes
      obtain ⟨xi, ui⟩ := rset6 C1.out (.int .i64 0) (.int .i64 0) (.int .i64 0) (.string ⟨#[]⟩) (.slice none 0 0) (.slice none 0 0)
      obtain ⟨p0, p1, p2, p3, p4, p5⟩ := cells6 xi
      refine bodyPost_ret (v := .tuple #[.agg #[.int .i64 0, .int .i64 0, .int .i64 0, .string ⟨#[]⟩, .slice none 0 0, .slice none 0 0], .bool false]) (by simp [results, Tryd.results19, go_sem, p0, p1, p2, p3, p4, p5]) rfl ?_
      exact ⟨0, 0, 0, ⟨#[]⟩, none, 0, 0, none, 0, 0, false, rfl, IsO.zero _ (cert_no (Or.inr ⟨b, h1, fun e => HV.out (h2.symm.trans e)⟩)), X4.out.trans (ui.below (by omega))⟩
set_option maxRecDepth 100000 in
set_option maxHeartbeats 4000000 in
theorem ahead_any {g : Nat} {F : Fo} {w : World} (hC : CodeF g F w) (x : BlockD) (cv cp cj : Int) (ch : ByteArray) (ca : Option Addr) (cn cc : Nat) (cb : Option Addr) (cm cd : Nat) (hs : ch.size ≤ 1000000) (hx : viewI x = cv) (hy : parI x = ch) :
    Calls Tryd.prog 20 #[.pointer (some ⟨g, 0, none⟩), .agg #[.int .i64 cv, .int .i64 cp, .int .i64 cj, .string ch, .slice ca cn cc, .slice cb cm cd]] w (BAns w (aheadF F x)) := by
  have HC := Lib.hid hC
  have HS := Lib.hid hs
  have HX := Lib.hid (And.intro hx hy)
  have X2 := Lib.hid (((Below.refl w.heap.size w).alloc (Nat.le_refl _) (.cells #[.int .i64 cv, .int .i64 cp, .int .i64 cj, .string ch, .slice ca cn cc, .slice cb cm cd] 39)).alloc (by simp) (.cells #[.int .i64 0, .int .i64 0, .int .i64 0, .string ⟨#[]⟩, .slice none 0 0, .slice none 0 0] 39))
  have R0 := Lib.hid (show Blk ((w.alloc (.cells #[.int .i64 cv, .int .i64 cp, .int .i64 cj, .string ch, .slice ca cn cc, .slice cb cm cd] 39)).alloc (.cells #[.int .i64 0, .int .i64 0, .int .i64 0, .string ⟨#[]⟩, .slice none 0 0, .slice none 0 0] 39)) w.heap.size 6 (rowL [.int .i64 cv, .int .i64 cp, .int .i64 cj, .string ch, .slice ca cn cc, .slice cb cm cd]) from (Blk.new' rfl (row6_ _ _ _ _ _ _)).alloc _)
  have R1 := Lib.hid (show Blk ((w.alloc (.cells #[.int .i64 cv, .int .i64 cp, .int .i64 cj, .string ch, .slice ca cn cc, .slice cb cm cd] 39)).alloc (.cells #[.int .i64 0, .int .i64 0, .int .i64 0, .string ⟨#[]⟩, .slice none 0 0, .slice none 0 0] 39)) (w.heap.size + 1) 6 (rowL [.int .i64 0, .int .i64 0, .int .i64 0, .string ⟨#[]⟩, .slice none 0 0, .slice none 0 0]) from Blk.new' (by simp) (row6_ _ _ _ _ _ _))
  clear hC hs hx hy
  go_enter Tryd.func20, Tryd.ntmps20
  go_wp2_with fail
  refine (parent_any cv cp cj ch ca cb cn cc cm cd _).mono ?_
  rintro e w2 ⟨rfl, hb2⟩
  have Y2 := Lib.hid (X2.out.trans (hb2.mono X2.out.size))
  have S0 := Lib.hid (R0.out.below hb2 R0.out.lt)
  have S1 := Lib.hid (R1.out.below hb2 R1.out.lt)
  clear hb2
  go_wp2_with fail
  refine (rget_is (HC.out.on Y2.out) ch HS.out).mono ?_
  rintro e w3 ⟨v, p, j, k, a0, n0, c0, a1, n1, c1, bb, rfl, ho, hb3⟩
  have HO := Lib.hid ho
  have X3 := Lib.hid (Y2.out.trans (hb3.mono Y2.out.size))
  have X4 := Lib.hid (X3.out.alloc X3.out.size (.cells #[.int .i64 v, .int .i64 p, .int .i64 j, .string k, .slice a0 n0 c0, .slice a1 n1 c1] 39))
  have C0 := Lib.hid ((S0.out.below hb3 S0.out.lt).alloc (.cells #[.int .i64 v, .int .i64 p, .int .i64 j, .string k, .slice a0 n0 c0, .slice a1 n1 c1] 39))
  have C1 := Lib.hid ((S1.out.below hb3 S1.out.lt).alloc (.cells #[.int .i64 v, .int .i64 p, .int .i64 j, .string k, .slice a0 n0 c0, .slice a1 n1 c1] 39))
  have C2 := Lib.hid (show Blk (w3.alloc (.cells #[.int .i64 v, .int .i64 p, .int .i64 j, .string k, .slice a0 n0 c0, .slice a1 n1 c1] 39)) w3.heap.size 6 (rowL [.int .i64 v, .int .i64 p, .int .i64 j, .string k, .slice a0 n0 c0, .slice a1 n1 c1]) from Blk.new' rfl (row6_ _ _ _ _ _ _))
  clear ho hb3
  obtain ⟨e0, e1, e2, e3, e4, e5⟩ := cells6 C1.out
  obtain ⟨g0, g1, g2, g3, g4, g5⟩ := cells6 C2.out
  have f0 := C1.out.frz 0
  have f1 := C1.out.frz 1
  have f2 := C1.out.frz 2
  have f3 := C1.out.frz 3
  have f4 := C1.out.frz 4
  have f5 := C1.out.frz 5
  obtain ⟨d0, d1, d2, d3, d4, d5⟩ := cells6 C0.out
  cases bb with
  | false =>
    go_wp2_with fail
    obtain ⟨xi, ui⟩ := rset6 C1.out (.int .i64 0) (.int .i64 0) (.int .i64 0) (.string ⟨#[]⟩) (.slice none 0 0) (.slice none 0 0)
    obtain ⟨p0, p1, p2, p3, p4, p5⟩ := cells6 xi
    refine bodyPost_ret (v := .tuple #[.agg #[.int .i64 0, .int .i64 0, .int .i64 0, .string ⟨#[]⟩, .slice none 0 0, .slice none 0 0], .bool false]) (by simp [results, Tryd.results20, go_sem, p0, p1, p2, p3, p4, p5]) rfl ?_
    exact ⟨0, 0, 0, ⟨#[]⟩, none, 0, 0, none, 0, 0, false, rfl, IsO.zero _ (ahead_no (Or.inl (by rw [HX.out.2]; exact HO.out.no.1))), X4.out.trans (ui.below (by omega))⟩
  | true =>
    obtain ⟨nv, hnv⟩ : ∃ nv, IntKind.i64.wrap (v + 1) = nv := ⟨_, rfl⟩
    have HNV := Lib.hid (show nextV v = nv from hnv)
    by_cases hv : cv = nv
    · obtain rfl : nv = cv := hv.symm
      go_wp2_with fail
      obtain ⟨b, h1, h2, h3, h4, h5, h6⟩ := HO.out.yes
      obtain ⟨xi, ui⟩ := rset6 C1.out (.int .i64 v) (.int .i64 p) (.int .i64 j) (.string k) (.slice a0 n0 c0) (.slice a1 n1 c1)
      obtain ⟨p0, p1, p2, p3, p4, p5⟩ := cells6 xi
      refine bodyPost_ret (v := .tuple #[.agg #[.int .i64 v, .int .i64 p, .int .i64 j, .string k, .slice a0 n0 c0, .slice a1 n1 c1], .bool true]) (by simp [results, Tryd.results20, go_sem, p0, p1, p2, p3, p4, p5]) rfl ?_
      exact ⟨v, p, j, k, a0, n0, c0, a1, n1, c1, true, rfl, Or.inl ⟨rfl, b, ahead_yes (by rw [HX.out.2]; exact h1) (by rw [HX.out.1, h2]; exact HNV.out.symm), h2, h3, h4, h5, h6⟩, X4.out.trans (ui.below (by omega))⟩
    · have HV := Lib.hid hv
      have t1 : (cv == nv) = false := beq_eq_false_iff_ne.2 hv
      clear hv
      go_wp2_with fail
      obtain ⟨b, h1, h2, h3, h4, h5, h6⟩ := HO.out.yes
      obtain ⟨xi, ui⟩ := rset6 C1.out (.int .i64 0) (.int .i64 0) (.int .i64 0) (.string ⟨#[]⟩) (.slice none 0 0) (.slice none 0 0)
      obtain ⟨p0, p1, p2, p3, p4, p5⟩ := cells6 xi
      refine bodyPost_ret (v := .tuple #[.agg #[.int .i64 0, .int .i64 0, .int .i64 0, .string ⟨#[]⟩, .slice none 0 0, .slice none 0 0], .bool false]) (by simp [results, Tryd.results20, go_sem, p0, p1, p2, p3, p4, p5]) rfl ?_
      exact ⟨0, 0, 0, ⟨#[]⟩, none, 0, 0, none, 0, 0, false, rfl, IsO.zero _ (ahead_no (Or.inr ⟨b, by rw [HX.out.2]; exact h1, fun e => HV.out (by rw [← HX.out.1, e, h2]; exact HNV.out)⟩)), X4.out.trans (ui.below (by omega))⟩
end Go.Proofs.YtlpnggdghmccjaaDoor
end
section
open Go Go.RowKit
namespace RR
open FF JJ CC WW BB MM
theorem bv_upd {w w' : World} {r : Nat} (hr : ForestBlk w r) (hu : Upd r w w') {v : Value} {L : List Bv} (hs : ∀ x ∈ L, sigsI x.1 = []) (h : BvAt w v L) : BvAt w' v L := by
  obtain ⟨a0, cap, rfl, h | ⟨b, off, rfl, hl, hc⟩⟩ := h
  · exact ⟨_, _, rfl, Or.inl h⟩
  · by_cases h0 : L = []
    · exact ⟨_, _, rfl, Or.inl h0⟩
    have hb : b ≠ r := by
      rintro rfl
      obtain ⟨s, n, a0, n0, c0, a1, n1, c1, hB⟩ := hr
      have k := (hc 0 (List.length_pos_iff.2 h0)).1 5 _ rfl
      have k0 := (hc 0 (List.length_pos_iff.2 h0)).1 0 _ rfl
      rw [Nat.zero_mul, Nat.add_zero] at k k0
      by_cases ho : off = 0
      · subst ho
        rw [blk_none hB (0 + 5) (by omega)] at k
        cases k
      · rw [blk_none hB (off + 5) (by omega)] at k
        cases k
    refine ⟨_, _, rfl, Or.inr ⟨b, off, rfl, by rw [hu.size]; exact hl, fun i hi => ⟨fun j u hj => ?_, ?_, ?_⟩⟩⟩
    · exact (World.cell?_of_block (w := w) (a := ⟨b, off + i * 6 + j, none⟩) (hu.block b hb)).trans ((hc i hi).1 j u hj)
    · obtain ⟨a2, c2, e, _⟩ := (hc i hi).2.1
      have hx : sigsI (L.getD i vb0).1 = [] := by
        rw [List.getD_eq_getElem?_getD, List.getElem?_eq_getElem hi]
        exact hs _ (List.getElem_mem hi)
      exact ⟨a2, c2, e, Or.inl hx⟩
    · exact reqs_upd hr hu (hc i hi).2.2
end RR
namespace Go.Proofs.YtlpnggdghmccjaaDoor
open RR FF JJ CC MM WW BB
/-- what the law's own forest is -/
def MadeAns (w : World) (l : List (Nat × Nat × Nat)) (u : Value) (w' : World) : Prop :=
  ∃ g na nn nc oa ow oc ua uc L, u = .tuple #[.pointer (some ⟨g, 0, none⟩), .agg #[.string (playF (chainL l l.length)).root, .int .i64 (playF (chainL l l.length)).height, .slice na nn nc, .slice oa ow oc], .slice ua L.length uc] ∧ CodeF g (playF (chainL l l.length)) w' ∧ FoAt w' (playF (chainL l l.length)) (.slice na nn nc) (.slice oa ow oc) ∧
    BvAt w' (.slice ua L.length uc) L ∧ L.map Prod.fst = chainL l l.length ∧ Below w.heap.size w w'
set_option maxRecDepth 100000 in
set_option maxHeartbeats 8000000 in
theorem made_any (l : List (Nat × Nat × Nat)) (lv : Value) (w : World) (hv : TriAt w lv l) (hsm : ∀ i, (l.getD i (0, 0, 0)).1 < 256 ∧ (l.getD i (0, 0, 0)).2.1 < 256 ∧ (l.getD i (0, 0, 0)).2.2 < 256) (h30 : l.length ≤ 30) (hT : Tabs w) :
    Calls Tryd.prog 5 #[lv] w fun e w' => ∃ u, e = .returned u ∧ MadeAns w l u w' := by
  have HT := Lib.hid hT
  have HV := Lib.hid hv
  have HSM := Lib.hid hsm
  obtain ⟨la0, lc0, rfl, _⟩ := hv
  have X0 := Lib.hid ((Below.refl w.heap.size w).alloc (Nat.le_refl _) (.cells #[.string ⟨#[]⟩, .int .i64 0, .slice none 0 0, .slice none 0 0] 30))
  have L0 := Lib.hid (show Blk (w.alloc (.cells #[.string ⟨#[]⟩, .int .i64 0, .slice none 0 0, .slice none 0 0] 30)) w.heap.size 4 (rowL [.string ⟨#[]⟩, .int .i64 0, .slice none 0 0, .slice none 0 0]) from Blk.new' rfl (row4_ _ _ _ _))
  have H30 := Lib.hid h30
  have HL := Lib.hid (show l.length ≤ 1000000 by omega)
  clear hT hsm h30
  go_enter Tryd.func5, Tryd.ntmps5
  go_wp2_with fail
  refine (chain_any l _ _ (HV.out.later X0.out) HSM.out HL.out).mono ?_
  rintro e w2 ⟨u, rfl, L, hmap, hbv, hb2⟩
  have HM0 := Lib.hid hmap
  rw [show min l.length 40 = l.length by have := H30.out; omega] at hmap
  have HMAP := Lib.hid hmap
  have HLN := Lib.hid (show L.length = l.length by have := congrArg List.length hmap; rwa [List.length_map, chain_len] at this)
  have HBV := Lib.hid hbv
  have X2 := Lib.hid (X0.out.trans (hb2.mono X0.out.size))
  have L2 := Lib.hid (L0.out.below hb2 L0.out.lt)
  have HT2 := Lib.hid (tabs_on HT.out X2.out)
  obtain ⟨la, lc, rfl⟩ := bv_shape hbv
  clear hmap hbv hb2 HM0
  go_wp2_with fail
  refine (gnew_any w2.heap.size w2 (Nat.le_refl _)).mono ?_
  rintro e w3 ⟨rfl, hc3, hb3⟩
  have HC3 := Lib.hid hc3
  have X3 := Lib.hid hb3
  clear hc3 hb3
  go_wp2_with fail
  refine (fnew_any w3).mono ?_
  rintro e w4 ⟨rfl, hb4⟩
  have X4 := Lib.hid hb4
  clear hb4
  go_wp2_with fail
  obtain ⟨r, hr⟩ : ∃ r, w4.heap.size = r := ⟨_, rfl⟩
  have S5 := Lib.hid (show TwSt w2 w2.heap.size w4.heap.size (playF ((L.map Prod.fst).take 0)) (playF ((L.map Prod.fst).take 0)) (w4.alloc (.cells #[.string firstD, .int .i64 0, .slice none 0 0, .slice none 0 0] 30)) from by
    have hc4 := HC3.out.on X4.out
    have ha : Below w4.heap.size w4 (w4.alloc (.cells #[.string firstD, .int .i64 0, .slice none 0 0, .slice none 0 0] 30)) := (Below.refl _ _).alloc (Nat.le_refl _) _
    have hl4 : w2.heap.size < w4.heap.size := Nat.lt_of_lt_of_le HC3.out.blk.lt X4.out.size
    have hb4 := X3.out.trans (X4.out.mono X3.out.size)
    exact ⟨⟨_, _, _, _, _, _, _, _, _, _, _, _, ⟨hc4.on ha, fun c hc => by rcases hc with rfl | hc | hc | hc <;> first | omega | cases hc | exact hc.elim, Blk.new' rfl rfl, ⟨[], [], rfl, rfl, fun _ _ => ⟨iv_nil _ _ _, iv_nil _ _ _⟩⟩, new_wf _ firstD_size, by omega, tabs_on (tabs_on HT2.out hb4) ha⟩⟩, hb4.trans (ha.mono (by omega))⟩)
  obtain ⟨g, hg⟩ : ∃ g, w2.heap.size = g := ⟨_, rfl⟩
  rw [hr, hg] at S5
  rw [hr, hg]
  clear hr hg
  obtain ⟨bs, hbs⟩ : ∃ bs, L.map Prod.fst = bs := ⟨_, rfl⟩
  have HBL := Lib.hid (show ∀ j, j < l.length → (L.getD j vb0).1 = bs.getD j bd0 from fun j hj => by rw [← hbs, bmap_getD L j (by have := HLN.out; omega)])
  have HSB := Lib.hid (show ∀ j, SmallI (bs.getD j bd0) from fun j => by
    rw [← hbs, HMAP.out]
    by_cases hj : j < (chainL l l.length).length
    · rw [getD_at hj]; exact (chain_small l l.length _ (List.getElem_mem hj)).1
    · rw [List.getD_eq_getElem?_getD, List.getElem?_eq_none (by omega)]; exact small_bd0)
  have HBN := Lib.hid (show bs.length = l.length by rw [← hbs, List.length_map]; exact HLN.out)
  rw [hbs] at S5
  have HPLW := Lib.hid (show ∀ i, WF (playF (bs.take i)) ∧ (playF (bs.take i)).height = 0 ∧ (playF (bs.take i)).root = firstD from fun i => rplay_wf _)
  have hbs' := Lib.hid (show bs = chainL l l.length from hbs.symm.trans HMAP.out)
  clear hbs
  go_loopw [8] (fun y wx => ∃ i : Nat, i ≤ l.length ∧ y = .int .i64 (i : Int) ∧ TwSt w2 g r (playF (bs.take i)) (playF (bs.take i)) wx) (fun y _ => l.length - (intOf y).toNat)
  case atStart => exact ⟨0, Nat.zero_le _, rfl, S5.out⟩
  case round =>
    obtain ⟨i, hi, rfl, hst⟩ := hrel
    have i0 : (0 : Int) ≤ (i : Int) := by omega
    have ib : (i : Int) ≤ 30 := by have := H30.out; omega
    by_cases hlt : i < l.length
    · have hlt' : (i : Int) < (L.length : Int) := by rw [HLN.out]; omega
      have HLT := Lib.hid hlt
      obtain ⟨⟨rt, mv, ov, N, O, C, na, nn, nc, oa, ow, oc, hM⟩, hbz⟩ := hst
      have HM := Lib.hid hM
      have HBZ := Lib.hid hbz
      obtain ⟨F, hF⟩ : ∃ F, playF (bs.take i) = F := ⟨_, rfl⟩
      obtain ⟨R, hR⟩ : ∃ R, putF F (digI (bs.getD i bd0), bs.getD i bd0) = R := ⟨_, rfl⟩
      have HF := Lib.hid hF
      have HR := Lib.hid hR
      have HF1 := Lib.hid (show playF (bs.take (i + 1)) = R.1 by rw [play_snoc bs i (by rw [HBN.out]; exact hlt), hF, ← hR]; rfl)
      have HFP := Lib.hid (hF ▸ HPLW.out i)
      have HWR := Lib.hid (show WF R.1 by rw [← HF1.out]; exact (HPLW.out _).1)
      rw [hF] at HM
      obtain ⟨lb, loff, rfl, _, _, hat⟩ := bv_at HBV.out 0 (by rw [HLN.out]; omega)
      have HAT := Lib.hid hat
      obtain ⟨P, hP⟩ : ∃ P, L.getD i vb0 = P := ⟨_, rfl⟩
      have HPB := Lib.hid (show P.1 = bs.getD i bd0 by rw [← hP]; exact HBL.out i hlt)
      have HSP := Lib.hid (show SmallI P.1 by rw [HPB.out]; exact HSB.out i)
      have HRP := Lib.hid (show putF F (digI P.1, P.1) = R by rw [HPB.out]; exact hR)
      obtain ⟨pv, hpv⟩ : ∃ pv, viewI P.1 = pv := ⟨_, rfl⟩
      obtain ⟨pp, hpp⟩ : ∃ pp, propI P.1 = pp := ⟨_, rfl⟩
      obtain ⟨pj, hpj⟩ : ∃ pj, jvI P.1 = pj := ⟨_, rfl⟩
      obtain ⟨pk, hpk⟩ : ∃ pk, parI P.1 = pk := ⟨_, rfl⟩
      obtain ⟨ps, hps⟩ : ∃ ps, P.2.1 = ps := ⟨_, rfl⟩
      obtain ⟨pr, hpr⟩ : ∃ pr, P.2.2 = pr := ⟨_, rfl⟩
      have HA0 := Lib.hid (show ∀ wr, Below w2.heap.size w2 wr → wr.cell? ⟨lb, loff + i * 6, none⟩ = some (.int .i64 pv) ∧ wr.cell? ⟨lb, loff + i * 6 + 1, none⟩ = some (.int .i64 pp) ∧ wr.cell? ⟨lb, loff + i * 6 + 2, none⟩ = some (.int .i64 pj) ∧
          wr.cell? ⟨lb, loff + i * 6 + 3, none⟩ = some (.string pk) ∧ wr.cell? ⟨lb, loff + i * 6 + 4, none⟩ = some ps ∧ wr.cell? ⟨lb, loff + i * 6 + 5, none⟩ = some pr ∧ SigsAt wr ps (sigsI P.1) ∧ ReqsAt wr pr P.1.2 from fun wr hb => by
        have h := HAT.out wr hb i (by rw [HLN.out]; exact HLT.out)
        rw [hP, hpv, hpp, hpj, hpk] at h
        subst hps hpr
        exact h)
      have HPE := Lib.hid (show viewI P.1 = pv ∧ propI P.1 = pp ∧ jvI P.1 = pj ∧ parI P.1 = pk from ⟨hpv, hpp, hpj, hpk⟩)
      clear hi hlt hM hbz hF hR hat hP hpv hpp hpj hpk hps hpr
      go_upto_region 6 with fail
      go_cut [9, 10] from 21 to 29 (fun s9 _ wx => ∃ y, s9 = .pointer (some ⟨y, 0, none⟩) ∧ TwX w2 g r y F F R.1 wx)
      case first =>
        have HS := Lib.hid (fun (wx : World) (hb : Below wr.heap.size wr wx) => show wx.cell? ⟨r, 0, none⟩ = some (.string F.root) ∧ wx.cell? ⟨r, 1, none⟩ = some (.int .i64 F.height) ∧ wx.cell? ⟨r, 2, none⟩ = some (.slice na nn nc) ∧ wx.cell? ⟨r, 3, none⟩ = some (.slice oa ow oc) ∧ True from by
          have L := HM.out.blk.below hb HM.out.blk.lt
          exact ⟨L.get 0 (by omega), L.get 1 (by omega), L.get 2 (by omega), L.get 3 (by omega), trivial⟩)
        have HCA := Lib.hid (show FoD (fun b => AwayP g r mv ov C b ∧ b < wr.heap.size) wr F _ _ from HM.out.fo.cut)
        have HDE := Lib.hid (fun (wx : World) (hb : Below wr.heap.size wr wx) => show Dep (fun b => AwayP g r mv ov C b ∧ b < wr.heap.size) wx (fun w' => SigsAt w' ps (sigsI P.1) ∧ ReqsAt w' pr P.1.2) from fun w' hk => by
          have h9 := HBZ.out.trans (hb.mono HBZ.out.size)
          have := HA0.out w' (h9.trans (hk.low (HM.out.low HBZ.out) h9.size))
          exact ⟨this.2.2.2.2.2.2.1, this.2.2.2.2.2.2.2⟩)
        go_wp2_with fail
        refine crossE_abs (fun wx => Below wr.heap.size wr wx) 11 [0, 1, 2, 3, 4] 5 9 [(true, 6), (true, 7), (true, 8), (false, 9), (false, 10), (false, 11)] [(false, 5), (true, 6), (true, 7), (true, 8), (false, 10), (false, 11)] (by kernel_rfl) (by kernel_rfl) (fun _ _ d _ _ h => by cases d <;> exact h) fun w5 hs5 => ⟨hs5.below _, ?_⟩
        have Y5 := Lib.hid (show Below wr.heap.size wr w5 from hs5.below _)
        clear hs5
        have hia : (0 : Int) ≤ (i : Int) := by omega
        iterate 5 (refine pre_run _ ?_ rfl rfl ?_ ?_; rotate_left; (focus (intro w' hS; obtain ⟨d0, d1, d2, d3, d4⟩ := HS.out w' hS; obtain ⟨c0, c1, c2, c3, c4, c5, c6⟩ := HA0.out w' (HBZ.out.trans (hS.mono HBZ.out.size)); go_simp; exact rfl)); simp only [Act.put, List.setIfInBounds_toArray, List.set_cons_zero, List.set_cons_succ, List.getElem_toArray, List.getElem_cons_zero, List.getElem_cons_succ])
        refine pre_end ⟨?_, ?_⟩
        · refine pe_call (R := RputP (fun b => AwayP g r mv ov C b ∧ b < wr.heap.size) w5 R) _ rfl rfl (by go_simp) (tw_rput (HCA.out.on (Keeps.of Y5.out)) HFP.out.1 P.1 HSP.out R HRP.out pv pp pj pk HPE.out.1 HPE.out.2.1 HPE.out.2.2.1 HPE.out.2.2.2 ps pr (HDE.out _ Y5.out)) (fun u w' h => by obtain ⟨_, _, _, _, _, _, _, _, h⟩ := h; exact Y5.out.trans (h.mono Y5.out.size)) fun u w6 hr => ?_
          obtain ⟨na', nn', nc', oa', ow', oc', rfl, hfo, hb⟩ := hr
          have Y6 := Lib.hid (Y5.out.trans (hb.mono Y5.out.size))
          have HFO := Lib.hid hfo
          have YN := Lib.hid (show wr.heap.size ≤ w5.heap.size from Y5.out.size)
          have Y56 := Lib.hid hb.size
          clear hb hfo
          simp only [Act.put, List.setIfInBounds_toArray, List.set_cons_zero, List.set_cons_succ, List.getElem_toArray, List.getElem_cons_zero, List.getElem_cons_succ]
          iterate 3 (refine pe_run _ ?_ rfl rfl ?_ ?_; rotate_left; (focus (intro w' hS; go_simp; exact rfl)); simp only [Act.put, List.setIfInBounds_toArray, List.set_cons_zero, List.set_cons_succ, List.getElem_toArray, List.getElem_cons_zero, List.getElem_cons_succ])
          have BA := Lib.hid ((Below.refl w6.heap.size w6).alloc (Nat.le_refl _) (.cells #[.string ⟨#[]⟩, .int .i64 0, .slice none 0 0, .slice none 0 0] 30))
          have Y7 := Lib.hid (Y6.out.trans (BA.out.mono Y6.out.size))
          obtain ⟨y, hy⟩ : ∃ y, w6.heap.size = y := ⟨_, rfl⟩
          have YL := Lib.hid (show wr.heap.size ≤ y by rw [← hy]; exact Y6.out.size)
          have XI := Lib.hid (show Blk (w6.alloc (.cells #[.string ⟨#[]⟩, .int .i64 0, .slice none 0 0, .slice none 0 0] 30)) y 4 (rowL [.string ⟨#[]⟩, .int .i64 0, .slice none 0 0, .slice none 0 0]) from Blk.new' hy.symm rfl)
          have HFO7 := Lib.hid (HFO.out.cut.on (Keeps.of BA.out))
          refine pe_value (w' := w6.alloc (.cells #[.string ⟨#[]⟩, .int .i64 0, .slice none 0 0, .slice none 0 0] 30)) _ (.pointer (some ⟨y, 0, none⟩)) rfl rfl (by rw [← hy]; go_simp) Y7.out ?_
          have YY := Lib.hid hy
          generalize w6.alloc (.cells #[.string ⟨#[]⟩, .int .i64 0, .slice none 0 0, .slice none 0 0] 30) = w7 at *
          simp only [Act.put, List.setIfInBounds_toArray, List.set_cons_zero, List.set_cons_succ, List.getElem_toArray, List.getElem_cons_zero, List.getElem_cons_succ]
          clear hy BA
          have v0 := XI.out.get 0 (by omega)
          have v1 := XI.out.get 1 (by omega)
          have v2 := XI.out.get 2 (by omega)
          have v3 := XI.out.get 3 (by omega)
          have z0 := XI.out.frz 0
          have z1 := XI.out.frz 1
          have z2 := XI.out.frz 2
          have z3 := XI.out.frz 3
          obtain ⟨xi, ui⟩ := gset4 XI.out (.string R.1.root) (.int .i64 R.1.height) (.slice na' nn' nc') (.slice oa' ow' oc')
          have XS := Lib.hid (Y7.out.trans (ui.below YL.out))
          have hfe := (HFO7.out.on (Keeps.upd ui (fun b hb => by have := hb.2; have := YY.out; omega))).more (A' := fun b => (AwayP g r mv ov C b ∧ b < wr.heap.size) ∨ w5.heap.size ≤ b) (fun b hb _ => hb.1)
          refine pe_skip _ rfl rfl (by go_simp) XS.out ?_
          simp only [Act.put, List.getElem_toArray, List.getElem_cons_zero, List.getElem_cons_succ]
          refine pe_last _ rfl ?_
          simp only [List.getElem_toArray, List.getElem_cons_zero, List.getElem_cons_succ]
          clear v0 v1 v2 v3 z0 z1 z2 z3
          have XB := Lib.hid xi
          have HFE := Lib.hid hfe
          clear xi ui hfe
          go_wp2_with fail
          go_meet
          exact ⟨y, rfl, rt, mv, ov, N, O, C, na, nn, nc, oa, ow, oc, na', nn', nc', oa', ow', oc', w5.heap.size, HM.out.on XS.out, HBZ.out.trans (XS.out.mono HBZ.out.size), XB.out, HFE.out.more (fun b hb _ => hb.imp (fun h => h.1) fun h => h), fun b hb => Nat.lt_of_lt_of_le (HM.out.code.ownL b hb) YN.out, Nat.lt_of_lt_of_le HM.out.blk.lt YN.out, by have := HM.out.blk.lt; have := YL.out; omega, HWR.out⟩
        · have BA := Lib.hid ((Below.refl w5.heap.size w5).alloc (Nat.le_refl _) (.cells #[.string ⟨#[]⟩, .int .i64 0, .slice none 0 0, .slice none 0 0] 30))
          have Y6 := Lib.hid (Y5.out.trans (BA.out.mono Y5.out.size))
          obtain ⟨y, hy⟩ : ∃ y, w5.heap.size = y := ⟨_, rfl⟩
          have YL := Lib.hid (show wr.heap.size ≤ y by rw [← hy]; exact Y5.out.size)
          have XI := Lib.hid (show Blk (w5.alloc (.cells #[.string ⟨#[]⟩, .int .i64 0, .slice none 0 0, .slice none 0 0] 30)) y 4 (rowL [.string ⟨#[]⟩, .int .i64 0, .slice none 0 0, .slice none 0 0]) from Blk.new' hy.symm rfl)
          refine pe_value (w' := w5.alloc (.cells #[.string ⟨#[]⟩, .int .i64 0, .slice none 0 0, .slice none 0 0] 30)) _ (.pointer (some ⟨y, 0, none⟩)) rfl rfl (by rw [← hy]; go_simp) Y6.out ?_
          generalize w5.alloc (.cells #[.string ⟨#[]⟩, .int .i64 0, .slice none 0 0, .slice none 0 0] 30) = w7 at *
          simp only [Act.put, List.setIfInBounds_toArray, List.set_cons_zero, List.set_cons_succ, List.getElem_toArray, List.getElem_cons_zero, List.getElem_cons_succ]
          clear hy BA
          refine pe_call (R := RputP (fun b => AwayP g r mv ov C b ∧ b < wr.heap.size) w7 R) _ rfl rfl (by go_simp) (tw_rput (HCA.out.on (Keeps.of Y6.out)) HFP.out.1 P.1 HSP.out R HRP.out pv pp pj pk HPE.out.1 HPE.out.2.1 HPE.out.2.2.1 HPE.out.2.2.2 ps pr (HDE.out _ Y6.out)) (fun u w' h => by obtain ⟨_, _, _, _, _, _, _, _, h⟩ := h; exact Y6.out.trans (h.mono Y6.out.size)) fun u w6 hr => ?_
          obtain ⟨na', nn', nc', oa', ow', oc', rfl, hfo, hb⟩ := hr
          have Y7 := Lib.hid (Y6.out.trans (hb.mono Y6.out.size))
          have HFO := Lib.hid hfo
          have YN := Lib.hid (show wr.heap.size ≤ w7.heap.size from Y6.out.size)
          have YLT := Lib.hid (show y < w7.heap.size from XI.out.lt)
          have XJ := Lib.hid (XI.out.below hb XI.out.lt)
          clear hb hfo XI
          simp only [Act.put, List.setIfInBounds_toArray, List.set_cons_zero, List.set_cons_succ, List.getElem_toArray, List.getElem_cons_zero, List.getElem_cons_succ]
          iterate 3 (refine pe_run _ ?_ rfl rfl ?_ ?_; rotate_left; (focus (intro w' hS; go_simp; exact rfl)); simp only [Act.put, List.setIfInBounds_toArray, List.set_cons_zero, List.set_cons_succ, List.getElem_toArray, List.getElem_cons_zero, List.getElem_cons_succ])
          have v0 := XJ.out.get 0 (by omega)
          have v1 := XJ.out.get 1 (by omega)
          have v2 := XJ.out.get 2 (by omega)
          have v3 := XJ.out.get 3 (by omega)
          have z0 := XJ.out.frz 0
          have z1 := XJ.out.frz 1
          have z2 := XJ.out.frz 2
          have z3 := XJ.out.frz 3
          obtain ⟨xi, ui⟩ := gset4 XJ.out (.string R.1.root) (.int .i64 R.1.height) (.slice na' nn' nc') (.slice oa' ow' oc')
          have XS := Lib.hid (Y7.out.trans (ui.below YL.out))
          have hfe := HFO.out.on (Keeps.upd ui (fun b hb => by have := YL.out; have := YLT.out; rcases hb with hb | hb; exact (by have := hb.2; omega); omega))
          refine pe_skip _ rfl rfl (by go_simp) XS.out ?_
          simp only [Act.put, List.getElem_toArray, List.getElem_cons_zero, List.getElem_cons_succ]
          refine pe_last _ rfl ?_
          simp only [List.getElem_toArray, List.getElem_cons_zero, List.getElem_cons_succ]
          clear v0 v1 v2 v3 z0 z1 z2 z3
          have XB := Lib.hid xi
          have HFE := Lib.hid hfe
          clear xi ui hfe
          go_wp2_with fail
          go_meet
          exact ⟨y, rfl, rt, mv, ov, N, O, C, na, nn, nc, oa, ow, oc, na', nn', nc', oa', ow', oc', w7.heap.size, HM.out.on XS.out, HBZ.out.trans (XS.out.mono HBZ.out.size), XB.out, HFE.out.more (fun b hb _ => hb.imp (fun h => h.1) fun h => h), fun b hb => Nat.lt_of_lt_of_le (HM.out.code.ownL b hb) YN.out, Nat.lt_of_lt_of_le HM.out.blk.lt YN.out, by have := HM.out.blk.lt; have := YL.out; omega, HWR.out⟩
      case rest =>
        obtain ⟨y, rfl, rt', mv', ov', N', O', C', ma, mn, mc, qa, qw, qc, na', nn', nc', oa', ow', oc', n', hM', hb', hy', hfo', hn', hrn', hyr, hwf⟩ := hcut
        have HM' := Lib.hid hM'
        have HB' := Lib.hid hb'
        have HFO' := Lib.hid hfo'
        have HN' := Lib.hid hn'
        have HRN' := Lib.hid hrn'
        have d0 : _ = some (Value.string R.1.root) := hy'.get 0 (by omega)
        have d1 : _ = some (Value.int .i64 R.1.height) := hy'.get 1 (by omega)
        have d2 : _ = some (Value.slice na' nn' nc') := hy'.get 2 (by omega)
        have d3 : _ = some (Value.slice oa' ow' oc') := hy'.get 3 (by omega)
        have v0 := hM'.blk.get 0 (by omega)
        have v1 := hM'.blk.get 1 (by omega)
        have v2 := hM'.blk.get 2 (by omega)
        have v3 := hM'.blk.get 3 (by omega)
        have z0 := hM'.blk.frz 0
        have z1 := hM'.blk.frz 1
        have z2 := hM'.blk.frz 2
        have z3 := hM'.blk.frz 3
        obtain ⟨xi, ui⟩ := gset4 hM'.blk (.string R.1.root) (.int .i64 R.1.height) (.slice na' nn' nc') (.slice oa' ow' oc')
        have S9 := Lib.hid (TwX.moved HM'.out HB'.out HFO'.out HN'.out HRN'.out HT2.out ui xi hwf)
        clear hM' hb' hy' hfo' hn' hrn' hyr hwf xi ui
        go_upto_region 8 with fail
        clear d0 d1 d2 d3 v0 v1 v2 v3 z0 z1 z2 z3
        obtain ⟨w9, hw9⟩ : ∃ w9, ((((wc.setCell ⟨r, 0, none⟩ (.string R.1.root)).setCell ⟨r, 1, none⟩ (.int .i64 R.1.height)).setCell ⟨r, 2, none⟩ (.slice na' nn' nc')).setCell ⟨r, 3, none⟩ (.slice oa' ow' oc')) = w9 := ⟨_, rfl⟩
        rw [hw9] at S9 ⊢
        clear hw9
        obtain ⟨c0, c1, c2, c3, c4, c5, hsi, hri⟩ := HA0.out w9 S9.out.2
        have HSI := Lib.hid (And.intro hsi hri)
        clear hsi hri
        go_wp2_with fail
        refine (tw_put S9.out HT2.out (by rw [HFP.out.2.1]; omega) P.1 HSP.out R HRP.out pv pp pj pk HPE.out.1 HPE.out.2.1 HPE.out.2.2.1 HPE.out.2.2.2 ps pr HSI.out.1 HSI.out.2).mono ?_
        rintro e w10 ⟨rfl, hs10⟩
        have S10 := Lib.hid hs10
        clear hs10 c0 c1 c2 c3 c4 c5
        go_wp2_with fail
        go_roundw
        case rel => exact ⟨i + 1, by have := HLT.out; omega, by go_num, by rw [HF1.out]; exact S10.out⟩
        case measure => have := HLT.out; simp [intOf]; omega
    · obtain rfl : i = l.length := by omega
      have hlt' : ¬ ((l.length : Nat) : Int) < (L.length : Int) := by rw [HLN.out]; omega
      obtain ⟨F, hF⟩ : ∃ F, playF bs = F := ⟨_, rfl⟩
      have HBS := Lib.hid hbs'.out
      rw [show bs.take l.length = bs by rw [← HBN.out]; exact List.take_length, hF] at hst
      obtain ⟨⟨rt, mv, ov, N, O, C, na, nn, nc, oa, ow, oc, hM⟩, hbz⟩ := hst
      have HM := Lib.hid hM
      have HBZ := Lib.hid hbz
      have HFR := Lib.hid (show FromF F (fun b => sigsI b = []) from by
        rw [← hF, HBS.out]
        exact play_from _ fun b hb => (chain_small l l.length b hb).2.1)
      have HFE := Lib.hid (show playF (chainL l l.length) = F by rw [← HBS.out, hF])
      have LZ := Lib.hid (L2.out.below hbz L2.out.lt)
      clear hi hlt hF hM hbz
      go_wp2_with fail
      refine plan_abs (fun wx => Blk wx r 4 (rowL [.string F.root, .int .i64 F.height, .slice na nn nc, .slice oa ow oc])) [(true, 0), (true, 1), (true, 2), (true, 3), (false, 4), (true, 5)] (by kernel_rfl) (by kernel_rfl) (fun _ _ d _ _ h => by cases d <;> exact h) fun w5 hs5 => ⟨HM.out.blk.same hs5, ?_⟩
      have Y5 := Lib.hid (show Below wr.heap.size wr w5 from hs5.below _)
      have LY := Lib.hid (LZ.out.same hs5)
      clear hs5
      have HRW := Lib.hid (show w.heap.size < g ∧ w.heap.size < r from by
        have h1 := HM.out.rB
        have h2 := HM.out.code.gB
        have h3 := L2.out.lt
        omega)
      iterate 4 (refine pl_run _ ?_ rfl rfl ?_ ?_; rotate_left; (focus (intro w' hS; obtain ⟨c0, c1, c2, c3⟩ := cells4 hS; go_simp; exact rfl)); simp only [Act.put, List.setIfInBounds_toArray, List.set_cons_zero, List.set_cons_succ, List.getElem_toArray, List.getElem_cons_zero, List.getElem_cons_succ])
      obtain ⟨q0, q1, q2, q3⟩ := cells4 LY.out
      have z0 := LY.out.frz 0
      have z1 := LY.out.frz 1
      have z2 := LY.out.frz 2
      have z3 := LY.out.frz 3
      obtain ⟨xi, ui⟩ := gset4 LY.out (.string F.root) (.int .i64 F.height) (.slice na nn nc) (.slice oa ow oc)
      have XI := Lib.hid xi
      have UI := Lib.hid ui
      refine pl_store _ rfl rfl (by go_simp) ((HM.out.blk.below Y5.out HM.out.blk.lt).upd ui (by have := HRW.out; omega)) ?_
      simp only [Act.put, List.getElem_toArray, List.getElem_cons_zero, List.getElem_cons_succ]
      refine pl_run _ ?_ rfl rfl ?_ ?_
      rotate_left
      · intro w' hS
        go_simp
        exact rfl
      simp only [Act.put, List.setIfInBounds_toArray, List.set_cons_zero, List.set_cons_succ, List.getElem_toArray, List.getElem_cons_zero, List.getElem_cons_succ]
      refine pl_end ?_
      clear q0 q1 q2 q3 z0 z1 z2 z3 xi ui
      go_wp2_with fail
      obtain ⟨p0, p1, p2, p3⟩ := cells4 XI.out
      refine bodyPost_ret (v := .tuple #[.pointer (some ⟨g, 0, none⟩), .agg #[.string F.root, .int .i64 F.height, .slice na nn nc, .slice oa ow oc], .slice la L.length lc]) (by simp [results, Tryd.results5, go_sem, p0, p1, p2, p3]) rfl ?_
      have hFB : ForestBlk w5 w.heap.size := ⟨_, _, _, _, _, _, _, _, LY.out⟩
      refine ⟨_, rfl, g, na, nn, nc, oa, ow, oc, la, lc, L, by rw [HFE.out], ?_, ?_, ?_, HMAP.out, ?_⟩
      · rw [HFE.out]
        exact ⟨_, _, _, _, _, _, _, (HM.out.code.on Y5.out).keep (Keeps.upd UI.out fun c hc => by have := (HM.out.code.on Y5.out).ownB c hc; have := L2.out.lt; omega)⟩
      · rw [HFE.out]
        exact fo_upd hFB UI.out HFR.out (HM.out.fo.now.later Y5.out)
      · refine bv_upd hFB UI.out (fun x hx => ?_) (HBV.out.later (HBZ.out.trans (Y5.out.mono HBZ.out.size)))
        have hm : x.1 ∈ chainL l l.length := by rw [← HMAP.out]; exact List.mem_map.2 ⟨x, hx, rfl⟩
        exact (chain_small l l.length x.1 hm).2.1
      · exact (X2.out.trans ((HBZ.out.trans (Y5.out.mono HBZ.out.size)).mono X2.out.size)).trans (UI.out.below (Nat.le_refl _))
end Go.Proofs.YtlpnggdghmccjaaDoor
end
section
open Go Go.RowKit
namespace RR
open FF JJ CC WW BB MM
theorem learn_some {F : Fo} {s1 s2 v : Int} {h : ByteArray} {b : BlockD} (h1 : certF F v h = some b) : learnS F (s1, s2) v h = (s1, max s2 (jvI b)) := by unfold learnS; rw [h1]
theorem learn_none {F : Fo} {s : St} {v : Int} {h : ByteArray} (h1 : certF F v h = none) : learnS F s v h = s := by unfold learnS; rw [h1]
theorem com_no1 {F : Fo} {v : Int} {h : ByteArray} (h1 : certF F v h = none) : commitF F v h = (⟨#[]⟩, false) := by unfold commitF; rw [h1]
theorem com_no2 {F : Fo} {v : Int} {h : ByteArray} {b : BlockD} (h1 : certF F v h = some b) (h2 : aheadF F b = none) : commitF F v h = (⟨#[]⟩, false) := by unfold commitF; rw [h1]; simp only [h2]
theorem com_no3 {F : Fo} {v : Int} {h : ByteArray} {b p : BlockD} (h1 : certF F v h = some b) (h2 : aheadF F b = some p) (h3 : aheadF F p = none) : commitF F v h = (⟨#[]⟩, false) := by unfold commitF; rw [h1]; simp only [h2, h3]
theorem com_yes {F : Fo} {v : Int} {h : ByteArray} {b p g : BlockD} (h1 : certF F v h = some b) (h2 : aheadF F b = some p) (h3 : aheadF F p = some g) : commitF F v h = (parI p, true) := by unfold commitF; rw [h1]; simp only [h2, h3]
end RR
namespace Go.Proofs.YtlpnggdghmccjaaDoor
open RR FF JJ CC MM WW BB
set_option maxRecDepth 100000 in
set_option maxHeartbeats 4000000 in
theorem learn_any {g : Nat} {F : Fo} {w : World} (hC : CodeF g F w) (s1 s2 cv : Int) (ch : ByteArray) (ca : Option Addr) (cn cc : Nat) (hs : ch.size ≤ 1000000) (t1 t2 : Int) (ht : learnS F (s1, s2) cv ch = (t1, t2)) :
    Calls Tryd.prog 9 #[.pointer (some ⟨g, 0, none⟩), .agg #[.int .i64 s1, .int .i64 s2], .agg #[.int .i64 cv, .string ch, .slice ca cn cc]] w fun e w' => e = .returned (.agg #[.int .i64 t1, .int .i64 t2]) ∧ Below w.heap.size w w' := by
  have HC := Lib.hid hC
  have HS := Lib.hid hs
  have HT := Lib.hid ht
  have X3 := Lib.hid ((((Below.refl w.heap.size w).alloc (Nat.le_refl _) (.cells #[.int .i64 s1, .int .i64 s2] 24)).alloc (by simp) (.cells #[.int .i64 cv, .string ch, .slice ca cn cc] 36)).alloc (by simp; omega) (.cells #[.int .i64 0, .int .i64 0] 24))
  have R0 := Lib.hid (show Blk (((w.alloc (.cells #[.int .i64 s1, .int .i64 s2] 24)).alloc (.cells #[.int .i64 cv, .string ch, .slice ca cn cc] 36)).alloc (.cells #[.int .i64 0, .int .i64 0] 24)) w.heap.size 2 (rowL [.int .i64 s1, .int .i64 s2]) from ((Blk.new' rfl (row2_ _ _)).alloc _).alloc _)
  have R2 := Lib.hid (show Blk (((w.alloc (.cells #[.int .i64 s1, .int .i64 s2] 24)).alloc (.cells #[.int .i64 cv, .string ch, .slice ca cn cc] 36)).alloc (.cells #[.int .i64 0, .int .i64 0] 24)) (w.heap.size + 1 + 1) 2 (rowL [.int .i64 0, .int .i64 0]) from Blk.new' (by simp) (row2_ _ _))
  clear hC hs ht
  go_enter Tryd.func9, Tryd.ntmps9
  go_wp2_with fail
  refine (certified_any (HC.out.on X3.out) cv ch ca cn cc HS.out).mono ?_
  rintro e w3 ⟨v, p, j, k, a0, n0, c0, a1, n1, c1, bb, rfl, ho, hb3⟩
  have HO := Lib.hid ho
  have X4 := Lib.hid ((X3.out.trans (hb3.mono X3.out.size)).alloc (Nat.le_trans X3.out.size hb3.size) (.cells #[.int .i64 v, .int .i64 p, .int .i64 j, .string k, .slice a0 n0 c0, .slice a1 n1 c1] 39))
  have C0 := Lib.hid ((R0.out.below hb3 R0.out.lt).alloc (.cells #[.int .i64 v, .int .i64 p, .int .i64 j, .string k, .slice a0 n0 c0, .slice a1 n1 c1] 39))
  have C2 := Lib.hid ((R2.out.below hb3 R2.out.lt).alloc (.cells #[.int .i64 v, .int .i64 p, .int .i64 j, .string k, .slice a0 n0 c0, .slice a1 n1 c1] 39))
  have C3 := Lib.hid (show Blk (w3.alloc (.cells #[.int .i64 v, .int .i64 p, .int .i64 j, .string k, .slice a0 n0 c0, .slice a1 n1 c1] 39)) w3.heap.size 6 (rowL [.int .i64 v, .int .i64 p, .int .i64 j, .string k, .slice a0 n0 c0, .slice a1 n1 c1]) from Blk.new' rfl (row6_ _ _ _ _ _ _))
  clear ho hb3
  obtain ⟨d0, d1⟩ := cells2 C0.out
  obtain ⟨d2, d3⟩ := cells2 C2.out
  obtain ⟨g0, g1, g2, g3, g4, g5⟩ := cells6 C3.out
  have f0 := C0.out.frz 1
  have f1 := C2.out.frz 0
  have f2 := C2.out.frz 1
  cases bb with
  | false =>
    obtain ⟨rfl, rfl⟩ : s1 = t1 ∧ s2 = t2 := by
      have := HT.out
      rw [learn_none HO.out.no.1] at this
      exact ⟨congrArg Prod.fst this, congrArg Prod.snd this⟩
    go_wp2_with fail
    obtain ⟨xi, ui⟩ := rset2 C2.out (.int .i64 s1) (.int .i64 s2)
    obtain ⟨p0, p1⟩ := cells2 xi
    refine bodyPost_ret (v := .agg #[.int .i64 s1, .int .i64 s2]) (by simp [results, Tryd.results9, go_sem, p0, p1]) rfl ⟨rfl, ?_⟩
    exact X4.out.trans (ui.below (by omega))
  | true =>
    have hT : s1 = t1 ∧ max s2 j = t2 := by
      obtain ⟨b, h1, h2, h3, h4, h5, h6⟩ := HO.out.yes
      have := HT.out
      rw [learn_some h1, h4] at this
      exact ⟨congrArg Prod.fst this, congrArg Prod.snd this⟩
    obtain ⟨rfl, rfl⟩ := hT
    go_wp2_with fail
    obtain ⟨xi, ui⟩ := rset2 (C2.out.set_other ⟨w.heap.size, 1, none⟩ (.int .i64 (max s2 j)) (show w.heap.size + 1 + 1 ≠ w.heap.size by omega)) (.int .i64 s1) (.int .i64 (max s2 j))
    obtain ⟨p0, p1⟩ := cells2 xi
    refine bodyPost_ret (v := .agg #[.int .i64 s1, .int .i64 (max s2 j)]) (by simp [results, Tryd.results9, go_sem, p0, p1]) rfl ⟨rfl, ?_⟩
    exact X4.out.trans (((Upd.set _ _ _ _).below (Nat.le_refl _)).trans (ui.below (by omega)))
set_option maxRecDepth 100000 in
set_option maxHeartbeats 4000000 in
theorem commit_any {g : Nat} {F : Fo} {w : World} (hC : CodeF g F w) (cv : Int) (ch : ByteArray) (ca : Option Addr) (cn cc : Nat) (hs : ch.size ≤ 1000000) (h : ByteArray) (m : Bool) (ht : commitF F cv ch = (h, m)) :
    Calls Tryd.prog 7 #[.pointer (some ⟨g, 0, none⟩), .agg #[.int .i64 cv, .string ch, .slice ca cn cc]] w fun e w' => e = .returned (.tuple #[.string h, .bool m]) ∧ Below w.heap.size w w' := by
  have HC := Lib.hid hC
  have HS := Lib.hid hs
  have HT := Lib.hid ht
  have X1 := Lib.hid ((Below.refl w.heap.size w).alloc (Nat.le_refl _) (.cells #[.int .i64 cv, .string ch, .slice ca cn cc] 36))
  clear hC hs ht
  go_enter Tryd.func7, Tryd.ntmps7
  go_wp2_with fail
  refine (certified_any (HC.out.on X1.out) cv ch ca cn cc HS.out).mono ?_
  rintro e w2 ⟨v, p, j, k, a0, n0, c0, a1, n1, c1, bb, rfl, ho, hb2⟩
  have HO := Lib.hid ho
  have X2 := Lib.hid ((X1.out.trans (hb2.mono X1.out.size)).alloc (Nat.le_trans X1.out.size hb2.size) (.cells #[.int .i64 v, .int .i64 p, .int .i64 j, .string k, .slice a0 n0 c0, .slice a1 n1 c1] 39))
  have C2 := Lib.hid (show Blk (w2.alloc (.cells #[.int .i64 v, .int .i64 p, .int .i64 j, .string k, .slice a0 n0 c0, .slice a1 n1 c1] 39)) w2.heap.size 6 (rowL [.int .i64 v, .int .i64 p, .int .i64 j, .string k, .slice a0 n0 c0, .slice a1 n1 c1]) from Blk.new' rfl (row6_ _ _ _ _ _ _))
  clear ho hb2
  obtain ⟨g0, g1, g2, g3, g4, g5⟩ := cells6 C2.out
  cases bb with
  | false =>
    obtain ⟨rfl, rfl⟩ : (⟨#[]⟩ : ByteArray) = h ∧ false = m := by
      have := HT.out
      rw [com_no1 HO.out.no.1] at this
      exact ⟨congrArg Prod.fst this, congrArg Prod.snd this⟩
    go_wp2_with fail
    go_ret2
    exact ⟨rfl, X2.out⟩
  | true =>
    obtain ⟨b, hb⟩ : ∃ b, certF F cv ch = some b ∧ viewI b = v ∧ parI b = k ∧ k.size ≤ 1000000 := by
      obtain ⟨b, h1, h2, h3, h4, h5, h6⟩ := HO.out.yes
      exact ⟨b, h1, h2, h5, by have := HO.out.k1000; omega⟩
    have HB := Lib.hid hb
    clear hb
    go_wp2_with fail
    refine (ahead_any (HC.out.on X2.out) b v p j k a0 n0 c0 a1 n1 c1 HB.out.2.2.2 HB.out.2.1 HB.out.2.2.1).mono ?_
    rintro e w3 ⟨v', p', j', k', a0', n0', c0', a1', n1', c1', bb', rfl, ho', hb3⟩
    have HO' := Lib.hid ho'
    have X3 := Lib.hid ((X2.out.trans (hb3.mono X2.out.size)).alloc (Nat.le_trans X2.out.size hb3.size) (.cells #[.int .i64 v', .int .i64 p', .int .i64 j', .string k', .slice a0' n0' c0', .slice a1' n1' c1'] 39))
    have C3 := Lib.hid (show Blk (w3.alloc (.cells #[.int .i64 v', .int .i64 p', .int .i64 j', .string k', .slice a0' n0' c0', .slice a1' n1' c1'] 39)) w3.heap.size 6 (rowL [.int .i64 v', .int .i64 p', .int .i64 j', .string k', .slice a0' n0' c0', .slice a1' n1' c1']) from Blk.new' rfl (row6_ _ _ _ _ _ _))
    clear ho' hb3 g0 g1 g2 g3 g4 g5
    obtain ⟨g0, g1, g2, g3, g4, g5⟩ := cells6 C3.out
    cases bb' with
    | false =>
      obtain ⟨rfl, rfl⟩ : (⟨#[]⟩ : ByteArray) = h ∧ false = m := by
        have := HT.out
        rw [com_no2 HB.out.1 HO'.out.no.1] at this
        exact ⟨congrArg Prod.fst this, congrArg Prod.snd this⟩
      go_wp2_with fail
      go_ret2
      exact ⟨rfl, X3.out⟩
    | true =>
      obtain ⟨b', hb'⟩ : ∃ b', aheadF F b = some b' ∧ viewI b' = v' ∧ parI b' = k' ∧ k'.size ≤ 1000000 := by
        obtain ⟨b', h1, h2, h3, h4, h5, h6⟩ := HO'.out.yes
        exact ⟨b', h1, h2, h5, by have := HO'.out.k1000; omega⟩
      have HB' := Lib.hid hb'
      clear hb'
      go_wp2_with fail
      refine (ahead_any (HC.out.on X3.out) b' v' p' j' k' a0' n0' c0' a1' n1' c1' HB'.out.2.2.2 HB'.out.2.1 HB'.out.2.2.1).mono ?_
      rintro e w4 ⟨v'', p'', j'', k'', a0'', n0'', c0'', a1'', n1'', c1'', bb'', rfl, ho'', hb4⟩
      have HO'' := Lib.hid ho''
      have X4 := Lib.hid ((X3.out.trans (hb4.mono X3.out.size)).alloc (Nat.le_trans X3.out.size hb4.size) (.cells #[.int .i64 v'', .int .i64 p'', .int .i64 j'', .string k'', .slice a0'' n0'' c0'', .slice a1'' n1'' c1''] 39))
      have C4 := Lib.hid ((C3.out.below hb4 C3.out.lt).alloc (.cells #[.int .i64 v'', .int .i64 p'', .int .i64 j'', .string k'', .slice a0'' n0'' c0'', .slice a1'' n1'' c1''] 39))
      clear ho'' hb4 g0 g1 g2 g3 g4 g5
      obtain ⟨g0, g1, g2, g3, g4, g5⟩ := cells6 C4.out
      cases bb'' with
      | false =>
        obtain ⟨rfl, rfl⟩ : (⟨#[]⟩ : ByteArray) = h ∧ false = m := by
          have := HT.out
          rw [com_no3 HB.out.1 HB'.out.1 HO''.out.no.1] at this
          exact ⟨congrArg Prod.fst this, congrArg Prod.snd this⟩
        go_wp2_with fail
        go_ret2
        exact ⟨rfl, X4.out⟩
      | true =>
        obtain ⟨rfl, rfl⟩ : k' = h ∧ true = m := by
          obtain ⟨b'', h1, _⟩ := HO''.out.yes
          have := HT.out
          rw [com_yes HB.out.1 HB'.out.1 h1, HB'.out.2.2.1] at this
          exact ⟨congrArg Prod.fst this, congrArg Prod.snd this⟩
        go_wp2_with fail
        refine (parent_any v' p' j' k' a0' a1' n0' c0' n1' c1' _).mono ?_
        rintro e w5 ⟨rfl, hb5⟩
        have X5 := Lib.hid (X4.out.trans (hb5.mono X4.out.size))
        clear hb5 g0 g1 g2 g3 g4 g5
        go_wp2_with fail
        go_ret2
        exact ⟨rfl, X5.out⟩
end Go.Proofs.YtlpnggdghmccjaaDoor
end
section
open Go Go.RowKit
namespace RR
open FF JJ CC WW BB MM
theorem rlearn_yes {F : Fo} {s1 s2 v : Int} {h : ByteArray} {b : BlockD} (h1 : findF F h = some b) (h2 : viewI b = v) (h3 : s2 < jvI b) : learnS F (s1, s2) v h = (s1, jvI b) := by
  rw [learn_some (cert_yes h1 h2), show max s2 (jvI b) = jvI b by omega]
theorem rlearn_no {F : Fo} {s1 s2 v : Int} {h : ByteArray} (h1 : findF F h = none ∨ ∃ b, findF F h = some b ∧ (viewI b ≠ v ∨ jvI b ≤ s2)) : learnS F (s1, s2) v h = (s1, s2) := by
  rcases h1 with h1 | ⟨b, h1, h2⟩
  · exact learn_none (cert_no (Or.inl h1))
  · by_cases hv : viewI b = v
    · rw [learn_some (cert_yes h1 hv), show max s2 (jvI b) = s2 by omega]
    · exact learn_none (cert_no (Or.inr ⟨b, h1, hv⟩))
end RR
namespace Go.Proofs.YtlpnggdghmccjaaDoor
open RR FF JJ CC MM WW BB
set_option maxRecDepth 100000 in
set_option maxHeartbeats 4000000 in
theorem find_any (F : Fo) (hF : WF F) (hsm : ∀ x ∈ F.nodes, SmallI x.2) (d : ByteArray) (nv ov : Value) (w : World) (hv : FoAt w F nv ov) :
    Calls Tryd.prog 22 #[.agg #[.string F.root, .int .i64 F.height, nv, ov], .string d] w (BAns w (findF F d)) := by
  obtain ⟨N, O, hN, hO, hn, ho⟩ := hv
  have HF := Lib.hid hF
  have HSM := Lib.hid hsm
  have HN := Lib.hid hN
  have HIN := Lib.hid hn
  have HL := Lib.hid (show N.length ≤ 1000 by have := hF.n400; rw [← hN, List.length_map] at this; omega)
  obtain ⟨na, nc, rfl⟩ := iv_shape hn
  obtain ⟨oa, oc, rfl⟩ := iv_shape ho
  obtain ⟨X, hX⟩ : ∃ X, atI F.nodes d = X := ⟨_, rfl⟩
  have HX := Lib.hid hX
  have X2 := Lib.hid (((Below.refl w.heap.size w).alloc (Nat.le_refl _) (.cells #[.string F.root, .int .i64 F.height, .slice na N.length nc, .slice oa O.length oc] 30)).alloc (by simp) (.cells #[.int .i64 0, .int .i64 0, .int .i64 0, .string ⟨#[]⟩, .slice none 0 0, .slice none 0 0] 39))
  have R1 := Lib.hid (show Blk ((w.alloc (.cells #[.string F.root, .int .i64 F.height, .slice na N.length nc, .slice oa O.length oc] 30)).alloc (.cells #[.int .i64 0, .int .i64 0, .int .i64 0, .string ⟨#[]⟩, .slice none 0 0, .slice none 0 0] 39)) (w.heap.size + 1) 6 (rowL [.int .i64 0, .int .i64 0, .int .i64 0, .string ⟨#[]⟩, .slice none 0 0, .slice none 0 0]) from Blk.new' (by simp) (row6_ _ _ _ _ _ _))
  have R0 := Lib.hid (show Blk ((w.alloc (.cells #[.string F.root, .int .i64 F.height, .slice na N.length nc, .slice oa O.length oc] 30)).alloc (.cells #[.int .i64 0, .int .i64 0, .int .i64 0, .string ⟨#[]⟩, .slice none 0 0, .slice none 0 0] 39)) w.heap.size 4 (rowL [.string F.root, .int .i64 F.height, .slice na N.length nc, .slice oa O.length oc]) from (Blk.new' rfl (row4_ _ _ _ _)).alloc _)
  clear hN hO hn ho hX hF hsm
  go_enter Tryd.func22, Tryd.ntmps22
  go_wp2_with fail
  refine (fat_is N F.nodes _ d X HN.out HX.out _ (HIN.out.later X2.out) HL.out).mono ?_
  rintro e w2 ⟨rfl, rfl⟩
  obtain ⟨q0, q1, q2, q3⟩ := cells4 R0.out
  obtain ⟨e0, e1, e2, e3, e4, e5⟩ := cells6 R1.out
  have f0 := R1.out.frz 0
  have f1 := R1.out.frz 1
  have f2 := R1.out.frz 2
  have f3 := R1.out.frz 3
  have f4 := R1.out.frz 4
  have f5 := R1.out.frz 5
  by_cases hx : 0 ≤ X
  · obtain ⟨i, rfl⟩ := Int.eq_ofNat_of_zero_le hx
    have hi : i < N.length := by
      have := (at_bound F.nodes d).2
      rw [HX.out, ← HN.out, List.length_map] at this
      omega
    have HI := Lib.hid hi
    have HNE := Lib.hid (show d ≠ F.root from fun e => by
      obtain ⟨x, hxm, hxe⟩ := (at_mem F.nodes d).1 (by rw [HX.out]; omega)
      exact HF.out.ne x (List.mem_append_left _ hxm) (hxe.trans e))
    have t1 := ba_beq HNE.out
    have t0 : ¬ (i : Int) < 0 := by omega
    have hi' : (i : Int) < (N.length : Int) := by omega
    obtain ⟨b, off, rfl, hbw, hcell⟩ : ∃ b off, na = some ⟨b, off, none⟩ ∧ b < w.heap.size ∧ _ := by
      obtain ⟨a0, cap, he, h⟩ := HIN.out
      injection he with he1 _ _
      subst he1
      rcases h with h | h
      · subst h; simp at hi
      · exact h
    obtain ⟨x, hxx⟩ : ∃ x, N.getD i v0 = x := ⟨_, rfl⟩
    have HXX := Lib.hid hxx
    obtain ⟨k0, k1, k2, k3, k4, k5, k6⟩ := iv_cells X2.out hbw hcell i hi
    have hin := (hcell i hi).2
    rw [hxx] at k0 k1 k2 k3 k4 k5 k6 hin
    obtain ⟨⟨xd, xb⟩, s4, s5⟩ := x
    obtain ⟨a4, c4, h4⟩ := sl_of_sigs hin.1
    obtain ⟨a5, c5, h5⟩ := sl_of_reqs hin.2
    replace h4 : s4 = .slice a4 (sigsI xb).length c4 := h4
    replace h5 : s5 = .slice a5 xb.2.length c5 := h5
    subst h4 h5
    obtain ⟨v, hv⟩ : ∃ v, viewI xb = v := ⟨_, rfl⟩
    obtain ⟨p, hp⟩ : ∃ p, propI xb = p := ⟨_, rfl⟩
    obtain ⟨j, hj⟩ : ∃ j, jvI xb = j := ⟨_, rfl⟩
    obtain ⟨k, hk⟩ : ∃ k, parI xb = k := ⟨_, rfl⟩
    obtain ⟨n4, hn4⟩ : ∃ n, (sigsI xb).length = n := ⟨_, rfl⟩
    obtain ⟨n5, hn5⟩ : ∃ n, xb.2.length = n := ⟨_, rfl⟩
    replace k1 : _ = some (Value.int .i64 v) := hv ▸ k1
    replace k2 : _ = some (Value.int .i64 p) := hp ▸ k2
    replace k3 : _ = some (Value.int .i64 j) := hj ▸ k3
    replace k4 : _ = some (Value.string k) := hk ▸ k4
    replace k5 : _ = some (Value.slice a4 n4 c4) := hn4 ▸ k5
    replace k6 : _ = some (Value.slice a5 n5 c5) := hn5 ▸ k6
    have HO := Lib.hid (show IsO (findF F d) v p j k true from Or.inl ⟨rfl, xb, by
      unfold findF
      rw [if_pos (by rw [HX.out]; omega), HX.out, Int.toNat_natCast, ← HN.out, map_getD N i HI.out, HXX.out], hv, hp, hj, hk, by
      have hm : (xd, xb) ∈ F.nodes := by
        rw [← HN.out]
        refine List.mem_map.2 ⟨N.getD i v0, ?_, by rw [HXX.out]⟩
        rw [List.getD_eq_getElem?_getD, List.getElem?_eq_getElem HI.out]
        exact List.getElem_mem HI.out
      exact HSM.out _ hm⟩)
    clear hv hp hj hk hn4 hn5 hin hcell hbw hxx hi hx
    go_wp2_with fail
    refine bodyPost_ret (v := .tuple #[.agg #[.int .i64 v, .int .i64 p, .int .i64 j, .string k, .slice a4 n4 c4, .slice a5 n5 c5], .bool true]) (by simp [results, Tryd.results22, go_sem]) rfl ?_
    exact ⟨v, p, j, k, a4, n4, c4, a5, n5, c5, true, rfl, HO.out, ((Below.refl w.heap.size w).alloc (Nat.le_refl _) _).alloc (by simp) _⟩
  · have t0 : X < 0 := by omega
    have HO := Lib.hid (show findF F d = none by unfold findF; rw [if_neg (by rw [HX.out]; exact hx)])
    clear hx
    go_wp2_with fail
    refine bodyPost_ret (v := .tuple #[.agg #[.int .i64 0, .int .i64 0, .int .i64 0, .string ⟨#[]⟩, .slice none 0 0, .slice none 0 0], .bool false]) (by simp [results, Tryd.results22, go_sem]) rfl ?_
    exact ⟨0, 0, 0, ⟨#[]⟩, none, 0, 0, none, 0, 0, false, rfl, IsO.zero _ HO.out, ((Below.refl w.heap.size w).alloc (Nat.le_refl _) _).alloc (by simp) _⟩
end Go.Proofs.YtlpnggdghmccjaaDoor
end
