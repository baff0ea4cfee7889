/-
  Cuts whose things hold memory of their own: what a cell holds is told by a relation; cuts in order, lists of what is true of them. No program is named here.
-/
import Derived.Test.YtacnbpmoceocbaaKHeld
import Derived.Test.YtacnbpmoceocbaaKWOne
import Derived.Test.YtacnbpmoceocbaaKWNum
import Derived.OrdersHeld
import Derived.Deep.CutRange
import Derived.Deep.QuietTactic
import Derived.BigQuiet
import Derived.Deep.RegionHeld3
import Derived.Test.YtacnbpmoceocbaaKWReqCut
section
open Go Go.RowKit
namespace WW
open BB
/-- a block's cells -/
abbrev bc (v p cv : Int) (k : ByteArray) (sv rv : Value) : List Value := [.int .i64 v, .int .i64 p, .int .i64 cv, .string k, sv, rv]
theorem fewsig_flat (ts : List ByteArray) (h : fewSig ts = true) : (flat ts).length ≤ 300 ∧ ts.length ≤ 10 := by
  unfold fewSig at h
  simp only [Bool.and_eq_true, decide_eq_true_eq, List.all_eq_true] at h
  obtain ⟨h1, h2⟩ := h
  rw [List.take_of_length_le (by omega)] at h1
  refine ⟨?_, h2⟩
  have : ∀ (l : List ByteArray), (∀ x ∈ l, x.size ≤ 30) → (flat l).length ≤ 30 * l.length := by
    intro l
    induction l with
    | nil => intro _; simp [flat]
    | cons x l ih =>
      intro hx
      have h1 := hx x (List.mem_cons_self ..)
      have h2 := ih fun y hy => hx y (List.mem_cons_of_mem _ hy)
      have h3 := ba_list x
      have : flat (x :: l) = x.data.toList ++ flat l := rfl
      rw [this, List.length_append, List.length_cons]; omega
  have := this ts h1
  omega
theorem flat_le (c : Nat) (l : List ByteArray) (h : ∀ x ∈ l, x.size ≤ c) : (flat l).length ≤ c * l.length := by
  induction l with
  | nil => simp [flat]
  | cons x l ih =>
    have h1 := h x (List.mem_cons_self ..)
    have h2 := ih fun y hy => h y (List.mem_cons_of_mem _ hy)
    have h3 := ba_list x
    have : flat (x :: l) = x.data.toList ++ flat l := rfl
    rw [this, List.length_append, List.length_cons, Nat.mul_add]; omega
theorem few_smallS {k : ByteArray} {l : List (Int × List ByteArray)} (h : fewCert k l = true) : SmallS l ∧ k.size ≤ 50 ∧ l.length ≤ 10 := by
  unfold fewCert at h
  simp only [Bool.and_eq_true, decide_eq_true_eq, List.all_eq_true] at h
  obtain ⟨h1, h2, h3⟩ := h
  rw [List.take_of_length_le (by omega)] at h1
  refine ⟨⟨by omega, ?_, ?_⟩, h3, h2⟩
  · have := flat_le 308 (sigsB l) (fun x hx => by
      unfold sigsB at hx
      obtain ⟨p, hp, rfl⟩ := List.mem_map.1 hx
      have h4 := fewsig_flat p.2 (h1 p hp)
      show (num p.1 ++ listB p.2).size ≤ 308
      rw [ByteArray.size_append, flat_size]
      have : (num p.1).size = 4 := by unfold num; split <;> rfl
      omega)
    have e : (sigsB l).length = l.length := by unfold sigsB; rw [List.length_map]
    omega
  · intro i hi
    have := fewsig_flat _ (h1 _ (show l.getD i (0, []) ∈ l by rw [List.getD_eq_getElem?_getD, List.getElem?_eq_getElem hi]; exact List.getElem_mem hi))
    omega
theorem few_block {k : ByteArray} {l : List (Int × List ByteArray)} {m : List (Int × Int × ByteArray)} (h : fewBlock k l m = true) : SmallS l ∧ SmallR m ∧ k.size ≤ 50 ∧ l.length ≤ 10 ∧ m.length ≤ 6 := by
  unfold fewBlock at h
  rw [Bool.and_eq_true, Bool.and_eq_true] at h
  obtain ⟨h1, h2, h3⟩ := h
  simp only [decide_eq_true_eq, List.all_eq_true] at h1 h2
  rw [List.take_of_length_le (by omega)] at h1
  obtain ⟨h4, h5, h6⟩ := few_smallS h3
  refine ⟨h4, ⟨by omega, ?_, ?_⟩, h5, h6, h2⟩
  · have := flat_le 72 (reqsB m) (fun x hx => by
      unfold reqsB at hx
      obtain ⟨p, hp, rfl⟩ := List.mem_map.1 hx
      have h4 := h1 p hp
      rw [reqB_size]; omega)
    have e : (reqsB m).length = m.length := by unfold reqsB; rw [List.length_map]
    omega
  · intro i hi
    have := h1 _ (show m.getD i (0, 0, ⟨#[]⟩) ∈ m by rw [List.getD_eq_getElem?_getD, List.getElem?_eq_getElem hi]; exact List.getElem_mem hi)
    omega
theorem bs_beq (a b : ByteArray) : (a.toList == b.toList) = decide (a = b) := by
  rw [Bool.eq_iff_iff, beq_iff_eq, decide_eq_true_eq, ByteArray.toList_eq, ByteArray.toList_eq]
  exact ⟨fun h => ba_ext h, fun h => by rw [h]⟩
theorem take_snoc_iff {α : Type} (m m' : List α) (d : α) (i : Nat) (h : i < m.length) (h' : i < m'.length) : m.take (i + 1) = m'.take (i + 1) ↔ m.take i = m'.take i ∧ m.getD i d = m'.getD i d := by
  rw [List.take_succ_eq_append_getElem h, List.take_succ_eq_append_getElem h', List.getD_eq_getElem?_getD, List.getD_eq_getElem?_getD, List.getElem?_eq_getElem h, List.getElem?_eq_getElem h']
  constructor
  · intro e
    have := List.append_inj e (by simp; omega)
    exact ⟨this.1, by simpa using this.2⟩
  · rintro ⟨e1, e2⟩
    have e3 : m[i] = m'[i] := by simpa using e2
    rw [e1, e3]
/-- the heads are the same -/
def headEq (v p cv v' p' cv' : Int) (k k' : ByteArray) (n n' h h' : Nat) : Bool := decide (v = v' ∧ p = p' ∧ cv = cv' ∧ k = k' ∧ n = n' ∧ h = h')
/-- two blocks in boxes -/
structure Two2 (w : World) (g : Nat) (A B : List Value) (wr : World) : Prop where
  a : BoxAt w g A wr
  b : BoxAt w (g + 1) B wr
theorem Two2.on {w w1 w2 : World} {g : Nat} {A B : List Value} (h : Two2 w g A B w1) (hb : Below w1.heap.size w1 w2) : Two2 w g A B w2 := ⟨h.a.on hb, h.b.on hb⟩
theorem cells12 {w wr : World} {g : Nat} {a0 a1 a2 a3 a4 a5 b0 b1 b2 b3 b4 b5 : Value} (h : Two2 w g [a0, a1, a2, a3, a4, a5] [b0, b1, b2, b3, b4, b5] wr) :
    wr.cell? ⟨g, 0, none⟩ = some a0 ∧ wr.cell? ⟨g, 1, none⟩ = some a1 ∧ wr.cell? ⟨g, 2, none⟩ = some a2 ∧ wr.cell? ⟨g, 3, none⟩ = some a3 ∧ wr.cell? ⟨g, 4, none⟩ = some a4 ∧ wr.cell? ⟨g, 5, none⟩ = some a5 ∧
    wr.cell? ⟨g + 1, 0, none⟩ = some b0 ∧ wr.cell? ⟨g + 1, 1, none⟩ = some b1 ∧ wr.cell? ⟨g + 1, 2, none⟩ = some b2 ∧ wr.cell? ⟨g + 1, 3, none⟩ = some b3 ∧ wr.cell? ⟨g + 1, 4, none⟩ = some b4 ∧ wr.cell? ⟨g + 1, 5, none⟩ = some b5 ∧ Two2 w g [a0, a1, a2, a3, a4, a5] [b0, b1, b2, b3, b4, b5] wr :=
  ⟨h.a.cell 0 _ rfl, h.a.cell 1 _ rfl, h.a.cell 2 _ rfl, h.a.cell 3 _ rfl, h.a.cell 4 _ rfl, h.a.cell 5 _ rfl, h.b.cell 0 _ rfl, h.b.cell 1 _ rfl, h.b.cell 2 _ rfl, h.b.cell 3 _ rfl, h.b.cell 4 _ rfl, h.b.cell 5 _ rfl, h⟩
theorem two2_mk (w : World) (A B : List Value) (t : TypeId) : Two2 w w.heap.size A B ((w.alloc (.cells A.toArray t)).alloc (.cells B.toArray t)) := by
  have h1 := box_mk w A t
  have h2 := box_mk (w.alloc (.cells A.toArray t)) B t
  have e : (w.alloc (.cells A.toArray t)).heap.size = w.heap.size + 1 := by simp
  rw [e] at h2
  exact ⟨h1.on ((Below.refl _ _).alloc (Nat.le_refl _) _), ⟨h1.below.trans (h2.below.mono (by omega)), h2.lt, h2.cell⟩⟩
end WW
namespace Go.Proofs.Ytacnbpmoceocbaa
open WW BB
set_option maxRecDepth 100000 in
set_option maxHeartbeats 4000000 in
theorem apart_not (v p cv v' p' cv' : Int) (k k' : ByteArray) (sv rv sv' rv' : Value) (l l' : List (Int × List ByteArray)) (m m' : List (Int × Int × ByteArray)) (w : World)
    (hv : SigsAt w sv l) (hr : ReqsAt w rv m) (hv' : SigsAt w sv' l') (hr' : ReqsAt w rv' m') (hn : MemS l) (hn' : MemS l') (hk : k.size ≤ 9223372036854775807) (hk' : k'.size ≤ 9223372036854775807) (hm : m.length ≤ 9223372036854775807) (hm' : m'.length ≤ 9223372036854775807)
    (hno : fewBlock k l m = false ∨ fewBlock k l m = true ∧ (fewBlock k' l' m' = false ∨ fewBlock k' l' m' = true ∧ (rightBlock v p cv k l m = false ∨ rightBlock v p cv k l m = true ∧ rightBlock v' p' cv' k' l' m' = false))) :
    Calls Try.prog 4 #[.agg #[.int .i64 v, .int .i64 p, .int .i64 cv, .string k, sv, rv], .agg #[.int .i64 v', .int .i64 p', .int .i64 cv', .string k', sv', rv']] w fun e w' => e = .returned (.bool true) ∧ Below w.heap.size w w' := by
  have HF := Lib.hid (fun wx (hb : Below w.heap.size w wx) => fewblock_any v p cv k sv rv l m wx (hv.later hb) (hr.later hb) hn hk hm)
  have HF' := Lib.hid (fun wx (hb : Below w.heap.size w wx) => fewblock_any v' p' cv' k' sv' rv' l' m' wx (hv'.later hb) (hr'.later hb) hn' hk' hm')
  have HR := Lib.hid (fun wx (hb : Below w.heap.size w wx) => rightblock_any v p cv k sv rv l m wx (hv.later hb) (hr.later hb) hn)
  have HR' := Lib.hid (fun wx (hb : Below w.heap.size w wx) => rightblock_any v' p' cv' k' sv' rv' l' m' wx (hv'.later hb) (hr'.later hb) hn')
  obtain ⟨a0, cap, rfl, _⟩ := hv
  obtain ⟨a1, cap1, rfl, _⟩ := hr
  obtain ⟨a2, cap2, rfl, _⟩ := hv'
  obtain ⟨a3, cap3, rfl, _⟩ := hr'
  have HNO := Lib.hid hno
  clear hn hn' hk hk' hm hm' hno
  go_enter Try.func4, Try.ntmps4
  go_wp2_with fail
  have K0 := Lib.hid (two2_mk w (bc v p cv k (.slice a0 l.length cap) (.slice a1 m.length cap1)) (bc v' p' cv' k' (.slice a2 l'.length cap2) (.slice a3 m'.length cap3)) 31)
  obtain ⟨W, hW⟩ : ∃ W, W = (w.alloc (.cells #[.int .i64 v, .int .i64 p, .int .i64 cv, .string k, .slice a0 l.length cap, .slice a1 m.length cap1] 31)).alloc (.cells #[.int .i64 v', .int .i64 p', .int .i64 cv', .string k', .slice a2 l'.length cap2, .slice a3 m'.length cap3] 31) := ⟨_, rfl⟩
  have K0 := Lib.hid (show Two2 w w.heap.size (bc v p cv k (.slice a0 l.length cap) (.slice a1 m.length cap1)) (bc v' p' cv' k' (.slice a2 l'.length cap2) (.slice a3 m'.length cap3)) W by rw [hW]; exact K0.out)
  rw [← hW]
  clear hW
  obtain ⟨g, hg⟩ : ∃ g, w.heap.size = g := ⟨_, rfl⟩
  have HG := Lib.hid hg
  rw [hg] at K0 ⊢
  clear hg
  refine (awake2_any _).mono ?_
  rintro e w1 ⟨rfl, hb1⟩
  have K1 := Lib.hid (K0.out.on hb1)
  clear hb1 K0
  rcases HNO.out with h1 | ⟨h1, h2 | ⟨h2, h3 | ⟨h3, h4⟩⟩⟩
  · have HF := HF.out
    simp only [h1] at HF
    have HF := Lib.hid HF
    clear h1
    have c0 := K1.out.a.cell 0 _ rfl
    have c1 := K1.out.a.cell 1 _ rfl
    have c2 := K1.out.a.cell 2 _ rfl
    have c3 := K1.out.a.cell 3 _ rfl
    have c4 := K1.out.a.cell 4 _ rfl
    have c5 := K1.out.a.cell 5 _ rfl
    go_wp2_with fail
    clear c0 c1 c2 c3 c4 c5
    refine (HF.out _ K1.out.a.below).mono ?_
    rintro e w2 ⟨rfl, hb2⟩
    have K1 := Lib.hid (K1.out.on hb2)
    clear hb2
    go_wp2_with fail
    refine (awake2_any _).mono ?_
    rintro e w2 ⟨rfl, hb2⟩
    have K1 := Lib.hid (K1.out.on hb2)
    clear hb2
    go_wp2_with fail
    go_ret
    exact ⟨rfl, by rw [HG.out]; exact HG.out ▸ K1.out.a.below⟩
  · have HF := HF.out
    have HF' := HF'.out
    simp only [h1] at HF
    simp only [h2] at HF'
    have HF := Lib.hid HF
    have HF' := Lib.hid HF'
    clear h1 h2
    have c0 := K1.out.a.cell 0 _ rfl
    have c1 := K1.out.a.cell 1 _ rfl
    have c2 := K1.out.a.cell 2 _ rfl
    have c3 := K1.out.a.cell 3 _ rfl
    have c4 := K1.out.a.cell 4 _ rfl
    have c5 := K1.out.a.cell 5 _ rfl
    go_wp2_with fail
    clear c0 c1 c2 c3 c4 c5
    refine (HF.out _ K1.out.a.below).mono ?_
    rintro e w2 ⟨rfl, hb2⟩
    have K1 := Lib.hid (K1.out.on hb2)
    clear hb2
    have c0 := K1.out.b.cell 0 _ rfl
    have c1 := K1.out.b.cell 1 _ rfl
    have c2 := K1.out.b.cell 2 _ rfl
    have c3 := K1.out.b.cell 3 _ rfl
    have c4 := K1.out.b.cell 4 _ rfl
    have c5 := K1.out.b.cell 5 _ rfl
    go_wp2_with fail
    clear c0 c1 c2 c3 c4 c5
    refine (HF'.out _ K1.out.a.below).mono ?_
    rintro e w2 ⟨rfl, hb2⟩
    have K1 := Lib.hid (K1.out.on hb2)
    clear hb2
    go_wp2_with fail
    refine (awake2_any _).mono ?_
    rintro e w2 ⟨rfl, hb2⟩
    have K1 := Lib.hid (K1.out.on hb2)
    clear hb2
    go_wp2_with fail
    go_ret
    exact ⟨rfl, by rw [HG.out]; exact HG.out ▸ K1.out.a.below⟩
  · have HF := HF.out
    have HF' := HF'.out
    have HR := HR.out
    simp only [h1] at HF
    simp only [h2] at HF'
    simp only [h3] at HR
    have HF := Lib.hid HF
    have HF' := Lib.hid HF'
    have HR := Lib.hid HR
    clear h1 h2 h3
    have c0 := K1.out.a.cell 0 _ rfl
    have c1 := K1.out.a.cell 1 _ rfl
    have c2 := K1.out.a.cell 2 _ rfl
    have c3 := K1.out.a.cell 3 _ rfl
    have c4 := K1.out.a.cell 4 _ rfl
    have c5 := K1.out.a.cell 5 _ rfl
    go_wp2_with fail
    clear c0 c1 c2 c3 c4 c5
    refine (HF.out _ K1.out.a.below).mono ?_
    rintro e w2 ⟨rfl, hb2⟩
    have K1 := Lib.hid (K1.out.on hb2)
    clear hb2
    have c0 := K1.out.b.cell 0 _ rfl
    have c1 := K1.out.b.cell 1 _ rfl
    have c2 := K1.out.b.cell 2 _ rfl
    have c3 := K1.out.b.cell 3 _ rfl
    have c4 := K1.out.b.cell 4 _ rfl
    have c5 := K1.out.b.cell 5 _ rfl
    go_wp2_with fail
    clear c0 c1 c2 c3 c4 c5
    refine (HF'.out _ K1.out.a.below).mono ?_
    rintro e w2 ⟨rfl, hb2⟩
    have K1 := Lib.hid (K1.out.on hb2)
    clear hb2
    have c0 := K1.out.a.cell 0 _ rfl
    have c1 := K1.out.a.cell 1 _ rfl
    have c2 := K1.out.a.cell 2 _ rfl
    have c3 := K1.out.a.cell 3 _ rfl
    have c4 := K1.out.a.cell 4 _ rfl
    have c5 := K1.out.a.cell 5 _ rfl
    go_wp2_with fail
    clear c0 c1 c2 c3 c4 c5
    refine (HR.out _ K1.out.a.below).mono ?_
    rintro e w2 ⟨rfl, hb2⟩
    have K1 := Lib.hid (K1.out.on hb2)
    clear hb2
    go_wp2_with fail
    refine (awake2_any _).mono ?_
    rintro e w2 ⟨rfl, hb2⟩
    have K1 := Lib.hid (K1.out.on hb2)
    clear hb2
    go_wp2_with fail
    go_ret
    exact ⟨rfl, by rw [HG.out]; exact HG.out ▸ K1.out.a.below⟩
  · have HF := HF.out
    have HF' := HF'.out
    have HR := HR.out
    have HR' := HR'.out
    simp only [h1] at HF
    simp only [h2] at HF'
    simp only [h3] at HR
    simp only [h4] at HR'
    have HF := Lib.hid HF
    have HF' := Lib.hid HF'
    have HR := Lib.hid HR
    have HR' := Lib.hid HR'
    clear h1 h2 h3 h4
    have c0 := K1.out.a.cell 0 _ rfl
    have c1 := K1.out.a.cell 1 _ rfl
    have c2 := K1.out.a.cell 2 _ rfl
    have c3 := K1.out.a.cell 3 _ rfl
    have c4 := K1.out.a.cell 4 _ rfl
    have c5 := K1.out.a.cell 5 _ rfl
    go_wp2_with fail
    clear c0 c1 c2 c3 c4 c5
    refine (HF.out _ K1.out.a.below).mono ?_
    rintro e w2 ⟨rfl, hb2⟩
    have K1 := Lib.hid (K1.out.on hb2)
    clear hb2
    have c0 := K1.out.b.cell 0 _ rfl
    have c1 := K1.out.b.cell 1 _ rfl
    have c2 := K1.out.b.cell 2 _ rfl
    have c3 := K1.out.b.cell 3 _ rfl
    have c4 := K1.out.b.cell 4 _ rfl
    have c5 := K1.out.b.cell 5 _ rfl
    go_wp2_with fail
    clear c0 c1 c2 c3 c4 c5
    refine (HF'.out _ K1.out.a.below).mono ?_
    rintro e w2 ⟨rfl, hb2⟩
    have K1 := Lib.hid (K1.out.on hb2)
    clear hb2
    have c0 := K1.out.a.cell 0 _ rfl
    have c1 := K1.out.a.cell 1 _ rfl
    have c2 := K1.out.a.cell 2 _ rfl
    have c3 := K1.out.a.cell 3 _ rfl
    have c4 := K1.out.a.cell 4 _ rfl
    have c5 := K1.out.a.cell 5 _ rfl
    go_wp2_with fail
    clear c0 c1 c2 c3 c4 c5
    refine (HR.out _ K1.out.a.below).mono ?_
    rintro e w2 ⟨rfl, hb2⟩
    have K1 := Lib.hid (K1.out.on hb2)
    clear hb2
    have c0 := K1.out.b.cell 0 _ rfl
    have c1 := K1.out.b.cell 1 _ rfl
    have c2 := K1.out.b.cell 2 _ rfl
    have c3 := K1.out.b.cell 3 _ rfl
    have c4 := K1.out.b.cell 4 _ rfl
    have c5 := K1.out.b.cell 5 _ rfl
    go_wp2_with fail
    clear c0 c1 c2 c3 c4 c5
    refine (HR'.out _ K1.out.a.below).mono ?_
    rintro e w2 ⟨rfl, hb2⟩
    have K1 := Lib.hid (K1.out.on hb2)
    clear hb2
    go_wp2_with fail
    refine (awake2_any _).mono ?_
    rintro e w2 ⟨rfl, hb2⟩
    have K1 := Lib.hid (K1.out.on hb2)
    clear hb2
    go_wp2_with fail
    go_ret
    exact ⟨rfl, by rw [HG.out]; exact HG.out ▸ K1.out.a.below⟩
end Go.Proofs.Ytacnbpmoceocbaa
end
section
open Go Go.RowKit
namespace WW
open BB
theorem catB_size (xs : List ByteArray) : (catB xs).size = (flat xs).length := by
  show (flat xs).toArray.size = _; simp
theorem catB_snoc (xs : List ByteArray) (i : Nat) (h : i < xs.length) : catB (xs.take (i + 1)) = catB (xs.take i) ++ xs.getD i ⟨#[]⟩ := by
  apply ba_ext
  rw [ByteArray.data_append, Array.toList_append]
  show flat (xs.take (i + 1)) = flat (xs.take i) ++ _
  exact flat_snoc xs i h
theorem take_room (pre : ByteArray) (xs : List ByteArray) (i : Nat) (h : i < xs.length) (hp : pre.size ≤ 2000000) (hs : (flat xs).length ≤ 500000) : ¬ 9223372036854775807 < (pre ++ catB (xs.take i)).size + (xs.getD i ⟨#[]⟩).size := by
  have h1 := flat_take_le xs (i + 1)
  rw [flat_snoc xs i h, List.length_append, ba_list] at h1
  rw [ByteArray.size_append, catB_size]
  omega
theorem app_nil (a : ByteArray) : a ++ catB [] = a := ba_ext (by rw [ByteArray.data_append, Array.toList_append]; simp [catB, flat])
theorem getD_map {α : Type} (l : List α) (g : α → ByteArray) (i : Nat) (d : α) (h : i < l.length) : (l.map g).getD i ⟨#[]⟩ = g (l.getD i d) := by
  rw [List.getD_eq_getElem?_getD, List.getElem?_eq_getElem (by simpa using h), List.getD_eq_getElem?_getD, List.getElem?_eq_getElem h]; simp
theorem box2_on {w w1 w2 : World} {g : Nat} {v0 v1 : Value} (h : w1.cell? ⟨g, 0, none⟩ = some v0 ∧ w1.cell? ⟨g, 1, none⟩ = some v1 ∧ BoxAt w g [v0, v1] w1) (hb : Below w1.heap.size w1 w2) : w2.cell? ⟨g, 0, none⟩ = some v0 ∧ w2.cell? ⟨g, 1, none⟩ = some v1 ∧ BoxAt w g [v0, v1] w2 :=
  ⟨(h.2.2.on hb).cell 0 _ rfl, (h.2.2.on hb).cell 1 _ rfl, h.2.2.on hb⟩
theorem box3_on {w w1 w2 : World} {g : Nat} {v0 v1 v2 : Value} (h : w1.cell? ⟨g, 0, none⟩ = some v0 ∧ w1.cell? ⟨g, 1, none⟩ = some v1 ∧ w1.cell? ⟨g, 2, none⟩ = some v2 ∧ BoxAt w g [v0, v1, v2] w1) (hb : Below w1.heap.size w1 w2) : w2.cell? ⟨g, 0, none⟩ = some v0 ∧ w2.cell? ⟨g, 1, none⟩ = some v1 ∧ w2.cell? ⟨g, 2, none⟩ = some v2 ∧ BoxAt w g [v0, v1, v2] w2 :=
  ⟨(h.2.2.2.on hb).cell 0 _ rfl, (h.2.2.2.on hb).cell 1 _ rfl, (h.2.2.2.on hb).cell 2 _ rfl, h.2.2.2.on hb⟩
end WW
namespace Go.Proofs.Ytacnbpmoceocbaa
open WW BB
set_option maxRecDepth 100000 in
set_option maxHeartbeats 4000000 in
theorem rsig_any (f : Int) (tv : Value) (ts : List ByteArray) (w : World) (hv : StrsAt w tv ts) (hs : (flat ts).length ≤ 500000) (hn : ts.length ≤ 1000) :
    Calls Try.prog 46 #[.agg #[.int .i64 f, tv]] w fun e w' => e = .returned (.string (sigB f ts)) ∧ Below w.heap.size w w' := by
  have hfin : sigB f ts = num f ++ num (ts.length : Int) ++ catB ts := by
    unfold sigB; rw [listB_cat, num_nat _ (by omega), ByteArray.append_assoc]
  rw [hfin]
  have h1 : ¬ 9223372036854775807 < (num f).size + (num (ts.length : Int)).size := by rw [num_size, num_size]; omega
  have hps : (num f ++ num (ts.length : Int)).size ≤ 2000000 := by rw [ByteArray.size_append, num_size, num_size]; omega
  have HV := Lib.hid hv
  have HS := Lib.hid hs
  have HN := Lib.hid hn
  have HPS := Lib.hid hps
  obtain ⟨a0, cap, rfl, _⟩ := hv
  clear hs hfin hps
  go_enter Try.func46, Try.ntmps46
  go_wp2_with fail
  have B0 := box_mk w [.int .i64 f, .slice a0 ts.length cap] 37
  rw [show [Value.int .i64 f, .slice a0 ts.length cap].toArray = #[.int .i64 f, .slice a0 ts.length cap] from rfl] at B0
  obtain ⟨g, hg⟩ : ∃ g, w.heap.size = g := ⟨_, rfl⟩
  rw [hg] at B0 ⊢
  have HG := Lib.hid hg
  clear hg
  generalize w.alloc (.cells #[.int .i64 f, .slice a0 ts.length cap] 37) = w0 at *
  have hst : w0.drew.cell? ⟨g, 0, none⟩ = some (.int .i64 f) ∧ w0.drew.cell? ⟨g, 1, none⟩ = some (.slice a0 ts.length cap) ∧ BoxAt w g [.int .i64 f, .slice a0 ts.length cap] w0.drew := by
    have := B0.on (Below.refl w0.heap.size w0).drew
    exact ⟨this.cell 0 _ rfl, this.cell 1 _ rfl, this⟩
  go_region_held3 (fun w' => w'.cell? ⟨g, 0, none⟩ = some (.int .i64 f) ∧ w'.cell? ⟨g, 1, none⟩ = some (.slice a0 ts.length cap) ∧ BoxAt w g [.int .i64 f, .slice a0 ts.length cap] w')
    (first | exact hk | exact hst)
    (first | (go_at_call 14; refine (rnumber_any _ _).mono ?_; rintro e w1 ⟨rfl, hb1⟩; have hk := box2_on (by first | exact hk | exact hst) hb1))
  have HK := Lib.hid hk.2.2
  clear hst hk
  go_wp2_with fail
  go_loopw [3, 4] (fun vb vi wr => ∃ i : Nat, i ≤ ts.length ∧ vi = .int .i64 (i : Int) ∧ vb = .string (num f ++ num (ts.length : Int) ++ catB (ts.take i)) ∧ BoxAt w g [.int .i64 f, .slice a0 ts.length cap] wr) (fun _ v _ => ts.length - (intOf v).toNat)
  case atStart => exact ⟨0, Nat.zero_le _, rfl, by rw [List.take_zero, app_nil], HK.out⟩
  case round =>
    clear HK
    obtain ⟨i, hi, rfl, rfl, hbox⟩ := hrel
    have HBX := Lib.hid hbox
    have c1 := hbox.cell 1 _ rfl
    have i0 : (0 : Int) ≤ (i : Int) := by omega
    have ib : (i : Int) ≤ 1000 := by omega
    clear hbox
    by_cases hlt : i < ts.length
    · have hlt' : (i : Int) < (ts.length : Int) := by omega
      obtain ⟨x1, y1, he, hv | ⟨gb, off, rfl, hbw, hcell⟩⟩ := HV.out
      · rw [hv] at hlt; simp at hlt
      injection he with e1 _ e3
      subst e1 e3
      have hc := (HBX.out.below.cell (p := ⟨gb, off + i, none⟩) hbw).trans (hcell i hlt)
      have hroom := take_room (num f ++ num (ts.length : Int)) ts i hlt HPS.out HS.out
      have hsn := catB_snoc ts i hlt
      obtain ⟨s, hs⟩ : ∃ s, ts.getD i ⟨#[]⟩ = s := ⟨_, rfl⟩
      obtain ⟨B, hB⟩ : ∃ B, num f ++ num (ts.length : Int) ++ catB (ts.take i) = B := ⟨_, rfl⟩
      rw [hs] at hc hroom hsn
      rw [hB] at hroom ⊢
      have HSN := Lib.hid (show num f ++ num (ts.length : Int) ++ catB (ts.take (i + 1)) = B ++ s by rw [hsn, ← hB]; simp only [ByteArray.append_assoc])
      have HLT := Lib.hid hlt
      clear hs hB hsn hlt hi hcell hbw
      go_wp2_with fail
      go_roundw
      case rel => exact ⟨i + 1, by have := HLT.out; omega, by go_num, by rw [HSN.out], HBX.out⟩
      case measure => have := HLT.out; simp [intOf]; omega
    · obtain rfl : i = ts.length := by omega
      have hlt' : ¬ (ts.length : Int) < (ts.length : Int) := by omega
      rw [List.take_length]
      clear hlt hi
      go_wp2_with fail
      go_ret
      exact ⟨rfl, HBX.out.below⟩
set_option maxRecDepth 100000 in
set_option maxHeartbeats 4000000 in
theorem rcert_any (v : Int) (k : ByteArray) (sv : Value) (l : List (Int × List ByteArray)) (w : World) (hv : SigsAt w sv l) (hkz : k.size ≤ 1000000) (hss : SmallS l) :
    Calls Try.prog 25 #[.agg #[.int .i64 v, .string k, sv]] w fun e w' => e = .returned (.string (certB v k l)) ∧ Below w.heap.size w w' := by
  have hn := hss.1
  have hs := hss.2.1
  have hfin : certB v k l = num v ++ k ++ num (l.length : Int) ++ catB (sigsB l) := by
    unfold certB; rw [listB_cat, show (sigsB l).length = l.length by unfold sigsB; rw [List.length_map], num_nat l.length (by omega), ByteArray.append_assoc, ByteArray.append_assoc, ByteArray.append_assoc]
  rw [hfin]
  have h1 : ¬ 9223372036854775807 < (num v).size + k.size := by rw [num_size]; omega
  have h2 : ¬ 9223372036854775807 < (num v).size + k.size + (num (l.length : Int)).size := by rw [num_size, num_size]; omega
  have hps : (num v ++ k ++ num (l.length : Int)).size ≤ 2000000 := by rw [ByteArray.size_append, ByteArray.size_append, num_size, num_size]; omega
  have HV := Lib.hid hv
  have HS := Lib.hid hs
  have HN := Lib.hid hss
  have HPS := Lib.hid hps
  obtain ⟨a0, cap, rfl, _⟩ := hv
  clear hs hss hkz hfin hps
  go_enter Try.func25, Try.ntmps25
  go_wp2_with fail
  have B0 := box_mk w [.int .i64 v, .string k, .slice a0 l.length cap] 28
  rw [show [Value.int .i64 v, .string k, .slice a0 l.length cap].toArray = #[.int .i64 v, .string k, .slice a0 l.length cap] from rfl] at B0
  obtain ⟨g, hg⟩ : ∃ g, w.heap.size = g := ⟨_, rfl⟩
  rw [hg] at B0 ⊢
  have HG := Lib.hid hg
  clear hg
  generalize w.alloc (.cells #[.int .i64 v, .string k, .slice a0 l.length cap] 28) = w0 at *
  have hst : w0.drew.cell? ⟨g, 0, none⟩ = some (.int .i64 v) ∧ w0.drew.cell? ⟨g, 1, none⟩ = some (.string k) ∧ w0.drew.cell? ⟨g, 2, none⟩ = some (.slice a0 l.length cap) ∧ BoxAt w g [.int .i64 v, .string k, .slice a0 l.length cap] w0.drew := by
    have := B0.on (Below.refl w0.heap.size w0).drew
    exact ⟨this.cell 0 _ rfl, this.cell 1 _ rfl, this.cell 2 _ rfl, this⟩
  go_region_held3 (fun w' => w'.cell? ⟨g, 0, none⟩ = some (.int .i64 v) ∧ w'.cell? ⟨g, 1, none⟩ = some (.string k) ∧ w'.cell? ⟨g, 2, none⟩ = some (.slice a0 l.length cap) ∧ BoxAt w g [.int .i64 v, .string k, .slice a0 l.length cap] w')
    (first | exact hk | exact hst)
    (first | (go_at_call 14; refine (rnumber_any _ _).mono ?_; rintro e w1 ⟨rfl, hb1⟩; have hk := box3_on (by first | exact hk | exact hst) hb1))
  have HK := Lib.hid hk.2.2.2
  clear hst hk
  go_wp2_with fail
  go_loopw [3, 4] (fun vb vi wr => ∃ i : Nat, i ≤ l.length ∧ vi = .int .i64 (i : Int) ∧ vb = .string (num v ++ k ++ num (l.length : Int) ++ catB ((sigsB l).take i)) ∧ BoxAt w g [.int .i64 v, .string k, .slice a0 l.length cap] wr) (fun _ v _ => l.length - (intOf v).toNat)
  case atStart => exact ⟨0, Nat.zero_le _, rfl, by rw [List.take_zero, app_nil], HK.out⟩
  case round =>
    clear HK
    obtain ⟨i, hi, rfl, rfl, hbox⟩ := hrel
    have HBX := Lib.hid hbox
    have c1 := hbox.cell 2 _ rfl
    have i0 : (0 : Int) ≤ (i : Int) := by omega
    have ib : (i : Int) ≤ 1000 := by omega
    clear hbox
    by_cases hlt : i < l.length
    · have hlt' : (i : Int) < (l.length : Int) := by omega
      obtain ⟨x1, y1, he, hv | ⟨gb, off, rfl, hbw, hcell⟩⟩ := HV.out
      · rw [hv] at hlt; simp at hlt
      injection he with e1 _ e3
      subst e1 e3
      obtain ⟨tv, hc0, hc1, hts⟩ := hcell i hlt
      have hcl0 := (HBX.out.below.cell (p := ⟨gb, off + i * 2, none⟩) hbw).trans hc0
      have hcl1 := (HBX.out.below.cell (p := ⟨gb, off + i * 2 + 1, none⟩) hbw).trans hc1
      have hsl : (sigsB l).length = l.length := by unfold sigsB; rw [List.length_map]
      have hroom := take_room (num v ++ k ++ num (l.length : Int)) (sigsB l) i (by omega) HPS.out HS.out
      have hsn := catB_snoc (sigsB l) i (by omega)
      have hgd : (sigsB l).getD i ⟨#[]⟩ = sigB (l.getD i (0, [])).1 (l.getD i (0, [])).2 := getD_map l _ i (0, []) hlt
      have hsm := HN.out.2.2 i hlt
      obtain ⟨f, hf⟩ : ∃ f, (l.getD i (0, [])).1 = f := ⟨_, rfl⟩
      obtain ⟨ts, ht⟩ : ∃ ts, (l.getD i (0, [])).2 = ts := ⟨_, rfl⟩
      rw [hf] at hcl0 hgd
      rw [ht] at hts hsm hgd
      have HRS := Lib.hid (rsig_any f tv ts wr (hts.later HBX.out.below) hsm.1 hsm.2)
      obtain ⟨ta, tcap, rfl, _⟩ := hts
      obtain ⟨B, hB⟩ : ∃ B, num v ++ k ++ num (l.length : Int) ++ catB ((sigsB l).take i) = B := ⟨_, rfl⟩
      rw [hgd] at hroom hsn
      rw [hB] at hroom ⊢
      have HSN := Lib.hid (show num v ++ k ++ num (l.length : Int) ++ catB ((sigsB l).take (i + 1)) = B ++ sigB f ts by rw [hsn, ← hB]; simp only [ByteArray.append_assoc])
      have HLT := Lib.hid hlt
      clear hf ht hB hsn hgd hsl hsm hlt hi hcell hbw hc0 hc1
      go_wp2_with fail
      refine HRS.out.mono ?_
      rintro e w4 ⟨rfl, hb4⟩
      have HB4 := Lib.hid (HBX.out.on hb4)
      clear hb4 HRS
      generalize sigB f ts = s at *
      go_wp2_with fail
      go_roundw
      case rel => exact ⟨i + 1, by have := HLT.out; omega, by go_num, by rw [HSN.out], HB4.out⟩
      case measure => have := HLT.out; simp [intOf]; omega
    · obtain rfl : i = l.length := by omega
      have hlt' : ¬ (l.length : Int) < (l.length : Int) := by omega
      rw [List.take_of_length_le (l := sigsB l) (by unfold sigsB; rw [List.length_map]; exact Nat.le_refl _)]
      clear hlt hi
      go_wp2_with fail
      go_ret
      exact ⟨rfl, HBX.out.below⟩
end Go.Proofs.Ytacnbpmoceocbaa
end
section
open Go Go.RowKit
namespace WW
open BB
theorem box6_on {w w1 w2 : World} {g : Nat} {v0 v1 v2 v3 v4 v5 : Value} (h : w1.cell? ⟨g, 0, none⟩ = some v0 ∧ w1.cell? ⟨g, 1, none⟩ = some v1 ∧ w1.cell? ⟨g, 2, none⟩ = some v2 ∧ w1.cell? ⟨g, 3, none⟩ = some v3 ∧ w1.cell? ⟨g, 4, none⟩ = some v4 ∧ w1.cell? ⟨g, 5, none⟩ = some v5 ∧ BoxAt w g [v0, v1, v2, v3, v4, v5] w1) (hb : Below w1.heap.size w1 w2) :
    w2.cell? ⟨g, 0, none⟩ = some v0 ∧ w2.cell? ⟨g, 1, none⟩ = some v1 ∧ w2.cell? ⟨g, 2, none⟩ = some v2 ∧ w2.cell? ⟨g, 3, none⟩ = some v3 ∧ w2.cell? ⟨g, 4, none⟩ = some v4 ∧ w2.cell? ⟨g, 5, none⟩ = some v5 ∧ BoxAt w g [v0, v1, v2, v3, v4, v5] w2 :=
  have k := h.2.2.2.2.2.2.on hb
  ⟨k.cell 0 _ rfl, k.cell 1 _ rfl, k.cell 2 _ rfl, k.cell 3 _ rfl, k.cell 4 _ rfl, k.cell 5 _ rfl, k⟩
/-- a block's core -/
def coreB (v p cv : Int) (k : ByteArray) (m : List (Int × Int × ByteArray)) : ByteArray := num v ++ num p ++ num cv ++ k ++ listB (reqsB m)
end WW
namespace Go.Proofs.Ytacnbpmoceocbaa
open WW BB
set_option maxRecDepth 100000 in
set_option maxHeartbeats 4000000 in
theorem rreqs_any (rv : Value) (m : List (Int × Int × ByteArray)) (w : World) (hv : ReqsAt w rv m) (hss : SmallR m) :
    Calls Try.prog 50 #[rv] w fun e w' => e = .returned (.string (listB (reqsB m))) ∧ Below w.heap.size w w' := by
  have hn := hss.1
  have hs := hss.2.1
  have hfin : listB (reqsB m) = num (m.length : Int) ++ catB (reqsB m) := by
    rw [listB_cat, show (reqsB m).length = m.length by unfold reqsB; rw [List.length_map], num_nat m.length (by omega)]
  rw [hfin]
  have hps : (num (m.length : Int)).size ≤ 2000000 := by rw [num_size]; omega
  have HV := Lib.hid hv
  have HS := Lib.hid hs
  have HN := Lib.hid hss
  have HPS := Lib.hid hps
  obtain ⟨a0, cap, rfl, _⟩ := hv
  clear hs hss hfin hps
  go_enter Try.func50, Try.ntmps50
  go_wp2_with fail
  refine (rnumber_any _ _).mono ?_
  rintro e w0 ⟨rfl, hb0⟩
  have B0 := Lib.hid hb0
  clear hb0
  go_wp2_with fail
  go_loopw [3, 4] (fun vb vi wr => ∃ i : Nat, i ≤ m.length ∧ vi = .int .i64 (i : Int) ∧ vb = .string (num (m.length : Int) ++ catB ((reqsB m).take i)) ∧ Below w.heap.size w wr) (fun _ v _ => m.length - (intOf v).toNat)
  case atStart => exact ⟨0, Nat.zero_le _, rfl, by rw [List.take_zero, app_nil], B0.out⟩
  case round =>
    clear B0
    obtain ⟨i, hi, rfl, rfl, hbox⟩ := hrel
    have HBX := Lib.hid hbox
    have i0 : (0 : Int) ≤ (i : Int) := by omega
    have ib : (i : Int) ≤ 1000 := by omega
    clear hbox
    by_cases hlt : i < m.length
    · have hlt' : (i : Int) < (m.length : Int) := by omega
      obtain ⟨x1, y1, he, hv | ⟨gb, off, rfl, hbw, hcell⟩⟩ := HV.out
      · rw [hv] at hlt; simp at hlt
      injection he with e1 _ e3
      subst e1 e3
      obtain ⟨hc0, hc1, hc2⟩ := hcell i hlt
      have hcl0 := (HBX.out.cell (p := ⟨gb, off + i * 3, none⟩) hbw).trans hc0
      have hcl1 := (HBX.out.cell (p := ⟨gb, off + i * 3 + 1, none⟩) hbw).trans hc1
      have hcl2 := (HBX.out.cell (p := ⟨gb, off + i * 3 + 2, none⟩) hbw).trans hc2
      have hsl : (reqsB m).length = m.length := by unfold reqsB; rw [List.length_map]
      have hroom := take_room (num (m.length : Int)) (reqsB m) i (by omega) HPS.out HS.out
      have hsn := catB_snoc (reqsB m) i (by omega)
      have hgd : (reqsB m).getD i ⟨#[]⟩ = reqB (m.getD i (0, 0, ⟨#[]⟩)).1 (m.getD i (0, 0, ⟨#[]⟩)).2.1 (m.getD i (0, 0, ⟨#[]⟩)).2.2 := getD_map m _ i (0, 0, ⟨#[]⟩) hlt
      have hsm := HN.out.2.2 i hlt
      obtain ⟨r, hr⟩ : ∃ r, (m.getD i (0, 0, ⟨#[]⟩)) = r := ⟨_, rfl⟩
      rw [hr] at hcl0 hcl1 hcl2 hgd hsm
      obtain ⟨rc, rq, rs⟩ := r
      have HRS := Lib.hid (rrequest_any rc rq rs (by have : rs.size ≤ 500000 := hsm; omega) wr)
      obtain ⟨B, hB⟩ : ∃ B, num (m.length : Int) ++ catB ((reqsB m).take i) = B := ⟨_, rfl⟩
      rw [hgd] at hroom hsn
      rw [hB] at hroom ⊢
      have HSN := Lib.hid (show num (m.length : Int) ++ catB ((reqsB m).take (i + 1)) = B ++ reqB rc rq rs by rw [hsn, ← hB]; simp only [ByteArray.append_assoc])
      have HLT := Lib.hid hlt
      clear hr hB hsn hgd hsl hsm hlt hi hcell hbw hc0 hc1 hc2
      dsimp only at hcl0 hcl1 hcl2 hroom
      go_wp2_with fail
      refine HRS.out.mono ?_
      rintro e w4 ⟨rfl, hb4⟩
      have HB4 := Lib.hid (HBX.out.trans (hb4.mono HBX.out.size))
      clear hb4 HRS
      generalize reqB rc rq rs = s at *
      go_wp2_with fail
      go_roundw
      case rel => exact ⟨i + 1, by have := HLT.out; omega, by go_num, by rw [HSN.out], HB4.out⟩
      case measure => have := HLT.out; simp [intOf]; omega
    · obtain rfl : i = m.length := by omega
      have hlt' : ¬ (m.length : Int) < (m.length : Int) := by omega
      rw [List.take_of_length_le (l := reqsB m) (by unfold reqsB; rw [List.length_map]; exact Nat.le_refl _)]
      clear hlt hi
      go_wp2_with fail
      go_ret
      exact ⟨rfl, HBX.out⟩
set_option maxRecDepth 100000 in
set_option maxHeartbeats 4000000 in
theorem rblock_any (v p cv : Int) (k : ByteArray) (sv rv : Value) (l : List (Int × List ByteArray)) (m : List (Int × Int × ByteArray)) (w : World) (hv : SigsAt w sv l) (hr : ReqsAt w rv m) (hk : k.size ≤ 1000000) (hs : SmallS l) (hm : SmallR m) :
    Calls Try.prog 29 #[.agg #[.int .i64 v, .int .i64 p, .int .i64 cv, .string k, sv, rv]] w fun e w' => e = .returned (.string (blockB v p cv k l m)) ∧ Below w.heap.size w w' := by
  have h1 : ¬ 9223372036854775807 < (num v).size + (num p).size := by rw [num_size, num_size]; omega
  have h2 : ¬ 9223372036854775807 < (num v).size + (num p).size + (certB cv k l).size := by rw [num_size, num_size, certB_size]; have := hs.2.1; omega
  have h3 : ¬ 9223372036854775807 < (num v).size + (num p).size + (certB cv k l).size + (listB (reqsB m)).size := by rw [num_size, num_size, certB_size, flat_size]; have := hs.2.1; have := hm.2.1; omega
  have HV := Lib.hid hv
  have HR := Lib.hid hr
  have HS := Lib.hid hs
  have HM := Lib.hid hm
  have HKZ := Lib.hid hk
  obtain ⟨a0, cap, rfl, hx⟩ := hv
  obtain ⟨a1, cap1, rfl, hx1⟩ := hr
  clear hs hx hk hm hx1
  go_enter Try.func29, Try.ntmps29
  go_wp2_with fail
  have B0 := box_mk w [.int .i64 v, .int .i64 p, .int .i64 cv, .string k, .slice a0 l.length cap, .slice a1 m.length cap1] 31
  rw [show [Value.int .i64 v, .int .i64 p, .int .i64 cv, .string k, .slice a0 l.length cap, .slice a1 m.length cap1].toArray = #[.int .i64 v, .int .i64 p, .int .i64 cv, .string k, .slice a0 l.length cap, .slice a1 m.length cap1] from rfl] at B0
  obtain ⟨g, hg⟩ : ∃ g, w.heap.size = g := ⟨_, rfl⟩
  rw [hg] at B0 ⊢
  have HG := Lib.hid hg
  clear hg
  generalize w.alloc (.cells #[.int .i64 v, .int .i64 p, .int .i64 cv, .string k, .slice a0 l.length cap, .slice a1 m.length cap1] 31) = w0 at *
  have hst : w0.drew.cell? ⟨g, 0, none⟩ = some (.int .i64 v) ∧ w0.drew.cell? ⟨g, 1, none⟩ = some (.int .i64 p) ∧ w0.drew.cell? ⟨g, 2, none⟩ = some (.int .i64 cv) ∧ w0.drew.cell? ⟨g, 3, none⟩ = some (.string k) ∧ w0.drew.cell? ⟨g, 4, none⟩ = some (.slice a0 l.length cap) ∧ w0.drew.cell? ⟨g, 5, none⟩ = some (.slice a1 m.length cap1) ∧ BoxAt w g [.int .i64 v, .int .i64 p, .int .i64 cv, .string k, .slice a0 l.length cap, .slice a1 m.length cap1] w0.drew := by
    have := B0.on (Below.refl w0.heap.size w0).drew
    exact ⟨this.cell 0 _ rfl, this.cell 1 _ rfl, this.cell 2 _ rfl, this.cell 3 _ rfl, this.cell 4 _ rfl, this.cell 5 _ rfl, this⟩
  go_region_held3 (fun w' => w'.cell? ⟨g, 0, none⟩ = some (.int .i64 v) ∧ w'.cell? ⟨g, 1, none⟩ = some (.int .i64 p) ∧ w'.cell? ⟨g, 2, none⟩ = some (.int .i64 cv) ∧ w'.cell? ⟨g, 3, none⟩ = some (.string k) ∧ w'.cell? ⟨g, 4, none⟩ = some (.slice a0 l.length cap) ∧ w'.cell? ⟨g, 5, none⟩ = some (.slice a1 m.length cap1) ∧ BoxAt w g [.int .i64 v, .int .i64 p, .int .i64 cv, .string k, .slice a0 l.length cap, .slice a1 m.length cap1] w')
    (first | exact hk | exact hst)
    (first
      | (go_at_call 14; refine (rnumber_any _ _).mono ?_; rintro e w1 ⟨rfl, hb1⟩; have hk := box6_on (by first | exact hk | exact hst) hb1)
      | (go_at_call 25; refine (rcert_any cv k _ l _ (HV.out.later hk.2.2.2.2.2.2.below) HKZ.out HS.out).mono ?_; rintro e w1 ⟨rfl, hb1⟩; have hk := box6_on hk hb1)
      | (go_at_call 50; refine (rreqs_any _ m _ (HR.out.later hk.2.2.2.2.2.2.below) HM.out).mono ?_; rintro e w1 ⟨rfl, hb1⟩; have hk := box6_on hk hb1))
  go_wp2_with fail
  go_ret
  exact ⟨rfl, hk.2.2.2.2.2.2.below⟩
set_option maxRecDepth 100000 in
set_option maxHeartbeats 4000000 in
theorem rcore_any (v p cv : Int) (k : ByteArray) (sv rv : Value) (l : List (Int × List ByteArray)) (m : List (Int × Int × ByteArray)) (w : World) (hv : SigsAt w sv l) (hr : ReqsAt w rv m) (hk : k.size ≤ 1000000) (hs : SmallS l) (hm : SmallR m) :
    Calls Try.prog 31 #[.agg #[.int .i64 v, .int .i64 p, .int .i64 cv, .string k, sv, rv]] w fun e w' => e = .returned (.string (coreB v p cv k m)) ∧ Below w.heap.size w w' := by
  have h1 : ¬ 9223372036854775807 < (num v).size + (num p).size := by rw [num_size, num_size]; omega
  have h2 : ¬ 9223372036854775807 < (num v).size + (num p).size + (num cv).size := by rw [num_size, num_size, num_size]; omega
  have h3 : ¬ 9223372036854775807 < (num v).size + (num p).size + (num cv).size + k.size := by rw [num_size, num_size, num_size]; omega
  have h4 : ¬ 9223372036854775807 < (num v).size + (num p).size + (num cv).size + k.size + (listB (reqsB m)).size := by rw [num_size, num_size, num_size, flat_size]; have := hm.2.1; omega
  have HV := Lib.hid hv
  have HR := Lib.hid hr
  have HS := Lib.hid hs
  have HM := Lib.hid hm
  have HKZ := Lib.hid hk
  obtain ⟨a0, cap, rfl, hx⟩ := hv
  obtain ⟨a1, cap1, rfl, hx1⟩ := hr
  clear hs hx hk hm hx1
  go_enter Try.func31, Try.ntmps31
  go_wp2_with fail
  have B0 := box_mk w [.int .i64 v, .int .i64 p, .int .i64 cv, .string k, .slice a0 l.length cap, .slice a1 m.length cap1] 31
  rw [show [Value.int .i64 v, .int .i64 p, .int .i64 cv, .string k, .slice a0 l.length cap, .slice a1 m.length cap1].toArray = #[.int .i64 v, .int .i64 p, .int .i64 cv, .string k, .slice a0 l.length cap, .slice a1 m.length cap1] from rfl] at B0
  obtain ⟨g, hg⟩ : ∃ g, w.heap.size = g := ⟨_, rfl⟩
  rw [hg] at B0 ⊢
  have HG := Lib.hid hg
  clear hg
  generalize w.alloc (.cells #[.int .i64 v, .int .i64 p, .int .i64 cv, .string k, .slice a0 l.length cap, .slice a1 m.length cap1] 31) = w0 at *
  have hst : w0.drew.cell? ⟨g, 0, none⟩ = some (.int .i64 v) ∧ w0.drew.cell? ⟨g, 1, none⟩ = some (.int .i64 p) ∧ w0.drew.cell? ⟨g, 2, none⟩ = some (.int .i64 cv) ∧ w0.drew.cell? ⟨g, 3, none⟩ = some (.string k) ∧ w0.drew.cell? ⟨g, 4, none⟩ = some (.slice a0 l.length cap) ∧ w0.drew.cell? ⟨g, 5, none⟩ = some (.slice a1 m.length cap1) ∧ BoxAt w g [.int .i64 v, .int .i64 p, .int .i64 cv, .string k, .slice a0 l.length cap, .slice a1 m.length cap1] w0.drew := by
    have := B0.on (Below.refl w0.heap.size w0).drew
    exact ⟨this.cell 0 _ rfl, this.cell 1 _ rfl, this.cell 2 _ rfl, this.cell 3 _ rfl, this.cell 4 _ rfl, this.cell 5 _ rfl, this⟩
  go_region_held3 (fun w' => w'.cell? ⟨g, 0, none⟩ = some (.int .i64 v) ∧ w'.cell? ⟨g, 1, none⟩ = some (.int .i64 p) ∧ w'.cell? ⟨g, 2, none⟩ = some (.int .i64 cv) ∧ w'.cell? ⟨g, 3, none⟩ = some (.string k) ∧ w'.cell? ⟨g, 4, none⟩ = some (.slice a0 l.length cap) ∧ w'.cell? ⟨g, 5, none⟩ = some (.slice a1 m.length cap1) ∧ BoxAt w g [.int .i64 v, .int .i64 p, .int .i64 cv, .string k, .slice a0 l.length cap, .slice a1 m.length cap1] w')
    (first | exact hk | exact hst)
    (first
      | (go_at_call 14; refine (rnumber_any _ _).mono ?_; rintro e w1 ⟨rfl, hb1⟩; have hk := box6_on (by first | exact hk | exact hst) hb1)
      | (go_at_call 50; refine (rreqs_any _ m _ (HR.out.later hk.2.2.2.2.2.2.below) HM.out).mono ?_; rintro e w1 ⟨rfl, hb1⟩; have hk := box6_on hk hb1))
  go_wp2_with fail
  go_ret
  exact ⟨rfl, hk.2.2.2.2.2.2.below⟩
set_option maxRecDepth 100000 in
set_option maxHeartbeats 4000000 in
theorem core_any (v p cv : Int) (k : ByteArray) (sv rv : Value) (l : List (Int × List ByteArray)) (m : List (Int × Int × ByteArray)) (w : World) (hv : SigsAt w sv l) (hr : ReqsAt w rv m) (hk : k.size ≤ 1000000) (hs : SmallS l) (hm : SmallR m) :
    Calls Try.prog 30 #[.agg #[.int .i64 v, .int .i64 p, .int .i64 cv, .string k, sv, rv]] w fun e w' => e = .returned (.string (coreB v p cv k m)) ∧ Below w.heap.size w w' := by
  have h1 : ¬ 9223372036854775807 < (num v).size + (num p).size := by rw [num_size, num_size]; omega
  have h2 : ¬ 9223372036854775807 < (num v).size + (num p).size + (num cv).size := by rw [num_size, num_size, num_size]; omega
  have h3 : ¬ 9223372036854775807 < (num v).size + (num p).size + (num cv).size + k.size := by rw [num_size, num_size, num_size]; omega
  have h4 : ¬ 9223372036854775807 < (num v).size + (num p).size + (num cv).size + k.size + (listB (reqsB m)).size := by rw [num_size, num_size, num_size, flat_size]; have := hm.2.1; omega
  have HV := Lib.hid hv
  have HR := Lib.hid hr
  have HS := Lib.hid hs
  have HM := Lib.hid hm
  have HKZ := Lib.hid hk
  obtain ⟨a0, cap, rfl, hx⟩ := hv
  obtain ⟨a1, cap1, rfl, hx1⟩ := hr
  clear hs hx hk hm hx1
  go_enter Try.func30, Try.ntmps30
  go_wp2_with fail
  have B0 := box_mk w [.int .i64 v, .int .i64 p, .int .i64 cv, .string k, .slice a0 l.length cap, .slice a1 m.length cap1] 31
  rw [show [Value.int .i64 v, .int .i64 p, .int .i64 cv, .string k, .slice a0 l.length cap, .slice a1 m.length cap1].toArray = #[.int .i64 v, .int .i64 p, .int .i64 cv, .string k, .slice a0 l.length cap, .slice a1 m.length cap1] from rfl] at B0
  obtain ⟨g, hg⟩ : ∃ g, w.heap.size = g := ⟨_, rfl⟩
  rw [hg] at B0 ⊢
  have HG := Lib.hid hg
  clear hg
  generalize w.alloc (.cells #[.int .i64 v, .int .i64 p, .int .i64 cv, .string k, .slice a0 l.length cap, .slice a1 m.length cap1] 31) = w0 at *
  have hst : w0.drew.cell? ⟨g, 0, none⟩ = some (.int .i64 v) ∧ w0.drew.cell? ⟨g, 1, none⟩ = some (.int .i64 p) ∧ w0.drew.cell? ⟨g, 2, none⟩ = some (.int .i64 cv) ∧ w0.drew.cell? ⟨g, 3, none⟩ = some (.string k) ∧ w0.drew.cell? ⟨g, 4, none⟩ = some (.slice a0 l.length cap) ∧ w0.drew.cell? ⟨g, 5, none⟩ = some (.slice a1 m.length cap1) ∧ BoxAt w g [.int .i64 v, .int .i64 p, .int .i64 cv, .string k, .slice a0 l.length cap, .slice a1 m.length cap1] w0.drew := by
    have := B0.on (Below.refl w0.heap.size w0).drew
    exact ⟨this.cell 0 _ rfl, this.cell 1 _ rfl, this.cell 2 _ rfl, this.cell 3 _ rfl, this.cell 4 _ rfl, this.cell 5 _ rfl, this⟩
  go_region_held3 (fun w' => w'.cell? ⟨g, 0, none⟩ = some (.int .i64 v) ∧ w'.cell? ⟨g, 1, none⟩ = some (.int .i64 p) ∧ w'.cell? ⟨g, 2, none⟩ = some (.int .i64 cv) ∧ w'.cell? ⟨g, 3, none⟩ = some (.string k) ∧ w'.cell? ⟨g, 4, none⟩ = some (.slice a0 l.length cap) ∧ w'.cell? ⟨g, 5, none⟩ = some (.slice a1 m.length cap1) ∧ BoxAt w g [.int .i64 v, .int .i64 p, .int .i64 cv, .string k, .slice a0 l.length cap, .slice a1 m.length cap1] w')
    (first | exact hk | exact hst)
    (first
      | (go_at_call 10; refine (number_any _ _).mono ?_; rintro e w1 ⟨rfl, hb1⟩; have hk := box6_on (by first | exact hk | exact hst) hb1)
      | (go_at_call 38; refine (listreq_any m _ _ (HR.out.later hk.2.2.2.2.2.2.below) HM.out.2.1 HM.out.1 HM.out.2.2).mono ?_; rintro e w1 ⟨rfl, hb1⟩; have hk := box6_on hk hb1))
  go_wp2_with fail
  go_ret
  exact ⟨rfl, hk.2.2.2.2.2.2.below⟩
end Go.Proofs.Ytacnbpmoceocbaa
end
section
open Go Go.RowKit
namespace WW
open BB
/-- what was read, in block t's cells: d, in this world, in blocks from lo below hi; the cells were f, and are f' -/
abbrev RelT (δ : Type) := δ → World → Nat → Nat → (Nat → Value) → (Nat → Value) → Prop
structure SoundR {δ : Type} (R : RelT δ) : Prop where
  keep : ∀ {d w w' lo hi f f'}, R d w lo hi f f' → (∀ k, lo ≤ k → k < hi → w'.heap[k]? = w.heap[k]?) → R d w' lo hi f f'
  wide : ∀ {d w lo hi lo' hi' f f'}, R d w lo hi f f' → lo' ≤ lo → hi ≤ hi' → R d w lo' hi' f f'
section
variable {P : Program} {t n : Nat} {v : Value} {W : World} {α β δ : Type} {A : ByteArray → Option (ByteArray × α)} {B : ByteArray → Option (ByteArray × β)} {Sp : ByteArray → Option (ByteArray × δ)} {R : RelT δ} {R1 : RelT α} {R2 : RelT β} {Pre Pre2 : (Nat → Value) → Prop} {f : Nat → Value} {w : World}
def EffR (t n : Nat) (w : World) (f : Nat → Value) (R : RelT δ) (x : Option (ByteArray × δ)) (ok : Bool) (r : ByteArray) (w' : World) : Prop :=
  match x with
  | none => ok = false ∧ ∃ f', Keep t w w' ∧ Blk w' t n f'
  | some (r', d) => ok = true ∧ r = r' ∧ ∃ f', Keep t w w' ∧ Blk w' t n f' ∧ R d w' w.heap.size w'.heap.size f f'
/-- v cuts off what Sp says, and puts it into block t, by R -/
def CutR (P : Program) (t n : Nat) (v : Value) (W : World) (Pre : (Nat → Value) → Prop) (Sp : ByteArray → Option (ByteArray × δ)) (R : RelT δ) : Prop :=
  ∀ f b w, b.size ≤ 1000000 → Keep t W w → Blk w t n f → Pre f → Cut P v b w (EffR t n w f R (Sp b))
theorem CutR.later {W' : World} (h : CutR P t n v W Pre Sp R) (hk : Keep t W W') : CutR P t n v W' Pre Sp R := fun f b w hb hw ht hp => h f b w hb (hk.trans hw) ht hp
theorem CutTo.toR {eff : δ → (Nat → Value) → Nat → Value} (h : CutTo P t n v W Sp eff) : CutR P t n v W (fun _ => True) Sp (fun d _ _ _ f f' => f' = eff d f) := fun f b w hb hk ht _ =>
  (h f b w hb hk ht).mono fun ok r w' he => by
    unfold Eff at he
    unfold EffR
    rcases hS : Sp b with _ | ⟨r', d⟩ <;> rw [hS] at he
    · exact he
    · obtain ⟨h1, h2, h3⟩ := he
      exact ⟨h1, h2, _, h3.1, h3.2, rfl⟩
theorem CutR.map {g : α → β} (h : CutR P t n v W Pre A R1) (hR : ∀ d w lo hi f f', R1 d w lo hi f f' → R2 (g d) w lo hi f f') : CutR P t n v W Pre (mapSp g A) R2 := fun f b w hb hk ht hp =>
  (h f b w hb hk ht hp).mono fun ok r w' he => by
    unfold EffR at he ⊢
    rcases hA : A b with _ | ⟨r', d⟩
    · rw [hA] at he; rw [map_none hA]; exact he
    · rw [hA] at he; rw [map_some hA]
      obtain ⟨h1, h2, f', h3, h4, h5⟩ := he
      exact ⟨h1, h2, f', h3, h4, hR _ _ _ _ _ _ h5⟩
theorem CutR.weak {R' : RelT δ} {Pre' : (Nat → Value) → Prop} (h : CutR P t n v W Pre Sp R) (hP : ∀ f, Pre' f → Pre f) (hR : ∀ d w lo hi f f', R d w lo hi f f' → R' d w lo hi f f') : CutR P t n v W Pre' Sp R' := fun f b w hb hk ht hp =>
  (h f b w hb hk ht (hP f hp)).mono fun ok r w' he => by
    unfold EffR at he ⊢
    rcases hS : Sp b with _ | ⟨r', d⟩ <;> rw [hS] at he
    · exact he
    · obtain ⟨h1, h2, f', h3, h4, h5⟩ := he
      exact ⟨h1, h2, f', h3, h4, hR _ _ _ _ _ _ h5⟩
/-- a number in cell o; a text in cell o -/
def numR (o : Nat) : RelT Int := fun d _ _ _ f f' => f' = put f o (.int .i64 d)
def strR (o : Nat) : RelT ByteArray := fun d _ _ _ f f' => f' = put f o (.string d)
theorem sound_num (o : Nat) : SoundR (numR o) := ⟨fun h _ => h, fun h _ _ => h⟩
theorem sound_str (o : Nat) : SoundR (strR o) := ⟨fun h _ => h, fun h _ _ => h⟩
theorem cutr_num {lo hi : Int} {o : Nat} (h : CutTo P t n v W (numSp lo hi) (putN o)) : CutR P t n v W (fun _ => True) (numI lo hi) (numR o) := h.toR.map fun _ _ _ _ _ _ h => h
theorem cutr_str {o : Nat} {Sp : ByteArray → Option (ByteArray × ByteArray)} (h : CutTo P t n v W Sp (putS o)) : CutR P t n v W (fun _ => True) Sp (strR o) := h.toR
/-- one behind the other -/
def seqR (R1 : RelT α) (R2 : RelT β) : RelT (α × β) := fun d w lo hi f f' => ∃ g, R1 d.1 w lo hi f g ∧ R2 d.2 w lo hi g f'
theorem SoundR.seq (h1 : SoundR R1) (h2 : SoundR R2) : SoundR (seqR R1 R2) :=
  ⟨fun ⟨g, a, b⟩ hk => ⟨g, h1.keep a hk, h2.keep b hk⟩, fun ⟨g, a, b⟩ hl hh => ⟨g, h1.wide a hl hh, h2.wide b hl hh⟩⟩
/-- these cuts, in order -/
def OrdR (P : Program) (t n : Nat) (vs : List Value) (W : World) (Pre : (Nat → Value) → Prop) (Sp : ByteArray → Option (ByteArray × δ)) (R : RelT δ) : Prop :=
  ∀ (E : World → Prop) (Q : Bool → ByteArray → World → Prop) f b w, b.size ≤ 1000000 → Keep t W w → Blk w t n f → Pre f → (∀ w', Keep t W w' → E w') → (∀ ok r w', EffR t n w f R (Sp b) ok r w' → Q ok (if ok then r else ⟨#[]⟩) w') → OrderWp P E Q vs b w
theorem OrdR.one (h : CutR P t n v W Pre Sp R) : OrdR P t n [v] W Pre Sp R := fun E Q f b w hb hk ht hp hE hQ => by
  refine (h f b w hb hk ht hp).mono fun ok r w' he => ?_
  have hk' : Keep t w w' := by
    unfold EffR at he
    rcases hS : Sp b with _ | ⟨r', d⟩
    · rw [hS] at he; exact he.2.choose_spec.1
    · rw [hS] at he; exact he.2.2.choose_spec.1
  have := hQ ok r w' he
  refine ⟨hE w' (hk.trans hk'), ?_⟩
  cases ok
  · exact this
  · exact this
theorem orderWp_app {E : World → Prop} {Q : Bool → ByteArray → World → Prop} (v : Value) : ∀ (vs : List Value) (b : ByteArray) (w : World),
    OrderWp P E (fun ok r w' => if ok then Cut P v r w' (fun ok2 r2 w2 => E w2 ∧ (if ok2 then Q true r2 w2 else Q false ⟨#[]⟩ w2)) else Q false ⟨#[]⟩ w') vs b w → OrderWp P E Q (vs ++ [v]) b w
  | [], b, w, h => h
  | v0 :: vs, b, w, h => by
    refine Cut.mono (show Cut P v0 b w _ from h) fun ok r w' ⟨hE, hr⟩ => ⟨hE, ?_⟩
    cases ok
    · exact hr
    · exact orderWp_app v vs r w' hr
theorem keep_fix {s w1 w2 : World} {t : Nat} (h : Keep t w1 w2) (ht : t < s.heap.size) : ∀ k, s.heap.size ≤ k → k < w1.heap.size → w2.heap[k]? = w1.heap[k]? := fun k h1 h2 => h.block k h2 (by omega)
theorem OrdR.app {vs : List Value} (h1 : OrdR P t n vs W Pre A R1) (h2 : CutR P t n v W Pre2 B R2) (s1 : SoundR R1) (s2 : SoundR R2) (hsz : ∀ b r x, A b = some (r, x) → r.size ≤ b.size)
    (hpre : ∀ d w lo hi f g, Pre f → R1 d w lo hi f g → Pre2 g) : OrdR P t n (vs ++ [v]) W Pre (seqSp A B) (seqR R1 R2) := fun E Q f b w hb hk ht hp hE hQ => by
  refine orderWp_app v vs b w (h1 E _ f b w hb hk ht hp hE fun ok r w' he => ?_)
  unfold EffR at he
  rcases hA : A b with _ | ⟨r', d⟩
  · rw [hA] at he
    obtain ⟨rfl, f', h3, h4⟩ := he
    refine hQ false ⟨#[]⟩ w' ?_
    unfold EffR
    rw [seq_none1 hA]
    exact ⟨rfl, f', h3, h4⟩
  · rw [hA] at he
    obtain ⟨rfl, rfl, g, h3, h4, h5⟩ := he
    show Cut P v r w' _
    refine (h2 g r w' (by have := hsz _ _ _ hA; omega) (hk.trans h3) h4 (hpre _ _ _ _ _ _ hp h5)).mono fun ok2 r2 w2 he2 => ?_
    unfold EffR at he2
    rcases hB : B r with _ | ⟨r3, d2⟩
    · rw [hB] at he2
      obtain ⟨rfl, f', h6, h7⟩ := he2
      refine ⟨hE _ (hk.trans (h3.trans h6)), hQ false ⟨#[]⟩ w2 ?_⟩
      unfold EffR
      rw [seq_none2 hA hB]
      exact ⟨rfl, f', h3.trans h6, h7⟩
    · rw [hB] at he2
      obtain ⟨rfl, rfl, f', h6, h7, h8⟩ := he2
      refine ⟨hE _ (hk.trans (h3.trans h6)), hQ true r2 w2 ?_⟩
      unfold EffR
      rw [seq_some hA hB]
      exact ⟨rfl, rfl, f', h3.trans h6, h7, g, s1.wide (s1.keep h5 (keep_fix h6 ht.lt)) (Nat.le_refl _) h6.size, s2.wide h8 h3.size (Nat.le_refl _)⟩
/-- v reads nothing: it tells whether p holds of what was read -/
def ProvR (P : Program) (t n : Nat) (v : Value) (W : World) (Pre : (Nat → Value) → Prop) (Sp : ByteArray → Option (ByteArray × δ)) (R : RelT δ) (p : δ → Bool) : Prop :=
  ∀ d f f' lo hi b w, (∃ b0 r0, Sp b0 = some (r0, d)) → Keep t W w → hi ≤ w.heap.size → Blk w t n f' → Pre f → R d w lo hi f f' → Cut P v b w fun ok r w' => ok = p d ∧ r = b ∧ Below w.heap.size w w'
theorem OrdR.prov {vs : List Value} {p : α → Bool} (h1 : OrdR P t n vs W Pre A R1) (h2 : ProvR P t n v W Pre A R1 p) (s1 : SoundR R1) : OrdR P t n (vs ++ [v]) W Pre (filtSp A p) R1 := fun E Q f b w hb hk ht hp hE hQ => by
  refine orderWp_app v vs b w (h1 E _ f b w hb hk ht hp hE fun ok r w' he => ?_)
  unfold EffR at he
  rcases hA : A b with _ | ⟨r', d⟩
  · rw [hA] at he
    obtain ⟨rfl, f', h3, h4⟩ := he
    refine hQ false ⟨#[]⟩ w' ?_
    unfold EffR
    rw [filt_none hA]
    exact ⟨rfl, f', h3, h4⟩
  · rw [hA] at he
    obtain ⟨rfl, rfl, g, h3, h4, h5⟩ := he
    show Cut P v r w' _
    refine (h2 d f g _ _ r w' ⟨_, _, hA⟩ (hk.trans h3) (Nat.le_refl _) h4 hp h5).mono fun ok2 r2 w2 ⟨e1, e2, hb2⟩ => ?_
    have h6 : Keep t w' w2 := keep_of_below hb2 (Nat.le_refl _) t
    have h7 : Blk w2 t n g := h4.below hb2 h4.lt
    subst e1 e2
    refine ⟨hE _ (hk.trans (h3.trans h6)), ?_⟩
    rcases hpd : p d with _ | _
    · refine hQ false ⟨#[]⟩ w2 ?_
      unfold EffR
      rw [filt_some hA, hpd, if_neg (by simp)]
      exact ⟨rfl, g, h3.trans h6, h7⟩
    · refine hQ true r2 w2 ?_
      unfold EffR
      rw [filt_some hA, hpd, if_pos rfl]
      exact ⟨rfl, rfl, g, h3.trans h6, h7, s1.wide (s1.keep h5 (keep_fix h6 ht.lt)) (Nat.le_refl _) h6.size⟩
/-- a closure that cuts is made -/
def MakesR (P : Program) (t n : Nat) (w : World) (Pre : (Nat → Value) → Prop) (Sp : ByteArray → Option (ByteArray × δ)) (R : RelT δ) (e : Ending) (w' : World) : Prop :=
  ∃ k env, e = .returned (.func (.func k) #[] env) ∧ Below w.heap.size w w' ∧ CutR P t n (.func (.func k) #[] env) w' Pre Sp R
/-- ev makes a closure that cuts, for a new thing of k cells, z -/
def EachR (P : Program) (ev : Value) (k : Nat) (z : Nat → Value) (Sp : ByteArray → Option (ByteArray × δ)) (R : RelT δ) : Prop :=
  ∀ (tx : Nat) (w : World), tx < w.heap.size → CallsV P ev #[.pointer (some ⟨tx, 0, none⟩)] w (MakesR P tx k w (fun f => ∀ i, i < k → f i = z i) Sp R)
/-- the elements of a list that was read: each by R, in the row that sv owns -/
structure ElemsR (e : TypeId) (k : Nat) (z : Nat → Value) (R : RelT δ) (w : World) (lo hi : Nat) (sv : Value) (l : List δ) (xs : List Value) : Prop where
  row : w.ownsRow lo e k sv l.length xs
  top : ∀ c, sv.ownBlock = some c → c < hi
  each : ∀ (i : Nat) (d : δ), l[i]? = some d → ∃ (lo1 hi1 : Nat) (g : Nat → Value), lo ≤ lo1 ∧ hi1 ≤ hi ∧ R d w lo1 hi1 z g ∧ (∀ j : Nat, j < k → xs[i * k + j]? = some (g j)) ∧ ∀ c, sv.ownBlock = some c → c < lo1 ∨ hi1 ≤ c
theorem owns_keep {w' : World} {e : TypeId} {lo k m : Nat} {sv : Value} {xs : List Value} (h : w.ownsRow lo e k sv m xs) (hk : ∀ c, sv.ownBlock = some c → w'.heap[c]? = w.heap[c]?) : w'.ownsRow lo e k sv m xs := by
  obtain ⟨h1, h2 | ⟨g, cap, cur, hv, hb, hc, rest⟩⟩ := h
  · exact ⟨h1, Or.inl h2⟩
  · subst hv
    exact ⟨h1, Or.inr ⟨g, cap, cur, rfl, hb, (hk g rfl).trans hc, rest⟩⟩
theorem owns_lo {e : TypeId} {lo lo' k m : Nat} {sv : Value} {xs : List Value} (h : w.ownsRow lo e k sv m xs) (hl : lo' ≤ lo) : w.ownsRow lo' e k sv m xs := by
  obtain ⟨h1, h2 | ⟨g, cap, cur, hv, hb, rest⟩⟩ := h
  · exact ⟨h1, Or.inl h2⟩
  · exact ⟨h1, Or.inr ⟨g, cap, cur, hv, by omega, rest⟩⟩
theorem owns_ge {e : TypeId} {lo k m : Nat} {sv : Value} {xs : List Value} (h : w.ownsRow lo e k sv m xs) : ∀ c, sv.ownBlock = some c → lo ≤ c := by
  obtain ⟨h1, ⟨rfl, _⟩ | ⟨g, cap, cur, rfl, hb, rest⟩⟩ := h
  · intro c hc; cases hc
  · intro c hc
    have : g = c := by simpa [Value.ownBlock] using hc
    omega
theorem ElemsR.keep {w' : World} {e : TypeId} {k lo hi : Nat} {z : Nat → Value} {sv : Value} {l : List δ} {xs : List Value} (h : ElemsR e k z R w lo hi sv l xs) (hR : SoundR R) (hk : ∀ c, lo ≤ c → c < hi → w'.heap[c]? = w.heap[c]?) : ElemsR e k z R w' lo hi sv l xs := by
  refine ⟨owns_keep h.row fun c hc => hk c (owns_ge h.row c hc) (h.top c hc), h.top, fun i d hd => ?_⟩
  obtain ⟨lo1, hi1, g, h1, h2, h3, h4, h5⟩ := h.each i d hd
  exact ⟨lo1, hi1, g, h1, h2, hR.keep h3 fun c a b => hk c (by omega) (by omega), h4, h5⟩
theorem ElemsR.wide {e : TypeId} {k lo hi lo' hi' : Nat} {z : Nat → Value} {sv : Value} {l : List δ} {xs : List Value} (h : ElemsR e k z R w lo hi sv l xs) (hl : lo' ≤ lo) (hh : hi ≤ hi') : ElemsR e k z R w lo' hi' sv l xs := by
  refine ⟨owns_lo h.row hl, fun c hc => Nat.lt_of_lt_of_le (h.top c hc) hh, fun i d hd => ?_⟩
  obtain ⟨lo1, hi1, g, h1, h2, h3, h4, h5⟩ := h.each i d hd
  exact ⟨lo1, hi1, g, by omega, by omega, h3, h4, h5⟩
/-- a list in cell o -/
def listR (e : TypeId) (k : Nat) (z : Nat → Value) (R : RelT δ) (o : Nat) : RelT (List δ) := fun l w lo hi f f' => ∃ sv xs, f' = put f o sv ∧ ElemsR e k z R w lo hi sv l xs
theorem sound_list {e : TypeId} {k o : Nat} {z : Nat → Value} (hR : SoundR R) : SoundR (listR e k z R o) :=
  ⟨fun ⟨sv, xs, h1, h2⟩ hk => ⟨sv, xs, h1, h2.keep hR hk⟩, fun ⟨sv, xs, h1, h2⟩ hl hh => ⟨sv, xs, h1, h2.wide hl hh⟩⟩
end
end WW
end
