/-
  The walks of what tells whether a request is done, of a mark, and of Done.
-/
import Derived.Test.YtgjdiliaiblfcaaKZIdx
import Derived.Test.YtgjdiliaiblfcaaKPlanX
import Derived.Test.YtgjdiliaiblfcaaKPlanG
import Derived.Test.YtgjdiliaiblfcaaKFPutB
import Derived.Test.YtgjdiliaiblfcaaKJCopy
import Derived.ArgAppend
import Derived.Maps.AppendAt
import Derived.Test.YtgjdiliaiblfcaaKFItem
import Derived.Test.YtgjdiliaiblfcaaKLNum
import Derived.Test.YtgjdiliaiblfcaaKEText
import Derived.Test.YtgjdiliaiblfcaaKJUnlike
import Derived.Test.YtgjdiliaiblfcaaKZTw
import Derived.Test.YtgjdiliaiblfcaaKJLawD
import Derived.Test.YtgjdiliaiblfcaaKJRow
section
open Go Go.RowKit
namespace FF
open JJ CC BB WW MM Go.Sort
theorem cellsR_one (l : List (Int × Int × ByteArray)) : ∀ u ∈ cellsR l, u.oneCell' = true := by
  intro u hu
  unfold cellsR at hu
  rw [List.mem_flatten] at hu
  obtain ⟨c, hc, hu⟩ := hu
  obtain ⟨x, _, rfl⟩ := List.mem_map.1 hc
  simp only [List.mem_cons, List.not_mem_nil, or_false] at hu
  rcases hu with rfl | rfl | rfl <;> rfl
/-- requests of the call's own -/
def NewReqs (w : World) (l : List (Int × Int × ByteArray)) (e : Ending) (w' : World) : Prop :=
  ∃ a0 cap, e = .returned (.slice a0 l.length cap) ∧ ReqsAt w' (.slice a0 l.length cap) l ∧ (∀ c, (Value.slice a0 l.length cap).ownBlock = some c → w.heap.size ≤ c) ∧ Below w.heap.size w w'
theorem reqs_keep {w w' : World} {v : Value} {l : List (Int × Int × ByteArray)} (h : ReqsAt w v l) (hs : w.heap.size ≤ w'.heap.size) (hb : ∀ c, v.ownBlock = some c → c < w.heap.size → w'.heap[c]? = w.heap[c]?) : ReqsAt w' v l := by
  obtain ⟨a0, cap, rfl, h | ⟨b, off, rfl, hl, hc⟩⟩ := h
  · exact ⟨a0, cap, rfl, Or.inl h⟩
  · refine ⟨_, cap, rfl, Or.inr ⟨b, off, rfl, Nat.lt_of_lt_of_le hl hs, fun i hi => ?_⟩⟩
    obtain ⟨h1, h2, h3⟩ := hc i hi
    have e := hb b rfl hl
    exact ⟨(World.cell?_of_block (w := w) (a := ⟨b, off + i * 3, none⟩) e).trans h1, (World.cell?_of_block (w := w) (a := ⟨b, off + i * 3 + 1, none⟩) e).trans h2, (World.cell?_of_block (w := w) (a := ⟨b, off + i * 3 + 2, none⟩) e).trans h3⟩
/-- a block in memory of the call's own -/
def CopyB (w : World) (v p j : Int) (k : ByteArray) (l : List (Int × List ByteArray)) (m : List (Int × Int × ByteArray)) (e : Ending) (w' : World) : Prop :=
  ∃ a0 cap a1 cap1, e = .returned (.agg #[.int .i64 v, .int .i64 p, .int .i64 j, .string k, .slice a0 l.length cap, .slice a1 m.length cap1]) ∧ SigsNew w.heap.size w' (.slice a0 l.length cap) l ∧
    ReqsAt w' (.slice a1 m.length cap1) m ∧ (∀ c, (Value.slice a1 m.length cap1).ownBlock = some c → w.heap.size ≤ c) ∧ Below w.heap.size w w'
theorem rowL6 (a b c d e f : Value) : (#[a, b, c, d, e, f] : Array Value) = row 6 (rowL [a, b, c, d, e, f]) := rfl
end FF
namespace Go.Proofs.Ytgjdiliaiblfcaa
open FF JJ CC WW BB MM Go.Lib Go.Sort
set_option maxRecDepth 100000 in
set_option maxHeartbeats 4000000 in
theorem rqclone_any (l : List (Int × Int × ByteArray)) (v : Value) (w : World) (h : ReqsAt w v l) (hs : l.length ≤ 100000) :
    Calls Try.prog 23 #[v] w (NewReqs w l) := by
  have HS := Lib.hid hs
  obtain ⟨a0, cap, rfl, hx⟩ := h
  have q22 : ∀ (w : World) (a : Option Addr) (n c n' c' : Nat), (binOp .eql 27 (.slice a n c) (.slice none n' c')).run Try.prog w = .ok (.bool a.isNone) w := fun w a n c n' c' => Lib.run_eql_slice_nil w _ 33 a n c n' c' (by kernel_rfl)
  obtain ⟨i0, hi, hz0, hz1, hz2⟩ : ∃ i, Try.prog.info? 33 = some i ∧ i.zero = some (.agg #[.int .i64 0, .int .i64 0, .string ⟨#[]⟩]) ∧ i.size = 3 ∧ i.bytes = 32 := by
    have h : (Try.prog.info? 33).map (fun i => (i.zero, i.size, i.bytes)) = some (some (.agg #[.int .i64 0, .int .i64 0, .string ⟨#[]⟩]), 3, 32) := by kernel_rfl
    rcases hi : Try.prog.info? 33 with _ | i
    · rw [hi] at h; cases h
    · rw [hi] at h
      simp only [Option.map_some, Option.some.injEq, Prod.mk.injEq] at h
      exact ⟨i, rfl, h.1, h.2.1, h.2.2⟩
  have HI := Lib.hid hi
  have HZ := Lib.hid (And.intro hz0 (And.intro hz1 hz2))
  have HX := Lib.hid hx
  clear hs hx hi hz0 hz1 hz2
  rcases a0 with _ | ad
  · have hL : l = [] := by
      rcases HX.out with h | ⟨b, o, h, _⟩
      · exact h
      · cases h
    subst hL
    go_enter Try.func23, Try.ntmps23
    go_wp2_with fail
    go_ret
    exact ⟨none, 0, rfl, ⟨none, 0, rfl, Or.inl rfl⟩, (fun c hc => by cases hc), Below.refl _ _⟩
  · have hread : ∀ j u, (cellsR l)[j]? = some u → w.cell? (ad.add j) = some u := fun j u hj => by
      rcases HX.out with h | ⟨b, o, h, hb, hc⟩
      · subst h; simp [cellsR] at hj
      · injection h with h
        subst h
        have hlt : j < l.length * 3 := by rw [← cellsR_len]; exact (List.getElem?_eq_some_iff.1 hj).1
        have e : (⟨b, o, none⟩ : Addr).add j = ⟨b, o + j, none⟩ := by unfold Addr.add; split <;> simp [*]
        rw [e]
        obtain ⟨h1, h2, h3⟩ := hc (j / 3) (by omega)
        obtain ⟨k1, k2, k3⟩ := cellsR_at l (j / 3) (by omega)
        have hm : j % 3 = 0 ∨ j % 3 = 1 ∨ j % 3 = 2 := by omega
        rcases hm with hm | hm | hm
        · have e2 : j = j / 3 * 3 := by omega
          rw [e2, k1] at hj
          rw [e2, ← hj]; exact h1
        · have e2 : j = j / 3 * 3 + 1 := by omega
          rw [e2, k2] at hj
          rw [e2, ← hj]; exact h2
        · have e2 : j = j / 3 * 3 + 2 := by omega
          rw [e2, k3] at hj
          rw [e2, ← hj]; exact h3
    have HR := Lib.hid hread
    clear hread
    go_enter Try.func23, Try.ntmps23
    go_wp2_with (at_builtin; refine wpList_append_own _ rfl _ _ 27 rfl w.heap.size 33 i0 (.agg #[.int .i64 0, .int .i64 0, .string ⟨#[]⟩]) 3 32 (by kernel_rfl) HI.out HZ.out.1 HZ.out.2.1 HZ.out.2.2 rfl (by decide) _ _ _ rfl (World.ownsRow_made w #[] 0 (Nat.le_refl _) (Nat.zero_le _) rfl) ad l.length cap (cellsR l) rfl ?qc1 ?qc2 ?qc3 ?qc4 ?qc5 ?qc6 ?_)
    case qc1 => exact cellsR_len l
    case qc2 => intro j u hj; exact Lib.cell?_alloc_some _ (HR.out j u hj)
    case qc3 => exact cellsR_one l
    case qc4 => have := HS.out; unfold maxLen; omega
    case qc5 => have := HS.out; omega
    case qc6 => simp
    intro v' w1 hown hgrow hnil
    have hown : w1.ownsRow w.heap.size 33 3 v' l.length (cellsR l) := by simpa using hown
    obtain ⟨a', c', rfl⟩ : ∃ a' c', v' = .slice a' l.length c' := by
      rcases hown.2 with ⟨h, h0⟩ | ⟨q, cp, cur, rfl, _⟩
      · exact ⟨none, 0, by rw [h, h0]⟩
      · exact ⟨_, _, rfl⟩
    have hO := Lib.hid (reqs_of_own hown)
    have hQ := Lib.hid (fun c hc => (hown.lt c hc).1)
    have hG := Lib.hid (((Below.refl _ w).alloc (Nat.le_refl _) _).grown hgrow (by simp) (by intro k hk; simp [Value.ownBlock] at hk; omega))
    clear hown hgrow hnil
    go_wp2_with fail
    go_ret
    exact ⟨a', c', rfl, hO.out, hQ.out, hG.out⟩
theorem set6 {w : World} {a : Nat} {f : Nat → Value} (h : Blk w a 6 f) (u0 u1 u2 u3 u4 u5 : Value) :
    Blk ((((((w.setCell ⟨a, 0, none⟩ u0).setCell ⟨a, 1, none⟩ u1).setCell ⟨a, 2, none⟩ u2).setCell ⟨a, 3, none⟩ u3).setCell ⟨a, 4, none⟩ u4).setCell ⟨a, 5, none⟩ u5) a 6 (rowL [u0, u1, u2, u3, u4, u5]) ∧
    Upd a w ((((((w.setCell ⟨a, 0, none⟩ u0).setCell ⟨a, 1, none⟩ u1).setCell ⟨a, 2, none⟩ u2).setCell ⟨a, 3, none⟩ u3).setCell ⟨a, 4, none⟩ u4).setCell ⟨a, 5, none⟩ u5) := by
  refine ⟨((((((h.set 0 u0).set 1 u1).set 2 u2).set 3 u3).set 4 u4).set 5 u5).congr _ fun i hi => ?_, ((((((Upd.refl a w).trans (Upd.set _ _ _ _)).trans (Upd.set _ _ _ _)).trans (Upd.set _ _ _ _)).trans (Upd.set _ _ _ _)).trans (Upd.set _ _ _ _)).trans (Upd.set _ _ _ _)⟩
  match i, hi with
  | 0, _ => rfl
  | 1, _ => rfl
  | 2, _ => rfl
  | 3, _ => rfl
  | 4, _ => rfl
  | 5, _ => rfl
end Go.Proofs.Ytgjdiliaiblfcaa
end
section
open Go Go.RowKit
namespace FF
open WW BB MM
theorem ent_fresh {F : Fo} {N : List Iv} (hn : N.map Prod.fst = F.nodes) {x : It} (hx : Fresh F x) : entF F N x.1 = none := by
  unfold entF
  rw [Option.map_eq_none_iff, List.find?_eq_none]
  intro y hy e
  exact hx.2.2 y.1 (List.mem_append_left _ (hn ▸ List.mem_map.2 ⟨y, hy, rfl⟩)) (by simpa using e)
theorem ent_more {F : Fo} (hF : WF F) {N : List Iv} (hn : N.map Prod.fst = F.nodes) {x : Iv} (hx : Fresh F x.1) (hp : hasF F (parI x.1.2) = true) (h4 : F.nodes.length < 400) (h : ByteArray) :
    setM (entF F N) x.1.1 (mkS x (heightF F (parI x.1.2) + 1)) h = entF (moreF F x.1) (N ++ [x]) h := by
  have hw := more_wf hF hx hp h4
  unfold setM
  by_cases e : h = x.1.1
  · subst e
    rw [if_pos rfl]
    unfold entF
    have hnone : N.find? (fun y => decide (y.1.1 = x.1.1)) = none := by
      have := ent_fresh hn hx
      unfold entF at this
      rwa [Option.map_eq_none_iff] at this
    rw [List.find?_append, hnone]
    simp only [Option.none_or, List.find?_cons, decide_true, Option.map_some]
    rw [more_new hF hw hp]
  · rw [if_neg e]
    unfold entF
    rw [List.find?_append]
    cases hf : N.find? (fun y => decide (y.1.1 = h)) with
    | none =>
      rw [Option.none_or, List.find?_cons, show decide (x.1.1 = h) = false from decide_eq_false fun c => e c.symm]; rfl
    | some y =>
      obtain ⟨hy, hyh⟩ := find_mem hf
      rw [Option.some_or, Option.map_some, Option.map_some, more_old hF hw ((has_iff F h).2 (Or.inr ⟨y.1, hn ▸ List.mem_map.2 ⟨y, hy, rfl⟩, hyh⟩))]
theorem Keeps.upd' {A : Nat → Prop} {c : Nat} {w w' : World} (h : Upd c w w') (hA : ¬ A c) : Keeps A w w' := Keeps.upd h fun _ hb e => hA (e ▸ hb)
end FF
namespace Go.Proofs.Ytgjdiliaiblfcaa
open FF JJ CC MM WW BB
section
variable {B : Nat} {w w' : World} {g : Nat} {F : Fo} {rt : ByteArray} {mv ov : Value} {N O : List Iv} {C : Nat → Prop}
end
end Go.Proofs.Ytgjdiliaiblfcaa
end
section
open Go Go.RowKit
namespace FF
open WW BB
theorem run_clearK {P : Program} (w : World) (t e ty : TypeId) (z : Value) (ht : P.underlying t = some (.slice e)) (hv : ∀ w, (zeroValue e).run P w = .ok z w) (b o n c m : Nat) (hn : 0 < n) (hm : (Builtin.zeroCells z.cells n).toList.length = m)
    (h1 : ∀ v ∈ (Builtin.zeroCells z.cells n).toList, v.oneCell' = true)
    (hc : ∀ j, j < m → (w.cell? ⟨b, o + j, none⟩).isSome = true) (hf : ∀ j, j < m → w.frozen? ⟨b, o + j, none⟩ = false) :
    (Builtin.clear_ #[t] ty #[.slice (some ⟨b, o, none⟩) n c]).run P w = .ok (.tuple #[]) (w.setCells b o (Builtin.zeroCells z.cells n).toList) := by
  have hst := run_storeCells_cells (P := P) b o (Builtin.zeroCells z.cells n).toList 0 w (by simpa [hm] using hc) (by simpa [hm] using hf) h1
  simp only [Nat.add_zero] at hst
  obtain ⟨k, rfl⟩ : ∃ k, n = k + 1 := ⟨n - 1, by omega⟩
  simp [Builtin.clear_, run_underlying ht, hv, hst]
theorem hold_app {P : Program} {ops : Array Oper} {Q : Exit → Act → World → Prop} {a : Act} {w : World} {rest : List Oper} {o : Oper} {d s : Operand} {t u : TypeId} (_ho : o.op = .call { callee := .builtin .append, args := #[d, s], argTypes := #[t, u] }) (h : Held (wpList P ops Q (o :: rest) a w)) : wpList P ops Q (o :: rest) a w := h
theorem hold_clear {P : Program} {ops : Array Oper} {Q : Exit → Act → World → Prop} {a : Act} {w : World} {rest : List Oper} {o : Oper} {d : Operand} {t : TypeId} (_ho : o.op = .call { callee := .builtin .clear, args := #[d], argTypes := #[t] }) (h : Held (wpList P ops Q (o :: rest) a w)) : wpList P ops Q (o :: rest) a w := h
/-- cells from o on are written: those ahead of o stay -/
theorem cells_past (b : Nat) (t : TypeId) : ∀ (vs : List Value) (o : Nat) (w : World) (cur : Array Value), w.heap[b]? = some (.cells cur t (0, 0)) →
    ∃ cur', (w.setCells b o vs).heap[b]? = some (.cells cur' t (0, 0)) ∧ cur'.size = cur.size ∧ ∀ j, j < o → cur'[j]? = cur[j]?
  | [], _, _, cur, h => ⟨cur, h, rfl, fun _ _ => rfl⟩
  | v :: r, o, w, cur, h => by
    have h1 : (w.setCell ⟨b, o, none⟩ v).heap[b]? = some (.cells (cur.setIfInBounds o v) t (0, 0)) := by
      unfold World.setCell
      simp only [Array.getElem?_modify, if_true, h, Option.map_some]
      rfl
    obtain ⟨cur', k1, k2, k3⟩ := cells_past b t r (o + 1) _ _ h1
    refine ⟨cur', k1, by rw [k2]; simp, fun j hj => ?_⟩
    rw [k3 j (by omega), Array.getElem?_setIfInBounds, if_neg (by omega)]
theorem keepC (b : Nat) : ∀ (vs : List Value) (o : Nat) (w : World), Keep b w (w.setCells b o vs)
  | [], _, w => Keep.refl b w
  | v :: r, o, w => (Upd.set w b o v).keep.trans (keepC b r (o + 1) _)
theorem take_same {a b : Array Value} {n : Nat} (h : ∀ j, j < n → a[j]? = b[j]?) : a.toList.take n = b.toList.take n := by
  apply List.ext_getElem?
  intro j
  by_cases hj : j < n
  · rw [List.getElem?_take_of_lt hj, List.getElem?_take_of_lt hj, Array.getElem?_toList, Array.getElem?_toList]; exact h j hj
  · rw [List.getElem?_take_eq_none (by omega), List.getElem?_take_eq_none (by omega)]
theorem cellsV_take (L : List Iv) (i : Nat) : (cellsV L).take (i * 7) = cellsV (L.take i) := by
  induction L generalizing i with
  | nil => simp [cellsV]
  | cons x r ih =>
    cases i with
    | zero => simp [cellsV]
    | succ i =>
      have hx : (encV x).length = 7 := rfl
      show (encV x ++ cellsV r).take ((i + 1) * 7) = encV x ++ cellsV (r.take i)
      rw [List.take_append, List.take_of_length_le (by rw [hx]; omega), hx, show (i + 1) * 7 - 7 = i * 7 by omega, ih]
theorem cellsV_drop (L : List Iv) (i : Nat) : (cellsV L).drop (i * 7) = cellsV (L.drop i) := by
  induction L generalizing i with
  | nil => simp [cellsV]
  | cons x r ih =>
    cases i with
    | zero => simp
    | succ i =>
      have hx : (encV x).length = 7 := rfl
      show (encV x ++ cellsV r).drop ((i + 1) * 7) = cellsV (r.drop i)
      rw [List.drop_append, List.drop_eq_nil_of_le (by rw [hx]; omega), hx, show (i + 1) * 7 - 7 = i * 7 by omega, ih, List.nil_append]
theorem cellsV_app (L M : List Iv) : cellsV (L ++ M) = cellsV L ++ cellsV M := by unfold cellsV; rw [List.map_append, List.flatten_append]
theorem cellsV_erase (L : List Iv) (i : Nat) : cellsV (L.eraseIdx i) = (cellsV L).take (i * 7) ++ (cellsV L).drop ((i + 1) * 7) := by
  rw [List.eraseIdx_eq_take_drop_succ, cellsV_app, cellsV_take, cellsV_drop]
end FF
namespace Go.Proofs.Ytgjdiliaiblfcaa
open FF JJ CC MM WW BB
end Go.Proofs.Ytgjdiliaiblfcaa
end
section
open Go Go.RowKit
namespace FF
open WW BB
/-- strings in a row of the call's own, so many orphans being through -/
structure LkSt (w0 : World) (e : TypeId) (out : List ByteArray) (x : Value) (wr : World) : Prop where
  below : Below w0.heap.size w0 wr
  row : wr.ownsRow w0.heap.size e 1 x out.length (out.map Value.string)
theorem LkSt.shape {w0 : World} {e : TypeId} {out : List ByteArray} {x : Value} {wr : World} (h : LkSt w0 e out x wr) : ∃ a c, x = .slice a out.length c := by
  rcases h.row.2 with ⟨rfl, h0⟩ | ⟨q, cp, cur, rfl, _⟩
  · exact ⟨none, 0, by rw [h0]⟩
  · exact ⟨_, _, rfl⟩
theorem LkSt.on {w0 : World} {e : TypeId} {out : List ByteArray} {x : Value} {wr w2 : World} (h : LkSt w0 e out x wr) (hb : Below wr.heap.size wr w2) : LkSt w0 e out x w2 :=
  ⟨h.below.trans (hb.mono h.below.size), row_keep h.row fun c hc => hb.block c (h.row.lt c hc).2⟩
theorem LkSt.add {w0 : World} {e : TypeId} {out : List ByteArray} {x u' : Value} {wr w3 : World} (h : LkSt w0 e out x wr) (p : ByteArray) (hr : w3.ownsRow w0.heap.size e 1 u' (out.length + 1) (out.map Value.string ++ [.string p])) (hg : wr.grownBy w3 x.ownBlock) : LkSt w0 e (out ++ [p]) u' w3 :=
  ⟨h.below.grown hg h.below.size fun k hk => (h.row.lt k hk).1, by rw [List.length_append, List.map_append]; exact hr⟩
theorem LkSt.nil (w : World) (e : TypeId) : LkSt w e [] (.slice none 0 0) w := ⟨Below.refl _ _, World.ownsRow_nil _ _ _ _⟩
theorem map_take_snoc (O : List Iv) (i : Nat) (hi : i < O.length) : (O.take (i + 1)).map (fun z => z.1.1) = (O.take i).map (fun z => z.1.1) ++ [(O.getD i v0).1.1] := by
  rw [List.take_add_one, List.getElem?_eq_getElem hi, List.map_append, getD_at hi]; rfl
end FF
namespace Go.Proofs.Ytgjdiliaiblfcaa
open FF JJ CC MM WW BB
end Go.Proofs.Ytgjdiliaiblfcaa
end
section
open Go Go.RowKit
namespace FF
open JJ CC WW BB MM
/-- a block with its two slices -/
abbrev Bv := BlockD × Value × Value
def bd0 : BlockD := (((0, 0), ((0, ⟨#[]⟩), [])), [])
def vb0 : Bv := (bd0, .slice none 0 0, .slice none 0 0)
def encB (x : Bv) : List Value := [.int .i64 (viewI x.1), .int .i64 (propI x.1), .int .i64 (jvI x.1), .string (parI x.1), x.2.1, x.2.2]
def InnB (w : World) (x : Bv) : Prop := SigsAt w x.2.1 (sigsI x.1) ∧ ReqsAt w x.2.2 x.1.2
theorem InnB.later {w w' : World} {x : Bv} (h : InnB w x) (hb : Below w.heap.size w w') : InnB w' x := ⟨h.1.later hb, h.2.later hb⟩
/-- v is a slice of the blocks L -/
def BvAt (w : World) (v : Value) (L : List Bv) : Prop :=
  ∃ a0 cap, v = .slice a0 L.length cap ∧ (L = [] ∨ ∃ b off, a0 = some ⟨b, off, none⟩ ∧ b < w.heap.size ∧
    ∀ i, i < L.length → (∀ j u, (encB (L.getD i vb0))[j]? = some u → w.cell? ⟨b, off + i * 6 + j, none⟩ = some u) ∧ InnB w (L.getD i vb0))
theorem BvAt.later {w w' : World} {v : Value} {L : List Bv} (h : BvAt w v L) (hb : Below w.heap.size w w') : BvAt w' v L := by
  obtain ⟨a0, cap, rfl, h | ⟨b, off, rfl, hl, hc⟩⟩ := h
  · exact ⟨a0, cap, rfl, Or.inl h⟩
  · refine ⟨_, cap, rfl, Or.inr ⟨b, off, rfl, Nat.lt_of_lt_of_le hl hb.size, fun i hi => ?_⟩⟩
    obtain ⟨h1, h2⟩ := hc i hi
    exact ⟨fun j u hu => (hb.cell (p := ⟨b, off + i * 6 + j, none⟩) hl).trans (h1 j u hu), h2.later hb⟩
theorem bv_shape {w : World} {v : Value} {L : List Bv} (h : BvAt w v L) : ∃ a c, v = .slice a L.length c := by
  obtain ⟨a, c, rfl, _⟩ := h; exact ⟨a, c, rfl⟩
/-- where the blocks lie -/
theorem bv_at {w : World} {a0 : Option Addr} {n c : Nat} {L : List Bv} (h : BvAt w (.slice a0 n c) L) (i : Nat) (hi : i < L.length) : ∃ b off, a0 = some ⟨b, off, none⟩ ∧ b < w.heap.size ∧ n = L.length ∧
    ∀ wr, Below w.heap.size w wr → ∀ i, i < L.length → wr.cell? ⟨b, off + i * 6, none⟩ = some (.int .i64 (viewI (L.getD i vb0).1)) ∧ wr.cell? ⟨b, off + i * 6 + 1, none⟩ = some (.int .i64 (propI (L.getD i vb0).1)) ∧ wr.cell? ⟨b, off + i * 6 + 2, none⟩ = some (.int .i64 (jvI (L.getD i vb0).1)) ∧
      wr.cell? ⟨b, off + i * 6 + 3, none⟩ = some (.string (parI (L.getD i vb0).1)) ∧ wr.cell? ⟨b, off + i * 6 + 4, none⟩ = some (L.getD i vb0).2.1 ∧ wr.cell? ⟨b, off + i * 6 + 5, none⟩ = some (L.getD i vb0).2.2 ∧ InnB wr (L.getD i vb0) := by
  obtain ⟨a1, c1, he, h | ⟨b, off, h1, hl, hc⟩⟩ := h
  · subst h; simp at hi
  · injection he with e1 e2 _
    subst e1 h1
    refine ⟨b, off, rfl, hl, e2, fun wr hb i hi => ?_⟩
    obtain ⟨h1, h2⟩ := hc i hi
    have k : ∀ j u, (encB (L.getD i vb0))[j]? = some u → wr.cell? ⟨b, off + i * 6 + j, none⟩ = some u := fun j u hu => (hb.cell (p := ⟨b, off + i * 6 + j, none⟩) hl).trans (h1 j u hu)
    exact ⟨k 0 _ rfl, k 1 _ rfl, k 2 _ rfl, k 3 _ rfl, k 4 _ rfl, k 5 _ rfl, h2.later hb⟩
def cellsB (L : List Bv) : List Value := (L.map encB).flatten
theorem cellsB_snoc (L : List Bv) (x : Bv) : cellsB (L ++ [x]) = cellsB L ++ encB x := by unfold cellsB; rw [List.map_append, List.flatten_append]; simp
theorem cellsB_len (L : List Bv) : (cellsB L).length = L.length * 6 := by
  induction L with
  | nil => rfl
  | cons x r ih => show (encB x ++ cellsB r).length = _; rw [List.length_append, ih, List.length_cons]; simp [encB]; omega
theorem cellsB_at : ∀ (L : List Bv) (i j : Nat) (u : Value), i < L.length → (encB (L.getD i vb0))[j]? = some u → (cellsB L)[i * 6 + j]? = some u
  | [], i, j, u, h, _ => by simp at h
  | x :: r, 0, j, u, _, hu => by
    show (encB x ++ cellsB r)[0 * 6 + j]? = some u
    have hu' : (encB x)[j]? = some u := hu
    have hj : j < (encB x).length := (List.getElem?_eq_some_iff.1 hu').1
    rw [Nat.zero_mul, Nat.zero_add, List.getElem?_append_left hj]; exact hu'
  | x :: r, i + 1, j, u, h, hu => by
    show (encB x ++ cellsB r)[(i + 1) * 6 + j]? = some u
    have hx : (encB x).length = 6 := rfl
    rw [show (i + 1) * 6 + j = 6 + (i * 6 + j) by omega, List.getElem?_append_right (by omega), hx, Nat.add_sub_cancel_left]
    exact cellsB_at r i j u (by simpa using h) (by simpa [List.getD] using hu)
theorem bv_of_own {w : World} {B : Nat} {e : TypeId} {v : Value} {L : List Bv} (h : w.ownsRow B e 6 v L.length (cellsB L)) (hi : ∀ x ∈ L, InnB w x) : BvAt w v L := by
  rcases h.2 with ⟨rfl, h0⟩ | ⟨g, cap, cur, rfl, hg, hh, hn, hcm, hsz, htk⟩
  · exact ⟨none, 0, by rw [h0], Or.inl (List.eq_nil_of_length_eq_zero h0)⟩
  · have hcell : ∀ j u, j < L.length * 6 → (cellsB L)[j]? = some u → w.cell? ⟨g, j, none⟩ = some u := fun j u hj hu => by
      rw [← htk, List.getElem?_take_of_lt hj, Array.getElem?_toList] at hu
      unfold World.cell?; rw [hh]; simpa using hu
    refine ⟨_, cap, rfl, Or.inr ⟨g, 0, rfl, (Array.getElem?_eq_some_iff.1 hh).1, fun i hil => ⟨fun j u hu => ?_, ?_⟩⟩⟩
    · have hj : j < 6 := (List.getElem?_eq_some_iff.1 hu).1
      rw [Nat.zero_add]
      exact hcell _ _ (by omega) (cellsB_at L i j u hil hu)
    · exact hi _ (by rw [getD_at hil]; exact List.getElem_mem hil)
/-- v is a slice of threes of bytes -/
def TriAt (w : World) (v : Value) (l : List (Nat × Nat × Nat)) : Prop :=
  ∃ a0 cap, v = .slice a0 l.length cap ∧ (l = [] ∨ ∃ b off, a0 = some ⟨b, off, none⟩ ∧ b < w.heap.size ∧
    ∀ i, i < l.length → w.cell? ⟨b, off + i * 3, none⟩ = some (.int .u8 ((l.getD i (0, 0, 0)).1 : Int)) ∧ w.cell? ⟨b, off + i * 3 + 1, none⟩ = some (.int .u8 ((l.getD i (0, 0, 0)).2.1 : Int)) ∧ w.cell? ⟨b, off + i * 3 + 2, none⟩ = some (.int .u8 ((l.getD i (0, 0, 0)).2.2 : Int)))
theorem TriAt.later {w w' : World} {v : Value} {l : List (Nat × Nat × Nat)} (h : TriAt w v l) (hb : Below w.heap.size w w') : TriAt w' v l := by
  obtain ⟨a0, cap, rfl, h | ⟨b, off, rfl, hl, hc⟩⟩ := h
  · exact ⟨a0, cap, rfl, Or.inl h⟩
  · refine ⟨_, cap, rfl, Or.inr ⟨b, off, rfl, Nat.lt_of_lt_of_le hl hb.size, fun i hi => ?_⟩⟩
    obtain ⟨h1, h2, h3⟩ := hc i hi
    exact ⟨(hb.cell (p := ⟨b, off + i * 3, none⟩) hl).trans h1, (hb.cell (p := ⟨b, off + i * 3 + 1, none⟩) hl).trans h2, (hb.cell (p := ⟨b, off + i * 3 + 2, none⟩) hl).trans h3⟩
/-- one block more of a chain -/
def nextB (out : List BlockD) (i : Nat) (t : Nat × Nat × Nat) : BlockD :=
  let q := t.2.1 % (i + 1)
  let cv := if 0 < q then viewI (out.getD (q - 1) bd0) else 0
  let cd := if 0 < q then digI (out.getD (q - 1) bd0) else firstD
  (((cv + 1 + ((t.1 % 4 : Nat) : Int), 0), ((cv, cd), [])), [(((t.2.2 % 4 : Nat) : Int), 1 + (i : Int), ⟨#[]⟩)])
def chainL (l : List (Nat × Nat × Nat)) : Nat → List BlockD
  | 0 => []
  | i + 1 => chainL l i ++ [nextB (chainL l i) i (l.getD i (0, 0, 0))]
theorem chain_len (l : List (Nat × Nat × Nat)) : ∀ i, (chainL l i).length = i
  | 0 => rfl
  | i + 1 => by rw [chainL, List.length_append, chain_len l i]; rfl
theorem chain_views (l : List (Nat × Nat × Nat)) : ∀ (i j : Nat), 0 ≤ viewI ((chainL l i).getD j bd0) ∧ viewI ((chainL l i).getD j bd0) ≤ 4 * (i : Int)
  | 0, j => by simp [chainL, bd0, viewI]
  | i + 1, j => by
    rw [chainL]
    by_cases hj : j < i
    · rw [List.getD_eq_getElem?_getD, List.getElem?_append_left (by rw [chain_len]; exact hj), ← List.getD_eq_getElem?_getD]
      have := chain_views l i j
      omega
    · by_cases e : j = i
      · subst e
        rw [List.getD_eq_getElem?_getD, List.getElem?_append_right (by rw [chain_len]; exact Nat.le_refl _), chain_len, Nat.sub_self]
        show 0 ≤ viewI (nextB _ _ _) ∧ viewI (nextB _ _ _) ≤ _
        unfold nextB viewI
        simp only
        split
        · have h1 := chain_views l j ((l.getD j (0, 0, 0)).2.1 % (j + 1) - 1)
          unfold viewI at h1
          omega
        · omega
      · rw [List.getD_eq_getElem?_getD, List.getElem?_eq_none (by simp [chain_len]; omega)]
        simp [bd0, viewI]; omega
theorem chain_small (l : List (Nat × Nat × Nat)) : ∀ i, ∀ x ∈ chainL l i, SmallI x ∧ sigsI x = [] ∧ propI x = 0
  | 0, x, hx => by cases hx
  | i + 1, x, hx => by
    rcases List.mem_append.1 hx with hx | hx
    · exact chain_small l i x hx
    · obtain rfl : x = nextB (chainL l i) i (l.getD i (0, 0, 0)) := by simpa using hx
      refine ⟨⟨?_, ⟨by show (0 : Nat) ≤ 1000; omega, by show (0 : Nat) ≤ 500000; omega, fun j hj => absurd hj (Nat.not_lt_zero j)⟩, ⟨by show (1 : Nat) ≤ 1000; omega, by show (12 : Nat) ≤ 500000; omega, fun j hj => ?_⟩⟩, rfl, rfl⟩
      · unfold nextB parI
        simp only
        split
        · rw [show (digI _).size = 32 from digD_size _ _ _ _ _]; omega
        · rw [firstD_size]; omega
      · obtain rfl : j = 0 := by have : j < 1 := hj; omega
        show (0 : Nat) ≤ 500000; omega
theorem own_apart' {e e' : TypeId} {w : World} {B B' c c' : Nat} {v v' : Value} {n n' : Nat} {xs xs' : List Value} (h : w.ownsRow B e c v n xs) (h' : w.ownsRow B' e' c' v' n' xs') (hne : e ≠ e') : ∀ b, v'.ownBlock = some b → some b ≠ v.ownBlock := by
  intro b hb he
  rcases h.2 with ⟨rfl, _⟩ | ⟨g, cap, cur, rfl, _, hh, _⟩
  · cases he
  · rcases h'.2 with ⟨rfl, _⟩ | ⟨g', cap', cur', rfl, _, hh', _⟩
    · cases hb
    · simp only [Value.ownBlock, Option.some.injEq] at hb he
      have hgg : g' = g := by omega
      rw [hgg, hh] at hh'
      injection hh' with hh'
      injection hh' with _ h2 _
      exact hne h2
/-- the chain so far: a row of blocks, each one's request in a row of its own -/
structure ChSt (w0 : World) (tB tQ : TypeId) (L : List Bv) (x : Value) (wr : World) : Prop where
  below : Below w0.heap.size w0 wr
  row : wr.ownsRow w0.heap.size tB 6 x L.length (cellsB L)
  reqs : ∀ y ∈ L, y.2.1 = .slice none 0 0 ∧ sigsI y.1 = [] ∧ wr.ownsRow w0.heap.size tQ 3 y.2.2 y.1.2.length (cellsR y.1.2)
theorem ChSt.on {w0 : World} {tB tQ : TypeId} {L : List Bv} {x : Value} {wr w2 : World} (h : ChSt w0 tB tQ L x wr) (hb : Below wr.heap.size wr w2) : ChSt w0 tB tQ L x w2 :=
  ⟨h.below.trans (hb.mono h.below.size), row_keep h.row fun c hc => hb.block c (h.row.lt c hc).2, fun y hy => ⟨(h.reqs y hy).1, (h.reqs y hy).2.1, row_keep (h.reqs y hy).2.2 fun c hc => hb.block c ((h.reqs y hy).2.2.lt c hc).2⟩⟩
theorem ChSt.inn {w0 : World} {tB tQ : TypeId} {L : List Bv} {x : Value} {wr : World} (h : ChSt w0 tB tQ L x wr) : ∀ y ∈ L, InnB wr y := fun y hy => by
  obtain ⟨h1, h2, h3⟩ := h.reqs y hy
  exact ⟨by rw [h1, h2]; exact ⟨none, 0, rfl, Or.inl rfl⟩, reqs_of_own h3⟩
theorem ChSt.bv {w0 : World} {tB tQ : TypeId} {L : List Bv} {x : Value} {wr : World} (h : ChSt w0 tB tQ L x wr) : BvAt wr x L := bv_of_own h.row h.inn
theorem ChSt.shape {w0 : World} {tB tQ : TypeId} {L : List Bv} {x : Value} {wr : World} (h : ChSt w0 tB tQ L x wr) : ∃ a c, x = .slice a L.length c := bv_shape h.bv
theorem ChSt.add {w0 : World} {tB tQ : TypeId} (ht : tB ≠ tQ) {L : List Bv} {x u' : Value} {wr w3 : World} (h : ChSt w0 tB tQ L x wr) (y : Bv) (hy : y.2.1 = .slice none 0 0 ∧ sigsI y.1 = [] ∧ wr.ownsRow w0.heap.size tQ 3 y.2.2 y.1.2.length (cellsR y.1.2))
    (hr : w3.ownsRow w0.heap.size tB 6 u' (L.length + 1) (cellsB L ++ encB y)) (hg : wr.grownBy w3 x.ownBlock) : ChSt w0 tB tQ (L ++ [y]) u' w3 := by
  have hk : ∀ z : Bv, wr.ownsRow w0.heap.size tQ 3 z.2.2 z.1.2.length (cellsR z.1.2) → w3.ownsRow w0.heap.size tQ 3 z.2.2 z.1.2.length (cellsR z.1.2) := fun z hz =>
    row_keep hz fun c hc => hg.block c (hz.lt c hc).2 (own_apart' h.row hz ht c hc)
  refine ⟨h.below.grown hg h.below.size fun k hk => (h.row.lt k hk).1, by rw [List.length_append, List.length_singleton, cellsB_snoc]; exact hr, fun z hz => ?_⟩
  rcases List.mem_append.1 hz with hz | hz
  · exact ⟨(h.reqs z hz).1, (h.reqs z hz).2.1, hk z (h.reqs z hz).2.2⟩
  · obtain rfl : z = y := by simpa using hz
    exact ⟨hy.1, hy.2.1, hk z hy.2.2⟩
theorem ChSt.upd {w0 : World} {tB tQ : TypeId} {L : List Bv} {x : Value} {wr w2 : World} {y : Nat} (h : ChSt w0 tB tQ L x wr) (hu : Upd y wr w2) (hy : w0.heap.size ≤ y) (h1 : ∀ c, x.ownBlock = some c → c ≠ y) (h2 : ∀ z ∈ L, ∀ c, z.2.2.ownBlock = some c → c ≠ y) : ChSt w0 tB tQ L x w2 :=
  ⟨h.below.trans (hu.below hy), row_keep h.row fun c hc => hu.block c (h1 c hc), fun z hz => ⟨(h.reqs z hz).1, (h.reqs z hz).2.1, row_keep (h.reqs z hz).2.2 fun c hc => hu.block c (h2 z hz c hc)⟩⟩
theorem bmap_getD (L : List Bv) (i : Nat) (h : i < L.length) : (L.map Prod.fst).getD i bd0 = (L.getD i vb0).1 := by
  simp [List.getD, List.getElem?_eq_getElem h]
theorem gset3 {w : World} {a : Nat} {f : Nat → Value} (h : Blk w a 3 f) (u0 u1 u2 : Value) :
    Blk (((w.setCell ⟨a, 0, none⟩ u0).setCell ⟨a, 1, none⟩ u1).setCell ⟨a, 2, none⟩ u2) a 3 (rowL [u0, u1, u2]) ∧ Upd a w (((w.setCell ⟨a, 0, none⟩ u0).setCell ⟨a, 1, none⟩ u1).setCell ⟨a, 2, none⟩ u2) := by
  refine ⟨(((h.set 0 u0).set 1 u1).set 2 u2).congr _ fun i hi => ?_, (((Upd.refl a w).trans (Upd.set _ _ _ _)).trans (Upd.set _ _ _ _)).trans (Upd.set _ _ _ _)⟩
  match i, hi with
  | 0, _ => rfl
  | 1, _ => rfl
  | 2, _ => rfl
theorem ChSt.nil (w : World) (tB tQ : TypeId) : ChSt w tB tQ [] (.slice none 0 0) w := ⟨Below.refl _ _, World.ownsRow_nil _ _ _ _, fun y hy => by cases hy⟩
end FF
namespace Go.Proofs.Ytgjdiliaiblfcaa
open FF JJ CC MM WW BB
end Go.Proofs.Ytgjdiliaiblfcaa
end
section
open Go Go.RowKit
namespace TT
open WW BB FF
/-- the cells of a slice of blocks, one behind the other -/
theorem bv_flat {w w' : World} {a0 : Option Addr} {n c : Nat} {L : List Bv} (h : BvAt w (.slice a0 n c) L) (hb : Below w.heap.size w w') : ∀ a, a0 = some a → ∀ k u, (cellsB L)[k]? = some u → w'.cell? (a.add k) = some u := by
  intro a ha k u hu
  obtain ⟨a1, c1, he, h | ⟨b, off, h1, hl, hc⟩⟩ := h
  · subst h; simp [cellsB] at hu
  · injection he with e1 _ _
    rw [ha, h1] at e1
    injection e1 with e1
    subst e1
    have hk : k < L.length * 6 := by rw [← cellsB_len]; exact (List.getElem?_eq_some_iff.1 hu).1
    have hi : k / 6 < L.length := by omega
    have hj : k % 6 < (encB (L.getD (k / 6) vb0)).length := by show k % 6 < 6; omega
    have h2 := cellsB_at L (k / 6) (k % 6) _ hi (List.getElem?_eq_getElem hj)
    rw [show k / 6 * 6 + k % 6 = k by omega, hu] at h2
    injection h2 with h2
    have h3 := (hc (k / 6) hi).1 (k % 6) _ (List.getElem?_eq_getElem hj)
    have h4 : (⟨b, off, none⟩ : Addr).add k = ⟨b, off + k, none⟩ := by unfold Addr.add; split <;> simp [*]
    rw [h4, (hb.cell (p := ⟨b, off + k, none⟩) hl), h2, ← h3]
    congr 2; omega
theorem bv_none {w : World} {a0 : Option Addr} {n c : Nat} {L : List Bv} (h : BvAt w (.slice a0 n c) L) (h0 : a0 = none) : n = 0 := by
  obtain ⟨a1, c1, he, h | ⟨b, off, h1, _⟩⟩ := h
  · injection he with _ e2 _; subst h; exact e2
  · injection he with e1 _ _; rw [h0, h1] at e1; cases e1
theorem encB_one {w : World} {x : Bv} (h : InnB w x) : ∀ u ∈ encB x, u.oneCell' = true := by
  obtain ⟨a1, c1, h1⟩ := sl_of_sigs h.1
  obtain ⟨a2, c2, h2⟩ := sl_of_reqs h.2
  intro u hu
  unfold encB at hu
  rw [h1, h2] at hu
  simp only [List.mem_cons, List.not_mem_nil, or_false] at hu
  rcases hu with rfl | rfl | rfl | rfl | rfl | rfl <;> rfl
theorem cellsB_one {w : World} {L : List Bv} (h : ∀ x ∈ L, InnB w x) : ∀ u ∈ cellsB L, u.oneCell' = true := by
  intro u hu
  unfold cellsB at hu
  rw [List.mem_flatten] at hu
  obtain ⟨c, hc, hu⟩ := hu
  obtain ⟨x, hx, rfl⟩ := List.mem_map.1 hc
  exact encB_one (h x hx) u hu
theorem cellsB_app (L M : List Bv) : cellsB (L ++ M) = cellsB L ++ cellsB M := by unfold cellsB; rw [List.map_append, List.flatten_append]
theorem bv_inn {w : World} {v : Value} {L : List Bv} (h : BvAt w v L) : ∀ x ∈ L, InnB w x := by
  intro x hx
  obtain ⟨a0, cap, rfl, h | ⟨b, off, rfl, hl, hc⟩⟩ := h
  · subst h; cases hx
  · obtain ⟨i, hi, rfl⟩ := List.getElem_of_mem hx
    have := (hc i hi).2
    rwa [getD_at hi] at this
/-- what is in a slice, or none, is appended to a row of the call's own -/
theorem run_append_argN {P : Program} {w : World} (base : Nat) (t ty e : TypeId) (i : TypeInfo) (z : Value) (size bytes : Nat) (ht : P.underlying t = some (.slice e)) (hi : P.info? e = some i) (hz : i.zero = some z)
    (hsize : i.size = size) (hby : i.bytes = bytes) (hzs : z.cells.size = size) (hsz : 0 < size) (v : Value) (n : Nat) (xs : List Value) (hown : w.ownsRow base e size v n xs) (a0 : Option Addr) (j c : Nat) (news : List Value) (hl : news.length = j * size)
    (hn : a0 = none → j = 0) (hnews : ∀ a, a0 = some a → ∀ k u, news[k]? = some u → w.cell? (a.add k) = some u) (h1 : ∀ y ∈ news, y.oneCell' = true)
    (h63 : n + j ≤ maxLen) (hbytes : (n + j) * bytes ≤ 140737488355328) (hbase : base ≤ w.heap.size) :
    ∃ v' w', (Builtin.append_ #[t, t] ty #[v, .slice a0 j c]).run P w = .ok v' w' ∧ w'.ownsRow base e size v' (n + j) (xs ++ news) ∧ w.grownBy w' v.ownBlock := by
  rcases a0 with _ | a
  · obtain rfl := hn rfl
    have hn : news = [] := List.eq_nil_of_length_eq_zero (by simpa using hl)
    subst hn
    exact ⟨_, w, run_append_none_any (P := P) (w := w) base t ty e i size ht hi _ n xs hown c, by simpa using hown, ⟨rfl, rfl, rfl, Nat.le_refl _, fun _ _ _ => rfl⟩⟩
  · obtain ⟨v', w', hr, ho, hg, _⟩ := run_append_own (P := P) w base t ty e i z size bytes ht hi hz hsize hby hzs hsz v n xs hown a j c news hl (hnews a rfl) h1 h63 hbytes hbase
    exact ⟨v', w', hr, ho, hg⟩
theorem row_own_none {w : World} {e : TypeId} : (w.alloc (.cells #[] e)).ownsRow w.heap.size e 6 (.slice (some ⟨w.heap.size, 0, none⟩) 0 0) 0 [] :=
  ⟨rfl, Or.inr ⟨_, 0, #[], rfl, Nat.le_refl _, by show (Array.push _ _)[_]? = _; simp, Nat.le_refl _, Nat.zero_le _, rfl, rfl⟩⟩
theorem own_sl6 {w : World} {base n k : Nat} {e : TypeId} {v : Value} {xs : List Value} (h : w.ownsRow base e k v n xs) : ∃ a c, v = .slice a n c := by
  rcases h.2 with ⟨h1, h2⟩ | ⟨q, cap, cur, h1, _⟩
  · exact ⟨none, 0, by rw [h1, h2]⟩
  · exact ⟨_, _, h1⟩
theorem dep_step {A A' : Nat → Prop} {w w' : World} {P : World → Prop} (h : Dep A w P) (hk : Keeps A w w') (hA : ∀ b, A b → b < w.heap.size → A' b) : Dep A' w' P := fun w2 h2 =>
  h w2 ⟨hk.b0.trans h2.b0, fun b hb hl => (h2.block b (hA b hb hl) (Nat.lt_of_lt_of_le hl hk.b0.size)).trans (hk.block b hb hl)⟩
theorem dep_inn {A : Nat → Prop} {w : World} {u : Value} {B : List Bv} (h : Dep A w (fun w' => BvAt w' u B)) : ∀ y ∈ B, Dep A w (fun w' => InnB w' y) := fun y hy w' hk => bv_inn (h w' hk) y hy
theorem dep_bv {A : Nat → Prop} {w : World} {base : Nat} {e : TypeId} {u : Value} {B : List Bv} (hr : w.ownsRow base e 6 u B.length (cellsB B)) (hi : ∀ y ∈ B, Dep A w (fun w' => InnB w' y)) (hA : ∀ b, u.ownBlock = some b → A b) : Dep A w (fun w' => BvAt w' u B) := fun w' hk =>
  bv_of_own (row_keep hr fun c hc => hk.block c (hA c hc) (hr.lt c hc).2) fun y hy => hi y hy w' hk
/-- 'append(append([]T{}, v1...), v2...)' -/
theorem two_rows {P : Program} {w : World} {t ty e : TypeId} {i : TypeInfo} {z : Value} {bytes : Nat} (ht : P.underlying t = some (.slice e)) (hi : P.info? e = some i) (hz : i.zero = some z) (hsize : i.size = 6) (hby : i.bytes = bytes) (hzs : z.cells.size = 6)
    {a1 a2 : Option Addr} {n1 n2 c1 c2 : Nat} {B1 B2 : List Bv} (h1 : BvAt w (.slice a1 n1 c1) B1) (h2 : BvAt w (.slice a2 n2 c2) B2) (hl : B1.length + B2.length ≤ 10000) (hb : bytes ≤ 1000) :
    ∃ a3 c3 w2 a4 c4 w3, (Builtin.append_ #[t, t] ty #[.slice (some ⟨w.heap.size, 0, none⟩) 0 0, .slice a1 n1 c1]).run P (w.alloc (.cells #[] e)) = .ok (.slice a3 B1.length c3) w2 ∧
      (Builtin.append_ #[t, t] ty #[.slice a3 B1.length c3, .slice a2 n2 c2]).run P w2 = .ok (.slice a4 (B1.length + B2.length) c4) w3 ∧
      Below w.heap.size w w2 ∧ Below w.heap.size w w3 ∧ w3.ownsRow w.heap.size e 6 (.slice a4 (B1.length + B2.length) c4) (B1 ++ B2).length (cellsB (B1 ++ B2)) := by
  have W1 : Below w.heap.size w (w.alloc (.cells #[] e)) := (Below.refl _ _).alloc (Nat.le_refl _) _
  have e1 : n1 = B1.length := by obtain ⟨a, c, h, _⟩ := h1; injection h
  have e2 : n2 = B2.length := by obtain ⟨a, c, h, _⟩ := h2; injection h
  subst e1 e2
  have hm : B1.length * bytes ≤ 10000 * 1000 := Nat.mul_le_mul (by omega) hb
  have hm2 : (B1.length + B2.length) * bytes ≤ 10000 * 1000 := Nat.mul_le_mul hl hb
  obtain ⟨v2, w2, hr2, ho2, hg2, _⟩ := run_append_arg0 (P := P) (w := w.alloc (.cells #[] e)) w.heap.size t ty e i z 6 bytes ht hi hz hsize hby hzs (by decide) w.heap.size row_own_none a1 B1.length c1 (cellsB B1) (cellsB_len B1) (bv_none h1) (bv_flat h1 W1) (cellsB_one (bv_inn h1)) (by unfold maxLen; omega) (by omega) (by simp)
  obtain ⟨a3, c3, rfl⟩ := own_sl6 ho2
  have W2 : Below w.heap.size w w2 := W1.grown hg2 (by simp) (fun j e => by cases e; exact Nat.le_refl _)
  obtain ⟨v3, w3, hr3, ho3, hg3⟩ := run_append_argN (P := P) (w := w2) w.heap.size t ty e i z 6 bytes ht hi hz hsize hby hzs (by decide) _ B1.length (cellsB B1) ho2 a2 B2.length c2 (cellsB B2) (cellsB_len B2) (bv_none h2) (bv_flat h2 W2) (cellsB_one (bv_inn h2)) (by unfold maxLen; omega) (by omega) W2.size
  obtain ⟨a4, c4, rfl⟩ := own_sl6 ho3
  refine ⟨a3, c3, w2, a4, c4, w3, hr2, hr3, W2, W2.grown hg3 W2.size (fun j e => (ho2.lt j e).1), ?_⟩
  rw [List.length_append, cellsB_app]
  exact ho3
end TT
end
section
open Go Go.RowKit
namespace ZZ
open FF JJ WW BB Go.Maps
/-- the map of marks: nil, with none, or a block of its own of at most n keys, with just ks -/
def MkAt (P : Program) (k : TypeId) (w : World) (mv : Value) (ks : List (Int × Int)) (n : Nat) : Prop :=
  (mv = .map none ∧ ks = []) ∨ ∃ (b : Nat) (D : DataW Unit), mv = .map (some b) ∧ w.ownsMap P k unitElem b n D ∧ SetIs D ks
section
variable {P : Program} {k t e : TypeId} {w w' : World} {mv : Value} {ks : List (Int × Int)} {n : Nat}
theorem MkAt.keep (h : MkAt P k w mv ks n) (hb : ∀ b, mapBlk mv = some b → w'.heap[b]? = w.heap[b]?) : MkAt P k w' mv ks n := by
  rcases h with h | ⟨b, D, rfl, ⟨es, clock, h1, h2⟩, h3⟩
  · exact Or.inl h
  · exact Or.inr ⟨b, D, rfl, ⟨es, clock, (hb b rfl).trans h1, h2⟩, h3⟩
theorem MkAt.lt (h : MkAt P k w mv ks n) : ∀ b, mapBlk mv = some b → b < w.heap.size := by
  rcases h with ⟨rfl, _⟩ | ⟨b, D, rfl, h1, _⟩
  · exact fun b hb => by cases hb
  · exact fun c hc => by cases hc; exact h1.lt
theorem MkAt.nomap (h : MkAt P k w mv ks n) {cs : Array Value} {ty : TypeId} {fz : Nat × Nat} {b : Nat} (hb : w.heap[b]? = some (.cells cs ty fz)) : mapBlk mv ≠ some b := by
  rcases h with ⟨rfl, _⟩ | ⟨c, D, rfl, ⟨es, clock, h1, _⟩, _⟩
  · intro e; cases e
  · intro e; cases e; rw [hb] at h1; cases h1
theorem MkAt.mono {m : Nat} (h : MkAt P k w mv ks n) (hm : n ≤ m) : MkAt P k w mv ks m := by
  rcases h with h | ⟨b, D, rfl, h1, h2⟩
  · exact Or.inl h
  · exact Or.inr ⟨b, D, rfl, h1.mono hm, h2⟩
theorem MkAt.shape (h : MkAt P k w mv ks n) : ∃ p, mv = .map p := by
  rcases h with ⟨rfl, _⟩ | ⟨b, D, rfl, _⟩
  · exact ⟨_, rfl⟩
  · exact ⟨_, rfl⟩
/-- the look-up, run -/
theorem MkAt.look (h : MkAt P k w mv ks n) (K : Keyed P k) (ht : P.underlying t = some (.map k e)) (hz : (zeroValue e).run P w = .ok (.agg #[]) w) {key : Value} {x : Int × Int} (hx : In64 x) (hkey : keyOf P k key = some (keyQ x)) :
    (Instr.lookup t mv key true).run P w = .ok (.tuple #[.agg #[], .bool (decide (x ∈ ks))]) w := by
  rcases h with ⟨rfl, rfl⟩ | ⟨b, D, rfl, hown, hm⟩
  · rw [Maps.look_nil true K ht hz hkey]; simp
  · obtain ⟨v, ps, hr, hv⟩ := hown.look_ok K ht hz unitElem_mk hkey
    obtain ⟨rfl, _⟩ := unitElem_inv hv
    rw [hr, hm.has x hx]
end
theorem row_heapZ {w : World} {B k n : Nat} {e : TypeId} {v : Value} {xs : List Value} (h : w.ownsRow B e k v n xs) {b : Nat} (hb : v.ownBlock = some b) : ∃ cur, w.heap[b]? = some (.cells cur e (0, 0)) := by
  rcases h.2 with ⟨rfl, _⟩ | ⟨q, cap, cur, rfl, _, hh, _⟩
  · cases hb
  · obtain rfl : q = b := by simpa [Value.ownBlock] using hb
    exact ⟨cur, hh⟩
/-- the pool's own blocks -/
def OwnQ (g : Nat) (wv mv : Value) (b : Nat) : Prop := b = g ∨ wv.ownBlock = some b ∨ mapBlk mv = some b
end ZZ
namespace Go.Proofs.Ytgjdiliaiblfcaa
open ZZ FF JJ CC MM WW BB RR Go.Maps Go.WideMaps
theorem rowNumZ : (58 : TypeId) < Try.prog.types.size := of_decide_eq_true (by kernel_rfl)
theorem wideNumZ : (match Try.prog.underlying 58 with | some (.array _ _) | some (.struct _) => true | _ => false) = true := by kernel_rfl
theorem laidOutZ : laidOutB Try.prog = true := by kernel_rfl
set_option maxRecDepth 100000 in
theorem law_numZ : Keyed Try.prog 58 := Keyed.of_law (deep_law_laid laidOutZ (m := 2 + 1) (by decide) rowNumZ (by kernel_rfl) wideNumZ)
theorem und_setZ : Try.prog.underlying 50 = some (.map 58 64) := by kernel_rfl
theorem zero_unitZ (w : World) : (zeroValue 64).run Try.prog w = .ok (.agg #[]) w := by kernel_rfl
theorem cells_numZ : Try.prog.cellsOf 58 = 2 := by kernel_rfl
theorem cells_intZ : Try.prog.cellsOf 3 = 1 := by kernel_rfl
theorem und_reqsZ : Try.prog.underlying 27 = some (.slice 33) := by kernel_rfl
theorem info_reqZ : (Try.prog.info? 33).map (fun i => (i.zero, i.size, i.bytes)) = some (some (.agg #[.int .i64 0, .int .i64 0, .string ⟨#[]⟩]), 3, 32) := by kernel_rfl
theorem key_numZ (x : Int × Int) (h : In64 x) : keyOf Try.prog 58 (.agg #[.int .i64 x.1, .int .i64 x.2]) = some (keyQ x) := by
  have hkt : Try.prog.keyType 58 = true := by kernel_rfl
  have hs : ∃ m, Try.prog.types.size = m + 1 := Nat.exists_eq_succ_of_ne_zero (Nat.ne_of_gt (Nat.lt_of_le_of_lt (Nat.zero_le _) rowNumZ))
  obtain ⟨m, hm⟩ := hs
  have w1 := wf64 h.1
  have w2 := wf64 h.2
  unfold keyOf
  simp only [Try.underlying58]
  rw [if_pos (by simp [hkt, Value.formed, Try.underlying58, cells_numZ]), hm]
  unfold Program.keyLits
  simp only [Try.underlying58, Value.cells]
  rw [if_pos ⟨by rw [cells_numZ]; rfl, by simp⟩]
  simp [cells_intZ, Program.keyLits, Try.underlying3, w1, w2, List.mapM_cons, List.mapM_nil, keyQ]
set_option maxRecDepth 100000 in
theorem keyQ_injZ {x y : Int × Int} (hx : In64 x) (hy : In64 y) (h : keyQ x = keyQ y) : x = y := by
  have h1 := key_numZ x hx
  rw [h] at h1
  have h2 := law_numZ.inj h1 (key_numZ y hy)
  have h3 := congrArg Array.toList (Value.agg.inj h2)
  have h4 : [Value.int .i64 x.1, .int .i64 x.2] = [Value.int .i64 y.1, .int .i64 y.2] := h3
  obtain ⟨h5, h6⟩ := List.cons.inj h4
  exact Prod.ext (Value.int.inj h5).2 (Value.int.inj (List.cons.inj h6).1).2
theorem set_putZ {D : DataW Unit} {ks : List (Int × Int)} {y : Int × Int} (h : SetIs D ks) (hy : In64 y) (d : DataW Unit) : SetIs (D.put (keyQ y) d) (ks ++ [y]) := by
  have hk : WideAt.IsKeyLit (keyQ y) := trivial
  refine ⟨h.tidy.put hk _, fun x hx => ?_⟩
  by_cases e : x = y
  · subst e
    rw [has_put_same h.tidy.isMap hk]; simp
  · rw [has_put_other (fun k => e (keyQ_injZ hx hy k)), h.has x hx]; simp [e]
/-- the code's pool in block g: what waits, and the marks -/
structure PqM (w : World) (g : Nat) (W : List Rq) (ks : List (Int × Int)) (n : Nat) (wv mv : Value) : Prop where
  blk : TBlk 52 w g 2 (rowL [wv, mv])
  row : w.ownsRow 0 33 3 wv W.length (cellsR W)
  map : MkAt Try.prog 58 w mv ks n
section
variable {w w' : World} {g n : Nat} {W : List Rq} {ks : List (Int × Int)} {wv mv : Value}
theorem PqM.keep (h : PqM w g W ks n wv mv) (hk : Keeps (OwnQ g wv mv) w w') : PqM w' g W ks n wv mv :=
  ⟨(hk.block g (Or.inl rfl) h.blk.lt).trans h.blk, row_keep h.row fun c hc => hk.block c (Or.inr (Or.inl hc)) (h.row.lt c hc).2, h.map.keep fun b hb => hk.block b (Or.inr (Or.inr hb)) (h.map.lt b hb)⟩
theorem PqM.on (h : PqM w g W ks n wv mv) (hb : Below w.heap.size w w') : PqM w' g W ks n wv mv := h.keep (Keeps.of hb)
theorem PqM.ownL (h : PqM w g W ks n wv mv) : ∀ b, OwnQ g wv mv b → b < w.heap.size := by
  rintro b (rfl | hb | hb)
  · exact h.blk.lt
  · exact (h.row.lt b hb).2
  · exact h.map.lt b hb
theorem PqM.gw (h : PqM w g W ks n wv mv) : wv.ownBlock ≠ some g := fun e => by
  obtain ⟨cur, hh⟩ := row_heapZ h.row e
  have := h.blk
  unfold TBlk at this
  rw [hh] at this
  injection this with this
  injection this with _ h2 _
  exact absurd h2 (by decide)
theorem PqM.gm (h : PqM w g W ks n wv mv) : mapBlk mv ≠ some g := h.map.nomap h.blk
theorem PqM.wm (h : PqM w g W ks n wv mv) : ∀ b, wv.ownBlock = some b → mapBlk mv ≠ some b := fun b hb => by
  obtain ⟨cur, hh⟩ := row_heapZ h.row hb
  exact h.map.nomap hh
theorem PqM.cells (h : PqM w g W ks n wv mv) : w.cell? ⟨g, 0, none⟩ = some wv ∧ w.cell? ⟨g, 1, none⟩ = some mv := RR.cells2 h.blk.blk
theorem PqM.reqs (h : PqM w g W ks n wv mv) : ReqsAt w wv W := reqs_of_own h.row
theorem PqM.shapeW (h : PqM w g W ks n wv mv) : ∃ a c, wv = .slice a W.length c := by
  rcases h.row.2 with ⟨rfl, h0⟩ | ⟨q, cap, cur, rfl, _⟩
  · exact ⟨none, 0, by rw [h0]⟩
  · exact ⟨_, _, rfl⟩
end
/-- the marks are those of what is done -/
def MarksOf (ks : List (Int × Int)) (D : List Rq) : Prop := ∀ k, possK k = true → decide (k ∈ ks) = hasR D k
/-- the code's pool is p, by the blocks O -/
def At12 (O : Nat → Prop) (w : World) (g : Nat) (p : Po) : Prop := ∃ ks wv mv, PqM w g p.1 ks p.2.length wv mv ∧ MarksOf ks p.2 ∧ ∀ b, O b ↔ OwnQ g wv mv b
theorem at12_keep {O : Nat → Prop} {w w' : World} {g : Nat} {p : Po} (h : At12 O w g p) (hk : Keeps O w w') : At12 O w' g p := by
  obtain ⟨ks, wv, mv, h1, h2, h3⟩ := h
  exact ⟨ks, wv, mv, h1.keep (hk.sub fun b hb _ => (h3 b).2 hb), h2, h3⟩
theorem at12_lt {O : Nat → Prop} {w : World} {g : Nat} {p : Po} (h : At12 O w g p) : ∀ b, O b → b < w.heap.size := by
  obtain ⟨ks, wv, mv, h1, h2, h3⟩ := h
  exact fun b hb => h1.ownL b ((h3 b).1 hb)
set_option maxRecDepth 100000 in
set_option maxHeartbeats 1000000 in
theorem new12 (w : World) : Calls Try.prog 9 #[] w fun e w' => ∃ g O, e = .returned (.pointer (some ⟨g, 0, none⟩)) ∧ At12 O w' g ([], []) ∧ (∀ b, O b → w.heap.size ≤ b) ∧ Below w.heap.size w w' := by
  go_enter Try.func9, Try.ntmps9
  go_wp2_with fail
  go_ret
  refine ⟨w.heap.size, OwnQ w.heap.size (.slice none 0 0) (.map none), rfl, ⟨[], _, _, ⟨?_, World.ownsRow_nil _ _ _ _, Or.inl ⟨rfl, rfl⟩⟩, fun k _ => by rw [has_nil]; simp, fun _ => Iff.rfl⟩, ?_, (Below.refl _ _).alloc (Nat.le_refl _) _⟩
  · exact TBlk.new' w 2 w.heap.size _ _ _ rfl (RR.row2_ _ _)
  · rintro b (rfl | h | h)
    · exact Nat.le_refl _
    · cases h
    · cases h
set_option maxRecDepth 100000 in
set_option maxHeartbeats 1000000 in
theorem len12 (O : Nat → Prop) (w : World) (g : Nat) (p : Po) (h : At12 O w g p) : Calls Try.prog 12 #[.pointer (some ⟨g, 0, none⟩)] w fun e w' => e = .returned (.int .i64 (p.1.length : Int)) ∧ Below w.heap.size w w' := by
  obtain ⟨ks, wv, mv, h1, _, h3⟩ := h
  obtain ⟨c0, _⟩ := h1.cells
  obtain ⟨a, c, rfl⟩ := h1.shapeW
  clear h1 h3
  go_enter Try.func12, Try.ntmps12
  go_wp2_with fail
  go_ret
  exact ⟨rfl, Below.refl _ _⟩
set_option maxRecDepth 100000 in
set_option maxHeartbeats 1000000 in
theorem all12 (O : Nat → Prop) (w : World) (g : Nat) (p : Po) (h : At12 O w g p) (hi : InvP p) : Calls Try.prog 16 #[.pointer (some ⟨g, 0, none⟩)] w fun e w' => ∃ u, e = .returned u ∧ ReqsAt w' u p.1 ∧ Below w.heap.size w w' := by
  obtain ⟨ks, wv, mv, h1, _, h3⟩ := h
  obtain ⟨c0, _⟩ := h1.cells
  have HR := Lib.hid h1.reqs
  have HL := Lib.hid hi.1
  obtain ⟨a, c, rfl⟩ := h1.shapeW
  clear h1 h3 hi
  go_enter Try.func16, Try.ntmps16
  go_wp2_with fail
  refine (rqclone_any p.1 _ w HR.out (by have := HL.out; omega)).mono ?_
  rintro e w2 ⟨ra, rc, rfl, hrn, hro, hb2⟩
  go_wp2_with fail
  go_ret
  exact ⟨_, rfl, hrn, hb2⟩
set_option maxRecDepth 100000 in
set_option maxHeartbeats 2000000 in
theorem has12 (O : Nat → Prop) (w : World) (g : Nat) (p : Po) (c q : Int) (h : At12 O w g p) (hi : InvP p) : Calls Try.prog 13 #[.pointer (some ⟨g, 0, none⟩), .int .i64 c, .int .i64 q] w fun e w' => e = .returned (.bool (hasR p.1 (c, q))) ∧ Below w.heap.size w w' := by
  obtain ⟨ks, wv, mv, h1, _, h3⟩ := h
  obtain ⟨c0, _⟩ := h1.cells
  have HR := Lib.hid h1.reqs
  have HL := Lib.hid hi.1
  obtain ⟨X, hX⟩ : ∃ X, hasR p.1 (c, q) = X := ⟨_, rfl⟩
  have HX := Lib.hid hX
  rw [hX]
  obtain ⟨a, cp, rfl⟩ := h1.shapeW
  clear h1 h3 hi hX
  go_enter Try.func13, Try.ntmps13
  go_wp2_with fail
  clear c0
  refine (zamong_any _ w a p.1.length cp rfl).mono ?_
  rintro e w2 ⟨rfl, hb2, hz2, hg2⟩
  have B2 := Lib.hid hb2
  have G2 := Lib.hid hg2
  have HA := Lib.hid (fun (wx : World) (hb : Below w2.heap.size w2 wx) => among1_any p.1 (.slice a p.1.length cp) (c, q) w.heap.size X HX.out wx (G2.out.below hb G2.out.lt) (HR.out.later (hb2.trans (hb.mono hb2.size))) (by have := HL.out; omega))
  clear hb2 hz2 hg2
  go_wp2_with (with_reducible refine hold_callv rfl rfl ?_)
  refine wpl_callw (v := .func (.func 29) #[] #[.pointer (some ⟨w.heap.size, 0, none⟩)]) (args := #[.agg #[.int .i64 c, .int .i64 q]]) _ rfl rfl rfl (by simp [Act.eval]) ⟨_, _, _, rfl, own_among1, HA.out w2 (Below.refl _ _)⟩ (fun e w' h => ⟨_, h.1⟩) ?_
  rintro u w3 ⟨hu, hb3⟩
  injection hu with hu
  subst hu
  go_wp2_with fail
  go_ret
  exact ⟨rfl, B2.out.trans (hb3.mono B2.out.size)⟩
end Go.Proofs.Ytgjdiliaiblfcaa
end
section
open Go Go.RowKit
namespace ZZ
open FF JJ WW BB
/-- cells o .. of block b: n requests D, of a row with room for cap -/
structure RqR (t : TypeId) (w : World) (b o n cap : Nat) (D : Nat → Rq) : Prop where
  heap : ∃ cur, w.heap[b]? = some (.cells cur t (0, 0)) ∧ cur.size = o + cap * 3 ∧ ∀ k, k < n → cur[o + k * 3]? = some (.int .i64 (D k).1) ∧ cur[o + k * 3 + 1]? = some (.int .i64 (D k).2.1) ∧ cur[o + k * 3 + 2]? = some (.string (D k).2.2)
  room : n ≤ cap
section
variable {t : TypeId} {w w' : World} {b o n cap : Nat} {D : Nat → Rq}
theorem RqR.lt (h : RqR t w b o n cap D) : b < w.heap.size := by
  obtain ⟨cur, hh, _⟩ := h.heap
  exact (Array.getElem?_eq_some_iff.1 hh).1
theorem RqR.get (h : RqR t w b o n cap D) (k : Nat) (hk : k < n) : w.cell? ⟨b, o + k * 3, none⟩ = some (.int .i64 (D k).1) ∧ w.cell? ⟨b, o + k * 3 + 1, none⟩ = some (.int .i64 (D k).2.1) ∧ w.cell? ⟨b, o + k * 3 + 2, none⟩ = some (.string (D k).2.2) := by
  obtain ⟨cur, hh, _, hc⟩ := h.heap
  obtain ⟨h1, h2, h3⟩ := hc k hk
  unfold World.cell?
  rw [hh]
  exact ⟨by simpa using h1, by simpa using h2, by simpa using h3⟩
theorem RqR.frz (h : RqR t w b o n cap D) (i : Nat) : w.frozen? ⟨b, i, none⟩ = false := by
  obtain ⟨cur, hh, _⟩ := h.heap
  unfold World.frozen?; rw [hh]; simp
theorem RqR.on (h : RqR t w b o n cap D) (e : w'.heap[b]? = w.heap[b]?) : RqR t w' b o n cap D := by
  obtain ⟨cur, hh, r⟩ := h.heap
  exact ⟨⟨cur, e.trans hh, r⟩, h.room⟩
theorem RqR.congr (h : RqR t w b o n cap D) (E : Nat → Rq) (he : ∀ k, k < n → D k = E k) : RqR t w b o n cap E := by
  obtain ⟨cur, hh, hs, hc⟩ := h.heap
  exact ⟨⟨cur, hh, hs, fun k hk => he k hk ▸ hc k hk⟩, h.room⟩
theorem heap_set {cur : Array Value} (h : w.heap[b]? = some (.cells cur t (0, 0))) (i : Nat) (u : Value) : (w.setCell ⟨b, i, none⟩ u).heap[b]? = some (.cells (cur.setIfInBounds i u) t (0, 0)) := by
  unfold World.setCell
  simp only [Array.getElem?_modify, if_true, h, Option.map_some]
  rfl
theorem RqR.set (h : RqR t w b o n cap D) (i : Nat) (hi : i < n) (r : Rq) : RqR t (((w.setCell ⟨b, o + i * 3, none⟩ (.int .i64 r.1)).setCell ⟨b, o + i * 3 + 1, none⟩ (.int .i64 r.2.1)).setCell ⟨b, o + i * 3 + 2, none⟩ (.string r.2.2)) b o n cap (put D i r) := by
  obtain ⟨cur, hh, hs, hc⟩ := h.heap
  refine ⟨⟨_, heap_set (heap_set (heap_set hh _ _) _ _) _ _, by simpa using hs, fun k hk => ?_⟩, h.room⟩
  have hz : o + i * 3 + 2 < cur.size := by rw [hs]; have := h.room; omega
  obtain ⟨h1, h2, h3⟩ := hc k hk
  simp only [Array.getElem?_setIfInBounds, Array.size_setIfInBounds]
  by_cases e : k = i
  · subst e
    rw [put_same]
    refine ⟨?_, ?_, ?_⟩
    · rw [if_neg (by omega), if_neg (by omega), if_pos rfl, if_pos (by omega)]
    · rw [if_neg (by omega), if_pos rfl, if_pos (by omega)]
    · rw [if_pos rfl, if_pos (by omega)]
  · rw [put_other _ _ e]
    refine ⟨?_, ?_, ?_⟩
    · rw [if_neg (by omega), if_neg (by omega), if_neg (by omega)]; exact h1
    · rw [if_neg (by omega), if_neg (by omega), if_neg (by omega)]; exact h2
    · rw [if_neg (by omega), if_neg (by omega), if_neg (by omega)]; exact h3
/-- what lies ahead stays where cells behind it are written -/
theorem RqR.past (h : RqR t w b o n cap D) (i : Nat) (hi : i ≤ n) (vs : List Value) : RqR t (w.setCells b (o + i * 3) vs) b o i cap D := by
  obtain ⟨cur, hh, hs, hc⟩ := h.heap
  obtain ⟨cur', h1, h2, h3⟩ := cells_past b t vs (o + i * 3) w cur hh
  refine ⟨⟨cur', h1, by rw [h2, hs], fun k hk => ?_⟩, Nat.le_trans hi h.room⟩
  obtain ⟨k1, k2, k3⟩ := hc k (by omega)
  exact ⟨(h3 _ (by omega)).trans k1, (h3 _ (by omega)).trans k2, (h3 _ (by omega)).trans k3⟩
theorem RqR.cell3 (h : RqR t w b o n cap D) (j : Nat) (hj : j < n * 3) : (w.cell? ⟨b, o + j, none⟩).isSome = true ∧ w.frozen? ⟨b, o + j, none⟩ = false := by
  refine ⟨?_, h.frz _⟩
  obtain ⟨h1, h2, h3⟩ := h.get (j / 3) (by omega)
  have hk : j % 3 = 0 ∨ j % 3 = 1 ∨ j % 3 = 2 := by omega
  rcases hk with hk | hk | hk
  · rw [show o + j = o + j / 3 * 3 by omega, h1]; rfl
  · rw [show o + j = o + j / 3 * 3 + 1 by omega, h2]; rfl
  · rw [show o + j = o + j / 3 * 3 + 2 by omega, h3]; rfl
end
/-- a row of one's own, read as such -/
theorem rqr_of_own {t : TypeId} {w : World} {B q cap : Nat} {W : List Rq} (h : w.ownsRow B t 3 (.slice (some ⟨q, 0, none⟩) W.length cap) W.length (cellsR W)) : RqR t w q 0 W.length cap (fun i => W.getD i r0) := by
  rcases h.2 with ⟨h0, _⟩ | ⟨g, c, cur, e, _, hh, hn, _, hsz, htk⟩
  · cases h0
  · injection e with e1 _ e3
    injection e1 with e1
    injection e1 with e1 _ _
    subst e1 e3
    refine ⟨⟨cur, hh, by rw [hsz]; omega, fun k hk => ?_⟩, hn⟩
    have hcell : ∀ j u, j < W.length * 3 → (cellsR W)[j]? = some u → cur[j]? = some u := fun j u hj hu => by
      rw [← htk, List.getElem?_take_of_lt hj, Array.getElem?_toList] at hu
      exact hu
    obtain ⟨h1, h2, h3⟩ := cellsR_at W k hk
    simp only [Nat.zero_add]
    exact ⟨hcell _ _ (by omega) h1, hcell _ _ (by omega) h2, hcell _ _ (by omega) h3⟩
theorem own_of_rqr {t : TypeId} {w : World} {B q cap : Nat} {W : List Rq} (h : RqR t w q 0 W.length cap (fun i => W.getD i r0)) (hB : B ≤ q) (hcap : cap ≤ maxLen) : w.ownsRow B t 3 (.slice (some ⟨q, 0, none⟩) W.length cap) W.length (cellsR W) := by
  obtain ⟨cur, hh, hs, hc⟩ := h.heap
  refine ⟨cellsR_len W, Or.inr ⟨q, cap, cur, rfl, hB, hh, h.room, hcap, by rw [hs]; omega, ?_⟩⟩
  apply List.ext_getElem?
  intro j
  by_cases hj : j < W.length * 3
  · rw [List.getElem?_take_of_lt hj, Array.getElem?_toList]
    obtain ⟨h1, h2, h3⟩ := hc (j / 3) (by omega)
    obtain ⟨k1, k2, k3⟩ := cellsR_at W (j / 3) (by omega)
    simp only [Nat.zero_add] at h1 h2 h3
    have hk : j % 3 = 0 ∨ j % 3 = 1 ∨ j % 3 = 2 := by omega
    rcases hk with hk | hk | hk
    · have e : j = j / 3 * 3 := by omega
      rw [e, h1, k1]
    · have e : j = j / 3 * 3 + 1 := by omega
      rw [e, h2, k2]
    · have e : j = j / 3 * 3 + 2 := by omega
      rw [e, h3, k3]
  · rw [List.getElem?_take_eq_none (by omega), List.getElem?_eq_none (by rw [cellsR_len]; omega)]
/-- what stays of the first j -/
def delK (W : List Rq) (p : Rq → Bool) (j : Nat) : List Rq := (W.take j).filter fun r => !p r
theorem delK_succ (W : List Rq) (p : Rq → Bool) (j : Nat) (hj : j < W.length) : delK W p (j + 1) = if p (W.getD j r0) = true then delK W p j else delK W p j ++ [W.getD j r0] := by
  unfold delK
  rw [List.take_add_one, List.getD_eq_getElem?_getD, List.getElem?_eq_getElem hj, List.filter_append]
  simp only [Option.toList_some, Option.getD_some]
  cases h : p W[j] <;> simp [h]
theorem delK_le (W : List Rq) (p : Rq → Bool) (j : Nat) : (delK W p j).length ≤ j := by
  have := List.length_filter_le (fun r => !p r) (W.take j)
  rw [List.length_take] at this
  unfold delK; omega
theorem delK_all (W : List Rq) (p : Rq → Bool) : delK W p W.length = W.filter fun r => !p r := by unfold delK; rw [List.take_length]
/-- the row, behind the first j -/
def delE (W : List Rq) (p : Rq → Bool) (j k : Nat) : Rq := if k < (delK W p j).length then (delK W p j).getD k r0 else W.getD k r0
theorem delE_skip (W : List Rq) (p : Rq → Bool) (j : Nat) (hj : j < W.length) (h : p (W.getD j r0) = true) : delK W p (j + 1) = delK W p j := by rw [delK_succ W p j hj, if_pos h]
theorem delE_put (W : List Rq) (p : Rq → Bool) (j : Nat) (hj : j < W.length) (h : p (W.getD j r0) = false) (k : Nat) : put (delE W p j) (delK W p j).length (W.getD j r0) k = delE W p (j + 1) k := by
  have e : delK W p (j + 1) = delK W p j ++ [W.getD j r0] := by rw [delK_succ W p j hj, if_neg (by rw [h]; decide)]
  show (if k = (delK W p j).length then W.getD j r0 else delE W p j k) = delE W p (j + 1) k
  unfold delE
  rw [e, List.length_append, List.length_singleton]
  by_cases h1 : k = (delK W p j).length
  · subst h1
    rw [if_pos rfl, if_pos (by omega)]
    simp [List.getD]
  · rw [if_neg h1]
    by_cases h2 : k < (delK W p j).length
    · rw [if_pos h2, if_pos (by omega)]
      simp [List.getD, List.getElem?_append_left h2]
    · rw [if_neg h2, if_neg (by omega)]
theorem delK_lt (W : List Rq) (p : Rq → Bool) (i : Nat) (hi : i < W.length) (h : p (W.getD i r0) = true) : ∀ j, i < j → j ≤ W.length → (delK W p j).length < j
  | 0, h0, _ => by omega
  | j + 1, h0, hl => by
    by_cases e : j = i
    · subst e; rw [delE_skip W p j hi h]; have := delK_le W p j; omega
    · have := delK_lt W p i hi h j (by omega) (by omega)
      rw [delK_succ W p j (by omega)]
      split
      · omega
      · rw [List.length_append, List.length_singleton]; omega
theorem delK_none (W : List Rq) (p : Rq → Bool) (i : Nat) (hi : i ≤ W.length) (h : ∀ j, j < i → p (W.getD j r0) = false) : delK W p i = W.take i := by
  unfold delK
  rw [List.filter_eq_self]
  intro r hr
  obtain ⟨j, hj, rfl⟩ := List.getElem_of_mem hr
  rw [List.length_take] at hj
  have := h j (by omega)
  rw [List.getD_eq_getElem?_getD, List.getElem?_eq_getElem (by omega)] at this
  rw [List.getElem_take]
  simpa using this
/-- the first one that goes -/
theorem idx_first (W : List Rq) (p : Rq → Bool) : (idxI W p = -1 ∧ (W.filter fun r => !p r) = W) ∨ ∃ i : Nat, idxI W p = (i : Int) ∧ i < W.length ∧ p (W.getD i r0) = true ∧ ∀ j, j < i → p (W.getD j r0) = false := by
  unfold idxI
  cases h : W.findIdx? p with
  | none =>
    refine Or.inl ⟨rfl, ?_⟩
    have := List.findIdx?_eq_none_iff.1 h
    rw [List.filter_eq_self]
    exact fun r hr => by simp [this r hr]
  | some i =>
    obtain ⟨h1, h2, h3⟩ := List.findIdx?_eq_some_iff_getElem.1 h
    refine Or.inr ⟨i, rfl, h1, ?_, fun j hj => ?_⟩
    · rw [List.getD_eq_getElem?_getD, List.getElem?_eq_getElem h1]; exact h2
    · rw [List.getD_eq_getElem?_getD, List.getElem?_eq_getElem (by omega)]; simpa using h3 j hj
theorem zero_rq (n : Nat) : (Builtin.zeroCells (Value.agg #[.int .i64 0, .int .i64 0, .string ⟨#[]⟩]).cells n).toList.length = n * 3 ∧ ∀ v ∈ (Builtin.zeroCells (Value.agg #[.int .i64 0, .int .i64 0, .string ⟨#[]⟩]).cells n).toList, v.oneCell' = true := by
  refine ⟨by simp [Builtin.zeroCells, Value.cells], fun v hv => ?_⟩
  simp only [Builtin.zeroCells, Value.cells, Array.toList_map, List.mem_map] at hv
  obtain ⟨i, _, rfl⟩ := hv
  have : i % 3 = 0 ∨ i % 3 = 1 ∨ i % 3 = 2 := by omega
  rcases this with h | h | h <;> simp [h, Value.oneCell']
theorem keep_3 (w : World) (b i : Nat) (x y z : Value) : Keep b w (((w.setCell ⟨b, i, none⟩ x).setCell ⟨b, i + 1, none⟩ y).setCell ⟨b, i + 2, none⟩ z) :=
  ((Upd.set w b i x).keep.trans (Upd.set _ b (i + 1) y).keep).trans (Upd.set _ b (i + 2) z).keep
theorem und_of {P : Program} {t e : TypeId} (h : P.underlying t = some (.slice e)) : P.underlying t = some (.slice e) := h
end ZZ
namespace Go.Proofs.Ytgjdiliaiblfcaa
open ZZ FF JJ CC MM WW BB RR
theorem und_reqsD : Try.prog.underlying 27 = some (.slice 33) := by kernel_rfl
set_option maxRecDepth 100000 in
set_option maxHeartbeats 8000000 in
theorem zdel_any (W : List Rq) (b o cap : Nat) (fv : Value) (p : Rq → Bool) (w : World) (hr : RqR 33 w b o W.length cap (fun i => W.getD i r0)) (hl : W.length ≤ 1000)
    (hp : ∀ r ∈ W, ∀ wr, Keep b w wr → CallsW Try.prog fv #[rqV r] wr fun e w' => e = .returned (.bool (p r)) ∧ Below wr.heap.size wr w') :
    Calls Try.prog 26 #[.slice (some ⟨b, o, none⟩) W.length cap, fv] w fun e w' => e = .returned (.slice (some ⟨b, o, none⟩) (W.filter fun r => !p r).length cap) ∧ Keep b w w' ∧ RqR 33 w' b o (W.filter fun r => !p r).length cap (fun i => (W.filter fun r => !p r).getD i r0) := by
  have HR := Lib.hid hr
  have HL := Lib.hid hl
  have HP := Lib.hid hp
  have HV := Lib.hid (show ReqsAt w (.slice (some ⟨b, o, none⟩) W.length cap) W from ⟨_, cap, rfl, Or.inr ⟨b, o, rfl, hr.lt, fun i hi => hr.get i hi⟩⟩)
  have HM := Lib.hid (fun i (hi : i < W.length) => show W.getD i r0 ∈ W by rw [getD_at hi]; exact List.getElem_mem hi)
  clear hr hl hp
  go_enter Try.func26, Try.ntmps26
  go_wp2_with fail
  refine (zifun_any W _ fv p w HV.out HL.out (fun i hi wr hb => HP.out _ (HM.out i hi) wr (keep_of_below hb (Nat.le_refl _) b))).mono ?_
  rintro e w2 ⟨rfl, hb2⟩
  have B2 := Lib.hid hb2
  have R2 := Lib.hid (HR.out.on (hb2.block b HR.out.lt))
  clear hb2
  rcases idx_first W p with ⟨hi, hf⟩ | ⟨i, hi, hlt, hpi, hnone⟩
  · rw [hi]
    have HF := Lib.hid hf
    clear hi hf
    go_wp2_with fail
    go_ret
    rw [HF.out]
    exact ⟨rfl, keep_of_below B2.out (Nat.le_refl _) b, R2.out⟩
  · rw [hi]
    have HI := Lib.hid hlt
    have HPI := Lib.hid hpi
    have HTK := Lib.hid (delK_none W p i (Nat.le_of_lt hlt) hnone)
    have HK1 := Lib.hid (show delK W p (i + 1) = W.take i by rw [delE_skip W p i hlt hpi]; exact delK_none W p i (Nat.le_of_lt hlt) hnone)
    have hne : ((i : Int) == -1) = false := by rw [beq_eq_false_iff_ne]; omega
    have hne2 : ¬ (i : Int) = -1 := by omega
    have i0 : (0 : Int) ≤ (i : Int) := by omega
    have ib : (i : Int) ≤ 1000 := by have := HL.out; omega
    clear hi hlt hpi hnone
    go_wp2_with fail
    go_loopw [5, 6] (fun x y wx => ∃ c j : Nat, j ≤ W.length ∧ i < j ∧ y = .int .i64 (j : Int) ∧ c = (delK W p j).length ∧ x = .int .i64 (c : Int) ∧ RqR 33 wx b o W.length cap (delE W p j) ∧ Keep b w wx) (fun _ y _ => W.length - (RowKit.intOf y).toNat)
    case atStart =>
      refine ⟨i, i + 1, HI.out, Nat.lt_succ_self i, by go_num, ?_, rfl, R2.out.congr _ fun k hk => ?_, keep_of_below B2.out (Nat.le_refl _) b⟩
      · rw [HK1.out, List.length_take]; have := HI.out; omega
      · unfold delE
        rw [HK1.out, List.length_take]
        split
        · rename_i h; simp [List.getD, List.getElem?_take_of_lt (show k < i by omega)]
        · rfl
    case round =>
      obtain ⟨c, j, hj, hij, rfl, hc, rfl, hrow, hkeep⟩ := hrel
      have HRW := Lib.hid hrow
      have HKE := Lib.hid hkeep
      have HCC := Lib.hid hc
      have HIJ := Lib.hid hij
      have HCL := Lib.hid (show c < j by rw [hc]; exact delK_lt W p i HI.out HPI.out j hij hj)
      have j0 : (0 : Int) ≤ (j : Int) := by omega
      have jb : (j : Int) ≤ 1000 := by have := HL.out; omega
      have c0' : (0 : Int) ≤ (c : Int) := by omega
      have cb' : (c : Int) ≤ 1000 := by have := HCL.out; omega
      clear hrow hkeep hc hij
      by_cases hlt : j < W.length
      · have l1 : (j : Int) < (W.length : Int) := by omega
        have HLT := Lib.hid hlt
        obtain ⟨a0, a1, a2⟩ := HRW.out.get j hlt
        have e1 : delE W p j j = W.getD j r0 := by unfold delE; rw [if_neg (by rw [← HCC.out]; have := HCL.out; omega)]
        rw [e1] at a0 a1 a2
        have HQ := Lib.hid (HP.out _ (HM.out j hlt))
        obtain ⟨r, hr⟩ : ∃ r, W.getD j r0 = r := ⟨_, rfl⟩
        have HRR := Lib.hid hr
        rw [hr] at a0 a1 a2 HQ
        obtain ⟨rc, rs, rt⟩ := r
        have X1 := Lib.hid ((Below.refl wr.heap.size wr).alloc (Nat.le_refl _) (.cells #[.int .i64 rc, .int .i64 rs, .string rt] 33))
        have BX := Lib.hid (show Blk (wr.alloc (.cells #[.int .i64 rc, .int .i64 rs, .string rt] 33)) wr.heap.size 3 (rowL [.int .i64 rc, .int .i64 rs, .string rt]) from Blk.new' rfl (row3_ _ _ _))
        clear hlt hj e1 hr
        go_wp2_with (with_reducible refine hold_callv rfl rfl ?_)
        clear a0 a1 a2
        refine wpl_callw (v := fv) (args := #[rqV (rc, rs, rt)]) _ rfl rfl rfl (by simp [Act.eval]; rfl) (HQ.out _ (HKE.out.trans (keep_of_below X1.out (Nat.le_refl _) b))) (fun e w' h => ⟨_, h.1⟩) ?_
        rintro u w3 ⟨hu, hb3⟩
        injection hu with hu
        subst hu
        have B3 := Lib.hid (X1.out.trans (hb3.mono X1.out.size))
        have R3 := Lib.hid (HRW.out.on (B3.out.block b HRW.out.lt))
        have K3 := Lib.hid (HKE.out.trans (keep_of_below B3.out (Nat.le_refl _) b))
        have BX3 := Lib.hid (BX.out.below hb3 BX.out.lt)
        clear hb3 HQ
        rcases hpp : p (rc, rs, rt) with _ | _
        · have HPP := Lib.hid hpp
          have HCW := Lib.hid (show c < W.length by have := HCL.out; have := HLT.out; omega)
          obtain ⟨d0, d1, d2⟩ := cells3 BX3.out
          obtain ⟨m0, m1, m2⟩ := R3.out.get c HCW.out
          have f0 := R3.out.frz (o + c * 3)
          have f1 := R3.out.frz (o + c * 3 + 1)
          have f2 := R3.out.frz (o + c * 3 + 2)
          have l3 : (c : Int) < (W.length : Int) := by have := HCW.out; omega
          have HNW := Lib.hid ((R3.out.set c HCW.out (rc, rs, rt)).congr (delE W p (j + 1)) fun k _ => by rw [HCC.out, ← HRR.out]; exact delE_put W p j HLT.out (by rw [HRR.out]; exact HPP.out) k)
          have HKN := Lib.hid (K3.out.trans (keep_3 w3 b (o + c * 3) (.int .i64 rc) (.int .i64 rs) (.string rt)))
          clear hpp
          go_wp2_with fail
          go_roundw
          case rel => exact ⟨c + 1, j + 1, HLT.out, by have := HIJ.out; omega, by go_num, by rw [delK_succ W p j HLT.out, HRR.out, if_neg (by rw [HPP.out]; decide), List.length_append, ← HCC.out]; rfl, by go_num, HNW.out, HKN.out⟩
          case measure => have := HLT.out; simp [RowKit.intOf]; omega
        · have HPP := Lib.hid hpp
          have HSK := Lib.hid (delE_skip W p j HLT.out (by rw [HRR.out]; exact HPP.out))
          clear hpp
          go_wp2_with fail
          go_roundw
          case rel => exact ⟨c, j + 1, HLT.out, by have := HIJ.out; omega, by go_num, by rw [HSK.out]; exact HCC.out, rfl, R3.out.congr _ fun k _ => by unfold delE; rw [HSK.out], K3.out⟩
          case measure => have := HLT.out; simp [RowKit.intOf]; omega
      · obtain rfl : j = W.length := by omega
        have l1 : ¬ (W.length : Int) < (W.length : Int) := by omega
        have HCW := Lib.hid (show c < W.length from HCL.out)
        have HCAP := Lib.hid (show W.length ≤ cap from HRW.out.room)
        have l2 : c < cap := by have := HCW.out; have := HCAP.out; omega
        have l3 : (c : Int) ≤ (W.length : Int) := by have := HCW.out; omega
        have l4 : (c : Int) ≤ (cap : Int) := by omega
        have hz := zero_rq (W.length - c)
        have hclr : ∀ ty, (Builtin.clear_ #[27] ty #[.slice (some ⟨b, o + c * 3, none⟩) (W.length - c) (cap - c)]).run Try.prog wr = .ok (.tuple #[]) (wr.setCells b (o + c * 3) (Builtin.zeroCells (Value.agg #[.int .i64 0, .int .i64 0, .string ⟨#[]⟩]).cells (W.length - c)).toList) := fun ty =>
          run_clearK wr 27 33 ty _ und_reqsD (fun _ => rfl) b (o + c * 3) (W.length - c) (cap - c) ((W.length - c) * 3) (by have := HCW.out; omega) hz.1 hz.2
            (fun j hj => by have := (HRW.out.cell3 (c * 3 + j) (by have := HCW.out; omega)).1; rw [show o + (c * 3 + j) = o + c * 3 + j by omega] at this; exact this)
            (fun j hj => HRW.out.frz _)
        have HKK := Lib.hid (show delK W p W.length = W.filter fun r => !p r from delK_all W p)
        have HLEN := Lib.hid (show (W.filter fun r => !p r).length = c by rw [← HKK.out]; exact HCC.out.symm)
        have HOUT := Lib.hid (show RqR 33 (wr.setCells b (o + c * 3) (Builtin.zeroCells (Value.agg #[.int .i64 0, .int .i64 0, .string ⟨#[]⟩]).cells (W.length - c)).toList) b o c cap (fun i => (W.filter fun r => !p r).getD i r0) from
          (HRW.out.past c (Nat.le_of_lt HCW.out) _).congr _ fun k hk => by unfold delE; rw [if_pos (by rw [← HCC.out]; exact hk), HKK.out])
        have HKB := Lib.hid (HKE.out.trans (keepC b (Builtin.zeroCells (Value.agg #[.int .i64 0, .int .i64 0, .string ⟨#[]⟩]).cells (W.length - c)).toList (o + c * 3) wr))
        clear hz hj hlt
        go_wp2_with fail
        go_ret
        rw [HLEN.out]
        exact ⟨rfl, HKB.out, HOUT.out⟩
set_option maxRecDepth 100000 in
set_option maxHeartbeats 2000000 in
theorem zdel_nil (fv : Value) (w : World) :
    Calls Try.prog 26 #[.slice none 0 0, fv] w fun e w' => e = .returned (.slice none 0 0) ∧ Below w.heap.size w w' := by
  go_enter Try.func26, Try.ntmps26
  go_wp2_with fail
  refine (zifun_any [] (.slice none 0 0) fv (fun _ => false) w ⟨none, 0, rfl, Or.inl rfl⟩ (Nat.zero_le _) (fun i hi _ _ => absurd hi (Nat.not_lt_zero _))).mono ?_
  rintro e w2 ⟨rfl, hb2⟩
  rw [show idxI ([] : List Rq) (fun _ => false) = -1 from rfl]
  go_wp2_with fail
  go_ret
  exact ⟨rfl, hb2⟩
end Go.Proofs.Ytgjdiliaiblfcaa
end
section
open Go Go.RowKit
namespace Go.Proofs.Ytgjdiliaiblfcaa
open ZZ FF JJ CC MM WW BB RR Go.Maps
set_option maxRecDepth 100000 in
set_option maxHeartbeats 8000000 in
theorem isdone_any (r : Rq) (g n : Nat) (wv mv : Value) (ks : List (Int × Int)) (X : Bool) (w : World) (hb : Blk w g 2 (rowL [wv, mv])) (hm : MkAt Try.prog 58 w mv ks n) (h64 : In64 (keyR r)) (hX : decide (keyR r ∈ ks) = X) :
    Calls Try.prog 27 #[.pointer (some ⟨g, 0, none⟩), rqV r] w fun e w' => e = .returned (.bool X) ∧ Below w.heap.size w w' := by
  obtain ⟨c, s, t⟩ := r
  show Calls Try.prog 27 #[.pointer (some ⟨g, 0, none⟩), .agg #[.int .i64 c, .int .i64 s, .string t]] w fun e w' => e = .returned (.bool X) ∧ Below w.heap.size w w'
  have HB := Lib.hid hb
  have HM := Lib.hid hm
  have H64 := Lib.hid (show In64 (c, s) from h64)
  have HX := Lib.hid (show decide ((c, s) ∈ ks) = X from hX)
  obtain ⟨mp, rfl⟩ := hm.shape
  have X1 := Lib.hid ((Below.refl w.heap.size w).alloc (Nat.le_refl _) (.cells #[.int .i64 c, .int .i64 s, .string t] 33))
  have R1 := Lib.hid (show Blk (w.alloc (.cells #[.int .i64 c, .int .i64 s, .string t] 33)) w.heap.size 3 (rowL [.int .i64 c, .int .i64 s, .string t]) from Blk.new' rfl (row3_ _ _ _))
  clear hb hm h64 hX
  go_enter Try.func27, Try.ntmps27
  go_wp2_with fail
  obtain ⟨w1, hw1⟩ : ∃ w1, w.alloc (.cells #[.int .i64 c, .int .i64 s, .string t] 33) = w1 := ⟨_, rfl⟩
  have HZ := Lib.hid (show w.heap.size < w1.heap.size by rw [← hw1]; simp)
  rw [hw1] at X1 R1 ⊢
  clear hw1
  have HSC := Lib.hid (fun (wx : World) (h : Below w1.heap.size w1 wx) => And.intro (cells3 (R1.out.below h R1.out.lt)) (cells2 ((HB.out.below X1.out HB.out.lt).below h (Nat.lt_trans HB.out.lt HZ.out))))
  have HLK := Lib.hid (fun (wx : World) (h : Below w1.heap.size w1 wx) => show (Instr.lookup 50 (.map mp) (.agg #[.int .i64 c, .int .i64 s]) true).run Try.prog wx = .ok (.tuple #[.agg #[], .bool X]) wx by
    have hk : MkAt Try.prog 58 wx (.map mp) ks n := HM.out.keep fun b hb => (X1.out.trans (h.mono X1.out.size)).block b (HM.out.lt b hb)
    rw [hk.look law_numZ und_setZ (zero_unitZ wx) H64.out (key_numZ (c, s) H64.out), HX.out])
  refine crossE_abs (fun wx => Below w1.heap.size w1 wx) 12 [0, 1, 2, 3, 4] 5 10 [(true, 6), (true, 7), (true, 8), (true, 9), (false, 10), (false, 11), (false, 12)] [(false, 5), (true, 6), (true, 7), (true, 8), (true, 9), (false, 11), (false, 12)] (by kernel_rfl) (by kernel_rfl) (fun _ _ d _ _ h => by cases d <;> exact h) fun w5 hs5 => ⟨hs5.below _, ?_⟩
  have Z5 := Lib.hid (show Below w1.heap.size w1 w5 from hs5.below _)
  clear hs5
  iterate 5 (refine pre_run _ ?_ rfl rfl ?_ ?_; rotate_left; (focus (intro w' hS; obtain ⟨⟨d0, d1, d2⟩, e0, e1⟩ := HSC.out w' hS; go_simp; exact rfl)); simp only [Act.put, List.setIfInBounds_toArray, List.set_cons_zero, List.set_cons_succ, List.getElem_toArray, List.getElem_cons_zero, List.getElem_cons_succ])
  refine pre_end ⟨?_, ?_⟩
  · refine pe_call (R := fun v w' => v = .agg #[.int .i64 c, .int .i64 s] ∧ Below w5.heap.size w5 w') _ rfl rfl (by go_simp; rfl) ((znum_is (c, s, t) w5).mono fun e w' h => ⟨_, h.1, rfl, h.2⟩) (fun v w' h => Z5.out.trans (h.2.mono Z5.out.size)) fun v w6 hr => ?_
    obtain ⟨rfl, hb⟩ := hr
    have Z6 := Lib.hid (Z5.out.trans (hb.mono Z5.out.size))
    clear hb
    simp only [Act.put, List.setIfInBounds_toArray, List.set_cons_zero, List.set_cons_succ, List.getElem_toArray, List.getElem_cons_zero, List.getElem_cons_succ]
    refine pe_run _ (.tuple #[.agg #[], .bool X]) rfl rfl (fun w' hS => by simp [execOp, Act.eval, HLK.out w' hS, Result.andThen]) ?_
    simp only [Act.put, List.setIfInBounds_toArray, List.set_cons_zero, List.set_cons_succ, List.getElem_toArray, List.getElem_cons_zero, List.getElem_cons_succ]
    iterate 3 (refine pe_run _ ?_ rfl rfl ?_ ?_; rotate_left; (focus (intro w' hS; go_simp; exact rfl)); simp only [Act.put, List.setIfInBounds_toArray, List.set_cons_zero, List.set_cons_succ, List.getElem_toArray, List.getElem_cons_zero, List.getElem_cons_succ])
    have BA := Lib.hid ((Below.refl w6.heap.size w6).alloc (Nat.le_refl _) (.cells #[] 64))
    refine pe_value (w' := w6.alloc (.cells #[] 64)) _ (.pointer (some ⟨w6.heap.size, 0, none⟩)) rfl rfl (by go_simp) (Z6.out.trans (BA.out.mono Z6.out.size)) ?_
    simp only [Act.put, List.setIfInBounds_toArray, List.set_cons_zero, List.set_cons_succ, List.getElem_toArray, List.getElem_cons_zero, List.getElem_cons_succ]
    refine pe_store (w' := w6.alloc (.cells #[] 64)) _ rfl rfl (by go_simp) (Z6.out.trans (BA.out.mono Z6.out.size)) ?_
    simp only [Act.put, List.getElem_toArray, List.getElem_cons_zero, List.getElem_cons_succ]
    refine pe_last _ rfl ?_
    simp only [List.getElem_toArray, List.getElem_cons_zero, List.getElem_cons_succ]
    go_wp2_with fail
    go_ret
    exact ⟨rfl, X1.out.trans ((Z6.out.trans (BA.out.mono Z6.out.size)).mono X1.out.size)⟩
  · have BA := Lib.hid ((Below.refl w5.heap.size w5).alloc (Nat.le_refl _) (.cells #[] 64))
    have ZA := Lib.hid (Z5.out.trans (BA.out.mono Z5.out.size))
    refine pe_value (w' := w5.alloc (.cells #[] 64)) _ (.pointer (some ⟨w5.heap.size, 0, none⟩)) rfl rfl (by go_simp) ZA.out ?_
    simp only [Act.put, List.setIfInBounds_toArray, List.set_cons_zero, List.set_cons_succ, List.getElem_toArray, List.getElem_cons_zero, List.getElem_cons_succ]
    generalize w5.alloc (.cells #[] 64) = w6 at *
    refine pe_call (R := fun v w' => v = .agg #[.int .i64 c, .int .i64 s] ∧ Below w6.heap.size w6 w') _ rfl rfl (by go_simp; rfl) ((znum_is (c, s, t) w6).mono fun e w' h => ⟨_, h.1, rfl, h.2⟩) (fun v w' h => ZA.out.trans (h.2.mono ZA.out.size)) fun v w7 hr => ?_
    obtain ⟨rfl, hb⟩ := hr
    have Z7 := Lib.hid (ZA.out.trans (hb.mono ZA.out.size))
    clear hb
    simp only [Act.put, List.setIfInBounds_toArray, List.set_cons_zero, List.set_cons_succ, List.getElem_toArray, List.getElem_cons_zero, List.getElem_cons_succ]
    refine pe_run _ (.tuple #[.agg #[], .bool X]) rfl rfl (fun w' hS => by simp [execOp, Act.eval, HLK.out w' hS, Result.andThen]) ?_
    simp only [Act.put, List.setIfInBounds_toArray, List.set_cons_zero, List.set_cons_succ, List.getElem_toArray, List.getElem_cons_zero, List.getElem_cons_succ]
    iterate 3 (refine pe_run _ ?_ rfl rfl ?_ ?_; rotate_left; (focus (intro w' hS; go_simp; exact rfl)); simp only [Act.put, List.setIfInBounds_toArray, List.set_cons_zero, List.set_cons_succ, List.getElem_toArray, List.getElem_cons_zero, List.getElem_cons_succ])
    refine pe_store (w' := w7) _ rfl rfl (by go_simp) Z7.out ?_
    simp only [Act.put, List.getElem_toArray, List.getElem_cons_zero, List.getElem_cons_succ]
    refine pe_last _ rfl ?_
    simp only [List.getElem_toArray, List.getElem_cons_zero, List.getElem_cons_succ]
    go_wp2_with fail
    go_ret
    exact ⟨rfl, X1.out.trans (Z7.out.mono X1.out.size)⟩
section
variable {w w' w1 : World} {g n : Nat} {W W' : List Rq} {ks : List (Int × Int)} {wv mv wv' : Value}
theorem PqM.newmap (h : PqM w g W ks n wv (.map none)) : PqM ((w.alloc (.map #[] 0)).setCell ⟨g, 1, none⟩ (.map (some w.heap.size))) g W ks n wv (.map (some w.heap.size)) := by
  have hb := (Below.refl w.heap.size w).alloc (Nat.le_refl _) (.map #[] 0)
  have hu := Upd.set (w.alloc (.map #[] 0)) g 1 (.map (some w.heap.size))
  have hg := h.blk.lt
  have hk : Keeps (fun b => b ≠ g) w ((w.alloc (.map #[] 0)).setCell ⟨g, 1, none⟩ (.map (some w.heap.size))) := (Keeps.of hb).trans (Keeps.upd' hu fun c => c rfl)
  have h0 : ks = [] := by
    rcases h.map with ⟨_, h⟩ | ⟨b, D, e, _⟩
    · exact h
    · cases e
  refine ⟨?_, row_keep h.row fun c hc => hk.block c (fun e => h.gw (e ▸ hc)) (h.row.lt c hc).2, ?_⟩
  · refine (((h.blk.below hb hg).set 1 (.map (some w.heap.size))).congr _ fun i hi => ?_)
    match i, hi with
    | 0, _ => rfl
    | 1, _ => rfl
  · obtain ⟨es, clock, h1, h2⟩ := (World.ownsMap_made w Try.prog 58 (unitElem (H := Unit))).mono (Nat.zero_le n)
    exact Or.inr ⟨_, _, rfl, ⟨es, clock, (hu.block w.heap.size (by omega)).trans h1, h2⟩, by rw [h0]; exact SetIs.empty⟩
theorem PqM.pushM {bm : Nat} {E : DataW Unit} {ks' : List (Int × Int)} (h : PqM w g W ks n wv (.map (some bm))) (hm : w1.ownsMap Try.prog 58 (unitElem (H := Unit)) bm (n + 1) E) (hs : SetIs E ks') (hg : w.grownBy w1 (some bm)) : PqM w1 g W ks' (n + 1) wv (.map (some bm)) := by
  have hk : Keeps (fun b => b ≠ bm) w w1 := Keeps.grown hg fun b e c => by injection e with e; exact c e.symm
  exact ⟨(hk.block g (fun e => h.gm (by rw [e]; rfl)) h.blk.lt).trans h.blk, row_keep h.row fun c hc => hk.block c (fun e => h.wm c hc (by rw [e]; rfl)) (h.row.lt c hc).2, Or.inr ⟨bm, E, rfl, hm, hs⟩⟩
/-- another row lies in the pool's block -/
theorem PqM.newrow (h : PqM w g W ks n wv mv) (hr : w1.ownsRow 0 33 3 wv' W'.length (cellsR W')) (hk : Keeps (fun b => wv.ownBlock ≠ some b) w w1) (hloc : ∀ b, wv'.ownBlock = some b → wv.ownBlock = some b ∨ w.heap.size ≤ b) :
    PqM (w1.setCell ⟨g, 0, none⟩ wv') g W' ks n wv' mv ∧ Keeps (fun b => wv.ownBlock ≠ some b ∧ b ≠ g) w (w1.setCell ⟨g, 0, none⟩ wv') := by
  have hu := Upd.set w1 g 0 wv'
  have hgo : ∀ b, wv'.ownBlock = some b → b ≠ g := fun b hb e => by
    rcases hloc b hb with h1 | h1
    · exact h.gw (e ▸ h1)
    · have := h.blk.lt; omega
  have hk2 : Keeps (fun b => wv.ownBlock ≠ some b ∧ b ≠ g) w (w1.setCell ⟨g, 0, none⟩ wv') := (hk.sub fun b hb _ => hb.1).trans (Keeps.upd' hu fun c => c.2 rfl)
  refine ⟨⟨?_, row_keep hr fun c hc => hu.block c (hgo c hc), h.map.keep fun b hb => hk2.block b ⟨fun e => h.wm b e hb, fun e => h.gm (e ▸ hb)⟩ (h.map.lt b hb)⟩, hk2⟩
  have k1 : TBlk 52 w1 g 2 _ := (hk.block g (fun e => h.gw e) h.blk.lt).trans h.blk
  refine (k1.set 0 _).congr _ fun j hj => ?_
  match j, hj with
  | 0, _ => rfl
  | 1, _ => rfl
theorem PqM.more {m : Nat} (h : PqM w g W ks n wv mv) (hm : n ≤ m) : PqM w g W ks m wv mv := ⟨h.blk, h.row, h.map.mono hm⟩
end
/-- the marks, with one more -/
def markK (ks : List (Int × Int)) (k : Int × Int) : List (Int × Int) := if possK k = true then ks ++ [k] else ks
set_option maxRecDepth 100000 in
set_option maxHeartbeats 8000000 in
theorem mark_any {w : World} {g n : Nat} {W : List Rq} {ks : List (Int × Int)} {wv mv : Value} (h : PqM w g W ks n wv mv) (k : Int × Int) (hn : n ≤ 2000) :
    Calls Try.prog 25 #[.pointer (some ⟨g, 0, none⟩), .agg #[.int .i64 k.1, .int .i64 k.2]] w fun e w' => e = .returned (.tuple #[]) ∧
      ∃ mv', PqM w' g W (markK ks k) (n + 1) wv mv' ∧ Keeps (fun b => b ≠ g ∧ mapBlk mv ≠ some b) w w' ∧ ∀ b, mapBlk mv' = some b → mapBlk mv = some b ∨ w.heap.size ≤ b := by
  obtain ⟨c, s⟩ := k
  show Calls Try.prog 25 #[.pointer (some ⟨g, 0, none⟩), .agg #[.int .i64 c, .int .i64 s]] w _
  have HC := Lib.hid h
  have HN := Lib.hid hn
  obtain ⟨mp, rfl⟩ := h.map.shape
  obtain ⟨wa, wc, rfl⟩ := h.shapeW
  have X1 := Lib.hid ((Below.refl w.heap.size w).alloc (Nat.le_refl _) (.cells #[.int .i64 c, .int .i64 s] 58))
  have R1 := Lib.hid (show Blk (w.alloc (.cells #[.int .i64 c, .int .i64 s] 58)) w.heap.size 2 (rowL [.int .i64 c, .int .i64 s]) from Blk.new' rfl (row2_ _ _))
  obtain ⟨X, hX⟩ : ∃ X, possK (c, s) = X := ⟨_, rfl⟩
  have HX := Lib.hid hX
  clear h hn hX
  go_enter Try.func25, Try.ntmps25
  go_wp2_with fail
  refine (zposs_is c s X HX.out _).mono ?_
  rintro e w2 ⟨rfl, hb2⟩
  have B2 := Lib.hid (X1.out.trans (hb2.mono X1.out.size))
  have R2 := Lib.hid (R1.out.below hb2 R1.out.lt)
  have HC2 := Lib.hid (HC.out.on B2.out)
  have HZ2 := Lib.hid (show w.heap.size < w2.heap.size from R2.out.lt)
  clear hb2
  rcases X with _ | _
  · go_wp2_with fail
    refine bodyPost_ret (results_none rfl _ _ _) rfl ⟨rfl, _, ?_, Keeps.of B2.out, fun b hb => Or.inl hb⟩
    unfold markK
    rw [HX.out]
    exact HC2.out.more (Nat.le_succ _)
  · obtain ⟨_, c1⟩ := HC2.out.cells
    have f1 := HC2.out.blk.blk.frz 1
    have q22 : ∀ w, (binOp .eql 50 (.map mp) (.map none)).run Try.prog w = .ok (.bool mp.isNone) w := fun w => run_eql_map_nil w _ 58 64 mp (by kernel_rfl)
    go_upto_if 11 with fail
    clear q22
    go_cut [] from 11 to 15 (fun wx => ∃ bm, PqM wx g W ks n (.slice wa W.length wc) (.map (some bm)) ∧ Keeps (fun b => b ≠ g) w2 wx ∧ (mapBlk (.map mp) = some bm ∨ w2.heap.size ≤ bm) ∧ w2.heap.size ≤ wx.heap.size)
    case first =>
      rcases mp with _ | bm
      · have hmm := @run_makeMap Try.prog
        have HCA := Lib.hid (HC2.out.on ((Below.refl w2.heap.size w2).alloc (Nat.le_refl _) (.map #[] 0)))
        obtain ⟨_, c1'⟩ := HCA.out.cells
        have f1' := HCA.out.blk.blk.frz 1
        go_wp2_with fail
        go_meet
        exact ⟨_, HC2.out.newmap, (Keeps.of ((Below.refl _ _).alloc (Nat.le_refl _) _)).trans (Keeps.upd' (Upd.set _ g 1 _) fun c => c rfl), Or.inr (Nat.le_refl _), by simp⟩
      · go_wp2_with fail
        go_meet
        exact ⟨bm, HC2.out, Keeps.refl _ _, Or.inl rfl, Nat.le_refl _⟩
    case rest =>
      obtain ⟨bm, hc3, hk3, hb3, hz3⟩ := hcut
      have H3 := Lib.hid hc3
      have HK3 := Lib.hid hk3
      have HB3 := Lib.hid hb3
      have HYG := Lib.hid (show w.heap.size ≠ g from by have := HC.out.blk.lt; omega)
      have Q3 := Lib.hid (show Blk wc w.heap.size 2 (rowL [.int .i64 c, .int .i64 s]) from R2.out.of_heap (hk3.block _ HYG.out R2.out.lt))
      clear hc3 hk3 hb3 hz3 c1 f1
      have HSE := Lib.hid (fun (wx : World) (hk : wx.heap[g]? = wc.heap[g]? ∧ wx.heap[w.heap.size]? = wc.heap[w.heap.size]?) => And.intro (RR.cells2 (H3.out.blk.blk.of_heap hk.1)) (RR.cells2 (Q3.out.of_heap hk.2)))
      go_wp2_with fail
      refine planE_abs (fun wx => wx.heap[g]? = wc.heap[g]? ∧ wx.heap[w.heap.size]? = wc.heap[w.heap.size]?) 6 [(true, 0), (true, 1), (true, 2), (true, 3), (true, 4), (true, 5), (false, 6)] (by kernel_rfl) (by kernel_rfl) (fun _ _ d _ _ h => by cases d <;> exact h) fun w5 hs5 => ⟨by rw [hs5.heap]; exact ⟨rfl, rfl⟩, ?_⟩
      have Y5 := Lib.hid (show Below wc.heap.size wc w5 from hs5.below _)
      clear hs5
      iterate 6 (refine pe_run _ ?_ rfl rfl ?_ ?_; rotate_left; (focus (intro w' hS; obtain ⟨⟨c0, c1⟩, d0, d1⟩ := HSE.out w' hS; go_simp; exact rfl)); simp only [Act.put, List.setIfInBounds_toArray, List.set_cons_zero, List.set_cons_succ, List.getElem_toArray, List.getElem_cons_zero, List.getElem_cons_succ])
      refine pe_last _ rfl ?_
      simp only [List.getElem_toArray, List.getElem_cons_zero, List.getElem_cons_succ]
      have H5 := Lib.hid (H3.out.on Y5.out)
      obtain ⟨E, hown, hset⟩ : ∃ E : DataW Unit, w5.ownsMap Try.prog 58 (unitElem (H := Unit)) bm n E ∧ SetIs E ks := by
        rcases H5.out.map with ⟨h, _⟩ | ⟨b', E, h, hown, hset⟩
        · cases h
        · cases h; exact ⟨E, hown, hset⟩
      have H64 := Lib.hid (poss64 HX.out)
      refine wpList_mapUpdate_own _ rfl _ _ _ 50 rfl 58 64 law_numZ und_setZ (unitElem (H := Unit)) bm n E rfl hown (by have := HN.out; unfold maxLen; omega) _ _ _ rfl rfl (key_numZ (c, s) H64.out) _ [] unitElem_mk ?_
      intro w6 hm6 hg6
      have M6 := Lib.hid hm6
      have G6 := Lib.hid hg6
      have S6 := Lib.hid (set_putZ hset H64.out (.agg []))
      clear hm6 hg6 hown hset
      go_wp2_with fail
      go_end0
      refine ⟨rfl, _, by have := H5.out.pushM M6.out S6.out G6.out; unfold markK; rw [HX.out]; exact this, ?_, fun b hb => ?_⟩
      · have k := ((Keeps.of B2.out).trans (HK3.out.sub fun b hb _ => hb.1)).trans (Keeps.of (A := fun b => b ≠ g ∧ mapBlk (.map mp) ≠ some b) Y5.out)
        refine ⟨k.b0.trans ⟨G6.out.os, G6.out.tape, G6.out.output, G6.out.size, fun c hc => absurd hc (Nat.not_lt_zero c)⟩, fun c hc hl => ?_⟩
        refine (G6.out.block c (Nat.lt_of_lt_of_le hl k.b0.size) fun e => ?_).trans (k.block c hc hl)
        injection e with e
        rcases HB3.out with h | h
        · exact hc.2 (e ▸ h)
        · have := B2.out.size; omega
      · have e : bm = b := by simpa [mapBlk] using hb
        subst e
        exact HB3.out.imp id fun h => Nat.le_trans B2.out.size h
end Go.Proofs.Ytgjdiliaiblfcaa
end
