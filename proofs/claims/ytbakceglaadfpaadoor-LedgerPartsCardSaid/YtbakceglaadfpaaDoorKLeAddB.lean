/-
  The walk of the code's add: one entry more.
-/
import Derived.Test.YtbakceglaadfpaaDoorKLeLawP
import Derived.Test.YtbakceglaadfpaaDoorKJBox
import Derived.Test.YtbakceglaadfpaaDoorKPlanE
import Derived.Laws.AppendOwn
import Derived.Test.YtbakceglaadfpaaDoorKFPutB
import Derived.Test.YtbakceglaadfpaaDoorKJCopy
import Derived.ArgAppend
import Derived.Maps.AppendAt
import Derived.Test.YtbakceglaadfpaaDoorKFItem
import Derived.Test.YtbakceglaadfpaaDoorKLNum
import Derived.Test.YtbakceglaadfpaaDoorKEText
import Derived.Test.YtbakceglaadfpaaDoorKJUnlike
import Derived.Test.YtbakceglaadfpaaDoorKFAdopt
import Derived.Test.YtbakceglaadfpaaDoorKJLawD
import Derived.Laws.OwnMore
import Derived.Test.YtbakceglaadfpaaDoorKWFewS
import Derived.Test.YtbakceglaadfpaaDoorKKeyed
section
open Go Go.RowKit
namespace FF
open JJ CC BB WW MM Go.Sort
theorem cellsR_one (l : List (Int × Int × ByteArray)) : ∀ u ∈ cellsR l, u.oneCell' = true := by
  intro u hu
  unfold cellsR at hu
  rw [List.mem_flatten] at hu
  obtain ⟨c, hc, hu⟩ := hu
  obtain ⟨x, _, rfl⟩ := List.mem_map.1 hc
  simp only [List.mem_cons, List.not_mem_nil, or_false] at hu
  rcases hu with rfl | rfl | rfl <;> rfl
/-- requests of the call's own -/
def NewReqs (w : World) (l : List (Int × Int × ByteArray)) (e : Ending) (w' : World) : Prop :=
  ∃ a0 cap, e = .returned (.slice a0 l.length cap) ∧ ReqsAt w' (.slice a0 l.length cap) l ∧ (∀ c, (Value.slice a0 l.length cap).ownBlock = some c → w.heap.size ≤ c) ∧ Below w.heap.size w w'
theorem reqs_keep {w w' : World} {v : Value} {l : List (Int × Int × ByteArray)} (h : ReqsAt w v l) (hs : w.heap.size ≤ w'.heap.size) (hb : ∀ c, v.ownBlock = some c → c < w.heap.size → w'.heap[c]? = w.heap[c]?) : ReqsAt w' v l := by
  obtain ⟨a0, cap, rfl, h | ⟨b, off, rfl, hl, hc⟩⟩ := h
  · exact ⟨a0, cap, rfl, Or.inl h⟩
  · refine ⟨_, cap, rfl, Or.inr ⟨b, off, rfl, Nat.lt_of_lt_of_le hl hs, fun i hi => ?_⟩⟩
    obtain ⟨h1, h2, h3⟩ := hc i hi
    have e := hb b rfl hl
    exact ⟨(World.cell?_of_block (w := w) (a := ⟨b, off + i * 3, none⟩) e).trans h1, (World.cell?_of_block (w := w) (a := ⟨b, off + i * 3 + 1, none⟩) e).trans h2, (World.cell?_of_block (w := w) (a := ⟨b, off + i * 3 + 2, none⟩) e).trans h3⟩
/-- a block in memory of the call's own -/
def CopyB (w : World) (v p j : Int) (k : ByteArray) (l : List (Int × List ByteArray)) (m : List (Int × Int × ByteArray)) (e : Ending) (w' : World) : Prop :=
  ∃ a0 cap a1 cap1, e = .returned (.agg #[.int .i64 v, .int .i64 p, .int .i64 j, .string k, .slice a0 l.length cap, .slice a1 m.length cap1]) ∧ SigsNew w.heap.size w' (.slice a0 l.length cap) l ∧
    ReqsAt w' (.slice a1 m.length cap1) m ∧ (∀ c, (Value.slice a1 m.length cap1).ownBlock = some c → w.heap.size ≤ c) ∧ Below w.heap.size w w'
theorem rowL6 (a b c d e f : Value) : (#[a, b, c, d, e, f] : Array Value) = row 6 (rowL [a, b, c, d, e, f]) := rfl
end FF
namespace Go.Proofs.YtbakceglaadfpaaDoor
open FF JJ CC WW BB MM Go.Lib Go.Sort
set_option maxRecDepth 100000 in
set_option maxHeartbeats 4000000 in
theorem rqclone_any (l : List (Int × Int × ByteArray)) (v : Value) (w : World) (h : ReqsAt w v l) (hs : l.length ≤ 100000) :
    Calls Tryd.prog 23 #[v] w (NewReqs w l) := by
  have HS := Lib.hid hs
  obtain ⟨a0, cap, rfl, hx⟩ := h
  have q22 : ∀ (w : World) (a : Option Addr) (n c n' c' : Nat), (binOp .eql 27 (.slice a n c) (.slice none n' c')).run Tryd.prog w = .ok (.bool a.isNone) w := fun w a n c n' c' => Lib.run_eql_slice_nil w _ 34 a n c n' c' (by kernel_rfl)
  obtain ⟨i0, hi, hz0, hz1, hz2⟩ : ∃ i, Tryd.prog.info? 34 = some i ∧ i.zero = some (.agg #[.int .i64 0, .int .i64 0, .string ⟨#[]⟩]) ∧ i.size = 3 ∧ i.bytes = 32 := by
    have h : (Tryd.prog.info? 34).map (fun i => (i.zero, i.size, i.bytes)) = some (some (.agg #[.int .i64 0, .int .i64 0, .string ⟨#[]⟩]), 3, 32) := by kernel_rfl
    rcases hi : Tryd.prog.info? 34 with _ | i
    · rw [hi] at h; cases h
    · rw [hi] at h
      simp only [Option.map_some, Option.some.injEq, Prod.mk.injEq] at h
      exact ⟨i, rfl, h.1, h.2.1, h.2.2⟩
  have HI := Lib.hid hi
  have HZ := Lib.hid (And.intro hz0 (And.intro hz1 hz2))
  have HX := Lib.hid hx
  clear hs hx hi hz0 hz1 hz2
  rcases a0 with _ | ad
  · have hL : l = [] := by
      rcases HX.out with h | ⟨b, o, h, _⟩
      · exact h
      · cases h
    subst hL
    go_enter Tryd.func23, Tryd.ntmps23
    go_wp2_with fail
    go_ret
    exact ⟨none, 0, rfl, ⟨none, 0, rfl, Or.inl rfl⟩, (fun c hc => by cases hc), Below.refl _ _⟩
  · have hread : ∀ j u, (cellsR l)[j]? = some u → w.cell? (ad.add j) = some u := fun j u hj => by
      rcases HX.out with h | ⟨b, o, h, hb, hc⟩
      · subst h; simp [cellsR] at hj
      · injection h with h
        subst h
        have hlt : j < l.length * 3 := by rw [← cellsR_len]; exact (List.getElem?_eq_some_iff.1 hj).1
        have e : (⟨b, o, none⟩ : Addr).add j = ⟨b, o + j, none⟩ := by unfold Addr.add; split <;> simp [*]
        rw [e]
        obtain ⟨h1, h2, h3⟩ := hc (j / 3) (by omega)
        obtain ⟨k1, k2, k3⟩ := cellsR_at l (j / 3) (by omega)
        have hm : j % 3 = 0 ∨ j % 3 = 1 ∨ j % 3 = 2 := by omega
        rcases hm with hm | hm | hm
        · have e2 : j = j / 3 * 3 := by omega
          rw [e2, k1] at hj
          rw [e2, ← hj]; exact h1
        · have e2 : j = j / 3 * 3 + 1 := by omega
          rw [e2, k2] at hj
          rw [e2, ← hj]; exact h2
        · have e2 : j = j / 3 * 3 + 2 := by omega
          rw [e2, k3] at hj
          rw [e2, ← hj]; exact h3
    have HR := Lib.hid hread
    clear hread
    go_enter Tryd.func23, Tryd.ntmps23
    go_wp2_with (at_builtin; refine wpList_append_own _ rfl _ _ 27 rfl w.heap.size 34 i0 (.agg #[.int .i64 0, .int .i64 0, .string ⟨#[]⟩]) 3 32 (by kernel_rfl) HI.out HZ.out.1 HZ.out.2.1 HZ.out.2.2 rfl (by decide) _ _ _ rfl (World.ownsRow_made w #[] 0 (Nat.le_refl _) (Nat.zero_le _) rfl) ad l.length cap (cellsR l) rfl ?qc1 ?qc2 ?qc3 ?qc4 ?qc5 ?qc6 ?_)
    case qc1 => exact cellsR_len l
    case qc2 => intro j u hj; exact Lib.cell?_alloc_some _ (HR.out j u hj)
    case qc3 => exact cellsR_one l
    case qc4 => have := HS.out; unfold maxLen; omega
    case qc5 => have := HS.out; omega
    case qc6 => simp
    intro v' w1 hown hgrow hnil
    have hown : w1.ownsRow w.heap.size 34 3 v' l.length (cellsR l) := by simpa using hown
    obtain ⟨a', c', rfl⟩ : ∃ a' c', v' = .slice a' l.length c' := by
      rcases hown.2 with ⟨h, h0⟩ | ⟨q, cp, cur, rfl, _⟩
      · exact ⟨none, 0, by rw [h, h0]⟩
      · exact ⟨_, _, rfl⟩
    have hO := Lib.hid (reqs_of_own hown)
    have hQ := Lib.hid (fun c hc => (hown.lt c hc).1)
    have hG := Lib.hid (((Below.refl _ w).alloc (Nat.le_refl _) _).grown hgrow (by simp) (by intro k hk; simp [Value.ownBlock] at hk; omega))
    clear hown hgrow hnil
    go_wp2_with fail
    go_ret
    exact ⟨a', c', rfl, hO.out, hQ.out, hG.out⟩
theorem set6 {w : World} {a : Nat} {f : Nat → Value} (h : Blk w a 6 f) (u0 u1 u2 u3 u4 u5 : Value) :
    Blk ((((((w.setCell ⟨a, 0, none⟩ u0).setCell ⟨a, 1, none⟩ u1).setCell ⟨a, 2, none⟩ u2).setCell ⟨a, 3, none⟩ u3).setCell ⟨a, 4, none⟩ u4).setCell ⟨a, 5, none⟩ u5) a 6 (rowL [u0, u1, u2, u3, u4, u5]) ∧
    Upd a w ((((((w.setCell ⟨a, 0, none⟩ u0).setCell ⟨a, 1, none⟩ u1).setCell ⟨a, 2, none⟩ u2).setCell ⟨a, 3, none⟩ u3).setCell ⟨a, 4, none⟩ u4).setCell ⟨a, 5, none⟩ u5) := by
  refine ⟨((((((h.set 0 u0).set 1 u1).set 2 u2).set 3 u3).set 4 u4).set 5 u5).congr _ fun i hi => ?_, ((((((Upd.refl a w).trans (Upd.set _ _ _ _)).trans (Upd.set _ _ _ _)).trans (Upd.set _ _ _ _)).trans (Upd.set _ _ _ _)).trans (Upd.set _ _ _ _)).trans (Upd.set _ _ _ _)⟩
  match i, hi with
  | 0, _ => rfl
  | 1, _ => rfl
  | 2, _ => rfl
  | 3, _ => rfl
  | 4, _ => rfl
  | 5, _ => rfl
end Go.Proofs.YtbakceglaadfpaaDoor
end
section
open Go Go.RowKit
namespace LE
open FF JJ WW BB
theorem own_capM {w : World} {base n k c : Nat} {e : TypeId} {a : Option Addr} {xs : List Value} (h : w.ownsRow base e k (.slice a n c) n xs) : n ≤ c := by
  rcases h.2 with ⟨h1, h2⟩ | ⟨q, cap, cur, h1, _, _, h4, _⟩
  · omega
  · injection h1 with _ _ h1; omega
/-- what rests upon a row of one's own -/
theorem reqs_depM {w : World} {B : Nat} {e : TypeId} {v : Value} {l : List Rq} (h : w.ownsRow B e 3 v l.length (cellsR l)) : Dep (fun b => v.ownBlock = some b) w (fun w' => ReqsAt w' v l) := fun _ hk => reqs_of_own (row_keep h fun c hc => hk.block c hc (h.lt c hc).2)
end LE
namespace Go.Proofs.YtbakceglaadfpaaDoor
open LE FF JJ CC WW BB MM Go.Lib Go.Sort
set_option maxRecDepth 100000 in
set_option maxHeartbeats 4000000 in
theorem rqcloneO_any (l : List (Int × Int × ByteArray)) (v : Value) (w : World) (h : ReqsAt w v l) (hs : l.length ≤ 100000) :
    Calls Tryd.prog 23 #[v] w fun e w' => ∃ u, e = .returned u ∧ w'.ownsRow w.heap.size 34 3 u l.length (cellsR l) ∧ Below w.heap.size w w' := by
  have HS := Lib.hid hs
  obtain ⟨a0, cap, rfl, hx⟩ := h
  have q22 : ∀ (w : World) (a : Option Addr) (n c n' c' : Nat), (binOp .eql 27 (.slice a n c) (.slice none n' c')).run Tryd.prog w = .ok (.bool a.isNone) w := fun w a n c n' c' => Lib.run_eql_slice_nil w _ 34 a n c n' c' (by kernel_rfl)
  obtain ⟨i0, hi, hz0, hz1, hz2⟩ : ∃ i, Tryd.prog.info? 34 = some i ∧ i.zero = some (.agg #[.int .i64 0, .int .i64 0, .string ⟨#[]⟩]) ∧ i.size = 3 ∧ i.bytes = 32 := by
    have h : (Tryd.prog.info? 34).map (fun i => (i.zero, i.size, i.bytes)) = some (some (.agg #[.int .i64 0, .int .i64 0, .string ⟨#[]⟩]), 3, 32) := by kernel_rfl
    rcases hi : Tryd.prog.info? 34 with _ | i
    · rw [hi] at h; cases h
    · rw [hi] at h
      simp only [Option.map_some, Option.some.injEq, Prod.mk.injEq] at h
      exact ⟨i, rfl, h.1, h.2.1, h.2.2⟩
  have HI := Lib.hid hi
  have HZ := Lib.hid (And.intro hz0 (And.intro hz1 hz2))
  have HX := Lib.hid hx
  clear hs hx hi hz0 hz1 hz2
  rcases a0 with _ | ad
  · have hL : l = [] := by
      rcases HX.out with h | ⟨b, o, h, _⟩
      · exact h
      · cases h
    subst hL
    go_enter Tryd.func23, Tryd.ntmps23
    go_wp2_with fail
    go_ret
    exact ⟨_, rfl, World.ownsRow_nil _ _ _ _, Below.refl _ _⟩
  · have hread : ∀ j u, (cellsR l)[j]? = some u → w.cell? (ad.add j) = some u := fun j u hj => by
      rcases HX.out with h | ⟨b, o, h, hb, hc⟩
      · subst h; simp [cellsR] at hj
      · injection h with h
        subst h
        have hlt : j < l.length * 3 := by rw [← cellsR_len]; exact (List.getElem?_eq_some_iff.1 hj).1
        have e : (⟨b, o, none⟩ : Addr).add j = ⟨b, o + j, none⟩ := by unfold Addr.add; split <;> simp [*]
        rw [e]
        obtain ⟨h1, h2, h3⟩ := hc (j / 3) (by omega)
        obtain ⟨k1, k2, k3⟩ := cellsR_at l (j / 3) (by omega)
        have hm : j % 3 = 0 ∨ j % 3 = 1 ∨ j % 3 = 2 := by omega
        rcases hm with hm | hm | hm
        · have e2 : j = j / 3 * 3 := by omega
          rw [e2, k1] at hj
          rw [e2, ← hj]; exact h1
        · have e2 : j = j / 3 * 3 + 1 := by omega
          rw [e2, k2] at hj
          rw [e2, ← hj]; exact h2
        · have e2 : j = j / 3 * 3 + 2 := by omega
          rw [e2, k3] at hj
          rw [e2, ← hj]; exact h3
    have HR := Lib.hid hread
    clear hread
    go_enter Tryd.func23, Tryd.ntmps23
    go_wp2_with (at_builtin; refine wpList_append_own _ rfl _ _ 27 rfl w.heap.size 34 i0 (.agg #[.int .i64 0, .int .i64 0, .string ⟨#[]⟩]) 3 32 (by kernel_rfl) HI.out HZ.out.1 HZ.out.2.1 HZ.out.2.2 rfl (by decide) _ _ _ rfl (World.ownsRow_made w #[] 0 (Nat.le_refl _) (Nat.zero_le _) rfl) ad l.length cap (cellsR l) rfl ?qc1 ?qc2 ?qc3 ?qc4 ?qc5 ?qc6 ?_)
    case qc1 => exact cellsR_len l
    case qc2 => intro j u hj; exact Lib.cell?_alloc_some _ (HR.out j u hj)
    case qc3 => exact cellsR_one l
    case qc4 => have := HS.out; unfold maxLen; omega
    case qc5 => have := HS.out; omega
    case qc6 => simp
    intro v' w1 hown hgrow hnil
    have hown : w1.ownsRow w.heap.size 34 3 v' l.length (cellsR l) := by simpa using hown
    obtain ⟨a', c', rfl⟩ : ∃ a' c', v' = .slice a' l.length c' := by
      rcases hown.2 with ⟨h, h0⟩ | ⟨q, cp, cur, rfl, _⟩
      · exact ⟨none, 0, by rw [h, h0]⟩
      · exact ⟨_, _, rfl⟩
    have hO := Lib.hid hown
    have hG := Lib.hid (((Below.refl _ w).alloc (Nat.le_refl _) _).grown hgrow (by simp) (by intro k hk; simp [Value.ownBlock] at hk; omega))
    clear hown hgrow hnil
    go_wp2_with fail
    go_ret
    exact ⟨_, rfl, hO.out, hG.out⟩
end Go.Proofs.YtbakceglaadfpaaDoor
end
section
open Go Go.RowKit
namespace FF
open WW BB MM
theorem ent_fresh {F : Fo} {N : List Iv} (hn : N.map Prod.fst = F.nodes) {x : It} (hx : Fresh F x) : entF F N x.1 = none := by
  unfold entF
  rw [Option.map_eq_none_iff, List.find?_eq_none]
  intro y hy e
  exact hx.2.2 y.1 (List.mem_append_left _ (hn ▸ List.mem_map.2 ⟨y, hy, rfl⟩)) (by simpa using e)
theorem ent_more {F : Fo} (hF : WF F) {N : List Iv} (hn : N.map Prod.fst = F.nodes) {x : Iv} (hx : Fresh F x.1) (hp : hasF F (parI x.1.2) = true) (h4 : F.nodes.length < 400) (h : ByteArray) :
    setM (entF F N) x.1.1 (mkS x (heightF F (parI x.1.2) + 1)) h = entF (moreF F x.1) (N ++ [x]) h := by
  have hw := more_wf hF hx hp h4
  unfold setM
  by_cases e : h = x.1.1
  · subst e
    rw [if_pos rfl]
    unfold entF
    have hnone : N.find? (fun y => decide (y.1.1 = x.1.1)) = none := by
      have := ent_fresh hn hx
      unfold entF at this
      rwa [Option.map_eq_none_iff] at this
    rw [List.find?_append, hnone]
    simp only [Option.none_or, List.find?_cons, decide_true, Option.map_some]
    rw [more_new hF hw hp]
  · rw [if_neg e]
    unfold entF
    rw [List.find?_append]
    cases hf : N.find? (fun y => decide (y.1.1 = h)) with
    | none =>
      rw [Option.none_or, List.find?_cons, show decide (x.1.1 = h) = false from decide_eq_false fun c => e c.symm]; rfl
    | some y =>
      obtain ⟨hy, hyh⟩ := find_mem hf
      rw [Option.some_or, Option.map_some, Option.map_some, more_old hF hw ((has_iff F h).2 (Or.inr ⟨y.1, hn ▸ List.mem_map.2 ⟨y, hy, rfl⟩, hyh⟩))]
theorem Keeps.upd' {A : Nat → Prop} {c : Nat} {w w' : World} (h : Upd c w w') (hA : ¬ A c) : Keeps A w w' := Keeps.upd h fun _ hb e => hA (e ▸ hb)
end FF
namespace Go.Proofs.YtbakceglaadfpaaDoor
open FF JJ CC MM WW BB
section
variable {B : Nat} {w w' : World} {g : Nat} {F : Fo} {rt : ByteArray} {mv ov : Value} {N O : List Iv} {C : Nat → Prop}
end
end Go.Proofs.YtbakceglaadfpaaDoor
end
section
open Go Go.RowKit
namespace FF
open WW BB
/-- strings in a row of the call's own, so many orphans being through -/
structure LkSt (w0 : World) (e : TypeId) (out : List ByteArray) (x : Value) (wr : World) : Prop where
  below : Below w0.heap.size w0 wr
  row : wr.ownsRow w0.heap.size e 1 x out.length (out.map Value.string)
theorem LkSt.shape {w0 : World} {e : TypeId} {out : List ByteArray} {x : Value} {wr : World} (h : LkSt w0 e out x wr) : ∃ a c, x = .slice a out.length c := by
  rcases h.row.2 with ⟨rfl, h0⟩ | ⟨q, cp, cur, rfl, _⟩
  · exact ⟨none, 0, by rw [h0]⟩
  · exact ⟨_, _, rfl⟩
theorem LkSt.on {w0 : World} {e : TypeId} {out : List ByteArray} {x : Value} {wr w2 : World} (h : LkSt w0 e out x wr) (hb : Below wr.heap.size wr w2) : LkSt w0 e out x w2 :=
  ⟨h.below.trans (hb.mono h.below.size), row_keep h.row fun c hc => hb.block c (h.row.lt c hc).2⟩
theorem LkSt.add {w0 : World} {e : TypeId} {out : List ByteArray} {x u' : Value} {wr w3 : World} (h : LkSt w0 e out x wr) (p : ByteArray) (hr : w3.ownsRow w0.heap.size e 1 u' (out.length + 1) (out.map Value.string ++ [.string p])) (hg : wr.grownBy w3 x.ownBlock) : LkSt w0 e (out ++ [p]) u' w3 :=
  ⟨h.below.grown hg h.below.size fun k hk => (h.row.lt k hk).1, by rw [List.length_append, List.map_append]; exact hr⟩
theorem LkSt.nil (w : World) (e : TypeId) : LkSt w e [] (.slice none 0 0) w := ⟨Below.refl _ _, World.ownsRow_nil _ _ _ _⟩
theorem map_take_snoc (O : List Iv) (i : Nat) (hi : i < O.length) : (O.take (i + 1)).map (fun z => z.1.1) = (O.take i).map (fun z => z.1.1) ++ [(O.getD i v0).1.1] := by
  rw [List.take_add_one, List.getElem?_eq_getElem hi, List.map_append, getD_at hi]; rfl
end FF
namespace Go.Proofs.YtbakceglaadfpaaDoor
open FF JJ CC MM WW BB
end Go.Proofs.YtbakceglaadfpaaDoor
end
section
open Go Go.RowKit
namespace FF
open JJ CC WW BB MM
/-- a block with its two slices -/
abbrev Bv := BlockD × Value × Value
def bd0 : BlockD := (((0, 0), ((0, ⟨#[]⟩), [])), [])
def vb0 : Bv := (bd0, .slice none 0 0, .slice none 0 0)
def encB (x : Bv) : List Value := [.int .i64 (viewI x.1), .int .i64 (propI x.1), .int .i64 (jvI x.1), .string (parI x.1), x.2.1, x.2.2]
def InnB (w : World) (x : Bv) : Prop := SigsAt w x.2.1 (sigsI x.1) ∧ ReqsAt w x.2.2 x.1.2
theorem InnB.later {w w' : World} {x : Bv} (h : InnB w x) (hb : Below w.heap.size w w') : InnB w' x := ⟨h.1.later hb, h.2.later hb⟩
/-- v is a slice of the blocks L -/
def BvAt (w : World) (v : Value) (L : List Bv) : Prop :=
  ∃ a0 cap, v = .slice a0 L.length cap ∧ (L = [] ∨ ∃ b off, a0 = some ⟨b, off, none⟩ ∧ b < w.heap.size ∧
    ∀ i, i < L.length → (∀ j u, (encB (L.getD i vb0))[j]? = some u → w.cell? ⟨b, off + i * 6 + j, none⟩ = some u) ∧ InnB w (L.getD i vb0))
theorem BvAt.later {w w' : World} {v : Value} {L : List Bv} (h : BvAt w v L) (hb : Below w.heap.size w w') : BvAt w' v L := by
  obtain ⟨a0, cap, rfl, h | ⟨b, off, rfl, hl, hc⟩⟩ := h
  · exact ⟨a0, cap, rfl, Or.inl h⟩
  · refine ⟨_, cap, rfl, Or.inr ⟨b, off, rfl, Nat.lt_of_lt_of_le hl hb.size, fun i hi => ?_⟩⟩
    obtain ⟨h1, h2⟩ := hc i hi
    exact ⟨fun j u hu => (hb.cell (p := ⟨b, off + i * 6 + j, none⟩) hl).trans (h1 j u hu), h2.later hb⟩
theorem bv_shape {w : World} {v : Value} {L : List Bv} (h : BvAt w v L) : ∃ a c, v = .slice a L.length c := by
  obtain ⟨a, c, rfl, _⟩ := h; exact ⟨a, c, rfl⟩
/-- where the blocks lie -/
theorem bv_at {w : World} {a0 : Option Addr} {n c : Nat} {L : List Bv} (h : BvAt w (.slice a0 n c) L) (i : Nat) (hi : i < L.length) : ∃ b off, a0 = some ⟨b, off, none⟩ ∧ b < w.heap.size ∧ n = L.length ∧
    ∀ wr, Below w.heap.size w wr → ∀ i, i < L.length → wr.cell? ⟨b, off + i * 6, none⟩ = some (.int .i64 (viewI (L.getD i vb0).1)) ∧ wr.cell? ⟨b, off + i * 6 + 1, none⟩ = some (.int .i64 (propI (L.getD i vb0).1)) ∧ wr.cell? ⟨b, off + i * 6 + 2, none⟩ = some (.int .i64 (jvI (L.getD i vb0).1)) ∧
      wr.cell? ⟨b, off + i * 6 + 3, none⟩ = some (.string (parI (L.getD i vb0).1)) ∧ wr.cell? ⟨b, off + i * 6 + 4, none⟩ = some (L.getD i vb0).2.1 ∧ wr.cell? ⟨b, off + i * 6 + 5, none⟩ = some (L.getD i vb0).2.2 ∧ InnB wr (L.getD i vb0) := by
  obtain ⟨a1, c1, he, h | ⟨b, off, h1, hl, hc⟩⟩ := h
  · subst h; simp at hi
  · injection he with e1 e2 _
    subst e1 h1
    refine ⟨b, off, rfl, hl, e2, fun wr hb i hi => ?_⟩
    obtain ⟨h1, h2⟩ := hc i hi
    have k : ∀ j u, (encB (L.getD i vb0))[j]? = some u → wr.cell? ⟨b, off + i * 6 + j, none⟩ = some u := fun j u hu => (hb.cell (p := ⟨b, off + i * 6 + j, none⟩) hl).trans (h1 j u hu)
    exact ⟨k 0 _ rfl, k 1 _ rfl, k 2 _ rfl, k 3 _ rfl, k 4 _ rfl, k 5 _ rfl, h2.later hb⟩
def cellsB (L : List Bv) : List Value := (L.map encB).flatten
theorem cellsB_snoc (L : List Bv) (x : Bv) : cellsB (L ++ [x]) = cellsB L ++ encB x := by unfold cellsB; rw [List.map_append, List.flatten_append]; simp
theorem cellsB_len (L : List Bv) : (cellsB L).length = L.length * 6 := by
  induction L with
  | nil => rfl
  | cons x r ih => show (encB x ++ cellsB r).length = _; rw [List.length_append, ih, List.length_cons]; simp [encB]; omega
theorem cellsB_at : ∀ (L : List Bv) (i j : Nat) (u : Value), i < L.length → (encB (L.getD i vb0))[j]? = some u → (cellsB L)[i * 6 + j]? = some u
  | [], i, j, u, h, _ => by simp at h
  | x :: r, 0, j, u, _, hu => by
    show (encB x ++ cellsB r)[0 * 6 + j]? = some u
    have hu' : (encB x)[j]? = some u := hu
    have hj : j < (encB x).length := (List.getElem?_eq_some_iff.1 hu').1
    rw [Nat.zero_mul, Nat.zero_add, List.getElem?_append_left hj]; exact hu'
  | x :: r, i + 1, j, u, h, hu => by
    show (encB x ++ cellsB r)[(i + 1) * 6 + j]? = some u
    have hx : (encB x).length = 6 := rfl
    rw [show (i + 1) * 6 + j = 6 + (i * 6 + j) by omega, List.getElem?_append_right (by omega), hx, Nat.add_sub_cancel_left]
    exact cellsB_at r i j u (by simpa using h) (by simpa [List.getD] using hu)
theorem bv_of_own {w : World} {B : Nat} {e : TypeId} {v : Value} {L : List Bv} (h : w.ownsRow B e 6 v L.length (cellsB L)) (hi : ∀ x ∈ L, InnB w x) : BvAt w v L := by
  rcases h.2 with ⟨rfl, h0⟩ | ⟨g, cap, cur, rfl, hg, hh, hn, hcm, hsz, htk⟩
  · exact ⟨none, 0, by rw [h0], Or.inl (List.eq_nil_of_length_eq_zero h0)⟩
  · have hcell : ∀ j u, j < L.length * 6 → (cellsB L)[j]? = some u → w.cell? ⟨g, j, none⟩ = some u := fun j u hj hu => by
      rw [← htk, List.getElem?_take_of_lt hj, Array.getElem?_toList] at hu
      unfold World.cell?; rw [hh]; simpa using hu
    refine ⟨_, cap, rfl, Or.inr ⟨g, 0, rfl, (Array.getElem?_eq_some_iff.1 hh).1, fun i hil => ⟨fun j u hu => ?_, ?_⟩⟩⟩
    · have hj : j < 6 := (List.getElem?_eq_some_iff.1 hu).1
      rw [Nat.zero_add]
      exact hcell _ _ (by omega) (cellsB_at L i j u hil hu)
    · exact hi _ (by rw [getD_at hil]; exact List.getElem_mem hil)
/-- v is a slice of threes of bytes -/
def TriAt (w : World) (v : Value) (l : List (Nat × Nat × Nat)) : Prop :=
  ∃ a0 cap, v = .slice a0 l.length cap ∧ (l = [] ∨ ∃ b off, a0 = some ⟨b, off, none⟩ ∧ b < w.heap.size ∧
    ∀ i, i < l.length → w.cell? ⟨b, off + i * 3, none⟩ = some (.int .u8 ((l.getD i (0, 0, 0)).1 : Int)) ∧ w.cell? ⟨b, off + i * 3 + 1, none⟩ = some (.int .u8 ((l.getD i (0, 0, 0)).2.1 : Int)) ∧ w.cell? ⟨b, off + i * 3 + 2, none⟩ = some (.int .u8 ((l.getD i (0, 0, 0)).2.2 : Int)))
theorem TriAt.later {w w' : World} {v : Value} {l : List (Nat × Nat × Nat)} (h : TriAt w v l) (hb : Below w.heap.size w w') : TriAt w' v l := by
  obtain ⟨a0, cap, rfl, h | ⟨b, off, rfl, hl, hc⟩⟩ := h
  · exact ⟨a0, cap, rfl, Or.inl h⟩
  · refine ⟨_, cap, rfl, Or.inr ⟨b, off, rfl, Nat.lt_of_lt_of_le hl hb.size, fun i hi => ?_⟩⟩
    obtain ⟨h1, h2, h3⟩ := hc i hi
    exact ⟨(hb.cell (p := ⟨b, off + i * 3, none⟩) hl).trans h1, (hb.cell (p := ⟨b, off + i * 3 + 1, none⟩) hl).trans h2, (hb.cell (p := ⟨b, off + i * 3 + 2, none⟩) hl).trans h3⟩
/-- one block more of a chain -/
def nextB (out : List BlockD) (i : Nat) (t : Nat × Nat × Nat) : BlockD :=
  let q := t.2.1 % (i + 1)
  let cv := if 0 < q then viewI (out.getD (q - 1) bd0) else 0
  let cd := if 0 < q then digI (out.getD (q - 1) bd0) else firstD
  (((cv + 1 + ((t.1 % 4 : Nat) : Int), 0), ((cv, cd), [])), [(((t.2.2 % 4 : Nat) : Int), 1 + (i : Int), ⟨#[]⟩)])
def chainL (l : List (Nat × Nat × Nat)) : Nat → List BlockD
  | 0 => []
  | i + 1 => chainL l i ++ [nextB (chainL l i) i (l.getD i (0, 0, 0))]
theorem chain_len (l : List (Nat × Nat × Nat)) : ∀ i, (chainL l i).length = i
  | 0 => rfl
  | i + 1 => by rw [chainL, List.length_append, chain_len l i]; rfl
theorem chain_views (l : List (Nat × Nat × Nat)) : ∀ (i j : Nat), 0 ≤ viewI ((chainL l i).getD j bd0) ∧ viewI ((chainL l i).getD j bd0) ≤ 4 * (i : Int)
  | 0, j => by simp [chainL, bd0, viewI]
  | i + 1, j => by
    rw [chainL]
    by_cases hj : j < i
    · rw [List.getD_eq_getElem?_getD, List.getElem?_append_left (by rw [chain_len]; exact hj), ← List.getD_eq_getElem?_getD]
      have := chain_views l i j
      omega
    · by_cases e : j = i
      · subst e
        rw [List.getD_eq_getElem?_getD, List.getElem?_append_right (by rw [chain_len]; exact Nat.le_refl _), chain_len, Nat.sub_self]
        show 0 ≤ viewI (nextB _ _ _) ∧ viewI (nextB _ _ _) ≤ _
        unfold nextB viewI
        simp only
        split
        · have h1 := chain_views l j ((l.getD j (0, 0, 0)).2.1 % (j + 1) - 1)
          unfold viewI at h1
          omega
        · omega
      · rw [List.getD_eq_getElem?_getD, List.getElem?_eq_none (by simp [chain_len]; omega)]
        simp [bd0, viewI]; omega
theorem chain_small (l : List (Nat × Nat × Nat)) : ∀ i, ∀ x ∈ chainL l i, SmallI x ∧ sigsI x = [] ∧ propI x = 0
  | 0, x, hx => by cases hx
  | i + 1, x, hx => by
    rcases List.mem_append.1 hx with hx | hx
    · exact chain_small l i x hx
    · obtain rfl : x = nextB (chainL l i) i (l.getD i (0, 0, 0)) := by simpa using hx
      refine ⟨⟨?_, ⟨by show (0 : Nat) ≤ 1000; omega, by show (0 : Nat) ≤ 500000; omega, fun j hj => absurd hj (Nat.not_lt_zero j)⟩, ⟨by show (1 : Nat) ≤ 1000; omega, by show (12 : Nat) ≤ 500000; omega, fun j hj => ?_⟩⟩, rfl, rfl⟩
      · unfold nextB parI
        simp only
        split
        · rw [show (digI _).size = 32 from digD_size _ _ _ _ _]; omega
        · rw [firstD_size]; omega
      · obtain rfl : j = 0 := by have : j < 1 := hj; omega
        show (0 : Nat) ≤ 500000; omega
theorem own_apart' {e e' : TypeId} {w : World} {B B' c c' : Nat} {v v' : Value} {n n' : Nat} {xs xs' : List Value} (h : w.ownsRow B e c v n xs) (h' : w.ownsRow B' e' c' v' n' xs') (hne : e ≠ e') : ∀ b, v'.ownBlock = some b → some b ≠ v.ownBlock := by
  intro b hb he
  rcases h.2 with ⟨rfl, _⟩ | ⟨g, cap, cur, rfl, _, hh, _⟩
  · cases he
  · rcases h'.2 with ⟨rfl, _⟩ | ⟨g', cap', cur', rfl, _, hh', _⟩
    · cases hb
    · simp only [Value.ownBlock, Option.some.injEq] at hb he
      have hgg : g' = g := by omega
      rw [hgg, hh] at hh'
      injection hh' with hh'
      injection hh' with _ h2 _
      exact hne h2
/-- the chain so far: a row of blocks, each one's request in a row of its own -/
structure ChSt (w0 : World) (tB tQ : TypeId) (L : List Bv) (x : Value) (wr : World) : Prop where
  below : Below w0.heap.size w0 wr
  row : wr.ownsRow w0.heap.size tB 6 x L.length (cellsB L)
  reqs : ∀ y ∈ L, y.2.1 = .slice none 0 0 ∧ sigsI y.1 = [] ∧ wr.ownsRow w0.heap.size tQ 3 y.2.2 y.1.2.length (cellsR y.1.2)
theorem ChSt.on {w0 : World} {tB tQ : TypeId} {L : List Bv} {x : Value} {wr w2 : World} (h : ChSt w0 tB tQ L x wr) (hb : Below wr.heap.size wr w2) : ChSt w0 tB tQ L x w2 :=
  ⟨h.below.trans (hb.mono h.below.size), row_keep h.row fun c hc => hb.block c (h.row.lt c hc).2, fun y hy => ⟨(h.reqs y hy).1, (h.reqs y hy).2.1, row_keep (h.reqs y hy).2.2 fun c hc => hb.block c ((h.reqs y hy).2.2.lt c hc).2⟩⟩
theorem ChSt.inn {w0 : World} {tB tQ : TypeId} {L : List Bv} {x : Value} {wr : World} (h : ChSt w0 tB tQ L x wr) : ∀ y ∈ L, InnB wr y := fun y hy => by
  obtain ⟨h1, h2, h3⟩ := h.reqs y hy
  exact ⟨by rw [h1, h2]; exact ⟨none, 0, rfl, Or.inl rfl⟩, reqs_of_own h3⟩
theorem ChSt.bv {w0 : World} {tB tQ : TypeId} {L : List Bv} {x : Value} {wr : World} (h : ChSt w0 tB tQ L x wr) : BvAt wr x L := bv_of_own h.row h.inn
theorem ChSt.shape {w0 : World} {tB tQ : TypeId} {L : List Bv} {x : Value} {wr : World} (h : ChSt w0 tB tQ L x wr) : ∃ a c, x = .slice a L.length c := bv_shape h.bv
theorem ChSt.add {w0 : World} {tB tQ : TypeId} (ht : tB ≠ tQ) {L : List Bv} {x u' : Value} {wr w3 : World} (h : ChSt w0 tB tQ L x wr) (y : Bv) (hy : y.2.1 = .slice none 0 0 ∧ sigsI y.1 = [] ∧ wr.ownsRow w0.heap.size tQ 3 y.2.2 y.1.2.length (cellsR y.1.2))
    (hr : w3.ownsRow w0.heap.size tB 6 u' (L.length + 1) (cellsB L ++ encB y)) (hg : wr.grownBy w3 x.ownBlock) : ChSt w0 tB tQ (L ++ [y]) u' w3 := by
  have hk : ∀ z : Bv, wr.ownsRow w0.heap.size tQ 3 z.2.2 z.1.2.length (cellsR z.1.2) → w3.ownsRow w0.heap.size tQ 3 z.2.2 z.1.2.length (cellsR z.1.2) := fun z hz =>
    row_keep hz fun c hc => hg.block c (hz.lt c hc).2 (own_apart' h.row hz ht c hc)
  refine ⟨h.below.grown hg h.below.size fun k hk => (h.row.lt k hk).1, by rw [List.length_append, List.length_singleton, cellsB_snoc]; exact hr, fun z hz => ?_⟩
  rcases List.mem_append.1 hz with hz | hz
  · exact ⟨(h.reqs z hz).1, (h.reqs z hz).2.1, hk z (h.reqs z hz).2.2⟩
  · obtain rfl : z = y := by simpa using hz
    exact ⟨hy.1, hy.2.1, hk z hy.2.2⟩
theorem ChSt.upd {w0 : World} {tB tQ : TypeId} {L : List Bv} {x : Value} {wr w2 : World} {y : Nat} (h : ChSt w0 tB tQ L x wr) (hu : Upd y wr w2) (hy : w0.heap.size ≤ y) (h1 : ∀ c, x.ownBlock = some c → c ≠ y) (h2 : ∀ z ∈ L, ∀ c, z.2.2.ownBlock = some c → c ≠ y) : ChSt w0 tB tQ L x w2 :=
  ⟨h.below.trans (hu.below hy), row_keep h.row fun c hc => hu.block c (h1 c hc), fun z hz => ⟨(h.reqs z hz).1, (h.reqs z hz).2.1, row_keep (h.reqs z hz).2.2 fun c hc => hu.block c (h2 z hz c hc)⟩⟩
theorem bmap_getD (L : List Bv) (i : Nat) (h : i < L.length) : (L.map Prod.fst).getD i bd0 = (L.getD i vb0).1 := by
  simp [List.getD, List.getElem?_eq_getElem h]
theorem gset3 {w : World} {a : Nat} {f : Nat → Value} (h : Blk w a 3 f) (u0 u1 u2 : Value) :
    Blk (((w.setCell ⟨a, 0, none⟩ u0).setCell ⟨a, 1, none⟩ u1).setCell ⟨a, 2, none⟩ u2) a 3 (rowL [u0, u1, u2]) ∧ Upd a w (((w.setCell ⟨a, 0, none⟩ u0).setCell ⟨a, 1, none⟩ u1).setCell ⟨a, 2, none⟩ u2) := by
  refine ⟨(((h.set 0 u0).set 1 u1).set 2 u2).congr _ fun i hi => ?_, (((Upd.refl a w).trans (Upd.set _ _ _ _)).trans (Upd.set _ _ _ _)).trans (Upd.set _ _ _ _)⟩
  match i, hi with
  | 0, _ => rfl
  | 1, _ => rfl
  | 2, _ => rfl
theorem ChSt.nil (w : World) (tB tQ : TypeId) : ChSt w tB tQ [] (.slice none 0 0) w := ⟨Below.refl _ _, World.ownsRow_nil _ _ _ _, fun y hy => by cases hy⟩
end FF
namespace Go.Proofs.YtbakceglaadfpaaDoor
open FF JJ CC MM WW BB
end Go.Proofs.YtbakceglaadfpaaDoor
end
section
open Go Go.RowKit
namespace TT
open WW BB FF
/-- the cells of a slice of blocks, one behind the other -/
theorem bv_flat {w w' : World} {a0 : Option Addr} {n c : Nat} {L : List Bv} (h : BvAt w (.slice a0 n c) L) (hb : Below w.heap.size w w') : ∀ a, a0 = some a → ∀ k u, (cellsB L)[k]? = some u → w'.cell? (a.add k) = some u := by
  intro a ha k u hu
  obtain ⟨a1, c1, he, h | ⟨b, off, h1, hl, hc⟩⟩ := h
  · subst h; simp [cellsB] at hu
  · injection he with e1 _ _
    rw [ha, h1] at e1
    injection e1 with e1
    subst e1
    have hk : k < L.length * 6 := by rw [← cellsB_len]; exact (List.getElem?_eq_some_iff.1 hu).1
    have hi : k / 6 < L.length := by omega
    have hj : k % 6 < (encB (L.getD (k / 6) vb0)).length := by show k % 6 < 6; omega
    have h2 := cellsB_at L (k / 6) (k % 6) _ hi (List.getElem?_eq_getElem hj)
    rw [show k / 6 * 6 + k % 6 = k by omega, hu] at h2
    injection h2 with h2
    have h3 := (hc (k / 6) hi).1 (k % 6) _ (List.getElem?_eq_getElem hj)
    have h4 : (⟨b, off, none⟩ : Addr).add k = ⟨b, off + k, none⟩ := by unfold Addr.add; split <;> simp [*]
    rw [h4, (hb.cell (p := ⟨b, off + k, none⟩) hl), h2, ← h3]
    congr 2; omega
theorem bv_none {w : World} {a0 : Option Addr} {n c : Nat} {L : List Bv} (h : BvAt w (.slice a0 n c) L) (h0 : a0 = none) : n = 0 := by
  obtain ⟨a1, c1, he, h | ⟨b, off, h1, _⟩⟩ := h
  · injection he with _ e2 _; subst h; exact e2
  · injection he with e1 _ _; rw [h0, h1] at e1; cases e1
theorem encB_one {w : World} {x : Bv} (h : InnB w x) : ∀ u ∈ encB x, u.oneCell' = true := by
  obtain ⟨a1, c1, h1⟩ := sl_of_sigs h.1
  obtain ⟨a2, c2, h2⟩ := sl_of_reqs h.2
  intro u hu
  unfold encB at hu
  rw [h1, h2] at hu
  simp only [List.mem_cons, List.not_mem_nil, or_false] at hu
  rcases hu with rfl | rfl | rfl | rfl | rfl | rfl <;> rfl
theorem cellsB_one {w : World} {L : List Bv} (h : ∀ x ∈ L, InnB w x) : ∀ u ∈ cellsB L, u.oneCell' = true := by
  intro u hu
  unfold cellsB at hu
  rw [List.mem_flatten] at hu
  obtain ⟨c, hc, hu⟩ := hu
  obtain ⟨x, hx, rfl⟩ := List.mem_map.1 hc
  exact encB_one (h x hx) u hu
theorem cellsB_app (L M : List Bv) : cellsB (L ++ M) = cellsB L ++ cellsB M := by unfold cellsB; rw [List.map_append, List.flatten_append]
theorem bv_inn {w : World} {v : Value} {L : List Bv} (h : BvAt w v L) : ∀ x ∈ L, InnB w x := by
  intro x hx
  obtain ⟨a0, cap, rfl, h | ⟨b, off, rfl, hl, hc⟩⟩ := h
  · subst h; cases hx
  · obtain ⟨i, hi, rfl⟩ := List.getElem_of_mem hx
    have := (hc i hi).2
    rwa [getD_at hi] at this
/-- what is in a slice, or none, is appended to a row of the call's own -/
theorem run_append_argN {P : Program} {w : World} (base : Nat) (t ty e : TypeId) (i : TypeInfo) (z : Value) (size bytes : Nat) (ht : P.underlying t = some (.slice e)) (hi : P.info? e = some i) (hz : i.zero = some z)
    (hsize : i.size = size) (hby : i.bytes = bytes) (hzs : z.cells.size = size) (hsz : 0 < size) (v : Value) (n : Nat) (xs : List Value) (hown : w.ownsRow base e size v n xs) (a0 : Option Addr) (j c : Nat) (news : List Value) (hl : news.length = j * size)
    (hn : a0 = none → j = 0) (hnews : ∀ a, a0 = some a → ∀ k u, news[k]? = some u → w.cell? (a.add k) = some u) (h1 : ∀ y ∈ news, y.oneCell' = true)
    (h63 : n + j ≤ maxLen) (hbytes : (n + j) * bytes ≤ 140737488355328) (hbase : base ≤ w.heap.size) :
    ∃ v' w', (Builtin.append_ #[t, t] ty #[v, .slice a0 j c]).run P w = .ok v' w' ∧ w'.ownsRow base e size v' (n + j) (xs ++ news) ∧ w.grownBy w' v.ownBlock := by
  rcases a0 with _ | a
  · obtain rfl := hn rfl
    have hn : news = [] := List.eq_nil_of_length_eq_zero (by simpa using hl)
    subst hn
    exact ⟨_, w, run_append_none_any (P := P) (w := w) base t ty e i size ht hi _ n xs hown c, by simpa using hown, ⟨rfl, rfl, rfl, Nat.le_refl _, fun _ _ _ => rfl⟩⟩
  · obtain ⟨v', w', hr, ho, hg, _⟩ := run_append_own (P := P) w base t ty e i z size bytes ht hi hz hsize hby hzs hsz v n xs hown a j c news hl (hnews a rfl) h1 h63 hbytes hbase
    exact ⟨v', w', hr, ho, hg⟩
theorem row_own_none {w : World} {e : TypeId} : (w.alloc (.cells #[] e)).ownsRow w.heap.size e 6 (.slice (some ⟨w.heap.size, 0, none⟩) 0 0) 0 [] :=
  ⟨rfl, Or.inr ⟨_, 0, #[], rfl, Nat.le_refl _, by show (Array.push _ _)[_]? = _; simp, Nat.le_refl _, Nat.zero_le _, rfl, rfl⟩⟩
theorem own_sl6 {w : World} {base n k : Nat} {e : TypeId} {v : Value} {xs : List Value} (h : w.ownsRow base e k v n xs) : ∃ a c, v = .slice a n c := by
  rcases h.2 with ⟨h1, h2⟩ | ⟨q, cap, cur, h1, _⟩
  · exact ⟨none, 0, by rw [h1, h2]⟩
  · exact ⟨_, _, h1⟩
theorem dep_step {A A' : Nat → Prop} {w w' : World} {P : World → Prop} (h : Dep A w P) (hk : Keeps A w w') (hA : ∀ b, A b → b < w.heap.size → A' b) : Dep A' w' P := fun w2 h2 =>
  h w2 ⟨hk.b0.trans h2.b0, fun b hb hl => (h2.block b (hA b hb hl) (Nat.lt_of_lt_of_le hl hk.b0.size)).trans (hk.block b hb hl)⟩
theorem dep_inn {A : Nat → Prop} {w : World} {u : Value} {B : List Bv} (h : Dep A w (fun w' => BvAt w' u B)) : ∀ y ∈ B, Dep A w (fun w' => InnB w' y) := fun y hy w' hk => bv_inn (h w' hk) y hy
theorem dep_bv {A : Nat → Prop} {w : World} {base : Nat} {e : TypeId} {u : Value} {B : List Bv} (hr : w.ownsRow base e 6 u B.length (cellsB B)) (hi : ∀ y ∈ B, Dep A w (fun w' => InnB w' y)) (hA : ∀ b, u.ownBlock = some b → A b) : Dep A w (fun w' => BvAt w' u B) := fun w' hk =>
  bv_of_own (row_keep hr fun c hc => hk.block c (hA c hc) (hr.lt c hc).2) fun y hy => hi y hy w' hk
/-- 'append(append([]T{}, v1...), v2...)' -/
theorem two_rows {P : Program} {w : World} {t ty e : TypeId} {i : TypeInfo} {z : Value} {bytes : Nat} (ht : P.underlying t = some (.slice e)) (hi : P.info? e = some i) (hz : i.zero = some z) (hsize : i.size = 6) (hby : i.bytes = bytes) (hzs : z.cells.size = 6)
    {a1 a2 : Option Addr} {n1 n2 c1 c2 : Nat} {B1 B2 : List Bv} (h1 : BvAt w (.slice a1 n1 c1) B1) (h2 : BvAt w (.slice a2 n2 c2) B2) (hl : B1.length + B2.length ≤ 10000) (hb : bytes ≤ 1000) :
    ∃ a3 c3 w2 a4 c4 w3, (Builtin.append_ #[t, t] ty #[.slice (some ⟨w.heap.size, 0, none⟩) 0 0, .slice a1 n1 c1]).run P (w.alloc (.cells #[] e)) = .ok (.slice a3 B1.length c3) w2 ∧
      (Builtin.append_ #[t, t] ty #[.slice a3 B1.length c3, .slice a2 n2 c2]).run P w2 = .ok (.slice a4 (B1.length + B2.length) c4) w3 ∧
      Below w.heap.size w w2 ∧ Below w.heap.size w w3 ∧ w3.ownsRow w.heap.size e 6 (.slice a4 (B1.length + B2.length) c4) (B1 ++ B2).length (cellsB (B1 ++ B2)) := by
  have W1 : Below w.heap.size w (w.alloc (.cells #[] e)) := (Below.refl _ _).alloc (Nat.le_refl _) _
  have e1 : n1 = B1.length := by obtain ⟨a, c, h, _⟩ := h1; injection h
  have e2 : n2 = B2.length := by obtain ⟨a, c, h, _⟩ := h2; injection h
  subst e1 e2
  have hm : B1.length * bytes ≤ 10000 * 1000 := Nat.mul_le_mul (by omega) hb
  have hm2 : (B1.length + B2.length) * bytes ≤ 10000 * 1000 := Nat.mul_le_mul hl hb
  obtain ⟨v2, w2, hr2, ho2, hg2, _⟩ := run_append_arg0 (P := P) (w := w.alloc (.cells #[] e)) w.heap.size t ty e i z 6 bytes ht hi hz hsize hby hzs (by decide) w.heap.size row_own_none a1 B1.length c1 (cellsB B1) (cellsB_len B1) (bv_none h1) (bv_flat h1 W1) (cellsB_one (bv_inn h1)) (by unfold maxLen; omega) (by omega) (by simp)
  obtain ⟨a3, c3, rfl⟩ := own_sl6 ho2
  have W2 : Below w.heap.size w w2 := W1.grown hg2 (by simp) (fun j e => by cases e; exact Nat.le_refl _)
  obtain ⟨v3, w3, hr3, ho3, hg3⟩ := run_append_argN (P := P) (w := w2) w.heap.size t ty e i z 6 bytes ht hi hz hsize hby hzs (by decide) _ B1.length (cellsB B1) ho2 a2 B2.length c2 (cellsB B2) (cellsB_len B2) (bv_none h2) (bv_flat h2 W2) (cellsB_one (bv_inn h2)) (by unfold maxLen; omega) (by omega) W2.size
  obtain ⟨a4, c4, rfl⟩ := own_sl6 ho3
  refine ⟨a3, c3, w2, a4, c4, w3, hr2, hr3, W2, W2.grown hg3 W2.size (fun j e => (ho2.lt j e).1), ?_⟩
  rw [List.length_append, cellsB_app]
  exact ho3
end TT
end
section
open Go Go.RowKit
namespace LE
open FF JJ WW BB Go.Maps
/-- an index, as an element -/
def numL (x : Int) : DataW Unit := .lit (.int .i64 x)
/-- D tells where each number's entry is -/
structure IxIs (D : DataW Unit) (E : List Rq) : Prop where
  tidy : Tidy D
  has : ∀ x, In64 x → Maps.has D (keyQ x) = decide (0 ≤ ixR E x)
  at_ : ∀ x, In64 x → 0 ≤ ixR E x → ∀ z, D.atKey (keyQ x) z = numL (ixR E x)
theorem IxIs.empty : IxIs (.map []) [] := ⟨tidy_empty, fun _ _ => rfl, fun x _ h => absurd h (by show ¬ (0 : Int) ≤ -1; omega)⟩
theorem ix_other {E : List Rq} {r : Rq} {x : Int × Int} (hx : x ≠ keyR r) : ixR (E ++ [r]) x = ixR E x ∨ (ixR (E ++ [r]) x < 0 ∧ ixR E x < 0) := by
  by_cases h : 0 ≤ ixR E x
  · exact .inl (ix_app _ h)
  · refine .inr ⟨(ix_neg _ _).2 fun hm => ?_, by omega⟩
    rw [List.map_append, List.mem_append] at hm
    rcases hm with hm | hm
    · exact (ix_neg _ _).1 (by omega) hm
    · exact hx (by simpa using hm)
theorem row_heapL {w : World} {B k n : Nat} {e : TypeId} {v : Value} {xs : List Value} (h : w.ownsRow B e k v n xs) {b : Nat} (hb : v.ownBlock = some b) : ∃ cur, w.heap[b]? = some (.cells cur e (0, 0)) := by
  rcases h.2 with ⟨rfl, _⟩ | ⟨q, cap, cur, rfl, _, hh, _⟩
  · cases hb
  · obtain rfl : q = b := by simpa [Value.ownBlock] using hb
    exact ⟨cur, hh⟩
theorem row_shapeL {w : World} {B k n : Nat} {e : TypeId} {v : Value} {xs : List Value} (h : w.ownsRow B e k v n xs) : ∃ a c, v = .slice a n c := by
  rcases h.2 with ⟨rfl, h0⟩ | ⟨q, cap, cur, rfl, _⟩
  · exact ⟨none, 0, by rw [h0]⟩
  · exact ⟨_, _, rfl⟩
/-- one of the row of digests -/
theorem dig_atL {w : World} {e : TypeId} {B : Nat} {v : Value} {D : List ByteArray} (h : w.ownsRow B e 1 v D.length (D.map Value.string)) (i : Nat) (hi : i < D.length) :
    ∃ q cap, v = .slice (some ⟨q, 0, none⟩) D.length cap ∧ q < w.heap.size ∧ w.cell? ⟨q, i, none⟩ = some (.string (D.getD i ⟨#[]⟩)) := by
  rcases h.2 with ⟨_, h0⟩ | ⟨g, cap, cur, rfl, hg, hh, hn, hcm, hsz, htk⟩
  · omega
  · refine ⟨g, cap, rfl, (Array.getElem?_eq_some_iff.1 hh).1, ?_⟩
    have h1 : (D.map Value.string)[i]? = some (.string (D.getD i ⟨#[]⟩)) := by
      rw [List.getElem?_map, List.getElem?_eq_getElem hi, List.getD_eq_getElem?_getD, List.getElem?_eq_getElem hi]; rfl
    rw [← htk, List.getElem?_take_of_lt (by omega), Array.getElem?_toList] at h1
    unfold World.cell?; rw [hh]; simpa using h1
/-- the digests behind none, one, two .. of the entries -/
def digsL (E : List Rq) : List ByteArray := (List.range (E.length + 1)).map fun i => digE (E.take i)
theorem digsL_len (E : List Rq) : (digsL E).length = E.length + 1 := by unfold digsL; simp
theorem digsL_at (E : List Rq) (i : Nat) (h : i ≤ E.length) : (digsL E).getD i ⟨#[]⟩ = digE (E.take i) := by
  unfold digsL
  rw [List.getD_eq_getElem?_getD, List.getElem?_map, List.getElem?_range (by omega)]; rfl
theorem digsL_snoc (E : List Rq) (r : Rq) : digsL (E ++ [r]) = digsL E ++ [digE (E ++ [r])] := by
  unfold digsL
  rw [List.length_append, List.length_singleton, List.range_succ (n := E.length + 1), List.map_append]
  congr 1
  · refine List.map_congr_left fun i hi => ?_
    have := List.mem_range.1 hi
    rw [List.take_append_of_le_length (by omega)]
  · show [digE ((E ++ [r]).take (E.length + 1))] = _
    rw [List.take_of_length_le (by simp)]
theorem digsL_nil : digsL [] = [digE []] := rfl
/-- the ledger's own blocks -/
def OwnL (g : Nat) (ev mv dv : Value) (b : Nat) : Prop := b = g ∨ ev.ownBlock = some b ∨ mapBlk mv = some b ∨ dv.ownBlock = some b
end LE
namespace Go.Proofs.YtbakceglaadfpaaDoor
open LE ZZ FF JJ CC MM WW BB RR TT Go.Maps Go.WideMaps
theorem rowNumL : (56 : TypeId) < Tryd.prog.types.size := of_decide_eq_true (by kernel_rfl)
theorem wideNumL : (match Tryd.prog.underlying 56 with | some (.array _ _) | some (.struct _) => true | _ => false) = true := by kernel_rfl
theorem laidOutL : laidOutB Tryd.prog = true := by kernel_rfl
set_option maxRecDepth 100000 in
theorem law_numL : Keyed Tryd.prog 56 := Keyed.of_law (deep_law_laid laidOutL (m := 2 + 1) (by decide) rowNumL (by kernel_rfl) wideNumL)
theorem und_mapL : Tryd.prog.underlying 50 = some (.map 56 3) := by kernel_rfl
theorem und_intL : Tryd.prog.underlying 3 = some (.int .i64) := by kernel_rfl
theorem zero_intL (w : World) : (zeroValue 3).run Tryd.prog w = .ok (.int .i64 0) w := by first | exact Tryd.zeroValue3 w | exact run_zeroValue (by kernel_rfl)
theorem cells_numL : Tryd.prog.cellsOf 56 = 2 := by kernel_rfl
theorem cells_intL : Tryd.prog.cellsOf 3 = 1 := by kernel_rfl
theorem und_reqsL : Tryd.prog.underlying 27 = some (.slice 34) := by kernel_rfl
theorem info_reqL : (Tryd.prog.info? 34).map (fun i => (i.zero, i.size, i.bytes)) = some (some (.agg #[.int .i64 0, .int .i64 0, .string ⟨#[]⟩]), 3, 32) := by kernel_rfl
theorem info_strL : (Tryd.prog.info? 9).map (fun i => (i.zero, i.size, i.bytes)) = some (some (.string ⟨#[]⟩), 1, 16) := by kernel_rfl
theorem und_strsL : Tryd.prog.underlying 51 = some (.slice 9) := by kernel_rfl
theorem key_numL (x : Int × Int) (h : In64 x) : keyOf Tryd.prog 56 (.agg #[.int .i64 x.1, .int .i64 x.2]) = some (keyQ x) := by
  have hkt : Tryd.prog.keyType 56 = true := by kernel_rfl
  have hs : ∃ m, Tryd.prog.types.size = m + 1 := Nat.exists_eq_succ_of_ne_zero (Nat.ne_of_gt (Nat.lt_of_le_of_lt (Nat.zero_le _) rowNumL))
  obtain ⟨m, hm⟩ := hs
  have w1 := wf64 h.1
  have w2 := wf64 h.2
  unfold keyOf
  simp only [Tryd.underlying56]
  rw [if_pos (by simp [hkt, Value.formed, Tryd.underlying56, cells_numL]), hm]
  unfold Program.keyLits
  simp only [Tryd.underlying56, Value.cells]
  rw [if_pos ⟨by rw [cells_numL]; rfl, by simp⟩]
  simp [cells_intL, Program.keyLits, Tryd.underlying3, w1, w2, List.mapM_cons, List.mapM_nil, keyQ]
set_option maxRecDepth 100000 in
theorem keyQ_injL {x y : Int × Int} (hx : In64 x) (hy : In64 y) (h : keyQ x = keyQ y) : x = y := by
  have h1 := key_numL x hx
  rw [h] at h1
  have h2 := law_numL.inj h1 (key_numL y hy)
  have h3 := congrArg Array.toList (Value.agg.inj h2)
  have h4 : [Value.int .i64 x.1, .int .i64 x.2] = [Value.int .i64 y.1, .int .i64 y.2] := h3
  obtain ⟨h5, h6⟩ := List.cons.inj h4
  exact Prod.ext (Value.int.inj h5).2 (Value.int.inj (List.cons.inj h6).1).2
/-- one entry more -/
theorem ix_putL {D : DataW Unit} {E : List Rq} {r : Rq} (h : IxIs D E) (hr : In64 (keyR r)) (hn : ixR E (keyR r) < 0) : IxIs (D.put (keyQ (keyR r)) (numL (E.length : Int))) (E ++ [r]) := by
  have hk : WideAt.IsKeyLit (keyQ (keyR r)) := trivial
  refine ⟨h.tidy.put hk _, fun x hx => ?_, fun x hx h0 z => ?_⟩
  · by_cases e : x = keyR r
    · subst e
      rw [has_put_same h.tidy.isMap hk, ix_new hn]; simp
    · rw [has_put_other (fun k => e (keyQ_injL hx hr k)), h.has x hx]
      rcases ix_other (E := E) e with k | ⟨k1, k2⟩
      · rw [k]
      · rw [decide_eq_false (by omega), decide_eq_false (by omega)]
  · by_cases e : x = keyR r
    · subst e
      rw [ix_new hn]; exact atKey_put_same h.tidy.isMap hk _ _
    · rw [atKey_put_other (fun k => e (keyQ_injL hx hr k))]
      rcases ix_other (E := E) e with k | ⟨k1, _⟩
      · rw [k] at h0 ⊢; exact h.at_ x hx h0 z
      · omega
/-- the map of indexes, in a block of its own -/
def IxAt (w : World) (mv : Value) (E : List Rq) (n : Nat) : Prop := ∃ (b : Nat) (D : DataW Unit), mv = .map (some b) ∧ w.ownsMap Tryd.prog 56 (plainElem Tryd.prog 3) b n D ∧ IxIs D E
section
variable {w w' : World} {mv : Value} {E : List Rq} {n : Nat}
theorem IxAt.keep (h : IxAt w mv E n) (hb : ∀ b, mapBlk mv = some b → w'.heap[b]? = w.heap[b]?) : IxAt w' mv E n := by
  obtain ⟨b, D, rfl, ⟨es, clock, h1, h2⟩, h3⟩ := h
  exact ⟨b, D, rfl, ⟨es, clock, (hb b rfl).trans h1, h2⟩, h3⟩
theorem IxAt.lt (h : IxAt w mv E n) : ∀ b, mapBlk mv = some b → b < w.heap.size := by
  obtain ⟨b, D, rfl, h1, _⟩ := h
  exact fun c hc => by cases hc; exact h1.lt
theorem IxAt.nomap (h : IxAt w mv E n) {cs : Array Value} {ty : TypeId} {fz : Nat × Nat} {b : Nat} (hb : w.heap[b]? = some (.cells cs ty fz)) : mapBlk mv ≠ some b := by
  obtain ⟨c, D, rfl, ⟨es, clock, h1, _⟩, _⟩ := h
  intro e; cases e; rw [hb] at h1; cases h1
theorem IxAt.shape (h : IxAt w mv E n) : ∃ b, mv = .map (some b) := by
  obtain ⟨b, D, rfl, _⟩ := h
  exact ⟨_, rfl⟩
/-- the look-up, run -/
theorem IxAt.look (h : IxAt w mv E n) {x : Int × Int} (hx : In64 x) :
    (Instr.lookup 50 mv (.agg #[.int .i64 x.1, .int .i64 x.2]) true).run Tryd.prog w = .ok (ixV E x.1 x.2) w := by
  obtain ⟨b, D, rfl, hown, hm⟩ := h
  obtain ⟨v, ps, hr, hv⟩ := hown.look_ok law_numL und_mapL (zero_intL w) (plainElem_int und_intL (a := 0) (by decide)) (key_numL x hx)
  obtain ⟨a, rfl, ha, _⟩ := plainElem_int_inv und_intL hv
  rw [hr, hm.has x hx]
  unfold ixV
  by_cases h0 : 0 ≤ ixR E x
  · rw [hm.at_ x hx h0] at ha
    unfold numL at ha
    injection ha with ha _
    injection ha with ha
    injection ha with _ ha
    rw [← ha, show max (ixR E (x.1, x.2)) 0 = ixR E x from Int.max_eq_left h0]
  · have h1 : Maps.has D (keyQ x) = false := by rw [hm.has x hx, decide_eq_false h0]
    rw [atKey_of_not_has h1] at ha
    injection ha with ha _
    injection ha with ha
    injection ha with _ ha
    rw [← ha, show max (ixR E (x.1, x.2)) 0 = 0 from Int.max_eq_right (by show ixR E x ≤ 0; omega)]
end
/-- the code's ledger in block g: entries E, indexes of K, digests D -/
structure LgM (w : World) (g : Nat) (E K : List Rq) (D : List ByteArray) (n : Nat) (ev mv dv : Value) : Prop where
  blk : TBlk 53 w g 3 (rowL [ev, mv, dv])
  rowE : w.ownsRow 0 34 3 ev E.length (cellsR E)
  map : IxAt w mv K n
  rowD : w.ownsRow 0 9 1 dv D.length (D.map Value.string)
section
variable {w w' : World} {g n : Nat} {E K : List Rq} {D : List ByteArray} {ev mv dv : Value}
theorem LgM.keep (h : LgM w g E K D n ev mv dv) (hk : Keeps (OwnL g ev mv dv) w w') : LgM w' g E K D n ev mv dv :=
  ⟨(hk.block g (.inl rfl) h.blk.lt).trans h.blk, row_keep h.rowE fun c hc => hk.block c (.inr (.inl hc)) (h.rowE.lt c hc).2, h.map.keep fun b hb => hk.block b (.inr (.inr (.inl hb))) (h.map.lt b hb), row_keep h.rowD fun c hc => hk.block c (.inr (.inr (.inr hc))) (h.rowD.lt c hc).2⟩
theorem LgM.on (h : LgM w g E K D n ev mv dv) (hb : Below w.heap.size w w') : LgM w' g E K D n ev mv dv := h.keep (Keeps.of hb)
theorem LgM.ownL (h : LgM w g E K D n ev mv dv) : ∀ b, OwnL g ev mv dv b → b < w.heap.size := by
  rintro b (rfl | hb | hb | hb)
  · exact h.blk.lt
  · exact (h.rowE.lt b hb).2
  · exact h.map.lt b hb
  · exact (h.rowD.lt b hb).2
theorem LgM.ge (h : LgM w g E K D n ev mv dv) : ev.ownBlock ≠ some g := fun e => by
  obtain ⟨cur, hh⟩ := row_heapL h.rowE e
  have := h.blk
  unfold TBlk at this
  rw [hh] at this
  injection this with this
  injection this with _ h2 _
  exact absurd h2 (by decide)
theorem LgM.gd (h : LgM w g E K D n ev mv dv) : dv.ownBlock ≠ some g := fun e => by
  obtain ⟨cur, hh⟩ := row_heapL h.rowD e
  have := h.blk
  unfold TBlk at this
  rw [hh] at this
  injection this with this
  injection this with _ h2 _
  exact absurd h2 (by decide)
theorem LgM.gm (h : LgM w g E K D n ev mv dv) : mapBlk mv ≠ some g := h.map.nomap h.blk
theorem LgM.em (h : LgM w g E K D n ev mv dv) : ∀ b, ev.ownBlock = some b → mapBlk mv ≠ some b := fun b hb => by
  obtain ⟨cur, hh⟩ := row_heapL h.rowE hb
  exact h.map.nomap hh
theorem LgM.dm (h : LgM w g E K D n ev mv dv) : ∀ b, dv.ownBlock = some b → mapBlk mv ≠ some b := fun b hb => by
  obtain ⟨cur, hh⟩ := row_heapL h.rowD hb
  exact h.map.nomap hh
theorem LgM.ed (h : LgM w g E K D n ev mv dv) : ∀ b, ev.ownBlock = some b → dv.ownBlock ≠ some b := fun b hb hd => by
  obtain ⟨cur, hh⟩ := row_heapL h.rowE hb
  obtain ⟨cur', hh'⟩ := row_heapL h.rowD hd
  rw [hh] at hh'
  injection hh' with this
  injection this with _ h2 _
  exact absurd h2 (by decide)
theorem LgM.cells (h : LgM w g E K D n ev mv dv) : w.cell? ⟨g, 0, none⟩ = some ev ∧ w.cell? ⟨g, 1, none⟩ = some mv ∧ w.cell? ⟨g, 2, none⟩ = some dv := RR.cells3 h.blk.blk
theorem LgM.reqs (h : LgM w g E K D n ev mv dv) : ReqsAt w ev E := reqs_of_own h.rowE
end
/-- the code's ledger is E, by the blocks O -/
def At13 (O : Nat → Prop) (w : World) (g : Nat) (E : List Rq) : Prop := ∃ ev mv dv, LgM w g E E (digsL E) E.length ev mv dv ∧ ∀ b, O b ↔ OwnL g ev mv dv b
theorem at13_keep {O : Nat → Prop} {w w' : World} {g : Nat} {E : List Rq} (h : At13 O w g E) (hk : Keeps O w w') : At13 O w' g E := by
  obtain ⟨ev, mv, dv, h1, h2⟩ := h
  exact ⟨ev, mv, dv, h1.keep (hk.sub fun b hb _ => (h2 b).2 hb), h2⟩
theorem at13_lt {O : Nat → Prop} {w : World} {g : Nat} {E : List Rq} (h : At13 O w g E) : ∀ b, O b → b < w.heap.size := by
  obtain ⟨ev, mv, dv, h1, h2⟩ := h
  exact fun b hb => h1.ownL b ((h2 b).1 hb)
set_option maxRecDepth 100000 in
set_option maxHeartbeats 1000000 in
theorem len13 (O : Nat → Prop) (w : World) (g : Nat) (E : List Rq) (h : At13 O w g E) : Calls Tryd.prog 17 #[.pointer (some ⟨g, 0, none⟩)] w fun e w' => e = .returned (.int .i64 (E.length : Int)) ∧ Below w.heap.size w w' := by
  obtain ⟨ev, mv, dv, h1, _⟩ := h
  obtain ⟨c0, _, _⟩ := h1.cells
  obtain ⟨a, c, rfl⟩ := row_shapeL h1.rowE
  clear h1
  go_enter Tryd.func17, Tryd.ntmps17
  go_wp2_with fail
  go_ret
  exact ⟨rfl, Below.refl _ _⟩
set_option maxRecDepth 100000 in
set_option maxHeartbeats 1000000 in
theorem entries13 (O : Nat → Prop) (w : World) (g : Nat) (E : List Rq) (h : At13 O w g E) (hE : E.length ≤ 1000) :
    Calls Tryd.prog 16 #[.pointer (some ⟨g, 0, none⟩)] w fun e w' => ∃ u R, e = .returned u ∧ (∀ a n c, u = .slice a n c → n ≤ c) ∧ Dep R w' (fun w'' => ReqsAt w'' u E) ∧ (∀ b, R b → w.heap.size ≤ b) ∧ Below w.heap.size w w' := by
  obtain ⟨ev, mv, dv, h1, _⟩ := h
  obtain ⟨c0, _, _⟩ := h1.cells
  have HR := Lib.hid h1.reqs
  have HL := Lib.hid hE
  obtain ⟨a, c, rfl⟩ := row_shapeL h1.rowE
  clear h1 hE
  go_enter Tryd.func16, Tryd.ntmps16
  go_wp2_with fail
  refine (rqcloneO_any E _ w HR.out (by have := HL.out; omega)).mono ?_
  rintro e w2 ⟨u, rfl, hrn, hb2⟩
  obtain ⟨ra, rc, rfl⟩ := row_shapeL hrn
  have HRN := Lib.hid hrn
  clear hrn
  go_wp2_with fail
  go_ret
  refine ⟨_, fun b => (Value.slice ra E.length rc).ownBlock = some b, rfl, fun a n c h => ?_, reqs_depM HRN.out, fun b hb => (HRN.out.lt b hb).1, hb2⟩
  injection h with h1 h2 h3
  subst h2 h3
  exact own_capM HRN.out
set_option maxRecDepth 100000 in
set_option maxHeartbeats 2000000 in
theorem index13 (O : Nat → Prop) (w : World) (g : Nat) (E : List Rq) (c q : Int) (h : At13 O w g E) (h64 : In64 (c, q)) :
    Calls Tryd.prog 14 #[.pointer (some ⟨g, 0, none⟩), .int .i64 c, .int .i64 q] w fun e w' => e = .returned (ixV E c q) ∧ Below w.heap.size w w' := by
  obtain ⟨ev, mv, dv, h1, _⟩ := h
  obtain ⟨_, c1, _⟩ := h1.cells
  have hlk := h1.map.look h64
  obtain ⟨m, hm⟩ : ∃ m, max (ixR E (c, q)) 0 = m := ⟨_, rfl⟩
  obtain ⟨B, hB⟩ : ∃ B, decide (0 ≤ ixR E (c, q)) = B := ⟨_, rfl⟩
  unfold ixV at hlk ⊢
  rw [hm, hB] at hlk ⊢
  obtain ⟨b, rfl⟩ := h1.map.shape
  clear h1 hm hB h64
  go_enter Tryd.func14, Tryd.ntmps14
  go_wp2_with fail
  go_ret2
  exact ⟨rfl, Below.refl _ _⟩
end Go.Proofs.YtbakceglaadfpaaDoor
end
section
open Go Go.RowKit
namespace LE
open FF JJ WW BB
/-- an append whose run is known -/
theorem wpl_append_runM {P : Program} {w w' : World} {ops : Array Oper} {rest : List Oper} {o : Oper} {a : Act} {Q : Exit → Act → World → Prop} {v' : Value} (hgd : o.guard = none) (s x : Operand) (t : TypeId)
    (ho : o.op = .call { callee := .builtin .append, args := #[s, x], argTypes := #[t, t] }) (hr : (Builtin.append_ #[t, t] o.type #[a.eval s, a.eval x]).run P w = .ok v' w') (h : wpList P ops Q rest (a.put o.dst v') w') : wpList P ops Q (o :: rest) a w := by
  refine wpList_plain hgd fun K hK => ?_
  unfold Oper.wp execOp
  simp only [ho, resolve, invoke, builtin, Sem.run_bind, Sem.run_pure, Result.andThen_ok, List.map_toArray, List.map_cons, List.map_nil, hr]
  exact hK _ _ h
theorem cells1_newL (w : World) (u : Value) (t : TypeId) : ∀ j x, [u][j]? = some x → (w.alloc (.cells #[u] t)).cell? ((⟨w.heap.size, 0, none⟩ : Addr).add j) = some x := by
  intro j x hj
  match j, hj with
  | 0, hj => simp at hj; subst hj; rw [Addr.add_lit]; exact cell_new w _ t 0 _ rfl
  | j + 1, hj => simp at hj
theorem cells1_oneL (d : ByteArray) : ∀ u ∈ [Value.string d], u.oneCell' = true := by
  intro u hu
  simp only [List.mem_cons, List.not_mem_nil, or_false] at hu
  subst hu; rfl
/-- a row of one that was just built -/
theorem row_oneL (w : World) (u : Value) (t : TypeId) : (w.alloc (.cells #[u] t)).ownsRow 0 t 1 (.slice (some ⟨w.heap.size, 0, none⟩) 1 1) 1 [u] :=
  ⟨rfl, .inr ⟨w.heap.size, 1, #[u], rfl, Nat.zero_le _, heap_alloc_new w _, Nat.le_refl _, by decide, rfl, rfl⟩⟩
end LE
namespace Go.Proofs.YtbakceglaadfpaaDoor
open LE ZZ FF JJ CC MM WW BB RR TT Go.Maps
section
variable {w w' w1 : World} {g n : Nat} {E E' K K' : List Rq} {D : List ByteArray} {ev mv dv ev' dv' : Value}
theorem LgM.pushM {bm : Nat} {X : DataW Unit} (h : LgM w g E K D n ev (.map (some bm)) dv) (hm : w1.ownsMap Tryd.prog 56 (plainElem (H := Unit) Tryd.prog 3) bm (n + 1) X) (hs : IxIs X K') (hg : w.grownBy w1 (some bm)) :
    LgM w1 g E K' D (n + 1) ev (.map (some bm)) dv ∧ Keeps (fun b => b ≠ bm) w w1 := by
  have hk : Keeps (fun b => b ≠ bm) w w1 := Keeps.grown hg fun b e c => by injection e with e; exact c e.symm
  exact ⟨⟨(hk.block g (fun e => h.gm (by rw [e]; rfl)) h.blk.lt).trans h.blk, row_keep h.rowE fun c hc => hk.block c (fun e => h.em c hc (by rw [e]; rfl)) (h.rowE.lt c hc).2, ⟨bm, X, rfl, hm, hs⟩, row_keep h.rowD fun c hc => hk.block c (fun e => h.dm c hc (by rw [e]; rfl)) (h.rowD.lt c hc).2⟩, hk⟩
theorem LgM.pushE (h : LgM w g E K D n ev mv dv) (hr : w1.ownsRow 0 34 3 ev' E'.length (cellsR E')) (hg : w.grownBy w1 ev.ownBlock) (hloc : ∀ b, ev'.ownBlock = some b → ev.ownBlock = some b ∨ w.heap.size ≤ b) :
    LgM (w1.setCell ⟨g, 0, none⟩ ev') g E' K D n ev' mv dv ∧ Keeps (fun b => ev.ownBlock ≠ some b ∧ b ≠ g) w (w1.setCell ⟨g, 0, none⟩ ev') := by
  have hu := Upd.set w1 g 0 ev'
  have hgo : ∀ b, ev'.ownBlock = some b → b ≠ g := fun b hb e => by
    rcases hloc b hb with h1 | h1
    · exact h.ge (e ▸ h1)
    · have := h.blk.lt; omega
  have hk : Keeps (fun b => ev.ownBlock ≠ some b ∧ b ≠ g) w (w1.setCell ⟨g, 0, none⟩ ev') := (Keeps.grown hg fun b e c => c.1 e).trans (Keeps.upd' hu fun c => c.2 rfl)
  refine ⟨⟨?_, row_keep hr fun c hc => hu.block c (hgo c hc), h.map.keep fun b hb => hk.block b ⟨fun e => h.em b e hb, fun e => h.gm (e ▸ hb)⟩ (h.map.lt b hb), row_keep h.rowD fun c hc => hk.block c ⟨fun e => h.ed c e hc, fun e => h.gd (e ▸ hc)⟩ (h.rowD.lt c hc).2⟩, hk⟩
  have k1 : TBlk 53 w1 g 3 _ := (hg.block g h.blk.lt (fun e => h.ge e.symm)).trans h.blk
  refine (k1.set 0 _).congr _ fun j hj => ?_
  match j, hj with
  | 0, _ => rfl
  | 1, _ => rfl
  | 2, _ => rfl
theorem LgM.pushD {D' : List ByteArray} (h : LgM w g E K D n ev mv dv) (hr : w1.ownsRow 0 9 1 dv' D'.length (D'.map Value.string)) (hg : w.grownBy w1 dv.ownBlock) (hloc : ∀ b, dv'.ownBlock = some b → dv.ownBlock = some b ∨ w.heap.size ≤ b) :
    LgM (w1.setCell ⟨g, 2, none⟩ dv') g E K D' n ev mv dv' ∧ Keeps (fun b => dv.ownBlock ≠ some b ∧ b ≠ g) w (w1.setCell ⟨g, 2, none⟩ dv') := by
  have hu := Upd.set w1 g 2 dv'
  have hgo : ∀ b, dv'.ownBlock = some b → b ≠ g := fun b hb e => by
    rcases hloc b hb with h1 | h1
    · exact h.gd (e ▸ h1)
    · have := h.blk.lt; omega
  have hk : Keeps (fun b => dv.ownBlock ≠ some b ∧ b ≠ g) w (w1.setCell ⟨g, 2, none⟩ dv') := (Keeps.grown hg fun b e c => c.1 e).trans (Keeps.upd' hu fun c => c.2 rfl)
  refine ⟨⟨?_, row_keep h.rowE fun c hc => hk.block c ⟨fun e => h.ed c hc e, fun e => h.ge (e ▸ hc)⟩ (h.rowE.lt c hc).2, h.map.keep fun b hb => hk.block b ⟨fun e => h.dm b e hb, fun e => h.gm (e ▸ hb)⟩ (h.map.lt b hb), row_keep hr fun c hc => hu.block c (hgo c hc)⟩, hk⟩
  have k1 : TBlk 53 w1 g 3 _ := (hg.block g h.blk.lt (fun e => h.gd e.symm)).trans h.blk
  refine (k1.set 2 _).congr _ fun j hj => ?_
  match j, hj with
  | 0, _ => rfl
  | 1, _ => rfl
  | 2, _ => rfl
end
set_option maxRecDepth 100000 in
set_option maxHeartbeats 1000000 in
/-- begin, of a ledger that has begun -/
theorem begun13 {w : World} {g n : Nat} {E K : List Rq} {D : List ByteArray} {ev mv dv : Value} (h : LgM w g E K D n ev mv dv) (hD : 0 < D.length) (hl : D.length ≤ 2000) :
    Calls Tryd.prog 21 #[.pointer (some ⟨g, 0, none⟩)] w fun e w' => e = .returned (.tuple #[]) ∧ Below w.heap.size w w' := by
  obtain ⟨_, _, c2⟩ := h.cells
  obtain ⟨a, c, rfl⟩ := row_shapeL h.rowD
  have h0 : (0 : Int) < (D.length : Int) := by omega
  clear h hD
  go_enter Tryd.func21, Tryd.ntmps21
  go_wp2_with fail
  refine bodyPost_ret (results_none rfl _ _ _) rfl ?_
  exact ⟨rfl, Below.refl _ _⟩
theorem dig_nilL : digE [] = dg ⟨#[108, 101, 100, 103, 101, 114]⟩ := rfl
set_option maxRecDepth 100000 in
set_option maxHeartbeats 2000000 in
/-- begin, of a new one -/
theorem begin13 (w : World) (g : Nat) (hb : TBlk 53 w g 3 (rowL [.slice none 0 0, .map none, .slice none 0 0])) (hT : Tabs w) (hN : NoTab g) :
    Calls Tryd.prog 21 #[.pointer (some ⟨g, 0, none⟩)] w fun e w' => e = .returned (.tuple #[]) ∧ ∃ mv dv, LgM w' g [] [] (digsL []) 0 (.slice none 0 0) mv dv ∧ (∀ b, OwnL g (.slice none 0 0) mv dv b → b = g ∨ w.heap.size ≤ b) ∧ Keeps (fun b => b ≠ g) w w' := by
  have HB := Lib.hid hb
  have HT := Lib.hid hT
  have HN := Lib.hid hN
  obtain ⟨_, _, c2⟩ := RR.cells3 hb.blk
  have hmm := @run_makeMap Tryd.prog
  have b1 := (Below.refl w.heap.size w).alloc (Nat.le_refl _) (.map #[] 0)
  have HB1 := Lib.hid (hb.below b1 hb.lt)
  have f1 := HB1.out.blk.frz 1
  obtain ⟨_, e1, _⟩ := RR.cells3 HB1.out.blk
  have HM1 := Lib.hid (World.ownsMap_made w Tryd.prog 56 (plainElem (H := Unit) Tryd.prog 3))
  have B1 := Lib.hid b1
  clear hb hT hN b1
  go_enter Tryd.func21, Tryd.ntmps21
  go_upto_region 2 with fail
  obtain ⟨m, hm⟩ : ∃ m, w.heap.size = m := ⟨_, rfl⟩
  have HMS := Lib.hid hm
  have HGM := Lib.hid (show g < m by rw [← hm]; exact HB.out.lt)
  rw [hm] at HM1 ⊢
  obtain ⟨w1, hw1⟩ : ∃ w1, w.alloc (.map #[] 0) = w1 := ⟨_, rfl⟩
  have HZ1 := Lib.hid (show w1.heap.size = m + 1 by rw [← hw1, ← hm]; simp)
  rw [hw1] at HB1 HM1 B1 f1 e1 ⊢
  clear hw1 hm e1 f1 c2 hmm
  have U2 := Lib.hid (Upd.set w1 g 1 (.map (some m)))
  have HB2 := Lib.hid (show TBlk 53 (w1.setCell ⟨g, 1, none⟩ (.map (some m))) g 3 (rowL [.slice none 0 0, .map (some m), .slice none 0 0]) from (HB1.out.set 1 _).congr _ fun j hj => by
    match j, hj with
    | 0, _ => rfl
    | 1, _ => rfl
    | 2, _ => rfl)
  have HM2 := Lib.hid (show IxAt (w1.setCell ⟨g, 1, none⟩ (.map (some m))) (.map (some m)) [] 0 from ⟨m, _, rfl, by
    obtain ⟨es, clock, h1, h2⟩ := HM1.out
    exact ⟨es, clock, (U2.out.block m (by have := HGM.out; omega)).trans h1, h2⟩, IxIs.empty⟩)
  have K2 := Lib.hid (show Keeps (fun b => b ≠ g) w (w1.setCell ⟨g, 1, none⟩ (.map (some m))) from (Keeps.of B1.out).trans (Keeps.upd' U2.out fun c => c rfl))
  obtain ⟨w2, hw2⟩ : ∃ w2, w1.setCell ⟨g, 1, none⟩ (.map (some m)) = w2 := ⟨_, rfl⟩
  rw [hw2] at U2 HB2 HM2 K2 ⊢
  clear hw2
  have HT2 := Lib.hid (show Tabs w2 from tabs_keeps HT.out K2.out fun b => if h : b = g then .inl (h ▸ HN.out) else .inr h)
  go_wp2_with fail
  refine (sum_any _ (by decide) w2 HT2.out).mono ?_
  rintro e w3 ⟨rfl, hb3⟩
  have B3 := Lib.hid hb3
  have HB4 := Lib.hid ((HB2.out.below hb3 HB2.out.lt).below ((Below.refl w3.heap.size w3).alloc (Nat.le_refl _) (.cells #[.string (digE [])] 9)) (Nat.lt_of_lt_of_le HB2.out.lt hb3.size))
  have f2 := HB4.out.blk.frz 2
  obtain ⟨_, _, e2⟩ := RR.cells3 HB4.out.blk
  rw [← dig_nilL]
  clear hb3
  go_wp2_with fail
  have A4 := Lib.hid ((Below.refl w3.heap.size w3).alloc (Nat.le_refl _) (.cells #[.string (digE [])] 9))
  have R4 := Lib.hid (row_oneL w3 (.string (digE [])) 9)
  have U5 := Lib.hid (Upd.set (w3.alloc (.cells #[.string (digE [])] 9)) g 2 (.slice (some ⟨w3.heap.size, 0, none⟩) 1 1))
  have HLT := Lib.hid (show g < w2.heap.size ∧ m < w2.heap.size ∧ w2.heap.size ≤ w3.heap.size from ⟨HB2.out.lt, HM2.out.lt m rfl, B3.out.size⟩)
  go_end0
  refine ⟨rfl, .map (some m), .slice (some ⟨w3.heap.size, 0, none⟩) 1 1, ⟨?_, World.ownsRow_nil _ _ _ _, ?_, ?_⟩, ?_, ?_⟩
  · refine (HB4.out.set 2 _).congr _ fun j hj => ?_
    match j, hj with
    | 0, _ => rfl
    | 1, _ => rfl
    | 2, _ => rfl
  · refine HM2.out.keep fun b hb => ?_
    have e : m = b := by simpa [mapBlk] using hb
    subst e
    exact (U5.out.block m (by have := HGM.out; omega)).trans ((A4.out.block m (by have := HLT.out; omega)).trans (B3.out.block m HLT.out.2.1))
  · exact row_keep R4.out fun c hc => U5.out.block c (by
      have e : w3.heap.size = c := by simpa [Value.ownBlock] using hc
      have := HLT.out; omega)
  · rintro b (h | h | h | h)
    · exact .inl h
    · cases h
    · have e : m = b := by simpa [mapBlk] using h
      exact .inr (by have := HMS.out; omega)
    · have e : w3.heap.size = b := by simpa [Value.ownBlock] using h
      exact .inr (by have := K2.out.b0.size; have := HLT.out; omega)
  · exact K2.out.trans ((Keeps.of B3.out).trans ((Keeps.of A4.out).trans (Keeps.upd' U5.out fun c => c rfl)))
set_option maxRecDepth 100000 in
set_option maxHeartbeats 2000000 in
theorem new13 (w : World) (hT : Tabs w) : Calls Tryd.prog 9 #[] w fun e w' => ∃ g O, e = .returned (.pointer (some ⟨g, 0, none⟩)) ∧ At13 O w' g [] ∧ (∀ b, O b → w.heap.size ≤ b) ∧ Below w.heap.size w w' := by
  have HT := Lib.hid hT
  clear hT
  go_enter Tryd.func9, Tryd.ntmps9
  go_upto_region 2 with fail
  have HB1 := Lib.hid (show TBlk 53 (w.alloc (.cells #[.slice none 0 0, .map none, .slice none 0 0] 53)) w.heap.size 3 (rowL [.slice none 0 0, .map none, .slice none 0 0]) from TBlk.new' w 3 w.heap.size _ _ _ rfl (RR.row3_ _ _ _))
  have B1 := Lib.hid ((Below.refl w.heap.size w).alloc (Nat.le_refl _) (.cells #[.slice none 0 0, .map none, .slice none 0 0] 53))
  go_wp2_with fail
  refine (begin13 _ w.heap.size HB1.out (tabs_on HT.out B1.out) (lg_notab HT.out _ (Nat.le_refl _))).mono ?_
  rintro e w2 ⟨rfl, mv, dv, h2, ho, hk⟩
  have H2 := Lib.hid h2
  have HO := Lib.hid ho
  have HK := Lib.hid hk
  clear h2 ho hk
  go_wp2_with fail
  go_ret
  refine ⟨w.heap.size, OwnL w.heap.size (.slice none 0 0) mv dv, rfl, ⟨_, mv, dv, H2.out, fun _ => Iff.rfl⟩, fun b hb => ?_, B1.out.trans (low_le HK.out (fun b hb => by omega) B1.out.size)⟩
  rcases HO.out b hb with h | h
  · omega
  · exact Nat.le_trans B1.out.size h
end Go.Proofs.YtbakceglaadfpaaDoor
end
section
open Go Go.RowKit
namespace Go.Proofs.YtbakceglaadfpaaDoor
open LE ZZ FF JJ CC MM WW BB RR TT Go.Maps
set_option maxRecDepth 100000 in
set_option maxHeartbeats 8000000 in
theorem add13 {w : World} {g : Nat} {E : List Rq} {ev mv dv : Value} (h : LgM w g E E (digsL E) E.length ev mv dv) (c q : Int) (t : ByteArray) (h64 : In64 (c, q)) (hn : ixR E (c, q) < 0) (hE : E.length ≤ 1500) (ht : t.size ≤ 100000) (hT : Tabs w) (hN : ∀ b, OwnL g ev mv dv b → NoTab b) :
    Calls Tryd.prog 27 #[.pointer (some ⟨g, 0, none⟩), .agg #[.int .i64 c, .int .i64 q, .string t]] w fun e w' => e = .returned (.tuple #[]) ∧
      ∃ ev' mv' dv', LgM w' g (E ++ [(c, q, t)]) (E ++ [(c, q, t)]) (digsL (E ++ [(c, q, t)])) (E.length + 1) ev' mv' dv' ∧ Keeps (fun b => ¬ OwnL g ev mv dv b) w w' ∧ ∀ b, OwnL g ev' mv' dv' b → OwnL g ev mv dv b ∨ w.heap.size ≤ b := by
  have HC := Lib.hid h
  have H64 := Lib.hid h64
  have HNI := Lib.hid (show ixR E (keyR (c, q, t)) < 0 from hn)
  have HE := Lib.hid hE
  have HTS := Lib.hid ht
  have HT := Lib.hid hT
  have HN := Lib.hid hN
  obtain ⟨bm, rfl⟩ := h.map.shape
  obtain ⟨ea, ec, rfl⟩ := row_shapeL h.rowE
  have HDL := Lib.hid (digsL_len E)
  obtain ⟨dq, dc, rfl, hdq, hdc⟩ := dig_atL h.rowD E.length (by rw [HDL.out]; omega)
  have HDC := Lib.hid hdc
  have HDQ := Lib.hid hdq
  have b1 := Lib.hid ((Below.refl w.heap.size w).alloc (Nat.le_refl _) (.cells #[.int .i64 c, .int .i64 q, .string t] 34))
  have L0 := Lib.hid (show Blk (w.alloc (.cells #[.int .i64 c, .int .i64 q, .string t] 34)) w.heap.size 3 (rowL [.int .i64 c, .int .i64 q, .string t]) from Blk.new' rfl (RR.row3_ _ _ _))
  clear h h64 hn hE ht hT hN hdq hdc
  go_enter Tryd.func27, Tryd.ntmps27
  go_upto_region 1 with fail
  obtain ⟨y0, hy0⟩ : ∃ y0, w.heap.size = y0 := ⟨_, rfl⟩
  have HY0 := Lib.hid hy0
  obtain ⟨w1, hw1⟩ : ∃ w1, w.alloc (.cells #[.int .i64 c, .int .i64 q, .string t] 34) = w1 := ⟨_, rfl⟩
  rw [hw1] at b1 L0 ⊢
  rw [hy0] at L0 ⊢
  have HZ1 := Lib.hid (show w1.heap.size = y0 + 1 by rw [← hw1, ← hy0]; simp)
  clear hw1 hy0
  have HC1 := Lib.hid (HC.out.on b1.out)
  go_wp2_with fail
  refine (begun13 HC1.out (by rw [HDL.out]; omega) (by have := HE.out; rw [HDL.out]; omega)).mono ?_
  rintro e w2 ⟨rfl, hb2⟩
  have B2 := Lib.hid (b1.out.trans (hb2.mono b1.out.size))
  have HC2 := Lib.hid (HC1.out.on hb2)
  have L2 := Lib.hid (L0.out.below hb2 L0.out.lt)
  have HZ2 := Lib.hid (show y0 < w2.heap.size from L2.out.lt)
  clear hb2
  -- what is ahead
  have HDR := Lib.hid (show w2.cell? ⟨dq, E.length, none⟩ = some (.string (digE E)) from (B2.out.cell (p := ⟨dq, E.length, none⟩) HDQ.out).trans (by rw [HDC.out, digsL_at E E.length (Nat.le_refl _), List.take_length]))
  have hw0 : IntKind.i64.wrap (((digsL E).length : Int) - 1) = (E.length : Int) := by rw [HDL.out, IntKind.wrap_i64]; have := HE.out; push_cast; omega
  have HW0 := Lib.hid hw0
  have i0 : (0 : Int) ≤ (E.length : Int) := by omega
  have il : (E.length : Int) < ((digsL E).length : Int) := by rw [HDL.out]; push_cast; omega
  have HIL := Lib.hid (And.intro i0 il)
  obtain ⟨dl, hdl⟩ : ∃ dl, (digsL E).length = dl := ⟨_, rfl⟩
  have HDLL := Lib.hid hdl
  rw [hdl] at hw0 il
  go_upto_region 2 with fail
  refine quiet_abs (by kernel_rfl) (by kernel_rfl) fun w3 hs3 => ?_
  have X3 := Lib.hid (hs3.below w2.heap.size)
  have HC3 := Lib.hid (HC2.out.on X3.out)
  have m2 : w3.cell? ⟨g, 2, none⟩ = some (.slice (some ⟨dq, 0, none⟩) dl dc) := by rw [← hdl]; exact HC3.out.cells.2.2
  have m0 : w3.cell? ⟨dq, E.length, none⟩ = some (.string (digE E)) := (hs3.cell _).trans HDR.out
  have L3 := Lib.hid (L2.out.below X3.out L2.out.lt)
  have HZ3 := Lib.hid (show y0 < w3.heap.size from L3.out.lt)
  have B3 := Lib.hid (B2.out.trans (X3.out.mono B2.out.size))
  obtain ⟨d, hd⟩ : ∃ d, digE E = d := ⟨_, rfl⟩
  have HD := Lib.hid hd
  rw [hd] at m0
  clear hs3 hd hdl
  repeat still_step
  refine wpStill_nil ?_
  clear m0 m2 hw0 il
  -- the index
  go_upto_region 3 with fail
  have HSA := Lib.hid (fun (wx : World) (hk : wx.heap[g]? = w3.heap[g]? ∧ wx.heap[y0]? = w3.heap[y0]?) => And.intro (RR.cells3 (HC3.out.blk.blk.of_heap hk.1)) (RR.cells3 (L3.out.of_heap hk.2)))
  refine planE_abs (fun wx => wx.heap[g]? = w3.heap[g]? ∧ wx.heap[y0]? = w3.heap[y0]?) 14 [(true, 0), (true, 1), (true, 2), (true, 3), (true, 4), (true, 5), (true, 6), (true, 7), (true, 8), (true, 9), (true, 10), (true, 11), (true, 12), (true, 13), (false, 14)] (by kernel_rfl) (by kernel_rfl) (fun _ _ d _ _ h => by cases d <;> exact h) fun w4 hs4 => ⟨by rw [hs4.heap]; exact ⟨rfl, rfl⟩, ?_⟩
  have Y4 := Lib.hid (show Below w3.heap.size w3 w4 from hs4.below _)
  clear hs4
  iterate 14 (refine pe_run _ ?_ rfl rfl ?_ ?_; rotate_left; (focus (intro w' hS; obtain ⟨⟨c0, c1, c2⟩, d0, d1, d2⟩ := HSA.out w' hS; go_simp; exact rfl)); simp only [Act.put, List.setIfInBounds_toArray, List.set_cons_zero, List.set_cons_succ, List.getElem_toArray, List.getElem_cons_zero, List.getElem_cons_succ])
  refine pe_last _ rfl ?_
  simp only [List.getElem_toArray, List.getElem_cons_zero, List.getElem_cons_succ]
  have HC4 := Lib.hid (HC3.out.on Y4.out)
  have L4 := Lib.hid (L3.out.below Y4.out L3.out.lt)
  obtain ⟨X, hown, hix⟩ : ∃ X : DataW Unit, w4.ownsMap Tryd.prog 56 (plainElem Tryd.prog 3) bm E.length X ∧ IxIs X E := by
    obtain ⟨b', X, h, hown, hix⟩ := HC4.out.map
    cases h; exact ⟨X, hown, hix⟩
  have hwf : (Lit.int .i64 ((E.length : Nat) : Int)).wf = true := wf64 (by have := HE.out; omega)
  refine wpList_mapUpdate_own _ rfl _ _ _ 50 rfl 56 3 law_numL und_mapL (plainElem (H := Unit) Tryd.prog 3) bm E.length X rfl hown (by have := HE.out; unfold maxLen; omega) _ _ _ rfl rfl (key_numL (c, q) H64.out) _ [] (plainElem_int und_intL hwf) ?_
  intro w5 hm5 hg5
  have HPM := Lib.hid (HC4.out.pushM (K' := E ++ [(c, q, t)]) hm5 (ix_putL (r := (c, q, t)) hix H64.out HNI.out) hg5)
  have G5 := Lib.hid hg5
  have L5 := Lib.hid (show Blk w5 y0 3 (rowL [.int .i64 c, .int .i64 q, .string t]) from L4.out.of_heap (HPM.out.2.block y0 (fun e => by
    have h1 := HC.out.map.lt bm rfl
    have h2 := HY0.out
    omega) L4.out.lt))
  have K5 := Lib.hid (show Keeps (fun b => b ≠ bm) w w5 from (Keeps.of (B3.out.trans (Y4.out.mono B3.out.size))).trans HPM.out.2)
  have HC5 := Lib.hid HPM.out.1
  have HZ5 := Lib.hid (show y0 < w5.heap.size from L5.out.lt)
  clear hm5 hg5 hown hix hwf HSA
  -- the entry
  go_upto_region 4 with fail
  have HSB := Lib.hid (fun (wx : World) (hk : wx.heap[g]? = w5.heap[g]? ∧ wx.heap[y0]? = w5.heap[y0]?) => And.intro (RR.cells3 (HC5.out.blk.blk.of_heap hk.1)) (RR.cells3 (L5.out.of_heap hk.2)))
  refine planE_abs (fun wx => wx.heap[g]? = w5.heap[g]? ∧ wx.heap[y0]? = w5.heap[y0]?) 10 [(true, 0), (true, 1), (true, 2), (true, 3), (true, 4), (true, 5), (false, 6), (false, 7), (false, 8), (false, 9), (false, 10)] (by kernel_rfl) (by kernel_rfl) (fun _ _ d _ _ h => by cases d <;> exact h) fun w6 hs6 => ⟨by rw [hs6.heap]; exact ⟨rfl, rfl⟩, ?_⟩
  have Y6 := Lib.hid (show Below w5.heap.size w5 w6 from hs6.below _)
  clear hs6
  iterate 6 (refine pe_run _ ?_ rfl rfl ?_ ?_; rotate_left; (focus (intro w' hS; obtain ⟨⟨c0, c1, c2⟩, d0, d1, d2⟩ := HSB.out w' hS; go_simp; exact rfl)); simp only [Act.put, List.setIfInBounds_toArray, List.set_cons_zero, List.set_cons_succ, List.getElem_toArray, List.getElem_cons_zero, List.getElem_cons_succ])
  have HC6 := Lib.hid (HC5.out.on Y6.out)
  have BA := Lib.hid ((Below.refl w6.heap.size w6).alloc (Nat.le_refl _) (.cells #[.int .i64 c, .int .i64 q, .string t] 34))
  have HNW := Lib.hid (cells3_new w6 c q t 34)
  obtain ⟨wa, hwa⟩ : ∃ wa, w6.alloc (.cells #[.int .i64 c, .int .i64 q, .string t] 34) = wa := ⟨_, rfl⟩
  have HK7 := Lib.hid (fun (wx : World) (hb : Below w6.heap.size w6 wx) => show wx.heap[g]? = w5.heap[g]? ∧ wx.heap[y0]? = w5.heap[y0]? from ⟨(Y6.out.trans (hb.mono Y6.out.size)).block g HC5.out.blk.lt, (Y6.out.trans (hb.mono Y6.out.size)).block y0 L5.out.lt⟩)
  refine pe_value (w' := wa) _ (.slice (some ⟨w6.heap.size, 0, none⟩) 1 1) rfl rfl (by rw [← hwa]; go_simp) (HK7.out wa (by rw [← hwa]; exact BA.out)) ?_
  simp only [Act.put, List.setIfInBounds_toArray, List.set_cons_zero, List.set_cons_succ, List.getElem_toArray, List.getElem_cons_zero, List.getElem_cons_succ]
  rw [hwa] at BA HNW
  clear hwa
  have HCA := Lib.hid (HC6.out.on BA.out)
  obtain ⟨ti, i1, i2, i3, i4⟩ := info_parts info_reqL
  obtain ⟨v', w7, hrun, hown, hgr, _, hloc⟩ := run_append_own_at (P := Tryd.prog) (w := wa) 0 27 27 34 ti _ 3 32 und_reqsL i1 i2 i3 i4 rfl (by decide) _ E.length (cellsR E) HCA.out.rowE ⟨w6.heap.size, 0, none⟩ 1 1 [.int .i64 c, .int .i64 q, .string t] rfl HNW.out (cells3_one c q t) (by have := HE.out; unfold maxLen; omega) (by have := HE.out; omega) (Nat.zero_le _)
  obtain ⟨va, vc, rfl⟩ := row_shapeL hown
  have HOE := Lib.hid (show w7.ownsRow 0 34 3 (.slice va (E.length + 1) vc) (E ++ [(c, q, t)]).length (cellsR (E ++ [(c, q, t)])) by rw [cellsR_snoc, List.length_append]; exact hown)
  have HLO := Lib.hid (show ∀ b, (Value.slice va (E.length + 1) vc).ownBlock = some b → (Value.slice ea E.length ec).ownBlock = some b ∨ wa.heap.size ≤ b from fun b hb => by
    rcases hloc with h | h
    · exact Or.inl (h ▸ hb)
    · rw [h] at hb; injection hb with hb; exact Or.inr (by omega))
  have HPE := Lib.hid (HCA.out.pushE HOE.out hgr HLO.out)
  have S7 := Lib.hid (show w7.heap[g]? = w5.heap[g]? ∧ w7.heap[y0]? = w5.heap[y0]? from ⟨(hgr.block g HCA.out.blk.lt (fun e => HCA.out.ge e.symm)).trans (HK7.out wa BA.out).1, (hgr.block y0 (Nat.lt_of_lt_of_le L5.out.lt (Nat.le_trans Y6.out.size BA.out.size)) (fun e => by
    have h1 := (HC.out.rowE.lt y0 e.symm).2
    have h3 := HY0.out
    omega)).trans (HK7.out wa BA.out).2⟩)
  clear hgr hown hloc i1 i2 i3 i4
  refine pe_value (w' := w7) _ (.slice va (E.length + 1) vc) rfl rfl (by simp [execOp, resolve, invoke, builtin, Act.eval, hrun, Result.andThen]) S7.out ?_
  clear hrun
  simp only [Act.put, List.setIfInBounds_toArray, List.set_cons_zero, List.set_cons_succ, List.getElem_toArray, List.getElem_cons_zero, List.getElem_cons_succ]
  refine pe_value (w' := w7) _ (.pointer (some ⟨g, 0, none⟩)) rfl rfl (by go_simp) S7.out ?_
  simp only [Act.put, List.setIfInBounds_toArray, List.set_cons_zero, List.set_cons_succ, List.getElem_toArray, List.getElem_cons_zero, List.getElem_cons_succ]
  refine pe_value (w' := w7) _ (.pointer (some ⟨g, 0, none⟩)) rfl rfl (by go_simp) S7.out ?_
  simp only [Act.put, List.setIfInBounds_toArray, List.set_cons_zero, List.set_cons_succ, List.getElem_toArray, List.getElem_cons_zero, List.getElem_cons_succ]
  refine pe_last _ rfl ?_
  simp only [List.getElem_toArray, List.getElem_cons_zero, List.getElem_cons_succ]
  obtain ⟨⟨e0, e1, e2⟩, _⟩ := HSB.out w7 S7.out
  have f0 := (World.frozen?_of_block (w := w5) (a := ⟨g, 0, none⟩) S7.out.1).trans (HC5.out.blk.blk.frz 0)
  go_upto_region 5 with fail
  clear e0 e1 e2 f0
  have ZA := Lib.hid (show w5.heap.size ≤ wa.heap.size from Nat.le_trans Y6.out.size BA.out.size)
  obtain ⟨w8, hw8⟩ : ∃ w8, w7.setCell ⟨g, 0, none⟩ (.slice va (E.length + 1) vc) = w8 := ⟨_, rfl⟩
  have L8 := Lib.hid (show Blk w8 y0 3 (rowL [.int .i64 c, .int .i64 q, .string t]) by
    have U := Upd.set w7 g 0 (.slice va (E.length + 1) vc)
    rw [hw8] at U
    exact (L5.out.of_heap S7.out.2).upd U (by have := HC.out.blk.lt; have := HY0.out; omega))
  rw [hw8] at HPE ⊢
  clear hw8 S7 HSB HK7 HOE
  have HC8 := Lib.hid HPE.out.1
  have K8 := Lib.hid (show Keeps (fun b => ¬ OwnL g (.slice ea E.length ec) (.map (some bm)) (.slice (some ⟨dq, 0, none⟩) (digsL E).length dc) b) w w8 from
    (K5.out.sub fun b hb _ e => hb (.inr (.inr (.inl (by rw [e]; rfl))))).trans ((Keeps.of (Y6.out.trans (BA.out.mono Y6.out.size))).trans (HPE.out.2.sub fun b hb _ => ⟨fun e => hb (.inr (.inl e)), fun e => hb (.inl e)⟩)))
  have HT8 := Lib.hid (show Tabs w8 from tabs_keeps HT.out K8.out fun b => Classical.byCases (fun h : OwnL g (.slice ea E.length ec) (.map (some bm)) (.slice (some ⟨dq, 0, none⟩) (digsL E).length dc) b => .inl (HN.out b h)) .inr)
  -- the digest
  have HRB := Lib.hid (show (reqB c q t).size ≤ 200000 by rw [reqB_size]; have := HTS.out; omega)
  have HD32 := Lib.hid (show d.size = 32 by rw [← HD.out]; exact digE_size _)
  have hx1 : ¬ 9223372036854775807 < (1 : Nat) + d.size := by have := HD32.out; omega
  obtain ⟨R, hR⟩ : ∃ R, reqB c q t = R := ⟨_, rfl⟩
  have HR := Lib.hid hR
  have hx2 : ¬ 9223372036854775807 < 1 + d.size + R.size := by have := HD32.out; have := HRB.out; rw [hR] at this; omega
  clear hR
  have HSC := Lib.hid (fun (wx : World) (hk : wx.heap[g]? = w8.heap[g]? ∧ wx.heap[y0]? = w8.heap[y0]?) => And.intro (RR.cells3 (HC8.out.blk.blk.of_heap hk.1)) (RR.cells3 (L8.out.of_heap hk.2)))
  go_wp2_with fail
  refine planE_abs (fun wx => wx.heap[g]? = w8.heap[g]? ∧ wx.heap[y0]? = w8.heap[y0]?) 15 [(true, 0), (true, 1), (true, 2), (true, 3), (true, 4), (true, 5), (true, 6), (true, 7), (false, 8), (true, 9), (false, 10), (false, 11), (false, 12), (false, 13), (false, 14), (false, 15)] (by kernel_rfl) (by kernel_rfl) (fun _ _ d _ _ h => by cases d <;> exact h) fun w9 hs9 => ⟨by rw [hs9.heap]; exact ⟨rfl, rfl⟩, ?_⟩
  have Y9 := Lib.hid (show Below w8.heap.size w8 w9 from hs9.below _)
  clear hs9
  iterate 8 (refine pe_run _ ?_ rfl rfl ?_ ?_; rotate_left; (focus (intro w' hS; obtain ⟨⟨c0, c1, c2⟩, d0, d1, d2⟩ := HSC.out w' hS; go_simp; exact rfl)); simp only [Act.put, List.setIfInBounds_toArray, List.set_cons_zero, List.set_cons_succ, List.getElem_toArray, List.getElem_cons_zero, List.getElem_cons_succ])
  have HK9 := Lib.hid (fun (wx : World) (hb : Below w8.heap.size w8 wx) => show wx.heap[g]? = w8.heap[g]? ∧ wx.heap[y0]? = w8.heap[y0]? from ⟨hb.block g HC8.out.blk.lt, hb.block y0 L8.out.lt⟩)
  refine pe_call (R := fun v w' => v = .string R ∧ Below w9.heap.size w9 w') _ rfl rfl (by go_simp) ((request_any c q t (by have := HTS.out; omega) w9).mono fun e w' h => ⟨_, h.1, by rw [HR.out], h.2⟩) (fun v w' h => HK9.out w' (Y9.out.trans (h.2.mono Y9.out.size))) fun v w10 hr => ?_
  obtain ⟨rfl, hb10⟩ := hr
  have Y10 := Lib.hid (Y9.out.trans (hb10.mono Y9.out.size))
  clear hb10
  simp only [Act.put, List.setIfInBounds_toArray, List.set_cons_zero, List.set_cons_succ, List.getElem_toArray, List.getElem_cons_zero, List.getElem_cons_succ]
  iterate 1 (refine pe_run _ ?_ rfl rfl ?_ ?_; rotate_left; (focus (intro w' hS; go_simp; exact rfl)); simp only [Act.put, List.setIfInBounds_toArray, List.set_cons_zero, List.set_cons_succ, List.getElem_toArray, List.getElem_cons_zero, List.getElem_cons_succ])
  obtain ⟨nd, hnd⟩ : ∃ nd, dg ((⟨#[69]⟩ : ByteArray) ++ d ++ R) = nd := ⟨_, rfl⟩
  have HND := Lib.hid (show nd = digE (E ++ [(c, q, t)]) by rw [digE_snoc, HD.out, ← hnd, ← HR.out])
  refine pe_call (R := fun v w' => v = .string nd ∧ Below w10.heap.size w10 w') _ rfl rfl (by go_simp) ((sum_any ((⟨#[69]⟩ : ByteArray) ++ d ++ R) (by rw [ByteArray.size_append, ByteArray.size_append, show (⟨#[69]⟩ : ByteArray).size = 1 from rfl]; have := HD32.out; have := HRB.out; rw [HR.out] at this; omega) w10 (tabs_on HT8.out Y10.out)).mono fun e w' h => ⟨_, h.1, by rw [hnd], h.2⟩) (fun v w' h => HK9.out w' (Y10.out.trans (h.2.mono Y10.out.size))) fun v w11 hr => ?_
  obtain ⟨rfl, hb11⟩ := hr
  have Y11 := Lib.hid (Y10.out.trans (hb11.mono Y10.out.size))
  clear hb11 hnd hx1 hx2
  simp only [Act.put, List.setIfInBounds_toArray, List.set_cons_zero, List.set_cons_succ, List.getElem_toArray, List.getElem_cons_zero, List.getElem_cons_succ]
  have BD := Lib.hid ((Below.refl w11.heap.size w11).alloc (Nat.le_refl _) (.cells #[.string nd] 9))
  have HND2 := Lib.hid (cells1_newL w11 (.string nd) 9)
  obtain ⟨wd, hwd⟩ : ∃ wd, w11.alloc (.cells #[.string nd] 9) = wd := ⟨_, rfl⟩
  refine pe_value (w' := wd) _ (.slice (some ⟨w11.heap.size, 0, none⟩) 1 1) rfl rfl (by rw [← hwd]; go_simp) (HK9.out wd (by rw [← hwd]; exact Y11.out.trans (BD.out.mono Y11.out.size))) ?_
  simp only [Act.put, List.setIfInBounds_toArray, List.set_cons_zero, List.set_cons_succ, List.getElem_toArray, List.getElem_cons_zero, List.getElem_cons_succ]
  rw [hwd] at BD HND2
  clear hwd
  have YD := Lib.hid (Y11.out.trans (BD.out.mono Y11.out.size))
  have HCD := Lib.hid (HC8.out.on YD.out)
  obtain ⟨ti, i1, i2, i3, i4⟩ := info_parts info_strL
  obtain ⟨u', w12, hrun, hown, hgr, _, hloc⟩ := run_append_own_at (P := Tryd.prog) (w := wd) 0 51 51 9 ti _ 1 16 und_strsL i1 i2 i3 i4 rfl (by decide) _ (digsL E).length ((digsL E).map Value.string) HCD.out.rowD ⟨w11.heap.size, 0, none⟩ 1 1 [.string nd] rfl HND2.out (cells1_oneL nd) (by have := HE.out; rw [HDL.out]; unfold maxLen; omega) (by have := HE.out; rw [HDL.out]; omega) (Nat.zero_le _)
  obtain ⟨ua, uc, rfl⟩ := row_shapeL hown
  have HOD := Lib.hid (show w12.ownsRow 0 9 1 (.slice ua ((digsL E).length + 1) uc) (digsL (E ++ [(c, q, t)])).length ((digsL (E ++ [(c, q, t)])).map Value.string) by
    rw [digsL_snoc, ← HND.out, List.map_append, List.length_append]; exact hown)
  have HLD := Lib.hid (show ∀ b, (Value.slice ua ((digsL E).length + 1) uc).ownBlock = some b → (Value.slice (some ⟨dq, 0, none⟩) (digsL E).length dc).ownBlock = some b ∨ wd.heap.size ≤ b from fun b hb => by
    rcases hloc with h | h
    · exact Or.inl (h ▸ hb)
    · rw [h] at hb; injection hb with hb; exact Or.inr (by omega))
  have HPD := Lib.hid (HCD.out.pushD HOD.out hgr HLD.out)
  have HKD := HK9.out wd YD.out
  have S12 := Lib.hid (show w12.heap[g]? = w8.heap[g]? ∧ w12.heap[y0]? = w8.heap[y0]? from ⟨(hgr.block g HCD.out.blk.lt (fun e => HCD.out.gd e.symm)).trans HKD.1, (hgr.block y0 (Nat.lt_of_lt_of_le L8.out.lt YD.out.size) (fun e => by
    have h1 : dq = y0 := by simpa [Value.ownBlock] using e.symm
    have h2 := HDQ.out
    have h3 := HY0.out
    omega)).trans HKD.2⟩)
  clear hgr hown hloc i1 i2 i3 i4 HKD
  have HDLL' := HDLL.out
  refine pe_value (w' := w12) _ (.slice ua ((digsL E).length + 1) uc) rfl rfl (by simp [execOp, resolve, invoke, builtin, Act.eval, hrun, Result.andThen]) S12.out ?_
  clear hrun HDLL'
  simp only [Act.put, List.setIfInBounds_toArray, List.set_cons_zero, List.set_cons_succ, List.getElem_toArray, List.getElem_cons_zero, List.getElem_cons_succ]
  refine pe_value (w' := w12) _ (.pointer (some ⟨g, 0, none⟩)) rfl rfl (by go_simp) S12.out ?_
  simp only [Act.put, List.setIfInBounds_toArray, List.set_cons_zero, List.set_cons_succ, List.getElem_toArray, List.getElem_cons_zero, List.getElem_cons_succ]
  refine pe_value (w' := w12) _ (.pointer (some ⟨g, 2, none⟩)) rfl rfl (by go_simp) S12.out ?_
  simp only [Act.put, List.setIfInBounds_toArray, List.set_cons_zero, List.set_cons_succ, List.getElem_toArray, List.getElem_cons_zero, List.getElem_cons_succ]
  refine pe_last _ rfl ?_
  simp only [List.getElem_toArray, List.getElem_cons_zero, List.getElem_cons_succ]
  obtain ⟨⟨e0, e1, e2⟩, _⟩ := HSC.out w12 S12.out
  have f2 := (World.frozen?_of_block (w := w8) (a := ⟨g, 2, none⟩) S12.out.1).trans (HC8.out.blk.blk.frz 2)
  go_wp2_with fail
  go_end0
  refine ⟨rfl, _, _, _, HPD.out.1, K8.out.trans ((Keeps.of YD.out).trans (HPD.out.2.sub fun b hb _ => ⟨fun e => hb (.inr (.inr (.inr e))), fun e => hb (.inl e)⟩)), ?_⟩
  have Z5 := Lib.hid (show w.heap.size ≤ wa.heap.size from Nat.le_trans K5.out.b0.size ZA.out)
  have Z8 := Lib.hid (show w.heap.size ≤ wd.heap.size from Nat.le_trans K8.out.b0.size YD.out.size)
  rintro b (h | h | h | h)
  · exact .inl (.inl h)
  · exact (HLO.out b h).imp (fun h => .inr (.inl h)) (Nat.le_trans Z5.out)
  · exact .inl (.inr (.inr (.inl h)))
  · exact (HLD.out b h).imp (fun h => .inr (.inr (.inr h))) (Nat.le_trans Z8.out)
end Go.Proofs.YtbakceglaadfpaaDoor
end
