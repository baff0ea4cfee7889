/-
  Both pools in one memory: the code's, by the bundle, and the reference's in its box (layer 12).
-/
import Derived.Test.YtgjdiliaiblfcaaKFItem
import Derived.Test.YtgjdiliaiblfcaaKLNum
import Derived.Test.YtgjdiliaiblfcaaKPlanX
import Derived.Test.YtgjdiliaiblfcaaKEText
import Derived.Test.YtgjdiliaiblfcaaKJUnlike
import Derived.Test.YtgjdiliaiblfcaaKPlanG
import Derived.Test.YtgjdiliaiblfcaaKJRow
import Derived.Test.YtgjdiliaiblfcaaKWReqLaw
import Derived.Test.YtgjdiliaiblfcaaKWFew
import Derived.Test.YtgjdiliaiblfcaaKJRefT
import Derived.Test.YtgjdiliaiblfcaaKWCutR
section
open Go Go.RowKit
namespace FF
open WW BB
/-- the blocks of A stay as they are -/
structure Keeps (A : Nat → Prop) (w w' : World) : Prop where
  b0 : Below 0 w w'
  block : ∀ b, A b → b < w.heap.size → w'.heap[b]? = w.heap[b]?
theorem Keeps.refl (A : Nat → Prop) (w : World) : Keeps A w w := ⟨Below.refl 0 w, fun _ _ _ => rfl⟩
theorem Keeps.trans {A : Nat → Prop} {w1 w2 w3 : World} (h : Keeps A w1 w2) (k : Keeps A w2 w3) : Keeps A w1 w3 := ⟨h.b0.trans k.b0, fun b hb hl => (k.block b hb (Nat.lt_of_lt_of_le hl h.b0.size)).trans (h.block b hb hl)⟩
theorem Keeps.of {A : Nat → Prop} {w w' : World} (h : Below w.heap.size w w') : Keeps A w w' := ⟨h.mono (Nat.zero_le _), fun b _ hl => h.block b hl⟩
theorem Keeps.upd {A : Nat → Prop} {c : Nat} {w w' : World} (h : Upd c w w') (hA : ∀ b, A b → b ≠ c) : Keeps A w w' := ⟨h.below (Nat.zero_le _), fun b hb _ => h.block b (hA b hb)⟩
theorem Keeps.sub {A A' : Nat → Prop} {w w' : World} (h : Keeps A w w') (hA : ∀ b, A' b → b < w.heap.size → A b) : Keeps A' w w' := ⟨h.b0, fun b hb hl => h.block b (hA b hb hl) hl⟩
theorem Keeps.below {w w' : World} (h : Keeps (fun b => b < w.heap.size) w w') : Below w.heap.size w w' := ⟨h.b0.os, h.b0.tape, h.b0.output, h.b0.size, fun k hk => h.block k hk hk⟩
/-- what is said of a world rests upon the blocks of A -/
def Dep (A : Nat → Prop) (w : World) (P : World → Prop) : Prop := ∀ w', Keeps A w w' → P w'
theorem Dep.now {A : Nat → Prop} {w : World} {P : World → Prop} (h : Dep A w P) : P w := h w (Keeps.refl A w)
theorem Dep.on {A : Nat → Prop} {w w' : World} {P : World → Prop} (h : Dep A w P) (hk : Keeps A w w') : Dep A w' P := fun w2 h2 => h w2 (hk.trans h2)
theorem Dep.more {A A' : Nat → Prop} {w : World} {P : World → Prop} (h : Dep A w P) (hA : ∀ b, A b → b < w.heap.size → A' b) : Dep A' w P := fun w2 h2 => h w2 (h2.sub hA)
/-- the forest F, resting upon the blocks of A -/
def FoD (A : Nat → Prop) (w : World) (F : Fo) (nv ov : Value) : Prop := ∃ N O : List Iv, N.map Prod.fst = F.nodes ∧ O.map Prod.fst = F.orph ∧ Dep A w (fun w' => IvAt w' nv N ∧ IvAt w' ov O)
theorem FoD.now {A : Nat → Prop} {w : World} {F : Fo} {nv ov : Value} (h : FoD A w F nv ov) : FoAt w F nv ov := by
  obtain ⟨N, O, h1, h2, h3⟩ := h
  exact ⟨N, O, h1, h2, h3.now.1, h3.now.2⟩
theorem FoD.on {A : Nat → Prop} {w w' : World} {F : Fo} {nv ov : Value} (h : FoD A w F nv ov) (hk : Keeps A w w') : FoD A w' F nv ov := by
  obtain ⟨N, O, h1, h2, h3⟩ := h
  exact ⟨N, O, h1, h2, h3.on hk⟩
theorem FoD.more {A A' : Nat → Prop} {w : World} {F : Fo} {nv ov : Value} (h : FoD A w F nv ov) (hA : ∀ b, A b → b < w.heap.size → A' b) : FoD A' w F nv ov := by
  obtain ⟨N, O, h1, h2, h3⟩ := h
  exact ⟨N, O, h1, h2, h3.more hA⟩
theorem FoD.cut {A : Nat → Prop} {w : World} {F : Fo} {nv ov : Value} (h : FoD A w F nv ov) : FoD (fun b => A b ∧ b < w.heap.size) w F nv ov := by
  obtain ⟨N, O, h1, h2, h3⟩ := h
  exact ⟨N, O, h1, h2, fun w2 h4 => h3 w2 (h4.sub fun c hc hl => ⟨hc, hl⟩)⟩
theorem fod_of {w : World} {F : Fo} {nv ov : Value} (h : FoAt w F nv ov) : FoD (fun b => b < w.heap.size) w F nv ov := by
  obtain ⟨N, O, h1, h2, h3, h4⟩ := h
  exact ⟨N, O, h1, h2, fun _ hk => ⟨h3.later hk.below, h4.later hk.below⟩⟩
theorem dep_inn {w : World} {x : Iv} (h : InnV w x) : Dep (fun b => b < w.heap.size) w (fun w' => InnV w' x) := fun _ hk => h.later hk.below
/-- a list as a row -/
def rowL (l : List Value) (i : Nat) : Value := l.getD i undef
/-- the call's three boxes: the forest, the item, the result -/
structure PuS (w : World) (g : Nat) (f1 f2 f3 : Nat → Value) (w' : World) : Prop where
  below : Below w.heap.size w w'
  lo : w.heap.size = g
  a : Blk w' g 4 f1
  b : Blk w' (g + 1) 7 f2
  c : Blk w' (g + 1 + 1) 4 f3
theorem PuS.on {w : World} {g : Nat} {f1 f2 f3 : Nat → Value} {w1 w2 : World} (h : PuS w g f1 f2 f3 w1) (hb : Below w1.heap.size w1 w2) : PuS w g f1 f2 f3 w2 :=
  ⟨h.below.trans (hb.mono h.below.size), h.lo, h.a.below hb h.a.lt, h.b.below hb h.b.lt, h.c.below hb h.c.lt⟩
theorem PuS.mk3 (w : World) (cs ds es : List Value) (t u s : TypeId) (h1 : cs.toArray = row 4 (rowL cs)) (h2 : ds.toArray = row 7 (rowL ds)) (h3 : es.toArray = row 4 (rowL es)) : PuS w w.heap.size (rowL cs) (rowL ds) (rowL es) (((w.alloc (.cells cs.toArray t)).alloc (.cells ds.toArray u)).alloc (.cells es.toArray s)) := by
  have b1 := (Below.refl w.heap.size w).alloc (Nat.le_refl _) (.cells cs.toArray t)
  have b2 := b1.alloc b1.size (.cells ds.toArray u)
  have b3 := b2.alloc b2.size (.cells es.toArray s)
  refine ⟨b3, rfl, ((Blk.new' rfl h1).alloc _).alloc _, (Blk.new' (by simp) h2).alloc _, Blk.new' (by simp) h3⟩
theorem run_append_none_any {P : Program} {w : World} (base : Nat) (t ty e : TypeId) (i : TypeInfo) (size : Nat) (ht : P.underlying t = some (.slice e)) (hi : P.info? e = some i)
    (v : Value) (n : Nat) (xs : List Value) (hown : w.ownsRow base e size v n xs) (c : Nat) :
    (Builtin.append_ #[t, t] ty #[v, .slice none 0 c]).run P w = .ok v w := by
  rcases hown.2 with ⟨rfl, rfl⟩ | ⟨g, cap, cur, rfl, _, _, hnc, _⟩
  · simp [Builtin.append_, run_underlying ht, Go.sizeOf, typeInfo, hi, Builtin.lenOf, Builtin.firstCells]
  · simp [Builtin.append_, run_underlying ht, Go.sizeOf, typeInfo, hi, Builtin.lenOf, Builtin.firstCells, hnc, storeCells]
/-- what was in a slice is appended to an empty row of the call's own -/
theorem run_append_arg0 {P : Program} {w : World} (base : Nat) (t ty e : TypeId) (i : TypeInfo) (z : Value) (size bytes : Nat) (ht : P.underlying t = some (.slice e)) (hi : P.info? e = some i) (hz : i.zero = some z)
    (hsize : i.size = size) (hby : i.bytes = bytes) (hzs : z.cells.size = size) (hsz : 0 < size) (b : Nat) (hown : w.ownsRow base e size (.slice (some ⟨b, 0, none⟩) 0 0) 0 []) (a0 : Option Addr) (j c : Nat) (news : List Value) (hl : news.length = j * size)
    (hn : a0 = none → j = 0) (hnews : ∀ a, a0 = some a → ∀ k u, news[k]? = some u → w.cell? (a.add k) = some u) (h1 : ∀ y ∈ news, y.oneCell' = true)
    (h63 : j ≤ maxLen) (hbytes : j * bytes ≤ 140737488355328) (hbase : base ≤ w.heap.size) :
    ∃ v' w', (Builtin.append_ #[t, t] ty #[.slice (some ⟨b, 0, none⟩) 0 0, .slice a0 j c]).run P w = .ok v' w' ∧ w'.ownsRow base e size v' j news ∧ w.grownBy w' (some b) ∧ ∀ c, v'.ownBlock = some c → c = b ∨ w.heap.size ≤ c := by
  rcases a0 with _ | a
  · obtain rfl := hn rfl
    have hn : news = [] := List.eq_nil_of_length_eq_zero (by simpa using hl)
    subst hn
    exact ⟨_, w, run_append_none_any (P := P) (w := w) base t ty e i size ht hi _ 0 [] hown c, hown, ⟨rfl, rfl, rfl, Nat.le_refl _, fun _ _ _ => rfl⟩, fun c' hc => by
      have hc : some b = some c' := hc
      injection hc with hc
      exact Or.inl hc.symm⟩
  · obtain ⟨v', w', hr, ho, hg, _⟩ := run_append_own (P := P) w base t ty e i z size bytes ht hi hz hsize hby hzs hsz _ 0 [] hown a j c news hl (hnews a rfl) h1 (by simpa using h63) (by simpa using hbytes) hbase
    refine ⟨v', w', hr, by simpa using ho, hg, fun c' hc => ?_⟩
    by_cases hj : j = 0
    · subst hj
      have hn : news = [] := List.eq_nil_of_length_eq_zero (by simpa using hl)
      subst hn
      obtain ⟨cur', hh⟩ : ∃ cur', w.heap[b]? = some (.cells cur' e (0, 0)) := by
        rcases hown.2 with ⟨h, _⟩ | ⟨g', cap', cur', h, _, hh, _⟩
        · cases h
        · injection h with h _ _; injection h with h; injection h with h; subst h; exact ⟨cur', hh⟩
      have h2 := run_append_room (P := P) w t ty e i ht hi b 0 0 cur' hh a 0 c [] (by simp) (by simp) (by simp) (by omega) (by simp)
      rw [hr] at h2
      injection h2 with h2 _
      subst h2
      have hc : some b = some c' := hc
      injection hc with hc
      exact Or.inl hc.symm
    · have h2 := run_append_grow (P := P) w t ty e i z ht hi hz ⟨b, 0, none⟩ 0 0 [] (by simp) (by simp) a j c news (by rw [hsize]; exact hl) (hnews a rfl) (by omega) (by unfold maxLen at h63; omega) (growslice_fits (by omega) (by rw [hby]; simpa using hbytes))
      rw [hr] at h2
      injection h2 with h2 _
      subst h2
      have hc : some w.heap.size = some c' := hc
      injection hc with hc
      exact Or.inr (by omega)
/-- four cells are written -/
theorem set4 {w : World} {a : Nat} {f : Nat → Value} (h : Blk w a 4 f) (u0 u1 u2 u3 : Value) :
    ((((((w.setCell ⟨a, 0, none⟩ u0).setCell ⟨a, 1, none⟩ u1).setCell ⟨a, 2, none⟩ u2).setCell ⟨a, 3, none⟩ u3).cell? ⟨a, 0, none⟩ = some u0 ∧ ((((w.setCell ⟨a, 0, none⟩ u0).setCell ⟨a, 1, none⟩ u1).setCell ⟨a, 2, none⟩ u2).setCell ⟨a, 3, none⟩ u3).cell? ⟨a, 1, none⟩ = some u1 ∧
      ((((w.setCell ⟨a, 0, none⟩ u0).setCell ⟨a, 1, none⟩ u1).setCell ⟨a, 2, none⟩ u2).setCell ⟨a, 3, none⟩ u3).cell? ⟨a, 2, none⟩ = some u2 ∧ ((((w.setCell ⟨a, 0, none⟩ u0).setCell ⟨a, 1, none⟩ u1).setCell ⟨a, 2, none⟩ u2).setCell ⟨a, 3, none⟩ u3).cell? ⟨a, 3, none⟩ = some u3)) ∧
    Upd a w ((((w.setCell ⟨a, 0, none⟩ u0).setCell ⟨a, 1, none⟩ u1).setCell ⟨a, 2, none⟩ u2).setCell ⟨a, 3, none⟩ u3) := by
  have k := ((((h.set 0 u0).set 1 u1).set 2 u2).set 3 u3)
  exact ⟨⟨k.get 0 (by omega), k.get 1 (by omega), k.get 2 (by omega), k.get 3 (by omega)⟩, ((((Upd.refl a w).trans (Upd.set _ _ _ _)).trans (Upd.set _ _ _ _)).trans (Upd.set _ _ _ _)).trans (Upd.set _ _ _ _)⟩
/-- the cells of a slice of items, one behind the other -/
theorem iv_flat {w w' : World} {a0 : Option Addr} {n c : Nat} {L : List Iv} (h : IvAt w (.slice a0 n c) L) (hb : Below w.heap.size w w') : ∀ a, a0 = some a → ∀ k u, (cellsV L)[k]? = some u → w'.cell? (a.add k) = some u := by
  intro a ha k u hu
  obtain ⟨a1, c1, he, h | ⟨b, off, h1, hl, hc⟩⟩ := h
  · subst h; simp [cellsV] at hu
  · injection he with e1 _ _
    rw [ha, h1] at e1
    injection e1 with e1
    subst e1
    have hk : k < L.length * 7 := by rw [← cellsV_len]; exact (List.getElem?_eq_some_iff.1 hu).1
    have hi : k / 7 < L.length := by omega
    have hj : k % 7 < (encV (L.getD (k / 7) v0)).length := by show k % 7 < 7; omega
    have h2 := cellsV_at L (k / 7) (k % 7) _ hi (List.getElem?_eq_getElem hj)
    rw [show k / 7 * 7 + k % 7 = k by omega, hu] at h2
    injection h2 with h2
    have h3 := (hc (k / 7) hi).1 (k % 7) _ (List.getElem?_eq_getElem hj)
    rw [← h2, show off + k / 7 * 7 + k % 7 = off + k by omega] at h3
    rw [Addr.add_lit]
    exact (hb.cell (p := ⟨b, off + k, none⟩) hl).trans h3
theorem iv_none {w : World} {a0 : Option Addr} {n c : Nat} {L : List Iv} (h : IvAt w (.slice a0 n c) L) (h0 : a0 = none) : n = 0 := by
  obtain ⟨a1, c1, he, h | ⟨b, off, h1, _⟩⟩ := h
  · subst h; injection he
  · injection he with e1 _ _
    rw [h0, h1] at e1
    cases e1
end FF
namespace Go.Proofs.Ytgjdiliaiblfcaa
open FF JJ CC WW BB
end Go.Proofs.Ytgjdiliaiblfcaa
end
section
open Go Go.RowKit
namespace ZZ
open FF JJ WW BB
def rqV (r : Rq) : Value := .agg #[.int .i64 r.1, .int .i64 r.2.1, .string r.2.2]
/-- the pool behind a call -/
def Next12 (At : (Nat → Prop) → World → Nat → Po → Prop) (O : Nat → Prop) (w : World) (g : Nat) (p : Po) (w' : World) : Prop :=
  ∃ O', At O' w' g p ∧ Keeps (fun b => ¬ O b) w w' ∧ ∀ b, O' b → O b ∨ w.heap.size ≤ b
end ZZ
namespace Go.Proofs.Ytgjdiliaiblfcaa
open ZZ FF JJ WW BB
structure Code12 where
  At : (Nat → Prop) → World → Nat → Po → Prop
  keep : ∀ {O w w' g p}, At O w g p → Keeps O w w' → At O w' g p
  lt : ∀ {O w g p}, At O w g p → ∀ b, O b → b < w.heap.size
  new : ∀ w, Calls Try.prog 9 #[] w fun e w' => ∃ g O, e = .returned (.pointer (some ⟨g, 0, none⟩)) ∧ At O w' g ([], []) ∧ (∀ b, O b → w.heap.size ≤ b) ∧ Below w.heap.size w w'
  add : ∀ O w g p (r : Rq), At O w g p → InvP p → p.2.length ≤ 1000 → r.2.2.size ≤ 9223372036854775807 →
    Calls Try.prog 20 #[.pointer (some ⟨g, 0, none⟩), rqV r] w fun e w' => e = .returned (.int .i64 (addP p r).2) ∧ Next12 At O w g (addP p r).1 w'
  done : ∀ (O A : Nat → Prop) w g p v l, At O w g p → InvP p → p.2.length ≤ 1000 → l.length ≤ 20 → Dep A w (fun w' => ReqsAt w' v l) → (∀ b, A b → ¬ O b) →
    Calls Try.prog 19 #[.pointer (some ⟨g, 0, none⟩), v] w fun e w' => e = .returned (.tuple #[]) ∧ Next12 At O w g (doneP p l) w'
  take : ∀ O w g p (n : Int) v m, At O w g p → InvP p → p.2.length ≤ 1000 → ReqsAt w v m → m.length ≤ 100 → -9223372036854775808 ≤ n ∧ n ≤ 9223372036854775807 →
    Calls Try.prog 18 #[.pointer (some ⟨g, 0, none⟩), .int .i64 n, v] w fun e w' => ∃ u, e = .returned u ∧ ReqsAt w' u ((butR p.1 m).take n.toNat) ∧ Below w.heap.size w w'
  len : ∀ O w g p, At O w g p → InvP p → Calls Try.prog 12 #[.pointer (some ⟨g, 0, none⟩)] w fun e w' => e = .returned (.int .i64 (p.1.length : Int)) ∧ Below w.heap.size w w'
  has : ∀ O w g p (c q : Int), At O w g p → InvP p → Calls Try.prog 13 #[.pointer (some ⟨g, 0, none⟩), .int .i64 c, .int .i64 q] w fun e w' => e = .returned (.bool (hasR p.1 (c, q))) ∧ Below w.heap.size w w'
  all : ∀ O w g p, At O w g p → InvP p → Calls Try.prog 16 #[.pointer (some ⟨g, 0, none⟩)] w fun e w' => ∃ u, e = .returned u ∧ ReqsAt w' u p.1 ∧ Below w.heap.size w w'
end Go.Proofs.Ytgjdiliaiblfcaa
end
section
open Go Go.RowKit
namespace ZZ
open FF JJ WW BB
/-- a call's five cells -/
def OpZ (w : World) (b off : Nat) (o : OpP) : Prop :=
  w.cell? ⟨b, off, none⟩ = some (.int .u8 (o.k : Int)) ∧ w.cell? ⟨b, off + 1, none⟩ = some (.int .i64 o.r.1) ∧ w.cell? ⟨b, off + 2, none⟩ = some (.int .i64 o.r.2.1) ∧ w.cell? ⟨b, off + 3, none⟩ = some (.string o.r.2.2) ∧ w.cell? ⟨b, off + 4, none⟩ = some o.lv ∧ ReqsAt w o.lv o.l
theorem OpZ.later {w w' : World} {b off : Nat} {o : OpP} (h : OpZ w b off o) (hb : Below w.heap.size w w') (hl : b < w.heap.size) : OpZ w' b off o := by
  obtain ⟨h0, h1, h2, h3, h4, h5⟩ := h
  have k : ∀ i u, w.cell? ⟨b, i, none⟩ = some u → w'.cell? ⟨b, i, none⟩ = some u := fun i u h => (hb.cell (p := ⟨b, i, none⟩) hl).trans h
  exact ⟨k _ _ h0, k _ _ h1, k _ _ h2, k _ _ h3, k _ _ h4, h5.later hb⟩
/-- v is a slice of calls -/
def OpsZ (w : World) (v : Value) (l : List OpP) : Prop :=
  ∃ a0 cap, v = .slice a0 l.length cap ∧ (l = [] ∨ ∃ b off, a0 = some ⟨b, off, none⟩ ∧ b < w.heap.size ∧ ∀ i, i < l.length → OpZ w b (off + i * 5) (l.getD i opP0))
theorem OpsZ.later {w w' : World} {v : Value} {l : List OpP} (h : OpsZ w v l) (hb : Below w.heap.size w w') : OpsZ w' v l := by
  obtain ⟨a0, cap, e, h⟩ := h
  exact ⟨a0, cap, e, h.imp id fun ⟨b, off, e2, hl, hc⟩ => ⟨b, off, e2, Nat.lt_of_lt_of_le hl hb.size, fun i hi => (hc i hi).later hb hl⟩⟩
theorem opsZ_at {w : World} {a0 : Option Addr} {n cap : Nat} {l : List OpP} (h : OpsZ w (.slice a0 n cap) l) (i : Nat) (hi : i < l.length) : ∃ b off, a0 = some ⟨b, off, none⟩ ∧ b < w.heap.size ∧ n = l.length ∧ ∀ wx, Below w.heap.size w wx → OpZ wx b (off + i * 5) (l.getD i opP0) := by
  obtain ⟨a, c, e, h⟩ := h
  injection e with e1 e2 e3
  subst e1 e2 e3
  rcases h with rfl | ⟨b, off, e, hl, hc⟩
  · simp at hi
  · exact ⟨b, off, e, hl, rfl, fun wx hb => (hc i hi).later hb hl⟩
/-- it fits into memory -/
def MemZ (l : List OpP) : Prop := l.length ≤ 9223372036854775807 ∧ ∀ o ∈ l, o.l.length ≤ 9223372036854775807 ∧ o.r.2.2.size ≤ 9223372036854775807 ∧ o.k < 256
/-- what few tells of one call -/
def FewZ (o : OpP) : Prop := o.l.length ≤ 10 ∧ o.r.2.2.size ≤ 60
/-- the reference's pool: a box of two slices, and what they lie in -/
def RfAt (A : Nat → Prop) (w : World) (y : Nat) (p : Po) : Prop := ∃ wv dv, Blk w y 2 (rowL [wv, dv]) ∧ Dep A w (fun w' => ReqsAt w' wv p.1 ∧ ReqsAt w' dv p.2)
theorem RfAt.keep {A : Nat → Prop} {w w' : World} {y : Nat} {p : Po} (h : RfAt A w y p) (hk : Keeps (fun b => b = y ∨ A b) w w') : RfAt A w' y p := by
  obtain ⟨wv, dv, h1, h2⟩ := h
  exact ⟨wv, dv, h1.of_heap (hk.block y (.inl rfl) h1.lt), h2.on (hk.sub fun b hb _ => .inr hb)⟩
theorem RfAt.on {A : Nat → Prop} {w w' : World} {y : Nat} {p : Po} (h : RfAt A w y p) (hb : Below w.heap.size w w') : RfAt A w' y p := h.keep (Keeps.of hb)
/-- other blocks hold it -/
theorem RfAt.more {A A' : Nat → Prop} {w : World} {y : Nat} {p : Po} (h : RfAt A w y p) (hA : ∀ b, A b → b < w.heap.size → A' b) : RfAt A' w y p := by
  obtain ⟨wv, dv, h1, h2⟩ := h
  exact ⟨wv, dv, h1, h2.more hA⟩
theorem reqs_sl {w : World} {v : Value} {l : List Rq} (h : ReqsAt w v l) : ∃ a c, v = .slice a l.length c := by
  obtain ⟨a, c, e, _⟩ := h
  exact ⟨a, c, e⟩
end ZZ
end
section
open Go Go.RowKit
namespace RR
open FF BB
theorem row2_ (a b : Value) : (#[a, b] : Array Value) = row 2 (rowL [a, b]) := rfl
theorem row3_ (a b c : Value) : (#[a, b, c] : Array Value) = row 3 (rowL [a, b, c]) := rfl
theorem row4_ (a b c d : Value) : (#[a, b, c, d] : Array Value) = row 4 (rowL [a, b, c, d]) := rfl
theorem row6_ (a b c d e f : Value) : (#[a, b, c, d, e, f] : Array Value) = row 6 (rowL [a, b, c, d, e, f]) := rfl
theorem rset2 {w : World} {a : Nat} {f : Nat → Value} (h : Blk w a 2 f) (u0 u1 : Value) :
    Blk ((w.setCell ⟨a, 0, none⟩ u0).setCell ⟨a, 1, none⟩ u1) a 2 (rowL [u0, u1]) ∧ Upd a w ((w.setCell ⟨a, 0, none⟩ u0).setCell ⟨a, 1, none⟩ u1) := by
  refine ⟨((h.set 0 u0).set 1 u1).congr _ fun i hi => ?_, ((Upd.refl a w).trans (Upd.set _ _ _ _)).trans (Upd.set _ _ _ _)⟩
  match i, hi with
  | 0, _ => rfl
  | 1, _ => rfl
theorem rset3 {w : World} {a : Nat} {f : Nat → Value} (h : Blk w a 3 f) (u0 u1 u2 : Value) :
    Blk (((w.setCell ⟨a, 0, none⟩ u0).setCell ⟨a, 1, none⟩ u1).setCell ⟨a, 2, none⟩ u2) a 3 (rowL [u0, u1, u2]) ∧ Upd a w (((w.setCell ⟨a, 0, none⟩ u0).setCell ⟨a, 1, none⟩ u1).setCell ⟨a, 2, none⟩ u2) := by
  refine ⟨(((h.set 0 u0).set 1 u1).set 2 u2).congr _ fun i hi => ?_, (((Upd.refl a w).trans (Upd.set _ _ _ _)).trans (Upd.set _ _ _ _)).trans (Upd.set _ _ _ _)⟩
  match i, hi with
  | 0, _ => rfl
  | 1, _ => rfl
  | 2, _ => rfl
theorem rset6 {w : World} {a : Nat} {f : Nat → Value} (h : Blk w a 6 f) (u0 u1 u2 u3 u4 u5 : Value) :
    Blk ((((((w.setCell ⟨a, 0, none⟩ u0).setCell ⟨a, 1, none⟩ u1).setCell ⟨a, 2, none⟩ u2).setCell ⟨a, 3, none⟩ u3).setCell ⟨a, 4, none⟩ u4).setCell ⟨a, 5, none⟩ u5) a 6 (rowL [u0, u1, u2, u3, u4, u5]) ∧
    Upd a w ((((((w.setCell ⟨a, 0, none⟩ u0).setCell ⟨a, 1, none⟩ u1).setCell ⟨a, 2, none⟩ u2).setCell ⟨a, 3, none⟩ u3).setCell ⟨a, 4, none⟩ u4).setCell ⟨a, 5, none⟩ u5) := by
  refine ⟨((((((h.set 0 u0).set 1 u1).set 2 u2).set 3 u3).set 4 u4).set 5 u5).congr _ fun i hi => ?_, ((((((Upd.refl a w).trans (Upd.set _ _ _ _)).trans (Upd.set _ _ _ _)).trans (Upd.set _ _ _ _)).trans (Upd.set _ _ _ _)).trans (Upd.set _ _ _ _)).trans (Upd.set _ _ _ _)⟩
  match i, hi with
  | 0, _ => rfl
  | 1, _ => rfl
  | 2, _ => rfl
  | 3, _ => rfl
  | 4, _ => rfl
  | 5, _ => rfl
theorem cells2 {w : World} {b : Nat} {x y : Value} (h : Blk w b 2 (rowL [x, y])) : w.cell? ⟨b, 0, none⟩ = some x ∧ w.cell? ⟨b, 1, none⟩ = some y := ⟨h.get 0 (by omega), h.get 1 (by omega)⟩
theorem cells3 {w : World} {b : Nat} {x y z : Value} (h : Blk w b 3 (rowL [x, y, z])) : w.cell? ⟨b, 0, none⟩ = some x ∧ w.cell? ⟨b, 1, none⟩ = some y ∧ w.cell? ⟨b, 2, none⟩ = some z := ⟨h.get 0 (by omega), h.get 1 (by omega), h.get 2 (by omega)⟩
theorem cells4 {w : World} {b : Nat} {x y z u : Value} (h : Blk w b 4 (rowL [x, y, z, u])) : w.cell? ⟨b, 0, none⟩ = some x ∧ w.cell? ⟨b, 1, none⟩ = some y ∧ w.cell? ⟨b, 2, none⟩ = some z ∧ w.cell? ⟨b, 3, none⟩ = some u := ⟨h.get 0 (by omega), h.get 1 (by omega), h.get 2 (by omega), h.get 3 (by omega)⟩
theorem cells6 {w : World} {b : Nat} {x y z u v t : Value} (h : Blk w b 6 (rowL [x, y, z, u, v, t])) : w.cell? ⟨b, 0, none⟩ = some x ∧ w.cell? ⟨b, 1, none⟩ = some y ∧ w.cell? ⟨b, 2, none⟩ = some z ∧ w.cell? ⟨b, 3, none⟩ = some u ∧ w.cell? ⟨b, 4, none⟩ = some v ∧ w.cell? ⟨b, 5, none⟩ = some t :=
  ⟨h.get 0 (by omega), h.get 1 (by omega), h.get 2 (by omega), h.get 3 (by omega), h.get 4 (by omega), h.get 5 (by omega)⟩
end RR
namespace BB
/-- a store in a plan -/
theorem pl_store {P : Program} {ops : Array Oper} {S : World → Prop} {Q : Exit → Act → World → Prop} {i : Nat} {r : List (Bool × Nat)} {a : Act} {w w' : World} (o : Oper) (ho : ops[i]? = some o) (hg : o.guard = none) (h : (execOp a.eval o).run P w = .ok .skip w') (hS : S w') (hK : wpPlan P ops Q S r (a.put o.dst undef) w') : wpPlan P ops Q S ((false, i) :: r) a w := by
  show wpOp P ops Q i _ a w
  unfold wpOp; simp only [ho, Region.wanted, hg, if_true]
  left; unfold Oper.wp; rw [h]; exact ⟨hS, hK⟩
theorem pe_store {P : Program} {ops : Array Oper} {S : World → Prop} {Q : Exit → Act → World → Prop} {t i : Nat} {r : List (Bool × Nat)} {a : Act} {w w' : World} (o : Oper) (ho : ops[i]? = some o) (hg : o.guard = none) (h : (execOp a.eval o).run P w = .ok .skip w') (hS : S w') (hK : wpPlanE P ops Q S t r (a.put o.dst undef) w') : wpPlanE P ops Q S t ((false, i) :: r) a w := by
  show wpOp P ops Q i _ a w
  unfold wpOp; simp only [ho, Region.wanted, hg, if_true]
  left; unfold Oper.wp; rw [h]; exact ⟨fun _ => hS, hK⟩
end BB
end
section
open Go Go.RowKit
namespace ZZ
open FF JJ WW BB
theorem own_slZ {w : World} {base n k : Nat} {e : TypeId} {v : Value} {xs : List Value} (h : w.ownsRow base e k v n xs) : ∃ a c, v = .slice a n c := by
  rcases h.2 with ⟨h1, h2⟩ | ⟨q, cap, cur, h1, _⟩
  · exact ⟨none, 0, by rw [h1, h2]⟩
  · exact ⟨_, _, h1⟩
theorem has_hit {l : List Rq} {k : Int × Int} {i : Nat} (hi : i < l.length) (h : keyR (l.getD i r0) = k) : hasR l k = true := by
  unfold hasR
  rw [decide_eq_true_iff, ← h, List.getD_eq_getElem?_getD, List.getElem?_eq_getElem hi]
  exact List.mem_map.2 ⟨_, List.getElem_mem hi, rfl⟩
theorem has_none {l : List Rq} {k : Int × Int} (h : ∀ j, j < l.length → keyR (l.getD j r0) ≠ k) : hasR l k = false := by
  unfold hasR
  rw [decide_eq_false_iff_not]
  intro hk
  obtain ⟨r, hr, he⟩ := List.mem_map.1 hk
  obtain ⟨j, hj, rfl⟩ := List.getElem_of_mem hr
  exact h j hj (by rw [List.getD_eq_getElem?_getD, List.getElem?_eq_getElem hj]; exact he)
end ZZ
namespace Go.Proofs.Ytgjdiliaiblfcaa
open ZZ RR FF JJ CC WW BB
set_option maxRecDepth 100000 in
set_option maxHeartbeats 8000000 in
/-- is one of a client's number in a list? -/
theorem rhas_any (l : List Rq) (v : Value) (r : Rq) (X : Bool) (hX : hasR l (keyR r) = X) (w : World) (hv : ReqsAt w v l) (hl : l.length ≤ 100000) :
    Calls Try.prog 14 #[v, rqV r] w fun e w' => e = .returned (.bool X) ∧ Below w.heap.size w w' := by
  obtain ⟨c, q, s⟩ := r
  have HV := Lib.hid hv
  have HL := Lib.hid hl
  have HX := Lib.hid hX
  obtain ⟨a0, cap, rfl, hx⟩ := hv
  have HH := Lib.hid hx
  unfold rqV
  simp only
  have X1 := Lib.hid ((Below.refl w.heap.size w).alloc (Nat.le_refl _) (.cells #[.int .i64 c, .int .i64 q, .string s] 33))
  have Q1 := Lib.hid (show Blk (w.alloc (.cells #[.int .i64 c, .int .i64 q, .string s] 33)) w.heap.size 3 (rowL [.int .i64 c, .int .i64 q, .string s]) from Blk.new' rfl (row3_ _ _ _))
  obtain ⟨n, hn⟩ : ∃ n, w.heap.size = n := ⟨_, rfl⟩
  have HN := Lib.hid hn
  obtain ⟨w1, hw1⟩ : ∃ w1, w.alloc (.cells #[.int .i64 c, .int .i64 q, .string s] 33) = w1 := ⟨_, rfl⟩
  have HW1 := Lib.hid hw1
  rw [hw1] at X1 Q1
  rw [hn] at Q1
  clear hl hx hX hn hw1
  go_enter Try.func14, Try.ntmps14
  go_upto_region 1 with fail
  rw [HW1.out, HN.out]
  go_wp2_with fail
  go_loopw [5] (fun y wr => ∃ i : Nat, i ≤ l.length ∧ y = .int .i64 (i : Int) ∧ (∀ j, j < i → keyR (l.getD j r0) ≠ (c, q)) ∧ Below w1.heap.size w1 wr) (fun y _ => l.length - (intOf y).toNat)
  case atStart => exact ⟨0, Nat.zero_le _, rfl, fun j hj => absurd hj (Nat.not_lt_zero _), Below.refl _ _⟩
  case round =>
    obtain ⟨i, hi, rfl, hall, hbr⟩ := hrel
    have HALL := Lib.hid hall
    have HBR := Lib.hid hbr
    have HI := Lib.hid hi
    have HBW := Lib.hid (X1.out.trans (hbr.mono X1.out.size))
    have i0 : (0 : Int) ≤ (i : Int) := by omega
    have ib : (i : Int) ≤ 100000 := by have := HL.out; omega
    clear hall hbr hi
    by_cases hlt : i < l.length
    · have hlt' : (i : Int) < (l.length : Int) := by omega
      have HLT := Lib.hid hlt
      obtain ⟨b, off, rfl, hbw, hcell⟩ : ∃ b off, a0 = some ⟨b, off, none⟩ ∧ b < w.heap.size ∧ _ := by
        rcases HH.out with h | h
        · subst h; simp at hlt
        · exact h
      have HQ := Lib.hid (fun wx (hb : Below wr.heap.size wr wx) => JJ.reqs_at (HBW.out.trans (hb.mono HBW.out.size)) hbw hcell i hlt)
      obtain ⟨z, hz⟩ : ∃ z, l.getD i r0 = z := ⟨_, rfl⟩
      rw [hz] at HQ
      have HZ := Lib.hid hz
      obtain ⟨zc, zq, zs⟩ := z
      have HC := Lib.hid (fun (wx : World) (hb : Below wr.heap.size wr wx) => RR.cells3 (Q1.out.below (HBR.out.trans (hb.mono HBR.out.size)) Q1.out.lt))
      clear hlt hbw hcell hz
      go_wp2_with fail
      refine plan_abs (fun wx => Below wr.heap.size wr wx) [(true, 0), (true, 1), (true, 2), (true, 3), (true, 4), (true, 5), (true, 6), (true, 7), (true, 8), (true, 9), (true, 10), (true, 11), (true, 12), (true, 13), (true, 14), (true, 15), (true, 16), (true, 17)] (by kernel_rfl) (by kernel_rfl) (fun _ _ d _ _ h => by cases d <;> exact h) fun w5 hs5 => ⟨hs5.below _, ?_⟩
      have B5 := Lib.hid (HBR.out.trans ((hs5.below _).mono HBR.out.size))
      clear hs5
      iterate 7 (refine pl_run _ ?_ rfl rfl ?_ ?_; rotate_left; (focus (intro w' hS; obtain ⟨q0, q1, q2⟩ := HQ.out w' hS; obtain ⟨d0, d1, d2⟩ := HC.out w' hS; go_simp; exact rfl)); simp only [Act.put, List.setIfInBounds_toArray, List.set_cons_zero, List.set_cons_succ, List.getElem_toArray, List.getElem_cons_zero, List.getElem_cons_succ])
      by_cases h1 : zc = c
      · have t1 : (zc == c) = true := by simpa using h1
        have H1 := Lib.hid h1
        clear h1
        iterate 9 (refine pl_run _ ?_ rfl rfl ?_ ?_; rotate_left; (focus (intro w' hS; obtain ⟨q0, q1, q2⟩ := HQ.out w' hS; obtain ⟨d0, d1, d2⟩ := HC.out w' hS; go_simp; exact rfl)); simp only [Act.put, List.setIfInBounds_toArray, List.set_cons_zero, List.set_cons_succ, List.getElem_toArray, List.getElem_cons_zero, List.getElem_cons_succ])
        by_cases h2 : zq = q
        · have t2 : (zq == q) = true := by simpa using h2
          have HK := Lib.hid (show keyR (l.getD i r0) = (c, q) by rw [HZ.out, H1.out, h2]; rfl)
          clear h2
          iterate 2 (refine pl_run _ ?_ rfl rfl ?_ ?_; rotate_left; (focus (intro w' hS; go_simp; exact rfl)); simp only [Act.put, List.setIfInBounds_toArray, List.set_cons_zero, List.set_cons_succ, List.getElem_toArray, List.getElem_cons_zero, List.getElem_cons_succ])
          refine pl_end ?_
          go_wp2_with fail
          go_ret
          refine ⟨?_, by rw [HN.out]; exact HN.out ▸ X1.out.trans (B5.out.mono X1.out.size)⟩
          rw [← HX.out, show keyR (c, q, s) = (c, q) from rfl, has_hit HLT.out HK.out]; rfl
        · have t2 : (zq == q) = false := by simpa using h2
          have HK := Lib.hid (show keyR (l.getD i r0) ≠ (c, q) by rw [HZ.out]; intro h; injection h with _ h; exact h2 h)
          clear h2
          iterate 2 (refine pl_run _ ?_ rfl rfl ?_ ?_; rotate_left; (focus (intro w' hS; go_simp; exact rfl)); simp only [Act.put, List.setIfInBounds_toArray, List.set_cons_zero, List.set_cons_succ, List.getElem_toArray, List.getElem_cons_zero, List.getElem_cons_succ])
          refine pl_end ?_
          go_wp2_with fail
          go_roundw
          case rel => exact ⟨i + 1, by have := HLT.out; omega, by go_num, fun j hj => if h : j = i then by subst h; exact HK.out else HALL.out j (by omega), B5.out⟩
          case measure => have := HLT.out; simp [intOf]; omega
      · have t1 : (zc == c) = false := by simpa using h1
        have HK := Lib.hid (show keyR (l.getD i r0) ≠ (c, q) by rw [HZ.out]; intro h; injection h with h _; exact h1 h)
        clear h1
        iterate 2 (refine pl_run _ ?_ rfl rfl ?_ ?_; rotate_left; (focus (intro w' hS; go_simp; exact rfl)); simp only [Act.put, List.setIfInBounds_toArray, List.set_cons_zero, List.set_cons_succ, List.getElem_toArray, List.getElem_cons_zero, List.getElem_cons_succ])
        iterate 8 (refine pl_off _ rfl rfl ?_; simp only [Act.put, List.setIfInBounds_toArray, List.set_cons_zero, List.set_cons_succ, List.getElem_toArray, List.getElem_cons_zero, List.getElem_cons_succ])
        iterate 1 (refine pl_run _ ?_ rfl rfl ?_ ?_; rotate_left; (focus (intro w' hS; go_simp; exact rfl)); simp only [Act.put, List.setIfInBounds_toArray, List.set_cons_zero, List.set_cons_succ, List.getElem_toArray, List.getElem_cons_zero, List.getElem_cons_succ])
        refine pl_end ?_
        go_wp2_with fail
        go_roundw
        case rel => exact ⟨i + 1, by have := HLT.out; omega, by go_num, fun j hj => if h : j = i then by subst h; exact HK.out else HALL.out j (by omega), B5.out⟩
        case measure => have := HLT.out; simp [intOf]; omega
    · obtain rfl : i = l.length := by have := HI.out; omega
      have hlt' : ¬ (l.length : Int) < (l.length : Int) := by omega
      clear hlt
      go_wp2_with fail
      go_ret
      refine ⟨?_, by rw [HN.out]; exact HN.out ▸ X1.out.trans (HBR.out.mono X1.out.size)⟩
      rw [← HX.out, show keyR (c, q, s) = (c, q) from rfl, has_none HALL.out]; rfl
set_option maxRecDepth 100000 in
set_option maxHeartbeats 8000000 in
/-- those that another list hasn't, in a new row -/
theorem rbut_any (l m : List Rq) (v u : Value) (w : World) (hv : ReqsAt w v l) (hu : ReqsAt w u m) (hl : l.length ≤ 100000) (hm : m.length ≤ 100000) :
    Calls Try.prog 17 #[v, u] w fun e w' => ∃ x, e = .returned x ∧ w'.ownsRow w.heap.size 33 3 x (butR l m).length (cellsR (butR l m)) ∧ Below w.heap.size w w' := by
  have HV := Lib.hid hv
  have HU := Lib.hid hu
  have HL := Lib.hid hl
  have HM := Lib.hid hm
  obtain ⟨a0, cap, rfl, hx⟩ := hv
  obtain ⟨b0, bap, rfl, _⟩ := hu
  have HH := Lib.hid hx
  clear hl hm hx
  go_enter Try.func17, Try.ntmps17
  go_wp2_with fail
  go_loopw [5, 6] (fun x y wr => ∃ i : Nat, i ≤ l.length ∧ y = .int .i64 (i : Int) ∧ wr.ownsRow w.heap.size 33 3 x (butR (l.take i) m).length (cellsR (butR (l.take i) m)) ∧ Below w.heap.size w wr) (fun _ y _ => l.length - (intOf y).toNat)
  case atStart => exact ⟨0, Nat.zero_le _, rfl, World.ownsRow_nil _ _ _ _, Below.refl _ _⟩
  case round =>
    obtain ⟨i, hi, rfl, hrow, hbr⟩ := hrel
    have HBR := Lib.hid hbr
    have HI := Lib.hid hi
    have i0 : (0 : Int) ≤ (i : Int) := by omega
    have ib : (i : Int) ≤ 100000 := by have := HL.out; omega
    obtain ⟨out, hout⟩ : ∃ out, butR (l.take i) m = out := ⟨_, rfl⟩
    have HOUT := Lib.hid hout
    have HOL := Lib.hid (show out.length ≤ 100000 by rw [← hout]; have := but_len (l.take i) m; rw [List.length_take] at this; have := HL.out; omega)
    rw [hout] at hrow
    have HROW := Lib.hid hrow
    obtain ⟨xa, xc, rfl⟩ := own_slZ hrow
    clear hrow hbr hi hout
    by_cases hlt : i < l.length
    · have hlt' : (i : Int) < (l.length : Int) := by omega
      have HLT := Lib.hid hlt
      have HSN := Lib.hid (show butR (l.take (i + 1)) m = if hasR m (keyR (l.getD i r0)) = true then out else out ++ [l.getD i r0] by
        rw [← HOUT.out, ← but_snoc, List.take_add_one, List.getElem?_eq_getElem hlt, List.getD_eq_getElem?_getD, List.getElem?_eq_getElem hlt]; rfl)
      obtain ⟨b, off, rfl, hbw, hcell⟩ : ∃ b off, a0 = some ⟨b, off, none⟩ ∧ b < w.heap.size ∧ _ := by
        rcases HH.out with h | h
        · subst h; simp at hlt
        · exact h
      have HQ := Lib.hid (fun wx (hb : Below w.heap.size w wx) => JJ.reqs_at hb hbw hcell i hlt)
      obtain ⟨z, hz⟩ : ∃ z, l.getD i r0 = z := ⟨_, rfl⟩
      rw [hz] at HQ HSN
      obtain ⟨zc, zq, zs⟩ := z
      obtain ⟨q0, q1, q2⟩ := HQ.out wr HBR.out
      obtain ⟨X, hX⟩ : ∃ X, hasR m (keyR (zc, zq, zs)) = X := ⟨_, rfl⟩
      have HC := Lib.hid (rhas_any m (.slice b0 m.length bap) (zc, zq, zs) X hX wr (HU.out.later HBR.out) HM.out)
      unfold rqV at HC
      simp only at HC
      rw [hX] at HSN
      clear hlt hbw hcell hz hX
      go_wp2_with fail
      refine HC.out.mono ?_
      rintro e w2 ⟨rfl, hb2⟩
      have B2 := Lib.hid hb2
      have BW2 := Lib.hid (HBR.out.trans (hb2.mono HBR.out.size))
      have R2 := Lib.hid (row_keep HROW.out fun c hc => hb2.block c (HROW.out.lt c hc).2)
      clear hb2 HC q0 q1 q2
      cases X with
      | true =>
        have HEQ := Lib.hid (show butR (l.take (i + 1)) m = out by rw [HSN.out, if_pos rfl])
        go_wp2_with fail
        go_roundw
        case rel => exact ⟨i + 1, by have := HLT.out; omega, by go_num, by rw [HEQ.out]; exact R2.out, BW2.out⟩
        case measure => have := HLT.out; simp [intOf]; omega
      | false =>
        have HEQ := Lib.hid (show butR (l.take (i + 1)) m = out ++ [(zc, zq, zs)] by rw [HSN.out, if_neg (by decide)])
        obtain ⟨q0, q1, q2⟩ := HQ.out w2 BW2.out
        have A9 := Lib.hid ((Below.refl w2.heap.size w2).alloc (Nat.le_refl _) (.cells #[.int .i64 zc, .int .i64 zq, .string zs] 33))
        have HQ3 := Lib.hid (show out.length + 1 ≤ maxLen by have := HOL.out; unfold maxLen; omega)
        have HQ4 := Lib.hid (show (out.length + 1) * 32 ≤ 140737488355328 by have := HOL.out; omega)
        obtain ⟨ti, i1, i2, i3, i4⟩ := info_parts info_req
        go_wp2_with (at_builtin; refine wpList_append_own _ rfl _ _ 27 rfl w.heap.size 33 ti (.agg #[.int .i64 0, .int .i64 0, .string ⟨#[]⟩]) 3 32 und_reqs i1 i2 i3 i4 rfl (by decide) _ _ _ rfl (row_keep R2.out fun c hc => A9.out.block c (R2.out.lt c hc).2) ⟨w2.heap.size, 0, none⟩ 1 1 [.int .i64 zc, .int .i64 zq, .string zs] rfl rfl (cells3_new w2 zc zq zs _) (cells3_one zc zq zs) HQ3.out HQ4.out (sz_alloc (Nat.le_trans BW2.out.size (Nat.le_refl _)) _) ?_)
        intro u' w10 hown' hgr _
        obtain ⟨a', c', rfl⟩ := own_slZ hown'
        have HO' := Lib.hid hown'
        have BA := Lib.hid (BW2.out.trans (A9.out.mono BW2.out.size))
        have BF := Lib.hid (BA.out.grown hgr BA.out.size (fun k hk => (R2.out.lt k hk).1))
        clear hown' hgr q0 q1 q2
        go_wp2_with fail
        go_roundw
        case rel => exact ⟨i + 1, by have := HLT.out; omega, by go_num, by rw [HEQ.out, cellsR_snoc, List.length_append]; exact HO'.out, BF.out⟩
        case measure => have := HLT.out; simp [intOf]; omega
    · obtain rfl : i = l.length := by have := HI.out; omega
      have hlt' : ¬ (l.length : Int) < (l.length : Int) := by omega
      have HFIN := Lib.hid (show butR l m = out by rw [← HOUT.out, List.take_length])
      clear hlt
      go_wp2_with fail
      go_ret
      rw [HFIN.out]
      exact ⟨.slice xa out.length xc, rfl, HROW.out, HBR.out⟩
end Go.Proofs.Ytgjdiliaiblfcaa
end
section
open Go Go.RowKit
namespace ZZ
open FF JJ WW BB
theorem add_plain (b off k : Nat) : (⟨b, off, none⟩ : Addr).add k = ⟨b, off + k, none⟩ := by unfold Addr.add; split <;> simp [*]
theorem cellsR_oneZ (l : List Rq) : ∀ u ∈ cellsR l, u.oneCell' = true := by
  intro u hu
  unfold cellsR at hu
  rw [List.mem_flatten] at hu
  obtain ⟨c, hc, hu⟩ := hu
  obtain ⟨x, _, rfl⟩ := List.mem_map.1 hc
  simp only [List.mem_cons, List.not_mem_nil, or_false] at hu
  rcases hu with rfl | rfl | rfl <;> rfl
theorem cellsR_app (l m : List Rq) : cellsR (l ++ m) = cellsR l ++ cellsR m := by unfold cellsR; rw [List.map_append, List.flatten_append]
theorem cellsR_at3 : ∀ (l : List Rq) (k : Nat) (u : Value), (cellsR l)[k]? = some u → k / 3 < l.length ∧ [Value.int .i64 (l.getD (k / 3) r0).1, .int .i64 (l.getD (k / 3) r0).2.1, .string (l.getD (k / 3) r0).2.2][k % 3]? = some u
  | [], k, u, h => by simp [cellsR] at h
  | x :: l, k, u, h => by
    have e : cellsR (x :: l) = [Value.int .i64 x.1, .int .i64 x.2.1, .string x.2.2] ++ cellsR l := by unfold cellsR; rw [List.map_cons, List.flatten_cons]
    rw [e] at h
    by_cases hk : k < 3
    · rw [List.getElem?_append_left (by simpa using hk)] at h
      have e1 : k / 3 = 0 := by omega
      have e2 : k % 3 = k := by omega
      rw [e1, e2]
      exact ⟨Nat.succ_pos _, h⟩
    · rw [List.getElem?_append_right (by simp; omega)] at h
      obtain ⟨h1, h2⟩ := cellsR_at3 l (k - 3) u (by simpa using h)
      have e1 : k / 3 = (k - 3) / 3 + 1 := by omega
      have e2 : k % 3 = (k - 3) % 3 := by omega
      rw [e1, e2]
      exact ⟨by rw [List.length_cons]; omega, by simpa [List.getD] using h2⟩
/-- the cells of a slice of requests, one behind the other -/
theorem reqs_flat {w w' : World} {a0 : Option Addr} {n c : Nat} {l : List Rq} (h : ReqsAt w (.slice a0 n c) l) (hb : Below w.heap.size w w') : ∀ a, a0 = some a → ∀ k u, (cellsR l)[k]? = some u → w'.cell? (a.add k) = some u := by
  intro a ha k u hu
  obtain ⟨a1, c1, he, h | ⟨b, off, h1, hl, hc⟩⟩ := h
  · subst h; simp [cellsR] at hu
  · injection he with e1 _ _
    rw [ha, h1] at e1
    injection e1 with e1
    subst e1
    obtain ⟨hi, hu⟩ := cellsR_at3 l k u hu
    obtain ⟨h0, h2, h3⟩ := hc (k / 3) hi
    rw [add_plain, hb.cell (p := ⟨b, off + k, none⟩) hl]
    have hk : k % 3 = 0 ∨ k % 3 = 1 ∨ k % 3 = 2 := by omega
    rcases hk with hk | hk | hk
    · rw [hk] at hu; injection hu with hu; rw [show off + k = off + k / 3 * 3 by omega, h0, ← hu]; rfl
    · rw [hk] at hu; injection hu with hu; rw [show off + k = off + k / 3 * 3 + 1 by omega, h2, ← hu]; rfl
    · rw [hk] at hu; injection hu with hu; rw [show off + k = off + k / 3 * 3 + 2 by omega, h3, ← hu]; rfl
theorem reqs_none {w : World} {a0 : Option Addr} {n c : Nat} {l : List Rq} (h : ReqsAt w (.slice a0 n c) l) (h0 : a0 = none) : n = 0 := by
  obtain ⟨a1, c1, he, h | ⟨b, off, h1, _⟩⟩ := h
  · injection he with _ e2 _; subst h; exact e2
  · injection he with e1 _ _; rw [h0, h1] at e1; cases e1
/-- what is in a slice, or none, is appended to a row of the call's own -/
theorem run_append_argZ {P : Program} {w : World} (base : Nat) (t ty e : TypeId) (i : TypeInfo) (z : Value) (size bytes : Nat) (ht : P.underlying t = some (.slice e)) (hi : P.info? e = some i) (hz : i.zero = some z)
    (hsize : i.size = size) (hby : i.bytes = bytes) (hzs : z.cells.size = size) (hsz : 0 < size) (v : Value) (n : Nat) (xs : List Value) (hown : w.ownsRow base e size v n xs) (a0 : Option Addr) (j c : Nat) (news : List Value) (hl : news.length = j * size)
    (hn : a0 = none → j = 0) (hnews : ∀ a, a0 = some a → ∀ k u, news[k]? = some u → w.cell? (a.add k) = some u) (h1 : ∀ y ∈ news, y.oneCell' = true)
    (h63 : n + j ≤ maxLen) (hbytes : (n + j) * bytes ≤ 140737488355328) (hbase : base ≤ w.heap.size) :
    ∃ v' w', (Builtin.append_ #[t, t] ty #[v, .slice a0 j c]).run P w = .ok v' w' ∧ w'.ownsRow base e size v' (n + j) (xs ++ news) ∧ w.grownBy w' v.ownBlock := by
  rcases a0 with _ | a
  · obtain rfl := hn rfl
    have hn : news = [] := List.eq_nil_of_length_eq_zero (by simpa using hl)
    subst hn
    exact ⟨_, w, run_append_none_any (P := P) (w := w) base t ty e i size ht hi _ n xs hown c, by simpa using hown, ⟨rfl, rfl, rfl, Nat.le_refl _, fun _ _ _ => rfl⟩⟩
  · obtain ⟨v', w', hr, ho, hg, _⟩ := run_append_own (P := P) w base t ty e i z size bytes ht hi hz hsize hby hzs hsz v n xs hown a j c news hl (hnews a rfl) h1 h63 hbytes hbase
    exact ⟨v', w', hr, ho, hg⟩
/-- 'append(append([]T{}, v1...), v2...)' -/
theorem two_rowsZ {P : Program} {w : World} {t ty e : TypeId} {i : TypeInfo} {z : Value} {bytes : Nat} (ht : P.underlying t = some (.slice e)) (hi : P.info? e = some i) (hz : i.zero = some z) (hsize : i.size = 3) (hby : i.bytes = bytes) (hzs : z.cells.size = 3)
    {a1 a2 : Option Addr} {n1 n2 c1 c2 : Nat} {B1 B2 : List Rq} (h1 : ReqsAt w (.slice a1 n1 c1) B1) (h2 : ReqsAt w (.slice a2 n2 c2) B2) (hl : B1.length + B2.length ≤ 10000) (hb : bytes ≤ 1000) :
    ∃ a3 c3 w2 a4 c4 w3, (Builtin.append_ #[t, t] ty #[.slice (some ⟨w.heap.size, 0, none⟩) 0 0, .slice a1 n1 c1]).run P (w.alloc (.cells #[] e)) = .ok (.slice a3 B1.length c3) w2 ∧
      (Builtin.append_ #[t, t] ty #[.slice a3 B1.length c3, .slice a2 n2 c2]).run P w2 = .ok (.slice a4 (B1.length + B2.length) c4) w3 ∧
      Below w.heap.size w w2 ∧ Below w.heap.size w w3 ∧ w3.ownsRow w.heap.size e 3 (.slice a4 (B1.length + B2.length) c4) (B1 ++ B2).length (cellsR (B1 ++ B2)) := by
  have W1 : Below w.heap.size w (w.alloc (.cells #[] e)) := (Below.refl _ _).alloc (Nat.le_refl _) _
  have e1 : n1 = B1.length := by obtain ⟨a, c, h, _⟩ := h1; injection h
  have e2 : n2 = B2.length := by obtain ⟨a, c, h, _⟩ := h2; injection h
  subst e1 e2
  have hm : B1.length * bytes ≤ 10000 * 1000 := Nat.mul_le_mul (by omega) hb
  have hm2 : (B1.length + B2.length) * bytes ≤ 10000 * 1000 := Nat.mul_le_mul hl hb
  have hrow0 : (w.alloc (.cells #[] e)).ownsRow w.heap.size e 3 (.slice (some ⟨w.heap.size, 0, none⟩) 0 0) 0 [] := ⟨rfl, Or.inr ⟨_, 0, #[], rfl, Nat.le_refl _, by show (Array.push _ _)[_]? = _; simp, Nat.le_refl _, Nat.zero_le _, rfl, rfl⟩⟩
  obtain ⟨v2, w2, hr2, ho2, hg2, _⟩ := run_append_arg0 (P := P) (w := w.alloc (.cells #[] e)) w.heap.size t ty e i z 3 bytes ht hi hz hsize hby hzs (by decide) w.heap.size hrow0 a1 B1.length c1 (cellsR B1) (cellsR_len B1) (reqs_none h1) (reqs_flat h1 W1) (cellsR_oneZ B1) (by unfold maxLen; omega) (by omega) (by simp)
  obtain ⟨a3, c3, rfl⟩ := own_slZ ho2
  have W2 : Below w.heap.size w w2 := W1.grown hg2 (by simp) (fun j e => by cases e; exact Nat.le_refl _)
  obtain ⟨v3, w3, hr3, ho3, hg3⟩ := run_append_argZ (P := P) (w := w2) w.heap.size t ty e i z 3 bytes ht hi hz hsize hby hzs (by decide) _ B1.length (cellsR B1) ho2 a2 B2.length c2 (cellsR B2) (cellsR_len B2) (reqs_none h2) (reqs_flat h2 W2) (cellsR_oneZ B2) (by unfold maxLen; omega) (by omega) W2.size
  obtain ⟨a4, c4, rfl⟩ := own_slZ ho3
  refine ⟨a3, c3, w2, a4, c4, w3, hr2, hr3, W2, W2.grown hg3 W2.size (fun j e => (ho2.lt j e).1), ?_⟩
  rw [List.length_append, cellsR_app]
  exact ho3
/-- a row of the call's own, kept by what it lies in -/
theorem reqs_dep {w : World} {base : Nat} {e : TypeId} {v : Value} {l : List Rq} {A : Nat → Prop} (h : w.ownsRow base e 3 v l.length (cellsR l)) (hA : ∀ b, v.ownBlock = some b → A b) : Dep A w (fun w' => ReqsAt w' v l) := fun _ hk =>
  reqs_of_own (row_keep h fun c hc => hk.block c (hA c hc) (h.lt c hc).2)
end ZZ
end
section
open Go Go.RowKit
namespace ZZ
open FF JJ WW BB
theorem row5Z (a b c d e : Value) : (#[a, b, c, d, e] : Array Value) = row 5 (rowL [a, b, c, d, e]) := rfl
theorem cells5Z {w : World} {b : Nat} {x y z u v : Value} (h : Blk w b 5 (rowL [x, y, z, u, v])) : w.cell? ⟨b, 0, none⟩ = some x ∧ w.cell? ⟨b, 1, none⟩ = some y ∧ w.cell? ⟨b, 2, none⟩ = some z ∧ w.cell? ⟨b, 3, none⟩ = some u ∧ w.cell? ⟨b, 4, none⟩ = some v :=
  ⟨h.get 0 (by omega), h.get 1 (by omega), h.get 2 (by omega), h.get 3 (by omega), h.get 4 (by omega)⟩
theorem set2_0 {w : World} {y : Nat} {a b u : Value} (h : Blk w y 2 (rowL [a, b])) : Blk (w.setCell ⟨y, 0, none⟩ u) y 2 (rowL [u, b]) := (h.set 0 u).congr _ fun i hi => match i, hi with | 0, _ => rfl | 1, _ => rfl
theorem set2_1 {w : World} {y : Nat} {a b u : Value} (h : Blk w y 2 (rowL [a, b])) : Blk (w.setCell ⟨y, 1, none⟩ u) y 2 (rowL [a, u]) := (h.set 1 u).congr _ fun i hi => match i, hi with | 0, _ => rfl | 1, _ => rfl
/-- what Do leaves -/
def DoAns (A : Nat → Prop) (w : World) (y : Nat) (r : Po × Int) (e : Ending) (w' : World) : Prop :=
  e = .returned (.int .i64 r.2) ∧ RfAt (fun b => A b ∨ w.heap.size ≤ b) w' y r.1 ∧ Keeps (fun b => b ≠ y) w w'
/-- nothing is changed -/
theorem do_same {A : Nat → Prop} {w w' : World} {y : Nat} {p : Po} {n : Int} {wv dv : Value} (hB : Blk w y 2 (rowL [wv, dv])) (hD : Dep A w (fun w' => ReqsAt w' wv p.1 ∧ ReqsAt w' dv p.2)) (hb : Below w.heap.size w w') : DoAns A w y (p, n) (.returned (.int .i64 n)) w' :=
  ⟨rfl, ⟨wv, dv, hB.below hb hB.lt, (hD.on (Keeps.of hb)).more fun _ h _ => .inl h⟩, Keeps.of hb⟩
end ZZ
namespace Go.Proofs.Ytgjdiliaiblfcaa
open ZZ RR FF JJ CC WW BB
section
variable (A : Nat → Prop) (w : World) (y : Nat) (p : Po) (k : Nat) (c q : Int) (s : ByteArray) (la : Option Addr) (lc : Nat) (L : List Rq)
set_option maxRecDepth 100000 in
set_option maxHeartbeats 16000000 in
theorem rdo_done (h : RfAt A w y p) (hy : ∀ b, A b → b ≠ y) (ho : Dep A w (fun w' => ReqsAt w' (.slice la L.length lc) L)) (hp : p.1.length ≤ 100 ∧ p.2.length ≤ 2000) (hl : L.length ≤ 100) (hk : k % 2 = 1) :
    Calls Try.prog 11 #[.pointer (some ⟨y, 0, none⟩), .agg #[.int .u8 (k : Int), .int .i64 c, .int .i64 q, .string s, .slice la L.length lc]] w (DoAns A w y (doneP p L, 0)) := by
  have HO := Lib.hid ho
  obtain ⟨wv, dv, hB, hD⟩ := h
  obtain ⟨wa, wc, rfl⟩ := reqs_sl hD.now.1
  obtain ⟨da, dc, rfl⟩ := reqs_sl hD.now.2
  have HD := Lib.hid hD
  have HB := Lib.hid hB
  have HP := Lib.hid hp
  have HLL := Lib.hid hl
  have X1 := Lib.hid ((Below.refl w.heap.size w).alloc (Nat.le_refl _) (.cells #[.int .u8 (k : Int), .int .i64 c, .int .i64 q, .string s, .slice la L.length lc] 35))
  have Q1 := Lib.hid (show Blk (w.alloc (.cells #[.int .u8 (k : Int), .int .i64 c, .int .i64 q, .string s, .slice la L.length lc] 35)) w.heap.size 5 (rowL [.int .u8 (k : Int), .int .i64 c, .int .i64 q, .string s, .slice la L.length lc]) from Blk.new' rfl (row5Z _ _ _ _ _))
  have HYN := Lib.hid (show y < w.heap.size from hB.lt)
  obtain ⟨n, hn⟩ : ∃ n, w.heap.size = n := ⟨_, rfl⟩
  have HN := Lib.hid hn
  obtain ⟨w1, hw1⟩ : ∃ w1, w.alloc (.cells #[.int .u8 (k : Int), .int .i64 c, .int .i64 q, .string s, .slice la L.length lc] 35) = w1 := ⟨_, rfl⟩
  have HW1 := Lib.hid hw1
  rw [hw1] at X1 Q1
  rw [hn] at Q1
  have B1 := Lib.hid (hB.below X1.out hB.lt)
  have HO1 := Lib.hid (ho.now.later X1.out)
  have HY := Lib.hid hy
  have HD1 := Lib.hid (hD.on (Keeps.of X1.out))
  have HSD := Lib.hid (fun (wx : World) (hk : wx.heap[y]? = w1.heap[y]? ∧ wx.heap[n]? = w1.heap[n]?) => And.intro (RR.cells2 (B1.out.of_heap hk.1)) (cells5Z (Q1.out.of_heap hk.2)))
  have HKS := Lib.hid (fun (wx : World) (hb : Below w1.heap.size w1 wx) => show wx.heap[y]? = w1.heap[y]? ∧ wx.heap[n]? = w1.heap[n]? from ⟨hb.block y B1.out.lt, hb.block n Q1.out.lt⟩)
  have e1 : ((k : Nat) : Int).tmod 2 = 1 := by rw [Int.tmod_eq_emod_of_nonneg (by omega)]; omega
  clear hD hB hp hl hk hn hw1 ho hy
  go_enter Try.func11, Try.ntmps11
  go_upto_region 1 with fail
  rw [HW1.out, HN.out]
  obtain ⟨d0, d1, d2, d3, d4⟩ := cells5Z Q1.out
  go_wp2_with fail
  clear d0 d1 d2 d3 d4 e1
  refine planE_abs (fun wx => wx.heap[y]? = w1.heap[y]? ∧ wx.heap[n]? = w1.heap[n]?) 12 [(true, 0), (true, 2), (true, 3), (true, 4), (true, 5), (true, 7), (true, 8), (false, 1), (false, 6), (false, 9), (false, 10), (false, 11), (false, 12)] (by kernel_rfl) (by kernel_rfl) (fun _ _ d _ _ h => by cases d <;> exact h) fun w5 hs5 => ⟨by rw [hs5.heap]; exact ⟨rfl, rfl⟩, ?_⟩
  have Y5 := Lib.hid (show Below w1.heap.size w1 w5 from hs5.below _)
  clear hs5
  iterate 7 (refine pe_run _ ?_ rfl rfl ?_ ?_; rotate_left; (focus (intro w' hS; obtain ⟨⟨c0, c1⟩, d0, d1, d2, d3, d4⟩ := HSD.out w' hS; go_simp; exact rfl)); simp only [Act.put, List.setIfInBounds_toArray, List.set_cons_zero, List.set_cons_succ, List.getElem_toArray, List.getElem_cons_zero, List.getElem_cons_succ])
  obtain ⟨ti, i1, i2, i3, i4⟩ := info_parts info_req
  obtain ⟨a3, c3, w6, a4, c4, w7, hr2, hr3, hb6, hb7, hrow⟩ := two_rowsZ (P := Try.prog) (w := w5) (t := 27) (ty := 27) (e := 33) (i := ti) (bytes := 32) und_reqs i1 i2 i3 i4 rfl (HD1.out.on (Keeps.of Y5.out)).now.2 (HO1.out.later Y5.out) (by have := HP.out; have := HLL.out; omega) (by decide)
  have HROW := Lib.hid hrow
  have Y6 := Lib.hid (Y5.out.trans (hb6.mono Y5.out.size))
  have Y7 := Lib.hid (Y5.out.trans (hb7.mono Y5.out.size))
  have HZ5 := Lib.hid (show w.heap.size ≤ w5.heap.size from Nat.le_trans X1.out.size Y5.out.size)
  have HZ57 := Lib.hid (show w5.heap.size ≤ w7.heap.size from hb7.size)
  refine pe_value (w' := w5.alloc (.cells #[] 33)) _ (.slice (some ⟨w5.heap.size, 0, none⟩) 0 0) rfl rfl (by go_simp) (HKS.out _ (Y5.out.trans (((Below.refl _ _).alloc (Nat.le_refl _) _).mono Y5.out.size))) ?_
  simp only [Act.put, List.setIfInBounds_toArray, List.set_cons_zero, List.set_cons_succ, List.getElem_toArray, List.getElem_cons_zero, List.getElem_cons_succ]
  refine pe_value (w' := w6) _ (.slice a3 p.2.length c3) rfl rfl (JJ.run_op_append _ _ _ rfl _ _ rfl rfl hr2) (HKS.out _ Y6.out) ?_
  simp only [Act.put, List.setIfInBounds_toArray, List.set_cons_zero, List.set_cons_succ, List.getElem_toArray, List.getElem_cons_zero, List.getElem_cons_succ]
  refine pe_value (w' := w7) _ (.slice a4 (p.2.length + L.length) c4) rfl rfl (JJ.run_op_append _ _ _ rfl _ _ rfl rfl hr3) (HKS.out _ Y7.out) ?_
  simp only [Act.put, List.setIfInBounds_toArray, List.set_cons_zero, List.set_cons_succ, List.getElem_toArray, List.getElem_cons_zero, List.getElem_cons_succ]
  clear hr2 hr3 hb6 hb7 hrow i1 i2 i3 i4
  refine pe_value (w' := w7) _ (.pointer (some ⟨y, 0, none⟩)) rfl rfl (by go_simp) (HKS.out _ Y7.out) ?_
  simp only [Act.put, List.setIfInBounds_toArray, List.set_cons_zero, List.set_cons_succ, List.getElem_toArray, List.getElem_cons_zero, List.getElem_cons_succ]
  refine pe_value (w' := w7) _ (.pointer (some ⟨y, 1, none⟩)) rfl rfl (by go_simp) (HKS.out _ Y7.out) ?_
  simp only [Act.put, List.setIfInBounds_toArray, List.set_cons_zero, List.set_cons_succ, List.getElem_toArray, List.getElem_cons_zero, List.getElem_cons_succ]
  refine pe_last _ rfl ?_
  simp only [List.getElem_toArray, List.getElem_cons_zero, List.getElem_cons_succ]
  have B7 := Lib.hid (B1.out.below Y7.out B1.out.lt)
  obtain ⟨g0, g1⟩ := RR.cells2 B7.out
  have f1 := B7.out.frz 1
  go_upto_region 3 with fail
  have UM := Lib.hid (show Upd y w7 (w7.setCell ⟨y, 1, none⟩ (.slice a4 (p.2.length + L.length) c4)) from (Upd.refl y w7).trans (Upd.set _ _ _ _))
  have B8 := Lib.hid (set2_1 (u := .slice a4 (p.2.length + L.length) c4) B7.out)
  have HNY := Lib.hid (show n ≠ y from by have := HYN.out; have := HN.out; omega)
  have Q8 := Lib.hid ((Q1.out.below Y7.out Q1.out.lt).of_heap (UM.out.block n HNY.out))
  obtain ⟨w8, hw8⟩ : ∃ w8, w7.setCell ⟨y, 1, none⟩ (.slice a4 (p.2.length + L.length) c4) = w8 := ⟨_, rfl⟩
  rw [hw8] at UM B8 Q8
  rw [hw8]
  clear hw8 g0 g1 f1
  have K8 := Lib.hid (show Keeps (fun b => b ≠ y) w w8 from (Keeps.of (X1.out.trans (Y7.out.mono X1.out.size))).trans (Keeps.upd UM.out fun b hb => hb))
  have R8 := Lib.hid (row_keep HROW.out fun c hc => UM.out.block c (fun e => by have := (HROW.out.lt c hc).1; have := HZ5.out; have := HYN.out; omega))
  have KA8 := Lib.hid (show Keeps A w w8 from K8.out.sub fun b hb _ => HY.out b hb)
  have HD8 := Lib.hid (HD.out.on KA8.out)
  have HO8 := Lib.hid (HO.out.on KA8.out)
  have HSE := Lib.hid (fun (wx : World) (hk : wx.heap[y]? = w8.heap[y]? ∧ wx.heap[n]? = w8.heap[n]?) => And.intro (RR.cells2 (B8.out.of_heap hk.1)) (cells5Z (Q8.out.of_heap hk.2)))
  refine planE_abs (fun wx => wx.heap[y]? = w8.heap[y]? ∧ wx.heap[n]? = w8.heap[n]?) 10 [(true, 0), (true, 1), (true, 2), (true, 3), (true, 4), (true, 5), (true, 6), (false, 7), (false, 8), (false, 9), (false, 10)] (by kernel_rfl) (by kernel_rfl) (fun _ _ d _ _ h => by cases d <;> exact h) fun w9 hs9 => ⟨by rw [hs9.heap]; exact ⟨rfl, rfl⟩, ?_⟩
  have Y9 := Lib.hid (show Below w8.heap.size w8 w9 from hs9.below _)
  clear hs9
  iterate 7 (refine pe_run _ ?_ rfl rfl ?_ ?_; rotate_left; (focus (intro w' hS; obtain ⟨⟨c0, c1⟩, d0, d1, d2, d3, d4⟩ := HSE.out w' hS; go_simp; exact rfl)); simp only [Act.put, List.setIfInBounds_toArray, List.set_cons_zero, List.set_cons_succ, List.getElem_toArray, List.getElem_cons_zero, List.getElem_cons_succ])
  refine pe_call (R := fun u w' => w'.ownsRow w9.heap.size 33 3 u (butR p.1 L).length (cellsR (butR p.1 L)) ∧ Below w9.heap.size w9 w') _ rfl rfl (by go_simp) ((rbut_any p.1 L _ _ w9 (HD8.out.now.1.later Y9.out) (HO8.out.now.later Y9.out) (by have := HP.out; omega) (by have := HLL.out; omega)).mono fun e w' ⟨u, h1, h2, h3⟩ => ⟨u, h1, h2, h3⟩) (fun u w' h => by
    have hb := Y9.out.trans (h.2.mono Y9.out.size)
    exact ⟨hb.block y B8.out.lt, hb.block n Q8.out.lt⟩) fun u w10 hr => ?_
  obtain ⟨hrow, hb10⟩ := hr
  obtain ⟨xa, xc, rfl⟩ := own_slZ hrow
  have RX := Lib.hid hrow
  have Y10 := Lib.hid (Y9.out.trans (hb10.mono Y9.out.size))
  have S10 := Lib.hid (show w10.heap[y]? = w8.heap[y]? ∧ w10.heap[n]? = w8.heap[n]? from ⟨Y10.out.block y B8.out.lt, Y10.out.block n Q8.out.lt⟩)
  clear hrow hb10
  simp only [Act.put, List.setIfInBounds_toArray, List.set_cons_zero, List.set_cons_succ, List.getElem_toArray, List.getElem_cons_zero, List.getElem_cons_succ]
  refine pe_value (w' := w10) _ (.pointer (some ⟨y, 0, none⟩)) rfl rfl (by go_simp) S10.out ?_
  simp only [Act.put, List.setIfInBounds_toArray, List.set_cons_zero, List.set_cons_succ, List.getElem_toArray, List.getElem_cons_zero, List.getElem_cons_succ]
  refine pe_value (w' := w10) _ (.pointer (some ⟨y, 0, none⟩)) rfl rfl (by go_simp) S10.out ?_
  simp only [Act.put, List.setIfInBounds_toArray, List.set_cons_zero, List.set_cons_succ, List.getElem_toArray, List.getElem_cons_zero, List.getElem_cons_succ]
  refine pe_last _ rfl ?_
  simp only [List.getElem_toArray, List.getElem_cons_zero, List.getElem_cons_succ]
  have B10 := Lib.hid (B8.out.below Y10.out B8.out.lt)
  obtain ⟨g0, g1⟩ := RR.cells2 B10.out
  have f0 := B10.out.frz 0
  go_wp2_with fail
  go_ret
  have hu : Upd y w10 (w10.setCell ⟨y, 0, none⟩ (.slice xa (butR p.1 L).length xc)) := (Upd.refl y w10).trans (Upd.set _ _ _ _)
  have hz8 : w5.heap.size ≤ w8.heap.size := Nat.le_trans HZ57.out (UM.out.below (Nat.le_refl y)).size
  have hz9 : w8.heap.size ≤ w9.heap.size := Y9.out.size
  have r1 := row_keep RX.out fun c hc => hu.block c (fun e => by have := (RX.out.lt c hc).1; have := HZ5.out; have := HYN.out; omega)
  have r2 := row_keep (row_keep R8.out fun c hc => Y10.out.block c (R8.out.lt c hc).2) fun c hc => hu.block c (fun e => by have := (R8.out.lt c hc).1; have := HZ5.out; have := HYN.out; omega)
  refine ⟨rfl, ⟨_, _, set2_0 B10.out, fun w' hk => ⟨?_, ?_⟩⟩, (K8.out.trans (Keeps.of Y10.out)).trans (Keeps.upd hu fun b hb => hb)⟩
  · exact reqs_dep r1 (fun b hb => Or.inr (by have := (r1.lt b hb).1; have := HZ5.out; omega)) w' hk
  · have e : p.2.length + L.length = (p.2 ++ L).length := by rw [List.length_append]
    exact reqs_dep r2 (fun b hb => Or.inr (by have := (r2.lt b hb).1; have := HZ5.out; omega)) w' hk
set_option maxRecDepth 100000 in
set_option maxHeartbeats 16000000 in
theorem rdo_add (h : RfAt A w y p) (hy : ∀ b, A b → b ≠ y) (ho : Dep A w (fun w' => ReqsAt w' (.slice la L.length lc) L)) (hp : p.1.length ≤ 100 ∧ p.2.length ≤ 2000) (hl : L.length ≤ 100) (hk : ¬ k % 2 = 1) :
    Calls Try.prog 11 #[.pointer (some ⟨y, 0, none⟩), .agg #[.int .u8 (k : Int), .int .i64 c, .int .i64 q, .string s, .slice la L.length lc]] w (DoAns A w y (addP p (c, q, s))) := by
  have HO := Lib.hid ho
  obtain ⟨wv, dv, hB, hD⟩ := h
  obtain ⟨wa, wc, rfl⟩ := reqs_sl hD.now.1
  obtain ⟨da, dc, rfl⟩ := reqs_sl hD.now.2
  have HD := Lib.hid hD
  have HB := Lib.hid hB
  have HP := Lib.hid hp
  have HLL := Lib.hid hl
  have X1 := Lib.hid ((Below.refl w.heap.size w).alloc (Nat.le_refl _) (.cells #[.int .u8 (k : Int), .int .i64 c, .int .i64 q, .string s, .slice la L.length lc] 35))
  have Q1 := Lib.hid (show Blk (w.alloc (.cells #[.int .u8 (k : Int), .int .i64 c, .int .i64 q, .string s, .slice la L.length lc] 35)) w.heap.size 5 (rowL [.int .u8 (k : Int), .int .i64 c, .int .i64 q, .string s, .slice la L.length lc]) from Blk.new' rfl (row5Z _ _ _ _ _))
  have HYN := Lib.hid (show y < w.heap.size from hB.lt)
  obtain ⟨n, hn⟩ : ∃ n, w.heap.size = n := ⟨_, rfl⟩
  have HN := Lib.hid hn
  obtain ⟨w1, hw1⟩ : ∃ w1, w.alloc (.cells #[.int .u8 (k : Int), .int .i64 c, .int .i64 q, .string s, .slice la L.length lc] 35) = w1 := ⟨_, rfl⟩
  have HW1 := Lib.hid hw1
  rw [hw1] at X1 Q1
  rw [hn] at Q1
  have B1 := Lib.hid (hB.below X1.out hB.lt)
  have HO1 := Lib.hid (ho.now.later X1.out)
  have HY := Lib.hid hy
  have HD1 := Lib.hid (hD.on (Keeps.of X1.out))
  have HSD := Lib.hid (fun (wx : World) (hk : wx.heap[y]? = w1.heap[y]? ∧ wx.heap[n]? = w1.heap[n]?) => And.intro (RR.cells2 (B1.out.of_heap hk.1)) (cells5Z (Q1.out.of_heap hk.2)))
  have HKS := Lib.hid (fun (wx : World) (hb : Below w1.heap.size w1 wx) => show wx.heap[y]? = w1.heap[y]? ∧ wx.heap[n]? = w1.heap[n]? from ⟨hb.block y B1.out.lt, hb.block n Q1.out.lt⟩)
  have e1 : ((k : Nat) : Int).tmod 2 = 0 := by rw [Int.tmod_eq_emod_of_nonneg (by omega)]; omega
  clear hD hB hp hl hk hn hw1 ho hy
  go_enter Try.func11, Try.ntmps11
  go_upto_region 1 with fail
  rw [HW1.out, HN.out]
  obtain ⟨d0, d1, d2, d3, d4⟩ := cells5Z Q1.out
  go_wp2_with fail
  refine (rightreq_any c q s w1).mono ?_
  rintro e w2 ⟨rfl, hb2⟩
  have Y2 := Lib.hid hb2
  have XW2 := Lib.hid (X1.out.trans (hb2.mono X1.out.size))
  clear hb2 d0 d1 d2 d3 d4 e1
  by_cases hg : rightR c q s
  · rw [decide_eq_true hg]
    have HG := Lib.hid hg
    clear hg
    go_wp2_with fail
    refine plan_abs (fun wx => Below w1.heap.size w1 wx) [(true, 0), (true, 1), (true, 2), (true, 3), (true, 4), (true, 5), (false, 6)] (by kernel_rfl) (by kernel_rfl) (fun _ _ d _ _ h => by cases d <;> exact h) fun w3 hs3 => ⟨Y2.out.trans ((hs3.below _).mono Y2.out.size), ?_⟩
    have Y3 := Lib.hid (Y2.out.trans ((hs3.below _).mono Y2.out.size))
    clear hs3
    iterate 6 (refine pl_run _ ?_ rfl rfl ?_ ?_; rotate_left; (focus (intro w' hS; obtain ⟨⟨c0, c1⟩, d0, d1, d2, d3, d4⟩ := HSD.out w' (HKS.out w' hS); go_simp; exact rfl)); simp only [Act.put, List.setIfInBounds_toArray, List.set_cons_zero, List.set_cons_succ, List.getElem_toArray, List.getElem_cons_zero, List.getElem_cons_succ])
    obtain ⟨X, hX⟩ : ∃ X, hasR p.2 (keyR (c, q, s)) = X := ⟨_, rfl⟩
    have HX := Lib.hid hX
    refine pl_call1 (v := .bool X) (R := fun w' => Below w3.heap.size w3 w') _ rfl rfl (by go_simp; rfl) (rhas_any p.2 _ (c, q, s) X hX w3 (HD1.out.on (Keeps.of Y3.out)).now.2 (by have := HP.out; omega)) (fun w' h => Y3.out.trans (h.mono Y3.out.size)) fun w4 hb4 => ?_
    have Y4 := Lib.hid (Y3.out.trans (hb4.mono Y3.out.size))
    clear hb4 hX
    simp only [Act.put, List.setIfInBounds_toArray, List.set_cons_zero, List.set_cons_succ, List.getElem_toArray, List.getElem_cons_zero, List.getElem_cons_succ]
    refine pl_end ?_
    cases X with
    | true =>
      have HE := Lib.hid (show addP p (c, q, s) = (p, 9) by unfold addP; rw [if_neg (fun h => h HG.out), if_pos HX.out])
      go_wp2_with fail
      go_ret
      rw [HE.out]
      exact do_same HB.out HD.out (X1.out.trans (Y4.out.mono X1.out.size))
    | false =>
    go_wp2_with fail
    refine plan_abs (fun wx => Below w1.heap.size w1 wx) [(true, 0), (true, 1), (true, 2), (true, 3), (true, 4), (true, 5), (false, 6)] (by kernel_rfl) (by kernel_rfl) (fun _ _ d _ _ h => by cases d <;> exact h) fun w5 hs5 => ⟨Y4.out.trans ((hs5.below _).mono Y4.out.size), ?_⟩
    have Y5 := Lib.hid (Y4.out.trans ((hs5.below _).mono Y4.out.size))
    clear hs5
    iterate 6 (refine pl_run _ ?_ rfl rfl ?_ ?_; rotate_left; (focus (intro w' hS; obtain ⟨⟨c0, c1⟩, d0, d1, d2, d3, d4⟩ := HSD.out w' (HKS.out w' hS); go_simp; exact rfl)); simp only [Act.put, List.setIfInBounds_toArray, List.set_cons_zero, List.set_cons_succ, List.getElem_toArray, List.getElem_cons_zero, List.getElem_cons_succ])
    obtain ⟨X, hX⟩ : ∃ X, hasR p.1 (keyR (c, q, s)) = X := ⟨_, rfl⟩
    have HX2 := Lib.hid hX
    refine pl_call1 (v := .bool X) (R := fun w' => Below w5.heap.size w5 w') _ rfl rfl (by go_simp; rfl) (rhas_any p.1 _ (c, q, s) X hX w5 (HD1.out.on (Keeps.of Y5.out)).now.1 (by have := HP.out; omega)) (fun w' h => Y5.out.trans (h.mono Y5.out.size)) fun w6 hb6 => ?_
    have Y6 := Lib.hid (Y5.out.trans (hb6.mono Y5.out.size))
    clear hb6 hX
    simp only [Act.put, List.setIfInBounds_toArray, List.set_cons_zero, List.set_cons_succ, List.getElem_toArray, List.getElem_cons_zero, List.getElem_cons_succ]
    refine pl_end ?_
    cases X with
    | true =>
      have HE := Lib.hid (show addP p (c, q, s) = (p, 6) by unfold addP; rw [if_neg (fun h => h HG.out), if_neg (by rw [HX.out]; decide), if_pos HX2.out])
      go_wp2_with fail
      go_ret
      rw [HE.out]
      exact do_same HB.out HD.out (X1.out.trans (Y6.out.mono X1.out.size))
    | false =>
    obtain ⟨⟨c0, c1⟩, d0, d1, d2, d3, d4⟩ := HSD.out w6 (HKS.out w6 Y6.out)
    by_cases h12 : p.1.length = 12
    · have t1 : ((p.1.length : Int) == 12) = true := by rw [beq_iff_eq]; omega
      have HE := Lib.hid (show addP p (c, q, s) = (p, 7) by unfold addP; rw [if_neg (fun h => h HG.out), if_neg (by rw [HX.out]; decide), if_neg (by rw [HX2.out]; decide), if_pos h12])
      clear h12
      go_wp2_with fail
      go_ret
      rw [HE.out]
      exact do_same HB.out HD.out (X1.out.trans (Y6.out.mono X1.out.size))
    · have t1 : ((p.1.length : Int) == 12) = false := by rw [beq_eq_false_iff_ne]; omega
      have HE := Lib.hid (show addP p (c, q, s) = ((p.1 ++ [(c, q, s)], p.2), 0) by unfold addP; rw [if_neg (fun h => h HG.out), if_neg (by rw [HX.out]; decide), if_neg (by rw [HX2.out]; decide), if_neg h12])
      clear h12
      go_wp2_with fail
      clear c0 c1 d0 d1 d2 d3 d4
      refine twoE_abs 13 [0, 2, 3, 4, 5, 7, 8] 1 6 9 56 61 64 [(false, 10), (false, 11), (false, 12), (false, 13)] _ _ _ 33 3 p.1.length (cellsR p.1) [.int .i64 c, .int .i64 q, .string s] (by kernel_rfl) (by kernel_rfl) (fun _ _ d _ _ h => by cases d <;> exact h) rfl rfl rfl ⟨rfl, rfl, rfl⟩ ⟨rfl, rfl, rfl⟩ ⟨by decide, by decide, by decide⟩ fun w7 hs7 => ?_
      have Y7 := Lib.hid (Y6.out.trans ((hs7.below _).mono Y6.out.size))
      clear hs7
      obtain ⟨ti, i1, i2, i3, i4⟩ := info_parts info_req
      iterate 7 (refine pre_run _ ?_ rfl rfl ?_ ?_; rotate_left; (focus (intro w' hS; obtain ⟨⟨c0, c1⟩, d0, d1, d2, d3, d4⟩ := HSD.out w' (HKS.out w' (Y7.out.trans (hS.mono Y7.out.size))); go_simp; exact rfl)); simp only [Act.put, List.setIfInBounds_toArray, List.set_cons_zero, List.set_cons_succ, List.getElem_toArray, List.getElem_cons_zero, List.getElem_cons_succ])
      refine pre_end ⟨?_, ?_, ?_, ?_⟩
      · rintro a' (rfl | ⟨x, rfl⟩) w' <;> go_simp
      · rintro a' (rfl | ⟨x, rfl⟩ | ⟨x, z, rfl⟩) w' hb <;> go_simp
      · rintro b' a' ha w' hb hown
        have HV := (HD1.out.on (Keeps.of (Y7.out.trans (hb.mono Y7.out.size)))).now.1
        obtain ⟨v', w'', hr, ho, hg, hob⟩ := run_append_arg0 (P := Try.prog) w7.heap.size 27 27 33 ti _ 3 32 und_reqs i1 i2 i3 i4 rfl (by decide) b' hown wa p.1.length wc (cellsR p.1) (cellsR_len p.1) (reqs_none HV) (reqs_flat HV (Below.refl _ _)) (cellsR_oneZ p.1) (by have := HP.out; unfold maxLen; omega) (by have := HP.out; omega) hb.size
        refine ⟨v', w'', ?_, ho, hg, hob⟩
        rcases ha with rfl | ⟨x, rfl⟩ | ⟨x, rfl⟩
        all_goals exact JJ.run_op_append _ _ _ rfl _ _ rfl rfl hr
      · intro b' v' b7 w' hT
        have HTW := Lib.hid hT
        clear hT
        simp only [Act.put, List.setIfInBounds_toArray, List.set_cons_zero, List.set_cons_succ]
        obtain ⟨u8, w8, hr8, ho8, hg8, _⟩ := run_append_own (P := Try.prog) w' w7.heap.size 27 27 33 ti (.agg #[.int .i64 0, .int .i64 0, .string ⟨#[]⟩]) 3 32 und_reqs i1 i2 i3 i4 rfl (by decide) v' p.1.length (cellsR p.1) HTW.out.row ⟨b7, 0, none⟩ 1 1 [.int .i64 c, .int .i64 q, .string s] rfl (fun j u hj => by rw [Addr.add_lit, Nat.zero_add]; exact HTW.out.cell j u hj) (cells3_one c q s) (by have := HP.out; unfold maxLen; omega) (by have := HP.out; omega) HTW.out.below.size
        obtain ⟨ua, uc, rfl⟩ := own_slZ ho8
        have O8 := Lib.hid (show w8.ownsRow w7.heap.size 33 3 (.slice ua (p.1.length + 1) uc) (p.1 ++ [(c, q, s)]).length (cellsR (p.1 ++ [(c, q, s)])) by
          rw [cellsR_snoc, List.length_append]; exact ho8)
        have B8 := Lib.hid (HTW.out.below.grown hg8 HTW.out.below.size (fun k hk => (HTW.out.row.lt k hk).1))
        have Y8 := Lib.hid (Y7.out.trans (B8.out.mono Y7.out.size))
        refine pe_value (w' := w8) _ _ rfl rfl (JJ.run_op_append _ _ _ rfl _ _ rfl rfl hr8) B8.out ?_
        clear hr8 ho8 hg8
        simp only [Act.put, List.setIfInBounds_toArray, List.set_cons_zero, List.set_cons_succ, List.getElem_toArray, List.getElem_cons_zero, List.getElem_cons_succ]
        refine pe_value (w' := w8) _ (.pointer (some ⟨y, 0, none⟩)) rfl rfl (by go_simp) B8.out ?_
        simp only [Act.put, List.setIfInBounds_toArray, List.set_cons_zero, List.set_cons_succ, List.getElem_toArray, List.getElem_cons_zero, List.getElem_cons_succ]
        refine pe_value (w' := w8) _ (.pointer (some ⟨y, 0, none⟩)) rfl rfl (by go_simp) B8.out ?_
        simp only [Act.put, List.setIfInBounds_toArray, List.set_cons_zero, List.set_cons_succ, List.getElem_toArray, List.getElem_cons_zero, List.getElem_cons_succ]
        refine pe_last _ rfl ?_
        simp only [List.getElem_toArray, List.getElem_cons_zero, List.getElem_cons_succ]
        have BB8 := Lib.hid (B1.out.below Y8.out B1.out.lt)
        obtain ⟨g0, g1⟩ := RR.cells2 BB8.out
        have f0 := BB8.out.frz 0
        go_wp2_with fail
        go_ret
        have hu : Upd y w8 (w8.setCell ⟨y, 0, none⟩ (.slice ua (p.1.length + 1) uc)) := (Upd.refl y w8).trans (Upd.set _ _ _ _)
        have hz : w.heap.size ≤ w7.heap.size := Nat.le_trans X1.out.size Y7.out.size
        have XW8 : Below w.heap.size w w8 := X1.out.trans (Y8.out.mono X1.out.size)
        have r1 := row_keep O8.out fun c hc => hu.block c (fun e => by have := (O8.out.lt c hc).1; have := HYN.out; omega)
        rw [HE.out]
        refine ⟨rfl, ⟨_, _, set2_0 BB8.out, fun w' hk => ⟨?_, ?_⟩⟩, (Keeps.of XW8).trans (Keeps.upd hu fun b hb => hb)⟩
        · have e : (p.1 ++ [(c, q, s)]).length = p.1.length + 1 := by rw [List.length_append]; rfl
          exact reqs_dep r1 (fun b hb => Or.inr (by have := (r1.lt b hb).1; omega)) w' hk
        · have hk2 : Keeps A w (w8.setCell ⟨y, 0, none⟩ (.slice ua (p.1.length + 1) uc)) := (Keeps.of XW8).trans (Keeps.upd hu fun b hb => HY.out b hb)
          exact (HD.out (w') (hk2.trans (hk.sub fun b hb _ => Or.inl hb))).2
  · rw [decide_eq_false hg]
    have HE := Lib.hid (show addP p (c, q, s) = (p, 1) by unfold addP; rw [if_pos hg])
    clear hg
    go_wp2_with fail
    go_ret
    rw [HE.out]
    exact do_same HB.out HD.out XW2.out
end
end Go.Proofs.Ytgjdiliaiblfcaa
end
section
open Go Go.RowKit
namespace ZZ
open FF JJ WW BB
def opZV (o : OpP) : Value := .agg #[.int .u8 (o.k : Int), .int .i64 o.r.1, .int .i64 o.r.2.1, .string o.r.2.2, o.lv]
theorem aw1 : addP ([], []) (0, 0, ⟨#[]⟩) = (([], []), 1) := by unfold addP; rw [if_pos (fun h : goodR (0, 0, ⟨#[]⟩) => by have h1 : (1 : Int) ≤ 0 := h.2.2.1; omega)]
theorem aw2 : addP ([], []) (0, 1, ⟨#[]⟩) = (([(0, 1, ⟨#[]⟩)], []), 0) := by
  unfold addP
  rw [if_neg (fun h => h ⟨by show (0 : Int) ≤ 0; omega, by show (0 : Int) < 4; omega, by show (1 : Int) ≤ 1; omega, by show (1 : Int) ≤ 2147483647; omega, by show (0 : Nat) ≤ 40; omega⟩), if_neg (by rw [show hasR (([], []) : Po).2 _ = false from has_nil _]; decide), if_neg (by rw [show hasR (([], []) : Po).1 _ = false from has_nil _]; decide), if_neg (by show ¬ (0 : Nat) = 12; omega)]
  rfl
theorem keeps_lowZ {A : Nat → Prop} {w w' : World} {n : Nat} (h : Keeps A w w') (hA : ∀ b, b < n → A b) (hn : n ≤ w.heap.size) : Below n w w' :=
  ⟨h.b0.os, h.b0.tape, h.b0.output, h.b0.size, fun k hk => h.block k (hA k hk) (Nat.lt_of_lt_of_le hk hn)⟩
/-- what few tells -/
def FewAnsZ (l : List OpP) (n : Int) (w : World) (e : Ending) (w' : World) : Prop :=
  ∃ X : Bool, e = .returned (.bool X) ∧ (X = true → (l.length : Int) ≤ n ∧ ∀ i, i < l.length → i < 200 → FewZ (l.getD i opP0)) ∧ Below w.heap.size w w'
end ZZ
namespace Go.Proofs.Ytgjdiliaiblfcaa
open ZZ RR FF JJ CC WW BB
set_option maxRecDepth 100000 in
set_option maxHeartbeats 4000000 in
/-- the reference's call -/
theorem rdo_any (A : Nat → Prop) (w : World) (y : Nat) (p : Po) (o : OpP) (h : RfAt A w y p) (hy : ∀ b, A b → b ≠ y) (ho : Dep A w (fun w' => ReqsAt w' o.lv o.l)) (hp : p.1.length ≤ 100 ∧ p.2.length ≤ 2000) (hl : o.l.length ≤ 100) :
    Calls Try.prog 11 #[.pointer (some ⟨y, 0, none⟩), opZV o] w (DoAns A w y (callP p o)) := by
  obtain ⟨k, ⟨c, q, s⟩, lv, L⟩ := o
  replace ho : Dep A w (fun w' => ReqsAt w' lv L) := ho
  replace hl : L.length ≤ 100 := hl
  obtain ⟨la, lc, rfl⟩ := reqs_sl ho.now
  unfold callP opZV
  simp only
  by_cases hk : k % 2 = 1
  · rw [if_pos hk]
    exact rdo_done A w y p k c q s la lc L h hy ho hp hl hk
  · rw [if_neg hk]
    exact rdo_add A w y p k c q s la lc L h hy ho hp hl hk
set_option maxRecDepth 100000 in
set_option maxHeartbeats 4000000 in
theorem awake12_any (C : Code12) (w : World) : Calls Try.prog 7 #[] w fun e w' => e = .returned (.bool true) ∧ Below w.heap.size w w' := by
  go_enter Try.func7, Try.ntmps7
  go_wp2_with fail
  refine (C.new w).mono ?_
  rintro e w1 ⟨g, O, rfl, h1, ho1, hb1⟩
  have H1 := Lib.hid h1
  have HO1 := Lib.hid ho1
  have B1 := Lib.hid hb1
  clear h1 ho1 hb1
  have HA1 := Lib.hid (C.add O w1 g ([], []) (0, 0, ⟨#[]⟩) H1.out inv_none (Nat.zero_le _) (by show (0 : Nat) ≤ _; omega))
  rw [aw1] at HA1
  unfold rqV at HA1
  go_wp2_with fail
  refine HA1.out.mono ?_
  rintro e w2 ⟨rfl, O2, h2, hk2, ho2⟩
  have H2 := Lib.hid (show C.At O2 w2 g ([], []) from h2)
  have HO2 := Lib.hid (show ∀ b, O2 b → w.heap.size ≤ b from fun b hb => (ho2 b hb).elim (HO1.out b) fun h => Nat.le_trans B1.out.size h)
  have B2 := Lib.hid (show Below w.heap.size w w2 from B1.out.trans (keeps_lowZ hk2 (fun b hb ho => by have := HO1.out b ho; omega) B1.out.size))
  clear h2 hk2 ho2 HA1
  have HA2 := Lib.hid (C.add O2 w2 g ([], []) (0, 1, ⟨#[]⟩) H2.out inv_none (Nat.zero_le _) (by show (0 : Nat) ≤ _; omega))
  rw [aw2] at HA2
  unfold rqV at HA2
  go_wp2_with fail
  refine HA2.out.mono ?_
  rintro e w3 ⟨rfl, O3, h3, hk3, _⟩
  have H3 := Lib.hid (show C.At O3 w3 g ([(0, 1, ⟨#[]⟩)], []) from h3)
  have B3 := Lib.hid (show Below w.heap.size w w3 from B2.out.trans (keeps_lowZ hk3 (fun b hb ho => by have := HO2.out b ho; omega) B2.out.size))
  clear h3 hk3 HA2
  have HI := Lib.hid (show InvP ([(0, 1, ⟨#[]⟩)], []) by have := inv_add inv_none (0, 1, ⟨#[]⟩); rw [aw2] at this; exact this)
  go_wp2_with fail
  refine (C.len O3 w3 g _ H3.out HI.out).mono ?_
  rintro e w4 ⟨rfl, hb4⟩
  have B4 := Lib.hid (B3.out.trans (hb4.mono B3.out.size))
  clear hb4
  have HLN := Lib.hid (show ((([(0, 1, ⟨#[]⟩)], []) : Po).1.length : Int) = 1 from rfl)
  rw [HLN.out]
  go_wp2_with fail
  go_ret
  exact ⟨rfl, B4.out⟩
set_option maxRecDepth 100000 in
set_option maxHeartbeats 4000000 in
/-- a call on the code's pool -/
theorem call_any (C : Code12) (O A : Nat → Prop) (w : World) (g : Nat) (p : Po) (o : OpP) (h : C.At O w g p) (hI : InvP p) (hp : p.2.length ≤ 1000) (ho : Dep A w (fun w' => ReqsAt w' o.lv o.l)) (hA : ∀ b, A b → ¬ O b) (hl : o.l.length ≤ 20) (hz : o.r.2.2.size ≤ 9223372036854775807) :
    Calls Try.prog 10 #[.pointer (some ⟨g, 0, none⟩), opZV o] w fun e w' => e = .returned (.int .i64 (callP p o).2) ∧ Next12 C.At O w g (callP p o).1 w' := by
  obtain ⟨k, ⟨c, q, s⟩, lv, L⟩ := o
  replace ho : Dep A w (fun w' => ReqsAt w' lv L) := ho
  replace hl : L.length ≤ 20 := hl
  replace hz : s.size ≤ 9223372036854775807 := hz
  obtain ⟨la, lc, rfl⟩ := reqs_sl ho.now
  unfold callP opZV
  simp only
  have X1 := Lib.hid ((Below.refl w.heap.size w).alloc (Nat.le_refl _) (.cells #[.int .u8 (k : Int), .int .i64 c, .int .i64 q, .string s, .slice la L.length lc] 35))
  have Q1 := Lib.hid (show Blk (w.alloc (.cells #[.int .u8 (k : Int), .int .i64 c, .int .i64 q, .string s, .slice la L.length lc] 35)) w.heap.size 5 (rowL [.int .u8 (k : Int), .int .i64 c, .int .i64 q, .string s, .slice la L.length lc]) from Blk.new' rfl (row5Z _ _ _ _ _))
  obtain ⟨w1, hw1⟩ : ∃ w1, w.alloc (.cells #[.int .u8 (k : Int), .int .i64 c, .int .i64 q, .string s, .slice la L.length lc] 35) = w1 := ⟨_, rfl⟩
  have HW1 := Lib.hid hw1
  rw [hw1] at X1 Q1
  have H1 := Lib.hid (C.keep h (Keeps.of X1.out))
  have HD1 := Lib.hid (ho.on (Keeps.of X1.out))
  have HI := Lib.hid hI
  have HP := Lib.hid hp
  have HAA := Lib.hid hA
  have HL := Lib.hid hl
  have HZ := Lib.hid hz
  have HNX := Lib.hid (show ∀ q w', Next12 C.At O w1 g q w' → Next12 C.At O w g q w' from fun q w' ⟨O', h1, h2, h3⟩ => ⟨O', h1, (Keeps.of X1.out).trans h2, fun b hb => (h3 b hb).imp id fun h => Nat.le_trans X1.out.size h⟩)
  clear hw1 h ho hI hp hA hl hz
  obtain ⟨d0, d1, d2, d3, d4⟩ := cells5Z Q1.out
  by_cases hk : k % 2 = 1
  · rw [if_pos hk]
    have e1 : ((k : Nat) : Int).tmod 2 = 1 := by rw [Int.tmod_eq_emod_of_nonneg (by omega)]; omega
    clear hk
    go_enter Try.func10, Try.ntmps10
    go_upto_region 1 with fail
    rw [HW1.out]
    go_wp2_with fail
    refine (C.done O A w1 g p _ L H1.out HI.out HP.out HL.out HD1.out HAA.out).mono ?_
    rintro e w2 ⟨rfl, hn⟩
    have HN := Lib.hid hn
    clear hn d0 d1 d2 d3 d4 e1
    go_wp2_with fail
    go_ret
    exact ⟨rfl, HNX.out _ _ HN.out⟩
  · rw [if_neg hk]
    have e1 : ((k : Nat) : Int).tmod 2 = 0 := by rw [Int.tmod_eq_emod_of_nonneg (by omega)]; omega
    have HC := Lib.hid (C.add O w1 g p (c, q, s) H1.out HI.out HP.out HZ.out)
    unfold rqV at HC
    clear hk
    go_enter Try.func10, Try.ntmps10
    go_upto_region 1 with fail
    rw [HW1.out]
    go_wp2_with fail
    refine HC.out.mono ?_
    rintro e w2 ⟨rfl, hn⟩
    have HN := Lib.hid hn
    clear hn d0 d1 d2 d3 d4 e1 HC
    go_wp2_with fail
    go_ret
    exact ⟨rfl, HNX.out _ _ HN.out⟩
set_option maxRecDepth 100000 in
set_option maxHeartbeats 8000000 in
theorem few12_any (l : List OpP) (v : Value) (n : Int) (w : World) (hv : OpsZ w v l) (hm : MemZ l) :
    Calls Try.prog 8 #[v, .int .i64 n] w (FewAnsZ l n w) := by
  have HV := Lib.hid hv
  have HM := Lib.hid hm
  obtain ⟨a0, cap, rfl, _⟩ := hv
  have HLM := Lib.hid hm.1
  clear hm
  go_enter Try.func8, Try.ntmps8
  go_wp2_with fail
  go_loopw [5] (fun y wr => ∃ i : Nat, i ≤ l.length ∧ i ≤ 200 ∧ y = .int .i64 (i : Int) ∧ (∀ j, j < i → FewZ (l.getD j opP0)) ∧ Below w.heap.size w wr) (fun y _ => 200 - (intOf y).toNat)
  case atStart => exact ⟨0, Nat.zero_le _, by omega, rfl, fun j hj => absurd hj (Nat.not_lt_zero _), Below.refl _ _⟩
  case round =>
    obtain ⟨i, hi, h200, rfl, hall, hb⟩ := hrel
    have HALL := Lib.hid hall
    have HB := Lib.hid hb
    have HI := Lib.hid (And.intro hi h200)
    have i0 : (0 : Int) ≤ (i : Int) := by omega
    have ib : (i : Int) ≤ 200 := by omega
    clear hall hb hi h200
    by_cases hlt : i < l.length
    · by_cases h9 : i < 200
      · have hlt' : (i : Int) < (l.length : Int) := by omega
        have h9' : (i : Int) < 200 := by omega
        have HLT := Lib.hid (And.intro hlt h9)
        obtain ⟨lb, loff, rfl, _, _, hat⟩ := opsZ_at HV.out i hlt
        obtain ⟨P, hP⟩ : ∃ P, l.getD i opP0 = P := ⟨_, rfl⟩
        have HPP := Lib.hid hP
        have hat2 := hat wr HB.out
        rw [hP] at hat2
        have HMP := Lib.hid (show P.l.length ≤ 9223372036854775807 ∧ P.r.2.2.size ≤ 9223372036854775807 ∧ P.k < 256 from HM.out.2 P (by rw [← hP, List.getD_eq_getElem?_getD, List.getElem?_eq_getElem hlt]; exact List.getElem_mem hlt))
        obtain ⟨c0, c1, c2, c3, c4, hrq⟩ := hat2
        obtain ⟨pa, pc, hps⟩ := reqs_sl hrq
        rw [hps] at c4
        clear hlt h9 hat hP hrq hps
        by_cases h10 : (10 : Int) < (P.l.length : Int)
        · go_wp2_with fail
          go_ret
          exact ⟨false, rfl, (fun h => (by cases h)), HB.out⟩
        · by_cases h60 : (60 : Int) < (P.r.2.2.size : Int)
          · go_wp2_with fail
            go_ret
            exact ⟨false, rfl, (fun h => (by cases h)), HB.out⟩
          · have HF := Lib.hid (show FewZ P from ⟨by omega, by omega⟩)
            have d1 : decide ((10 : Int) < (P.l.length : Int)) = false := decide_eq_false h10
            have d2 : decide ((60 : Int) < (P.r.2.2.size : Int)) = false := decide_eq_false h60
            clear h10 h60
            go_wp2_with fail
            go_roundw
            case rel => exact ⟨i + 1, by have := HLT.out; omega, by have := HLT.out; omega, by go_num, fun j hj => if h : j = i then by subst h; rw [HPP.out]; exact HF.out else HALL.out j (by omega), HB.out⟩
            case measure => have := HLT.out; simp [intOf]; omega
      · have hi2 : i = 200 := by have := HI.out; omega
        have h9' : ¬ (i : Int) < 200 := by omega
        have hlt' : (i : Int) < (l.length : Int) := by omega
        clear hlt h9
        obtain ⟨X, hX⟩ : ∃ X, decide ((l.length : Int) ≤ n) = X := ⟨_, rfl⟩
        have HX := Lib.hid hX
        have HI2 := Lib.hid hi2
        clear hi2
        go_wp2_with fail
        go_ret
        exact ⟨X, by simp, fun h => ⟨of_decide_eq_true (HX.out.trans h), fun j h1 h2 => HALL.out j (by have := HI2.out; omega)⟩, HB.out⟩
    · have hi2 : i = l.length := by have := HI.out; omega
      have hlt' : ¬ (i : Int) < (l.length : Int) := by omega
      clear hlt
      obtain ⟨X, hX⟩ : ∃ X, decide ((l.length : Int) ≤ n) = X := ⟨_, rfl⟩
      have HX := Lib.hid hX
      have HI2 := Lib.hid hi2
      clear hi2
      go_wp2_with fail
      go_ret
      exact ⟨X, by simp, fun h => ⟨of_decide_eq_true (HX.out.trans h), fun j h1 h2 => HALL.out j (by have := HI2.out; omega)⟩, HB.out⟩
end Go.Proofs.Ytgjdiliaiblfcaa
end
section
open Go Go.RowKit
namespace Go.Proofs.Ytgjdiliaiblfcaa
open ZZ RR FF JJ CC WW BB
/-- the code's pool is p, the reference's q; all that they write lies not in W -/
def TwZ (C : Code12) (W w : World) (y g : Nat) (p q : Po) : Prop :=
  ∃ O, C.At O w g p ∧ (∀ b, O b → W.heap.size ≤ b ∧ b ≠ y) ∧ RfAt (fun b => ¬ O b ∧ b ≠ y) w y q ∧ Below W.heap.size W w ∧ W.heap.size ≤ y ∧ y < w.heap.size
section
variable {C : Code12} {W w w' : World} {y g : Nat} {p q : Po}
theorem TwZ.low (h : TwZ C W w y g p q) (hb : Below w.heap.size w w') : TwZ C W w' y g p q := by
  obtain ⟨O, h1, h2, h3, h4, h5, h6⟩ := h
  exact ⟨O, C.keep h1 (Keeps.of hb), h2, h3.on hb, h4.trans (hb.mono h4.size), h5, Nat.lt_of_lt_of_le h6 hb.size⟩
theorem TwZ.below (h : TwZ C W w y g p q) : Below W.heap.size W w := by
  obtain ⟨O, _, _, _, h4, _⟩ := h
  exact h4
/-- what the reference's box holds -/
theorem TwZ.box (h : TwZ C W w y g p q) : ∃ wa wc dv, Blk w y 2 (rowL [.slice wa q.1.length wc, dv]) ∧ (∀ w', Below w.heap.size w w' → ReqsAt w' (.slice wa q.1.length wc) q.1) := by
  obtain ⟨O, _, _, ⟨wv, dv, hB, hD⟩, _⟩ := h
  obtain ⟨wa, wc, rfl⟩ := reqs_sl hD.now.1
  exact ⟨wa, wc, dv, hB, fun w' hb => (hD w' (Keeps.of hb)).1⟩
theorem TwZ.code (h : TwZ C W w y g p q) : ∃ O, C.At O w g p := by
  obtain ⟨O, h, _⟩ := h
  exact ⟨O, h⟩
/-- in memory that was there, whatever is written elsewhere -/
theorem dep_below {W w : World} {P : World → Prop} (hb : Below W.heap.size W w) (h : ∀ w', Below W.heap.size W w' → P w') : Dep (fun b => b < W.heap.size) w P := fun w' hk => h w' (hb.trans (keeps_lowZ hk (fun _ hb => hb) hb.size))
theorem TwZ.next (h : TwZ C W w y g p q) {O : Nat → Prop} {p' : Po} (hO : ∀ b, O b → W.heap.size ≤ b ∧ b ≠ y) (hr : RfAt (fun b => ¬ O b ∧ b ≠ y) w y q) (_ : ∀ b, O b → b < w.heap.size) (hn : Next12 C.At O w g p' w') : TwZ C W w' y g p' q := by
  obtain ⟨_, _, _, _, h4, h5, h6⟩ := h
  obtain ⟨O', g1, g2, g3⟩ := hn
  have hr2 : RfAt (fun b => (¬ O b ∧ b ≠ y) ∧ b < w.heap.size) w y q := hr.more fun b hb hl => ⟨hb, hl⟩
  have hr3 : RfAt (fun b => (¬ O b ∧ b ≠ y) ∧ b < w.heap.size) w' y q := hr2.keep (g2.sub fun b hb _ => by
    rcases hb with rfl | hb
    · exact fun ho => (hO _ ho).2 rfl
    · exact hb.1.1)
  have h46 := h4.size
  refine ⟨O', g1, fun b hb => ?_, hr3.more fun b hb _ => ⟨fun ho => ?_, hb.1.2⟩, h4.trans (keeps_lowZ g2 (fun b hb ho => by have := (hO b ho).1; omega) h4.size), h5, Nat.lt_of_lt_of_le h6 g2.b0.size⟩
  · rcases g3 b hb with h | h
    · exact hO b h
    · exact ⟨by omega, by omega⟩
  · rcases g3 b ho with h | h
    · exact hb.1.1 h
    · have := hb.2; omega
theorem code_tw (h : TwZ C W w y g p q) (hI : InvP p) (hp : p.2.length ≤ 1000) (o : OpP) (ho : ∀ w', Below W.heap.size W w' → ReqsAt w' o.lv o.l) (hl : o.l.length ≤ 20) (hz : o.r.2.2.size ≤ 9223372036854775807) :
    Calls Try.prog 10 #[.pointer (some ⟨g, 0, none⟩), opZV o] w fun e w' => e = .returned (.int .i64 (callP p o).2) ∧ TwZ C W w' y g (callP p o).1 q := by
  have h' := h
  obtain ⟨O, h1, h2, h3, h4, _⟩ := h
  exact (call_any C O _ w g p o h1 hI hp (dep_below h4 ho) (fun b hb hO => by have := (h2 b hO).1; omega) hl hz).mono fun e w' ⟨he, hn⟩ => ⟨he, h'.next h2 h3 (fun b hb => C.lt h1 b hb) hn⟩
theorem ref_tw (h : TwZ C W w y g p q) (hq : q.1.length ≤ 100 ∧ q.2.length ≤ 2000) (o : OpP) (ho : ∀ w', Below W.heap.size W w' → ReqsAt w' o.lv o.l) (hl : o.l.length ≤ 100) :
    Calls Try.prog 11 #[.pointer (some ⟨y, 0, none⟩), opZV o] w fun e w' => e = .returned (.int .i64 (callP q o).2) ∧ TwZ C W w' y g p (callP q o).1 := by
  obtain ⟨O, h1, h2, h3, h4, h5, h6⟩ := h
  refine (rdo_any _ w y q o h3 (fun b hb => hb.2) ((dep_below h4 ho).more fun b hb _ => ⟨fun hO => by have := (h2 b hO).1; omega, fun e => by omega⟩) hq hl).mono fun e w' ⟨he, hr, hk⟩ => ⟨he, O, C.keep h1 (hk.sub fun b hb _ => (h2 b hb).2), h2, hr.more fun b hb _ => ?_, h4.trans (keeps_lowZ hk (fun b hb => by omega) h4.size), h5, Nat.lt_of_lt_of_le h6 hk.b0.size⟩
  rcases hb with hb | hb
  · exact hb
  · exact ⟨fun hO => by have := C.lt h1 b hO; omega, by omega⟩
end
end Go.Proofs.Ytgjdiliaiblfcaa
end
