/-
  The walk of the law LedgerParts, by the bundle.
-/
import Derived.Test.YtbakceglaadfpaaDoorKGMap
import Derived.Test.YtbakceglaadfpaaDoorKFAdopt
import Derived.Test.YtbakceglaadfpaaDoorKJDig
import Derived.Test.YtbakceglaadfpaaDoorKMSign
import Derived.Test.YtbakceglaadfpaaDoorKLeMath
import Derived.Test.YtbakceglaadfpaaDoorKLOpen
import Derived.Test.YtbakceglaadfpaaDoorKYSame
import Derived.Test.YtbakceglaadfpaaDoorKJBox
import Derived.BigQuiet
section
open Go Go.RowKit
namespace FF
open WW BB MM
/-- a block of a size that is looked at -/
def SmallI (b : BlockD) : Prop := (parI b).size ≤ 1000 ∧ SmallS (sigsI b) ∧ SmallR b.2
theorem Keeps.grown {A : Nat → Prop} {w w' : World} {row : Option Nat} (h : w.grownBy w' row) (hA : ∀ b, row = some b → ¬ A b) : Keeps A w w' :=
  ⟨⟨h.os, h.tape, h.output, h.size, fun k hk => absurd hk (Nat.not_lt_zero k)⟩, fun c hb hl => h.block c hl fun e => hA c e.symm hb⟩
theorem Keeps.alloc {A : Nat → Prop} {w w' : World} (h : Keeps A w w') (o : Obj) : Keeps A w (w'.alloc o) := h.trans (Keeps.of ((Below.refl _ _).alloc (Nat.le_refl _) o))
theorem ba_full {b : ByteArray} (h : 0 < b.size) : b.toList.isEmpty = false := by
  cases hz : b.toList.isEmpty with
  | false => rfl
  | true =>
    rw [List.isEmpty_iff] at hz
    rw [CC.ba_toList (a := b) (b := ⟨#[]⟩) (hz.trans (by simp))] at h
    cases h
end FF
namespace Go.Proofs.YtbakceglaadfpaaDoor
open FF JJ CC MM WW BB
section
variable {B : Nat} {w w' : World} {g : Nat} {F : Fo} {rt : ByteArray} {mv ov : Value} {N O : List Iv} {C : Nat → Prop}
/-- the forest's own blocks -/
def MineB (g : Nat) (mv ov : Value) (C : Nat → Prop) (b : Nat) : Prop := b = g ∨ mapBlk mv = some b ∨ ov.ownBlock = some b ∨ C b
end
theorem tabs_keeps {A : Nat → Prop} {w w' : World} (h : Tabs w) (hk : Keeps A w w') (hA : ∀ b, NoTab b ∨ A b) : Tabs w' := by
  have t : ∀ b, ¬ NoTab b → b < w.heap.size → w'.heap[b]? = w.heap[b]? := fun b hb hl => hk.block b ((hA b).resolve_left hb) hl
  have e1 := t 0 (fun h => h.1 rfl) h.l1
  have e2 := t 1 (fun h => h.2.1 rfl) h.l2
  have e3 := t 2 (fun h => h.2.2 rfl) h.l3
  exact ⟨fun i hi => (World.cell?_of_block (w := w) (a := ⟨_, i, none⟩) e1).trans (h.iv i hi), fun i hi => (World.cell?_of_block (w := w) (a := ⟨_, i, none⟩) e2).trans (h.sg i hi), fun i hi => (World.cell?_of_block (w := w) (a := ⟨_, i, none⟩) e3).trans (h.pl i hi),
    Nat.lt_of_lt_of_le h.l1 hk.b0.size, Nat.lt_of_lt_of_le h.l2 hk.b0.size, Nat.lt_of_lt_of_le h.l3 hk.b0.size⟩
/-- an entry, taken apart -/
theorem sv_parts (s : Sv) : ∃ v p j k a1 n1 c1 a2 n2 c2 t, s = ((v, p, j, k), (a1, n1, c1), (a2, n2, c2), t) := by
  obtain ⟨⟨v, p, j, k⟩, ⟨a1, n1, c1⟩, ⟨a2, n2, c2⟩, t⟩ := s
  exact ⟨v, p, j, k, a1, n1, c1, a2, n2, c2, t, rfl⟩
end Go.Proofs.YtbakceglaadfpaaDoor
end
section
open Go Go.RowKit
namespace LE
open FF JJ CC WW BB
theorem low_le {A : Nat → Prop} {w w' : World} {n : Nat} (h : Keeps A w w') (hA : ∀ b, b < n → A b) (hn : n ≤ w.heap.size) : Below n w w' :=
  ⟨h.b0.os, h.b0.tape, h.b0.output, h.b0.size, fun k hk => h.block k (hA k hk) (Nat.lt_of_lt_of_le hk hn)⟩
/-- bodies of a size that is looked at, numbers of 64 bits -/
def SmallL (l : List Rq) : Prop := ∀ r ∈ l, r.2.2.size ≤ 100000 ∧ In64 (keyR r)
/-- the tuple that Index answers -/
def ixV (E : List Rq) (c q : Int) : Value := .tuple #[.int .i64 (max (ixR E (c, q)) 0), .bool (decide (0 ≤ ixR E (c, q)))]
/-- the entry at n, none: nought -/
def atR (E : List Rq) (n : Int) : Rq := if 0 ≤ n ∧ n < (E.length : Int) then E.getD n.toNat r0 else r0
def atV (E : List Rq) (n : Int) : Value := .tuple #[ZZ.rqV (atR E n), .bool (decide (0 ≤ n ∧ n < (E.length : Int)))]
def digV (E : List Rq) (n : Int) : Value := if 0 ≤ n ∧ n ≤ (E.length : Int) then .tuple #[.string (digE (E.take n.toNat)), .int .i64 0] else .tuple #[.string ⟨#[]⟩, .int .i64 10]
end LE
namespace Go.Proofs.YtbakceglaadfpaaDoor
open LE ZZ FF JJ CC WW BB
structure Code13 where
  At : (Nat → Prop) → World → Nat → List Rq → Prop
  keep : ∀ {O w w' g E}, At O w g E → Keeps O w w' → At O w' g E
  lt : ∀ {O w g E}, At O w g E → ∀ b, O b → b < w.heap.size
  new : ∀ w, Tabs w → Calls Tryd.prog 9 #[] w fun e w' => ∃ g O, e = .returned (.pointer (some ⟨g, 0, none⟩)) ∧ At O w' g [] ∧ (∀ b, O b → w.heap.size ≤ b) ∧ Below w.heap.size w w'
  apply : ∀ (O A : Nat → Prop) w g E v b, At O w g E → Tabs w → (∀ b, O b → NoTab b) → Dep A w (fun w' => ReqsAt w' v b) → (∀ b, A b → ¬ O b) → E.length ≤ 1000 → b.length ≤ 100 → SmallL E → SmallL b →
    Calls Tryd.prog 12 #[.pointer (some ⟨g, 0, none⟩), v] w fun e w' => ∃ u O' R, e = .returned u ∧ At O' w' g (appE E b) ∧ Keeps (fun b => ¬ O b) w w' ∧ (∀ b, O' b → O b ∨ w.heap.size ≤ b) ∧ Dep R w' (fun w'' => IntsAt w'' u (appI E b)) ∧ (∀ b, R b → w.heap.size ≤ b ∧ ¬ O' b)
  index : ∀ O w g E (c q : Int), At O w g E → E.length ≤ 1000 → In64 (c, q) → Calls Tryd.prog 14 #[.pointer (some ⟨g, 0, none⟩), .int .i64 c, .int .i64 q] w fun e w' => e = .returned (ixV E c q) ∧ Below w.heap.size w w'
  at_ : ∀ O w g E (n : Int), At O w g E → E.length ≤ 1000 → Calls Tryd.prog 19 #[.pointer (some ⟨g, 0, none⟩), .int .i64 n] w fun e w' => e = .returned (atV E n) ∧ Below w.heap.size w w'
  len : ∀ O w g E, At O w g E → E.length ≤ 1000 → Calls Tryd.prog 17 #[.pointer (some ⟨g, 0, none⟩)] w fun e w' => e = .returned (.int .i64 (E.length : Int)) ∧ Below w.heap.size w w'
  digest : ∀ O w g E (n : Int), At O w g E → Tabs w → E.length ≤ 1000 → SmallL E → Calls Tryd.prog 18 #[.pointer (some ⟨g, 0, none⟩), .int .i64 n] w fun e w' => e = .returned (digV E n) ∧ Below w.heap.size w w'
  entries : ∀ O w g E, At O w g E → E.length ≤ 1000 → Calls Tryd.prog 16 #[.pointer (some ⟨g, 0, none⟩)] w fun e w' => ∃ u R, e = .returned u ∧ (∀ a n c, u = .slice a n c → n ≤ c) ∧ Dep R w' (fun w'' => ReqsAt w'' u E) ∧ (∀ b, R b → w.heap.size ≤ b) ∧ Below w.heap.size w w'
/-- the ledger behind calls of a law that began in w0; it holds none of the blocks of Z -/
def LgX (C : Code13) (w0 : World) (Z : Nat → Prop) (g : Nat) (E : List Rq) (w : World) : Prop := ∃ O, C.At O w g E ∧ (∀ b, O b → w0.heap.size ≤ b ∧ ¬ Z b) ∧ Below w0.heap.size w0 w ∧ ∀ b, Z b → b < w.heap.size
theorem LgX.below {C : Code13} {w0 w : World} {Z : Nat → Prop} {g : Nat} {E : List Rq} (h : LgX C w0 Z g E w) : Below w0.heap.size w0 w := by obtain ⟨_, _, _, h, _⟩ := h; exact h
theorem LgX.on {C : Code13} {w0 w w' : World} {Z : Nat → Prop} {g : Nat} {E : List Rq} (h : LgX C w0 Z g E w) (hb : Below w.heap.size w w') : LgX C w0 Z g E w' := by
  obtain ⟨O, h1, h2, h3, h4⟩ := h
  exact ⟨O, C.keep h1 (Keeps.of hb), h2, h3.trans (hb.mono h3.size), fun b hz => Nat.lt_of_lt_of_le (h4 b hz) hb.size⟩
/-- fewer blocks -/
theorem LgX.less {C : Code13} {w0 w : World} {Z Z' : Nat → Prop} {g : Nat} {E : List Rq} (h : LgX C w0 Z g E w) (hz : ∀ b, Z' b → Z b) : LgX C w0 Z' g E w := by
  obtain ⟨O, h1, h2, h3, h4⟩ := h
  exact ⟨O, h1, fun b hO => ⟨(h2 b hO).1, fun h => (h2 b hO).2 (hz b h)⟩, h3, fun b h => h4 b (hz b h)⟩
/-- what another call has made is none of its blocks -/
theorem LgX.more {C : Code13} {w0 w w' : World} {Z : Nat → Prop} {g : Nat} {E : List Rq} (h : LgX C w0 Z g E w) (hb : Below w.heap.size w w') (Z' : Nat → Prop) (hz : ∀ b, Z' b → w.heap.size ≤ b) : LgX C w0 (fun b => Z b ∨ Z' b ∧ b < w'.heap.size) g E w' := by
  obtain ⟨O, h1, h2, h3, h4⟩ := h
  refine ⟨O, C.keep h1 (Keeps.of hb), fun b hO => ⟨(h2 b hO).1, fun h => h.elim (h2 b hO).2 fun h => ?_⟩, h3.trans (hb.mono h3.size), fun b hz => hz.elim (fun h => Nat.lt_of_lt_of_le (h4 b h) hb.size) fun h => h.2⟩
  have := C.lt h1 b hO
  have := hz b h.1
  omega
/-- a store into one of the blocks of Z -/
theorem LgX.upd {C : Code13} {w0 w w' : World} {Z : Nat → Prop} {g y : Nat} {E : List Rq} (h : LgX C w0 Z g E w) (hu : Upd y w w') (hy : Z y) (h0 : w0.heap.size ≤ y) : LgX C w0 Z g E w' := by
  obtain ⟨O, h1, h2, h3, h4⟩ := h
  exact ⟨O, C.keep h1 (Keeps.upd hu fun b hO e => (h2 b hO).2 (e ▸ hy)), h2, h3.trans (hu.below h0), fun b hz => Nat.lt_of_lt_of_le (h4 b hz) (hu.below h0).size⟩
theorem lg_notab {w : World} (hT : Tabs w) : ∀ b, w.heap.size ≤ b → NoTab b := fun b hb => ⟨fun e => by have := hT.l1; omega, fun e => by have := hT.l2; omega, fun e => by have := hT.l3; omega⟩
theorem lg_new (C : Code13) (w0 w : World) (hT : Tabs w0) (hb : Below w0.heap.size w0 w) : Calls Tryd.prog 9 #[] w fun e w' => ∃ g, e = .returned (.pointer (some ⟨g, 0, none⟩)) ∧ LgX C w0 (fun b => w0.heap.size ≤ b ∧ b < w.heap.size) g [] w' ∧ Below w.heap.size w w' :=
  (C.new w (tabs_on hT hb)).mono fun _ _ ⟨g, O, he, h1, h2, h3⟩ => ⟨g, he, ⟨O, h1, fun b hO => ⟨Nat.le_trans hb.size (h2 b hO), fun h => by have := h2 b hO; omega⟩, hb.trans (h3.mono hb.size), fun b h => Nat.lt_of_lt_of_le h.2 h3.size⟩, h3⟩
/-- a batch from behind the law's beginning is applied; the indexes stay, whatever comes -/
theorem lg_applyR (C : Code13) (w0 w : World) (Z : Nat → Prop) (g : Nat) (E b : List Rq) (v : Value) (hT : Tabs w0) (h : LgX C w0 Z g E w) (hv : ReqsAt w0 v b) (hE : E.length ≤ 1000) (hb : b.length ≤ 100) (hs : SmallL E) (ht : SmallL b) :
    Calls Tryd.prog 12 #[.pointer (some ⟨g, 0, none⟩), v] w fun e w' => ∃ u Z', e = .returned u ∧ LgX C w0 (fun b => Z b ∨ Z' b) g (appE E b) w' ∧ Dep Z' w' (fun w'' => IntsAt w'' u (appI E b)) ∧ (∀ b, Z' b → w.heap.size ≤ b) ∧ Keeps Z w w' := by
  obtain ⟨O, h1, h2, h3, h4⟩ := h
  refine (C.apply O (fun b => b < w0.heap.size) w g E v b h1 (tabs_on hT h3) (fun b hO => lg_notab hT b (h2 b hO).1) (fun w' hk => hv.later (h3.trans (low_le hk (fun b hb => hb) h3.size))) (fun b hb hO => by have := (h2 b hO).1; omega) hE hb hs ht).mono ?_
  rintro e w' ⟨u, O', R, he, k1, k2, k3, k4, k5⟩
  refine ⟨u, fun b => R b ∧ b < w'.heap.size, he, ⟨O', k1, fun b hb => ⟨(k3 b hb).elim (fun h => (h2 b h).1) (Nat.le_trans h3.size), fun hz => ?_⟩, h3.trans (low_le k2 (fun b hb hO => by have := (h2 b hO).1; omega) h3.size), fun b hz => hz.elim (fun h => Nat.lt_of_lt_of_le (h4 b h) k2.b0.size) fun h => h.2⟩, k4.more fun b h hl => ⟨h, hl⟩, fun b h => (k5 b h.1).1, k2.sub fun b hz _ hO => (h2 b hO).2 hz⟩
  rcases hz with hz | hz
  · rcases k3 b hb with h | h
    · exact (h2 b h).2 hz
    · have := h4 b hz; omega
  · exact (k5 b hz.1).2 hb
theorem lg_apply (C : Code13) (w0 w : World) (Z : Nat → Prop) (g : Nat) (E b : List Rq) (v : Value) (hT : Tabs w0) (h : LgX C w0 Z g E w) (hv : ReqsAt w0 v b) (hE : E.length ≤ 1000) (hb : b.length ≤ 100) (hs : SmallL E) (ht : SmallL b) :
    Calls Tryd.prog 12 #[.pointer (some ⟨g, 0, none⟩), v] w fun e w' => ∃ u, e = .returned u ∧ LgX C w0 Z g (appE E b) w' ∧ IntsAt w' u (appI E b) ∧ Keeps Z w w' :=
  (lg_applyR C w0 w Z g E b v hT h hv hE hb hs ht).mono fun _ _ ⟨u, _, he, k1, k2, _, k4⟩ => ⟨u, he, k1.less fun _ h => .inl h, k2.now, k4⟩
theorem lg_entriesR (C : Code13) (w0 w : World) (Z : Nat → Prop) (g : Nat) (E : List Rq) (h : LgX C w0 Z g E w) (hE : E.length ≤ 1000) :
    Calls Tryd.prog 16 #[.pointer (some ⟨g, 0, none⟩)] w fun e w' => ∃ u Z', e = .returned u ∧ (∀ a n c, u = .slice a n c → n ≤ c) ∧ LgX C w0 (fun b => Z b ∨ Z' b) g E w' ∧ Dep Z' w' (fun w'' => ReqsAt w'' u E) ∧ (∀ b, Z' b → w.heap.size ≤ b) ∧ Below w.heap.size w w' := by
  obtain ⟨O, h1, h2, h3, h4⟩ := h
  refine (C.entries O w g E h1 hE).mono fun e w' ⟨u, R, he, hc, hd, hr, hb⟩ => ⟨u, fun b => R b ∧ b < w'.heap.size, he, hc, ?_, hd.more fun b h hl => ⟨h, hl⟩, fun b h => hr b h.1, hb⟩
  exact LgX.more (w := w) ⟨O, h1, h2, h3, h4⟩ hb R hr
theorem lg_entries (C : Code13) (w0 w : World) (Z : Nat → Prop) (g : Nat) (E : List Rq) (h : LgX C w0 Z g E w) (hE : E.length ≤ 1000) :
    Calls Tryd.prog 16 #[.pointer (some ⟨g, 0, none⟩)] w fun e w' => ∃ u, e = .returned u ∧ ReqsAt w' u E ∧ Below w.heap.size w w' := by
  obtain ⟨O, h1, h2, h3, h4⟩ := h
  exact (C.entries O w g E h1 hE).mono fun _ _ ⟨u, _, he, _, hd, _, hb⟩ => ⟨u, he, hd.now, hb⟩
theorem lg_len (C : Code13) (w0 w : World) (Z : Nat → Prop) (g : Nat) (E : List Rq) (h : LgX C w0 Z g E w) (hE : E.length ≤ 1000) :
    Calls Tryd.prog 17 #[.pointer (some ⟨g, 0, none⟩)] w fun e w' => e = .returned (.int .i64 (E.length : Int)) ∧ Below w.heap.size w w' := by
  obtain ⟨O, h1, _⟩ := h
  exact C.len O w g E h1 hE
theorem lg_digest (C : Code13) (w0 w : World) (Z : Nat → Prop) (g : Nat) (E : List Rq) (n : Int) (hT : Tabs w0) (h : LgX C w0 Z g E w) (hE : E.length ≤ 1000) (hs : SmallL E) :
    Calls Tryd.prog 18 #[.pointer (some ⟨g, 0, none⟩), .int .i64 n] w fun e w' => e = .returned (digV E n) ∧ Below w.heap.size w w' := by
  obtain ⟨O, h1, h2, h3, _⟩ := h
  exact C.digest O w g E n h1 (tabs_on hT h3) hE hs
theorem lg_at (C : Code13) (w0 w : World) (Z : Nat → Prop) (g : Nat) (E : List Rq) (n : Int) (h : LgX C w0 Z g E w) (hE : E.length ≤ 1000) :
    Calls Tryd.prog 19 #[.pointer (some ⟨g, 0, none⟩), .int .i64 n] w fun e w' => e = .returned (atV E n) ∧ Below w.heap.size w w' := by
  obtain ⟨O, h1, _⟩ := h
  exact C.at_ O w g E n h1 hE
theorem lg_index (C : Code13) (w0 w : World) (Z : Nat → Prop) (g : Nat) (E : List Rq) (c q : Int) (h : LgX C w0 Z g E w) (hE : E.length ≤ 1000) (h64 : In64 (c, q)) :
    Calls Tryd.prog 14 #[.pointer (some ⟨g, 0, none⟩), .int .i64 c, .int .i64 q] w fun e w' => e = .returned (ixV E c q) ∧ Below w.heap.size w w' := by
  obtain ⟨O, h1, _⟩ := h
  exact C.index O w g E c q h1 hE h64
end Go.Proofs.YtbakceglaadfpaaDoor
end
section
open Go Go.RowKit
namespace LE
open FF JJ CC WW BB
/-- a batch: its slice, its requests -/
abbrev Bt := Value × List Rq
def bt0 : Bt := (undef, [])
def BatsAt (w : World) (v : Value) (L : List Bt) : Prop :=
  ∃ a0 cap, v = .slice a0 L.length cap ∧ (L = [] ∨ ∃ b off, a0 = some ⟨b, off, none⟩ ∧ b < w.heap.size ∧ ∀ i, i < L.length → w.cell? ⟨b, off + i, none⟩ = some (L.getD i bt0).1 ∧ ReqsAt w (L.getD i bt0).1 (L.getD i bt0).2)
theorem BatsAt.later {w w' : World} {v : Value} {L : List Bt} (h : BatsAt w v L) (hb : Below w.heap.size w w') : BatsAt w' v L := by
  obtain ⟨a0, cap, e, h⟩ := h
  exact ⟨a0, cap, e, h.imp id fun ⟨b, off, e2, hl, hc⟩ => ⟨b, off, e2, Nat.lt_of_lt_of_le hl hb.size, fun i hi => ⟨(hb.cell (p := ⟨b, off + i, none⟩) hl).trans (hc i hi).1, (hc i hi).2.later hb⟩⟩⟩
theorem bats_at {w : World} {a0 : Option Addr} {n cap : Nat} {L : List Bt} (h : BatsAt w (.slice a0 n cap) L) (i : Nat) (hi : i < L.length) :
    ∃ b off, a0 = some ⟨b, off, none⟩ ∧ n = L.length ∧ ReqsAt w (L.getD i bt0).1 (L.getD i bt0).2 ∧ ∀ wx, Below w.heap.size w wx → wx.cell? ⟨b, off + i, none⟩ = some (L.getD i bt0).1 := by
  obtain ⟨a, c, e, h⟩ := h
  injection e with e1 e2 e3
  subst e1 e2 e3
  rcases h with rfl | ⟨b, off, e, hl, hc⟩
  · simp at hi
  · exact ⟨b, off, e, rfl, (hc i hi).2, fun wx hb => (hb.cell (p := ⟨b, off + i, none⟩) hl).trans (hc i hi).1⟩
/-- it fits into memory -/
def MemRq (l : List Rq) : Prop := l.length ≤ 9223372036854775807 ∧ ∀ r ∈ l, r.2.2.size ≤ 9223372036854775807 ∧ In64 (keyR r)
def MemBt (L : List Bt) : Prop := L.length ≤ 9223372036854775807 ∧ ∀ b ∈ L, MemRq b.2
theorem getD_mem {α : Type} {l : List α} {i : Nat} {d : α} (h : i < l.length) : l.getD i d ∈ l := by
  rw [List.getD_eq_getElem?_getD, List.getElem?_eq_getElem h]; exact List.getElem_mem h
theorem mem_getD {α : Type} {l : List α} {x d : α} (h : x ∈ l) : ∃ i, i < l.length ∧ l.getD i d = x := by
  obtain ⟨i, hi, rfl⟩ := List.getElem_of_mem h
  exact ⟨i, hi, by rw [List.getD_eq_getElem?_getD, List.getElem?_eq_getElem hi]; rfl⟩
/-- what few tells of one batch -/
def FewB (b : List Rq) : Prop := b.length ≤ 8 ∧ ∀ k, k < b.length → (b.getD k r0).2.2.size ≤ 60 ∧ In64 (keyR (b.getD k r0))
theorem few_smallL {b : List Rq} (h : FewB b) : SmallL b := fun r hr => by
  obtain ⟨i, hi, e⟩ := mem_getD (d := r0) hr
  have := h.2 i hi
  rw [e] at this; exact ⟨by omega, this.2⟩
def FewAns13 (L : List Bt) (n : Int) (w : World) (e : Ending) (w' : World) : Prop := ∃ X, e = .returned (.bool X) ∧ (X = true → (L.length : Int) ≤ n ∧ ∀ i, i < L.length → i < 100 → FewB (L.getD i bt0).2) ∧ Below w.heap.size w w'
/-- all requests of batches -/
def flatB (L : List Bt) : List Rq := (L.map Prod.snd).flatten
theorem flatB_take {L : List Bt} {i : Nat} (h : i < L.length) : flatB (L.take (i + 1)) = flatB (L.take i) ++ (L.getD i bt0).2 := by
  unfold flatB
  rw [List.take_add_one, List.getElem?_eq_getElem h, List.map_append, List.flatten_append, List.getD_eq_getElem?_getD, List.getElem?_eq_getElem h]
  simp
theorem flatB_len (L : List Bt) (hL : ∀ i, i < L.length → FewB (L.getD i bt0).2) : ∀ i, i ≤ L.length → (flatB (L.take i)).length ≤ 8 * i
  | 0, _ => by simp [flatB]
  | i + 1, h => by
    rw [flatB_take (by omega), List.length_append]
    have := flatB_len L hL i (by omega)
    have := (hL i (by omega)).1
    omega
/-- the entries behind so many batches -/
def entB (L : List Bt) (i : Nat) : List Rq := appE [] (flatB (L.take i))
theorem entB_zero (L : List Bt) : entB L 0 = [] := rfl
theorem entB_succ {L : List Bt} {i : Nat} (h : i < L.length) : entB L (i + 1) = appE (entB L i) (L.getD i bt0).2 := by
  unfold entB; rw [flatB_take h, appE_app]
theorem entB_all (L : List Bt) : entB L L.length = appE [] (flatB L) := by unfold entB; rw [List.take_length]
theorem entB_len {L : List Bt} (hL : ∀ i, i < L.length → FewB (L.getD i bt0).2) (i : Nat) (h : i ≤ L.length) : (entB L i).length ≤ 8 * i := by
  obtain ⟨m, h1, h2⟩ := app_ext (flatB (L.take i)) []
  have := flatB_len L hL i h
  unfold entB; rw [h1, List.nil_append]; omega
theorem step_sub {E : List Rq} {r x : Rq} (h : x ∈ (stepL E r).1) : x ∈ E ∨ x = r := by
  unfold stepL at h
  split at h
  · exact .inl h
  · rcases List.mem_append.1 h with h | h
    · exact .inl h
    · exact .inr (by simpa using h)
theorem app_sub : ∀ {b E : List Rq} {x : Rq}, x ∈ appE E b → x ∈ E ∨ x ∈ b
  | [], _, _, h => .inl h
  | r :: b, E, x, h => by
    rcases app_sub (b := b) h with h | h
    · rcases step_sub h with h | rfl
      · exact .inl h
      · exact .inr (by simp)
    · exact .inr (by simp [h])
theorem entB_small {L : List Bt} (hL : ∀ i, i < L.length → FewB (L.getD i bt0).2) : ∀ i, i ≤ L.length → SmallL (entB L i)
  | 0, _ => fun r hr => by cases hr
  | i + 1, h => fun r hr => by
    rw [entB_succ (by omega)] at hr
    rcases app_sub hr with hr | hr
    · exact entB_small hL i (by omega) r hr
    · exact few_smallL (hL i (by omega)) r hr
theorem reqs_depB {w : World} {b off n c : Nat} {l : List Rq} (h : ReqsAt w (.slice (some ⟨b, off, none⟩) n c) l) (A : Nat → Prop) (hA : A b) : Dep A w (fun w' => ReqsAt w' (.slice (some ⟨b, off, none⟩) n c) l) := fun w' hk => by
  obtain ⟨a0, cap, e, h⟩ := h
  refine ⟨a0, cap, e, h.imp id fun ⟨b', off', e4, hl, hc⟩ => ⟨b', off', e4, Nat.lt_of_lt_of_le hl hk.b0.size, fun i hi => ?_⟩⟩
  injection e with e1 _ _
  rw [e4] at e1
  injection e1 with e1
  injection e1 with e1 _ _
  have hb := hk.block b' (e1 ▸ hA) hl
  have key : ∀ j, w'.cell? ⟨b', j, none⟩ = w.cell? ⟨b', j, none⟩ := fun j => by unfold World.cell?; rw [hb]
  rw [key, key, key]
  exact hc i hi
theorem one_req13 (w : World) (t : TypeId) : ReqsAt (w.alloc (.cells #[.int .i64 0, .int .i64 1, .string ⟨#[]⟩] t)) (.slice (some ⟨w.heap.size, 0, none⟩) 1 1) [(0, 1, ⟨#[]⟩)] :=
  ⟨_, _, rfl, .inr ⟨_, _, rfl, by simp, fun i hi => by
    have hi : i = 0 := by simp at hi; omega
    subst hi
    exact ⟨cell_new w #[.int .i64 0, .int .i64 1, .string ⟨#[]⟩] t 0 _ rfl, cell_new w #[.int .i64 0, .int .i64 1, .string ⟨#[]⟩] t 1 _ rfl, cell_new w #[.int .i64 0, .int .i64 1, .string ⟨#[]⟩] t 2 _ rfl⟩⟩⟩
theorem one_small : SmallL [(0, 1, ⟨#[]⟩)] := fun r hr => by
  have : r = (0, 1, ⟨#[]⟩) := by simpa using hr
  subst this
  refine ⟨Nat.zero_le _, ?_⟩
  unfold In64 keyR
  exact ⟨⟨by decide, by decide⟩, by decide, by decide⟩
/-- an append whose run is known -/
theorem wpl_append_runL {P : Program} {w w' : World} {ops : Array Oper} {rest : List Oper} {o : Oper} {a : Act} {Q : Exit → Act → World → Prop} {v' : Value} (hgd : o.guard = none) (s x : Operand) (t : TypeId)
    (ho : o.op = .call { callee := .builtin .append, args := #[s, x], argTypes := #[t, t] }) (hr : (Builtin.append_ #[t, t] o.type #[a.eval s, a.eval x]).run P w = .ok v' w') (h : wpList P ops Q rest (a.put o.dst v') w') : wpList P ops Q (o :: rest) a w := by
  refine wpList_plain hgd fun K hK => ?_
  unfold Oper.wp execOp
  simp only [ho, resolve, invoke, builtin, Sem.run_bind, Sem.run_pure, Result.andThen_ok, List.map_toArray, List.map_cons, List.map_nil, hr]
  exact hK _ _ h
end LE
namespace Go.Proofs.YtbakceglaadfpaaDoor
open LE ZZ RR FF JJ CC WW BB
set_option maxRecDepth 100000 in
set_option maxHeartbeats 4000000 in
theorem awake13_any (C : Code13) (w : World) (hT : Tabs w) : Calls Tryd.prog 7 #[] w fun e w' => e = .returned (.bool true) ∧ Below w.heap.size w w' := by
  have HT := Lib.hid hT
  clear hT
  go_enter Tryd.func7, Tryd.ntmps7
  go_wp2_with fail
  refine (lg_new C w w HT.out (Below.refl _ _)).mono ?_
  rintro e w1 ⟨g, rfl, h1, _⟩
  have H1 := Lib.hid h1
  clear h1
  obtain ⟨O, k1, k2', k3, _⟩ := H1.out
  have k2 : ∀ b, O b → w.heap.size ≤ b := fun b h => (k2' b h).1
  clear k2'
  have A1 := Lib.hid ((Below.refl w1.heap.size w1).alloc (Nat.le_refl _) (.cells #[.int .i64 0, .int .i64 1, .string ⟨#[]⟩] 34))
  have QA := Lib.hid (one_req13 w1 34)
  have HA := Lib.hid (C.apply O (fun b => b = w1.heap.size) _ g [] _ [(0, 1, ⟨#[]⟩)] (C.keep k1 (Keeps.of A1.out)) (tabs_on HT.out (k3.trans (A1.out.mono k3.size))) (fun b hO => lg_notab HT.out b (k2 b hO)) (reqs_depB QA.out _ rfl) (fun b hb hO => by have := C.lt k1 b hO; omega) (Nat.zero_le _) (by decide) (fun r hr => by cases hr) one_small)
  have B1 := Lib.hid (k3.trans (A1.out.mono k3.size))
  have K2 := Lib.hid k2
  clear k1 k2 k3
  go_wp2_with fail
  refine HA.out.mono ?_
  rintro e w2 ⟨u, O', R, rfl, m1, m2, m3, m4, _⟩
  have H2 := Lib.hid (show LgX C w (fun _ => False) g [(0, 1, ⟨#[]⟩)] w2 from ⟨O', m1, fun b hb => ⟨(m3 b hb).elim (K2.out b) fun h => Nat.le_trans B1.out.size h, id⟩, B1.out.trans (low_le m2 (fun b hb hO => by have := K2.out b hO; omega) B1.out.size), fun _ h => h.elim⟩)
  obtain ⟨ua, uc, rfl⟩ : ∃ a c, u = .slice a 1 c := by
    obtain ⟨a, c, e, _⟩ := m4.now
    exact ⟨a, c, e⟩
  clear m1 m2 m3 m4 HA
  go_wp2_with fail
  refine (lg_len C w w2 _ g _ H2.out (by decide)).mono ?_
  rintro e w3 ⟨rfl, hb3⟩
  have B3 := Lib.hid (H2.out.below.trans (hb3.mono H2.out.below.size))
  clear hb3
  have HLN := Lib.hid (show (([(0, 1, ⟨#[]⟩)] : List Rq).length : Int) = 1 from rfl)
  rw [HLN.out]
  go_wp2_with fail
  go_ret
  exact ⟨rfl, B3.out⟩
set_option maxRecDepth 100000 in
set_option maxHeartbeats 8000000 in
theorem few13_any (L : List Bt) (v : Value) (n : Int) (w : World) (hv : BatsAt w v L) (hm : MemBt L) :
    Calls Tryd.prog 8 #[v, .int .i64 n] w (FewAns13 L n w) := by
  have HV := Lib.hid hv
  have HM := Lib.hid hm
  obtain ⟨a0, cap, rfl, _⟩ := hv
  have HLM := Lib.hid hm.1
  clear hm
  go_enter Tryd.func8, Tryd.ntmps8
  go_wp2_with fail
  go_loopw [5] (fun y wr => ∃ i : Nat, i ≤ L.length ∧ i ≤ 100 ∧ y = .int .i64 (i : Int) ∧ (∀ j, j < i → FewB (L.getD j bt0).2) ∧ Below w.heap.size w wr) (fun y _ => 100 - (intOf y).toNat)
  case atStart => exact ⟨0, Nat.zero_le _, by omega, rfl, fun j hj => absurd hj (Nat.not_lt_zero _), Below.refl _ _⟩
  case round =>
    obtain ⟨i, hi, h200, rfl, hall, hb⟩ := hrel
    have HALL := Lib.hid hall
    have HB := Lib.hid hb
    have HI := Lib.hid (And.intro hi h200)
    have i0 : (0 : Int) ≤ (i : Int) := by omega
    have ib : (i : Int) ≤ 100 := by omega
    clear hall hb hi h200
    by_cases hlt : i < L.length
    · by_cases h9 : i < 100
      · have hlt' : (i : Int) < (L.length : Int) := by omega
        have h9' : (i : Int) < 100 := by omega
        have HLT := Lib.hid (And.intro hlt h9)
        obtain ⟨lb, loff, rfl, _, hrq, hat⟩ := bats_at HV.out i hlt
        obtain ⟨P, hP⟩ : ∃ P, L.getD i bt0 = P := ⟨_, rfl⟩
        have HPP := Lib.hid hP
        have HMP := Lib.hid (show MemRq P.2 by rw [← hP]; exact HM.out.2 _ (getD_mem hlt))
        rw [hP] at hrq hat
        obtain ⟨pv, Q⟩ := P
        replace hrq : ReqsAt w pv Q := hrq
        replace hat : ∀ wx, Below w.heap.size w wx → wx.cell? ⟨lb, loff + i, none⟩ = some pv := hat
        have HRQ := Lib.hid hrq
        have HAT := Lib.hid hat
        obtain ⟨pa, pc, rfl, hx⟩ := hrq
        have HH := Lib.hid hx
        have c0 := hat wr HB.out
        clear hlt h9 hat hP hx
        by_cases h8 : (8 : Int) < (Q.length : Int)
        · go_wp2_with fail
          go_ret
          exact ⟨false, rfl, (fun h => (by cases h)), HB.out⟩
        · have H8 := Lib.hid (show Q.length ≤ 8 by omega)
          have d1 : decide ((8 : Int) < (Q.length : Int)) = false := decide_eq_false h8
          clear h8
          go_wp2_with fail
          clear c0
          go_loopw [6] (fun y wr => ∃ k : Nat, k ≤ Q.length ∧ y = .int .i64 (k : Int) ∧ (∀ j, j < k → (Q.getD j r0).2.2.size ≤ 60) ∧ Below w.heap.size w wr) (fun y _ => Q.length - (intOf y).toNat)
          case atStart => exact ⟨0, Nat.zero_le _, rfl, fun j hj => absurd hj (Nat.not_lt_zero _), HB.out⟩
          case round =>
            obtain ⟨k, hk, rfl, hall, hb⟩ := hrel
            have HAL2 := Lib.hid hall
            have HB2 := Lib.hid hb
            have HK := Lib.hid hk
            have k0 : (0 : Int) ≤ (k : Int) := by omega
            have kb : (k : Int) ≤ 8 := by have := H8.out; omega
            have c0 := HAT.out wr HB2.out
            clear hall hb hk
            by_cases hkt : k < Q.length
            · have hkt' : (k : Int) < (Q.length : Int) := by omega
              have HKT := Lib.hid hkt
              obtain ⟨b, off, rfl, hbw, hcell⟩ : ∃ b off, pa = some ⟨b, off, none⟩ ∧ b < w.heap.size ∧ _ := by
                rcases HH.out with h | h
                · subst h; simp at hkt
                · exact h
              obtain ⟨q0, q1, q2⟩ := JJ.reqs_at HB2.out hbw hcell k hkt
              have HZ := Lib.hid (show (Q.getD k r0).2.2.size ≤ 9223372036854775807 from (HMP.out.2 _ (getD_mem hkt)).1)
              obtain ⟨z, hz⟩ : ∃ z, (Q.getD k r0).2.2 = z := ⟨_, rfl⟩
              rw [hz] at q2 HZ
              have HZE := Lib.hid hz
              have hzs := HZ.out
              clear hkt hbw hcell hz q0 q1
              by_cases h60 : (60 : Int) < (z.size : Int)
              · go_wp2_with fail
                go_ret
                exact ⟨false, rfl, (fun h => (by cases h)), HB2.out⟩
              · have H60 := Lib.hid (show z.size ≤ 60 by omega)
                have d2 : decide ((60 : Int) < (z.size : Int)) = false := decide_eq_false h60
                clear h60
                go_wp2_with fail
                go_roundw
                case rel => exact ⟨k + 1, by have := HKT.out; omega, by go_num, fun j hj => if h : j = k then by subst h; rw [HZE.out]; exact H60.out else HAL2.out j (by omega), HB2.out⟩
                case measure => have := HKT.out; simp [intOf]; omega
            · obtain rfl : k = Q.length := by have := HK.out; omega
              have hkt' : ¬ (Q.length : Int) < (Q.length : Int) := by omega
              clear hkt
              have HF := Lib.hid (show FewB Q from ⟨H8.out, fun j hj => ⟨HAL2.out j hj, (HMP.out.2 _ (getD_mem hj)).2⟩⟩)
              go_wp2_with fail
              go_roundw
              case rel => exact ⟨i + 1, by have := HLT.out; omega, by have := HLT.out; omega, by go_num, fun j hj => if h : j = i then by subst h; rw [HPP.out]; exact HF.out else HALL.out j (by omega), HB2.out⟩
              case measure => have := HLT.out; simp [intOf]; omega
      · have hi2 : i = 100 := by have := HI.out; omega
        have h9' : ¬ (i : Int) < 100 := by omega
        have hlt' : (i : Int) < (L.length : Int) := by omega
        clear hlt h9
        obtain ⟨X, hX⟩ : ∃ X, decide ((L.length : Int) ≤ n) = X := ⟨_, rfl⟩
        have HX := Lib.hid hX
        have HI2 := Lib.hid hi2
        clear hi2
        go_wp2_with fail
        go_ret
        exact ⟨X, by simp, fun h => ⟨of_decide_eq_true (HX.out.trans h), fun j h1 h2 => HALL.out j (by have := HI2.out; omega)⟩, HB.out⟩
    · have hi2 : i = L.length := by have := HI.out; omega
      have hlt' : ¬ (i : Int) < (L.length : Int) := by omega
      clear hlt
      obtain ⟨X, hX⟩ : ∃ X, decide ((L.length : Int) ≤ n) = X := ⟨_, rfl⟩
      have HX := Lib.hid hX
      have HI2 := Lib.hid hi2
      clear hi2
      go_wp2_with fail
      go_ret
      exact ⟨X, by simp, fun h => ⟨of_decide_eq_true (HX.out.trans h), fun j h1 h2 => HALL.out j (by have := HI2.out; omega)⟩, HB.out⟩
set_option maxRecDepth 100000 in
set_option maxHeartbeats 8000000 in
/-- all requests of batches, in a new row -/
theorem all13_any (L : List Bt) (v : Value) (w : World) (hv : BatsAt w v L) (hn : L.length ≤ 100) (hL : ∀ i, i < L.length → FewB (L.getD i bt0).2) :
    Calls Tryd.prog 11 #[v] w fun e w' => ∃ x, e = .returned x ∧ w'.ownsRow w.heap.size 34 3 x (flatB L).length (cellsR (flatB L)) ∧ Below w.heap.size w w' := by
  have HV := Lib.hid hv
  have HN := Lib.hid hn
  have HL := Lib.hid hL
  obtain ⟨a0, cap, rfl, _⟩ := hv
  clear hn hL
  go_enter Tryd.func11, Tryd.ntmps11
  go_wp2_with fail
  go_loopw [3, 4] (fun x y wr => ∃ i : Nat, i ≤ L.length ∧ y = .int .i64 (i : Int) ∧ wr.ownsRow w.heap.size 34 3 x (flatB (L.take i)).length (cellsR (flatB (L.take i))) ∧ Below w.heap.size w wr) (fun _ y _ => L.length - (intOf y).toNat)
  case atStart => exact ⟨0, Nat.zero_le _, rfl, World.ownsRow_nil _ _ _ _, Below.refl _ _⟩
  case round =>
    obtain ⟨i, hi, rfl, hrow, hbr⟩ := hrel
    have HBR := Lib.hid hbr
    have HI := Lib.hid hi
    have i0 : (0 : Int) ≤ (i : Int) := by omega
    have ib : (i : Int) ≤ 100 := by have := HN.out; omega
    have hsn := @flatB_take L i
    have hfl := flatB_len L HL.out i hi
    obtain ⟨out, hout⟩ : ∃ out, flatB (L.take i) = out := ⟨_, rfl⟩
    have HOUT := Lib.hid hout
    rw [hout] at hrow hsn hfl
    have HOL := Lib.hid (show out.length ≤ 800 by omega)
    have HROW := Lib.hid hrow
    obtain ⟨xa, xc, rfl⟩ := own_slZ hrow
    clear hrow hbr hi hout hfl
    by_cases hlt : i < L.length
    · have hlt' : (i : Int) < (L.length : Int) := by omega
      have HLT := Lib.hid hlt
      have HSN := Lib.hid (hsn hlt)
      obtain ⟨lb, loff, rfl, _, hrq, hat⟩ := bats_at HV.out i hlt
      have HFW := Lib.hid (HL.out i hlt)
      obtain ⟨P, hP⟩ : ∃ P, L.getD i bt0 = P := ⟨_, rfl⟩
      rw [hP] at hrq hat HSN HFW
      obtain ⟨pv, Q⟩ := P
      replace hrq : ReqsAt w pv Q := hrq
      have HRQ := Lib.hid hrq
      obtain ⟨pa, pc, rfl, _⟩ := hrq
      have c0 := hat wr HBR.out
      clear hlt hat hP hsn
      have HQ3 := Lib.hid (show out.length + Q.length ≤ maxLen by have := HOL.out; have := HFW.out.1; simp only at this; unfold maxLen; omega)
      have HQ4 := Lib.hid (show (out.length + Q.length) * 32 ≤ 140737488355328 by have := HOL.out; have := HFW.out.1; simp only at this; omega)
      obtain ⟨ti, i1, i2, i3, i4⟩ := info_parts info_req
      obtain ⟨v', w', hr, ho, hg⟩ := run_append_argZ (P := Tryd.prog) (w := wr) w.heap.size 27 27 34 ti (.agg #[.int .i64 0, .int .i64 0, .string ⟨#[]⟩]) 3 32 und_reqs i1 i2 i3 i4 rfl (by decide) (.slice xa out.length xc) out.length (cellsR out) HROW.out pa Q.length pc (cellsR Q) (cellsR_len Q) (reqs_none HRQ.out) (reqs_flat HRQ.out HBR.out) (cellsR_oneZ Q) HQ3.out HQ4.out HBR.out.size
      have HRUN := Lib.hid hr
      obtain ⟨a', c', rfl⟩ := own_slZ ho
      have HO' := Lib.hid ho
      have BF := Lib.hid (HBR.out.grown hg HBR.out.size (fun k hk => (HROW.out.lt k hk).1))
      clear hr ho hg
      go_wp2_with (at_builtin; refine wpl_append_runL rfl _ _ 27 rfl HRUN.out ?_)
      clear c0
      go_roundw
      case rel => exact ⟨i + 1, by have := HLT.out; omega, by go_num, by rw [HSN.out, cellsR_app, List.length_append]; exact HO'.out, BF.out⟩
      case measure => have := HLT.out; simp [intOf]; omega
    · obtain rfl : i = L.length := by have := HI.out; omega
      have hlt' : ¬ (L.length : Int) < (L.length : Int) := by omega
      have HFIN := Lib.hid (show flatB L = out by rw [← HOUT.out, List.take_length])
      clear hlt hsn
      go_wp2_with fail
      go_ret
      rw [HFIN.out]
      exact ⟨.slice xa out.length xc, rfl, HROW.out, HBR.out⟩
end Go.Proofs.YtbakceglaadfpaaDoor
end
section
open Go Go.RowKit
namespace LE
open FF JJ CC WW BB
theorem ints_atL {w : World} {a0 : Option Addr} {n c : Nat} {l : List Int} (h : IntsAt w (.slice a0 n c) l) (i : Nat) (hi : i < l.length) : ∃ b off, a0 = some ⟨b, off, none⟩ ∧ ∀ wx, Below w.heap.size w wx → wx.cell? ⟨b, off + i, none⟩ = some (.int .i64 (l.getD i 0)) := by
  obtain ⟨a1, c1, he, _, h | ⟨b, off, e, hl, hc⟩⟩ := h
  · rw [h] at hi; simp at hi
  · injection he with e1 _ _
    exact ⟨b, off, e1.trans e, fun wx hb => (hb.cell (p := ⟨b, off + i, none⟩) hl).trans (hc i hi)⟩
/-- what Index tells -/
theorem ixV_is (E : List Rq) (c q : Int) : ∃ (m : Int) (B : Bool), ixV E c q = .tuple #[.int .i64 m, .bool B] ∧ (0 ≤ ixR E (c, q) → m = ixR E (c, q) ∧ B = true) ∧ (¬ 0 ≤ ixR E (c, q) → m = 0 ∧ B = false) := by
  unfold ixV
  by_cases h : 0 ≤ ixR E (c, q)
  · rw [decide_eq_true h]; exact ⟨_, _, rfl, fun _ => ⟨by omega, rfl⟩, fun h2 => absurd h h2⟩
  · rw [decide_eq_false h]; exact ⟨_, _, rfl, fun h2 => absurd h2 h, fun _ => ⟨by omega, rfl⟩⟩
end LE
namespace Go.Proofs.YtbakceglaadfpaaDoor
open LE ZZ RR FF JJ CC WW BB
set_option maxRecDepth 100000 in
set_option maxHeartbeats 16000000 in
theorem lawA13 (C : Code13) (L : List Bt) (v : Value) (c q : Int) (w : World) (hT : Tabs w) (hv : BatsAt w v L) (hm : MemBt L) (h64 : In64 (c, q)) :
    Calls Tryd.prog 3 #[v, .int .i64 c, .int .i64 q] w fun e w' => e = .returned (.bool true) ∧ Below w.heap.size w w' := by
  have HT := Lib.hid hT
  have HV := Lib.hid hv
  have HM := Lib.hid hm
  have H64 := Lib.hid h64
  obtain ⟨a0, cap, rfl, _⟩ := hv
  clear hT hm h64
  go_enter Tryd.func3, Tryd.ntmps3
  go_wp2_with fail
  refine (awake13_any C w HT.out).mono ?_
  rintro e w1 ⟨rfl, hb1⟩
  have B1 := Lib.hid hb1
  clear hb1
  go_wp2_with fail
  refine (few13_any L _ 20 w1 (HV.out.later B1.out) HM.out).mono ?_
  rintro e w2 ⟨X, rfl, hX, hb2⟩
  have B2 := Lib.hid (B1.out.trans (hb2.mono B1.out.size))
  have HX := Lib.hid hX
  clear hX hb2
  cases X with
  | false =>
    go_wp2_with fail
    refine (awake13_any C w2 (tabs_on HT.out B2.out)).mono ?_
    rintro e wz ⟨rfl, hbz⟩
    have BZ := Lib.hid (B2.out.trans (hbz.mono B2.out.size))
    go_wp2_with fail
    go_ret
    exact ⟨rfl, BZ.out⟩
  | true =>
  have HL20 := Lib.hid (show L.length ≤ 20 by have := (HX.out rfl).1; omega)
  have HFEW := Lib.hid (fun i (hi : i < L.length) => (HX.out rfl).2 i hi (by have := HL20.out; omega))
  go_wp2_with fail
  refine (lg_new C w w2 HT.out B2.out).mono ?_
  rintro e w3 ⟨g, rfl, h3, _⟩
  have H3 := Lib.hid (h3.less (Z' := fun _ => False) fun _ h => h.elim)
  clear h3
  go_wp2_with fail
  refine (all13_any L _ w3 (HV.out.later H3.out.below) (by have := HL20.out; omega) HFEW.out).mono ?_
  rintro e w4 ⟨x, rfl, hx, hb4⟩
  have HRX := Lib.hid (reqs_of_own hx)
  have B4 := Lib.hid hb4
  obtain ⟨xa, xc, rfl⟩ := own_slZ hx
  clear hx hb4
  go_wp2_with fail
  refine (rentries_any (flatB L) _ w4 HRX.out (by have := flatB_len L HFEW.out L.length (Nat.le_refl _); rw [List.take_length] at this; have := HL20.out; omega)).mono ?_
  rintro e w5 ⟨y, rfl, hy, hb5⟩
  obtain ⟨ya, yc, rfl⟩ := own_slZ hy
  have HEA := Lib.hid (entB_all L)
  have HLE := Lib.hid (show (entB L L.length).length ≤ 160 by have := entB_len HFEW.out L.length (Nat.le_refl _); have := HL20.out; omega)
  obtain ⟨E, hE⟩ : ∃ E, appE [] (flatB L) = E := ⟨_, rfl⟩
  have HEE := Lib.hid hE
  rw [hE] at hy HEA
  rw [HEA.out] at HLE
  obtain ⟨Z, hZ⟩ : ∃ Z : Nat → Prop, LgX C w Z g [] w5 ∧ Dep Z w5 (fun w' => ReqsAt w' (.slice ya E.length yc) E) := by
    refine ⟨fun b => False ∨ (Value.slice ya E.length yc).ownBlock = some b ∧ b < w5.heap.size, H3.out.more (B4.out.trans (hb5.mono B4.out.size)) _ fun b hb => Nat.le_trans B4.out.size (hy.lt b hb).1, ?_⟩
    exact (reqs_dep (A := fun b => (Value.slice ya E.length yc).ownBlock = some b) hy fun b hb => hb).more fun b h hl => .inr ⟨h, hl⟩
  have HZ := Lib.hid hZ
  rw [hE]
  clear hy hb5 hZ hE
  go_wp2_with fail
  go_loopw [9] (fun y wr => ∃ i : Nat, i ≤ L.length ∧ y = .int .i64 (i : Int) ∧ LgX C w Z g (entB L i) wr ∧ Dep Z wr (fun w' => ReqsAt w' (.slice ya E.length yc) E)) (fun y _ => L.length - (intOf y).toNat)
  case atStart => exact ⟨0, Nat.zero_le _, rfl, HZ.out.1, HZ.out.2⟩
  case round =>
    obtain ⟨i, hi, rfl, hst⟩ := hrel
    have HST := Lib.hid hst
    have HI := Lib.hid hi
    have i0 : (0 : Int) ≤ (i : Int) := by omega
    have ib : (i : Int) ≤ 20 := by have := HL20.out; omega
    clear hst hi
    by_cases hlt : i < L.length
    · have hlt' : (i : Int) < (L.length : Int) := by omega
      have HLT := Lib.hid hlt
      have HFW := Lib.hid (HFEW.out i hlt)
      have HSU := Lib.hid (entB_succ hlt)
      obtain ⟨lb, loff, rfl, _, hrq, hat⟩ := bats_at HV.out i hlt
      obtain ⟨P, hP⟩ : ∃ P, L.getD i bt0 = P := ⟨_, rfl⟩
      rw [hP] at hrq hat HFW HSU
      obtain ⟨pv, Q⟩ := P
      replace hrq : ReqsAt w pv Q := hrq
      have HRQ := Lib.hid hrq
      replace hat : ∀ wx, Below w.heap.size w wx → wx.cell? ⟨lb, loff + i, none⟩ = some pv := hat
      obtain ⟨pa, pc, rfl, hx⟩ := hrq
      have HH := Lib.hid hx
      have HAT := Lib.hid hat
      have c0 := hat wr HST.out.1.below
      have HQ8 := Lib.hid (show Q.length ≤ 8 from HFW.out.1)
      -- what each index is
      have HIX := Lib.hid (show ∀ k, k < Q.length → (appI (entB L i) Q).getD k 0 = ixR E (keyR (Q.getD k r0)) from fun k hk => by
        have e1 : flatB L = flatB (L.take (i + 1)) ++ flatB (L.drop (i + 1)) := by
          unfold flatB; rw [← List.flatten_append, ← List.map_append, List.take_append_drop]
        obtain ⟨m, h1, _⟩ := app_ext (flatB (L.drop (i + 1))) (appE [] (flatB (L.take (i + 1))))
        have h2 := app_ix Q (entB L i) m k hk
        rw [show appE (entB L i) Q = appE [] (flatB (L.take (i + 1))) from HSU.out.symm] at h2
        rw [h2, ← h1, ← appE_app, ← e1, HEE.out])
      have HIL := Lib.hid (appI_len Q (entB L i))
      clear hlt hat hP hx
      go_wp2_with fail
      refine (lg_apply C w wr _ g (entB L i) Q _ HT.out HST.out.1 HRQ.out (by have := entB_len HFEW.out i HI.out; have := HL20.out; have := HI.out; omega) (Nat.le_trans HQ8.out (by omega)) (entB_small HFEW.out i HI.out) (few_smallL HFW.out)).mono ?_
      rintro e w6 ⟨u, rfl, h6, hu, hk6⟩
      have H6 := Lib.hid (show LgX C w Z g (entB L (i + 1)) w6 ∧ Dep Z w6 (fun w' => ReqsAt w' (.slice ya E.length yc) E) by rw [HSU.out]; exact ⟨h6, HST.out.2.on hk6⟩)
      obtain ⟨ua, uc, hus⟩ : ∃ a n, u = .slice a Q.length n := by
        obtain ⟨a, n, e, _⟩ := hu
        rw [HIL.out] at e; exact ⟨a, n, e⟩
      subst hus
      have HU := Lib.hid hu
      have t1 : ((Q.length : Int) != (Q.length : Int)) = false := by simp
      clear h6 hu hk6 c0
      have c0 := HAT.out w6 H6.out.1.below
      go_wp2_with fail
      clear c0 t1
      go_loopw [11] (fun y wx => ∃ k : Nat, k ≤ Q.length ∧ y = .int .i64 (k : Int) ∧ Below w6.heap.size w6 wx) (fun y _ => Q.length - (intOf y).toNat)
      case atStart => exact ⟨0, Nat.zero_le _, rfl, Below.refl _ _⟩
      case round =>
        obtain ⟨k, hk, rfl, hbk⟩ := hrel
        have HBK := Lib.hid hbk
        have HK := Lib.hid hk
        have k0 : (0 : Int) ≤ (k : Int) := by omega
        have kb : (k : Int) ≤ 8 := by have := HQ8.out; omega
        clear hk hbk
        by_cases hkt : k < Q.length
        · have hkt' : (k : Int) < (Q.length : Int) := by omega
          have HKT := Lib.hid hkt
          obtain ⟨qb, qoff, rfl, hqw, hcell⟩ : ∃ b off, pa = some ⟨b, off, none⟩ ∧ b < w.heap.size ∧ _ := by
            rcases HH.out with h | h
            · subst h; simp at hkt
            · exact h
          obtain ⟨ub, uoff, rfl, huc⟩ := ints_atL HU.out k (by rw [HIL.out]; exact hkt)
          have HX0 := Lib.hid (HIX.out k hkt)
          obtain ⟨z, hz⟩ : ∃ z, Q.getD k r0 = z := ⟨_, rfl⟩
          obtain ⟨I, hI⟩ : ∃ I, (appI (entB L i) Q).getD k 0 = I := ⟨_, rfl⟩
          rw [hz, hI] at HX0
          have HQC := Lib.hid (fun (wx : World) (hb : Below wr.heap.size wr wx) => (show wx.cell? ⟨qb, qoff + k * 3, none⟩ = some (.int .i64 z.1) ∧ wx.cell? ⟨qb, qoff + k * 3 + 1, none⟩ = some (.int .i64 z.2.1) ∧ wx.cell? ⟨ub, uoff + k, none⟩ = some (.int .i64 I) ∧ wx.cell? ⟨lb, loff + i, none⟩ = some (.slice (some ⟨qb, qoff, none⟩) Q.length pc) from by
            have hb6 := HBK.out.trans (hb.mono HBK.out.size)
            have hbw := H6.out.1.below.trans (hb6.mono H6.out.1.below.size)
            have h := JJ.reqs_at hbw hqw hcell k hkt
            have h2 := huc wx hb6
            rw [hz] at h
            rw [hI] at h2
            exact ⟨h.1, h.2.1, h2, HAT.out wx hbw⟩))
          obtain ⟨zc, zq, zs⟩ := z
          have HCX := Lib.hid (fun wx (hb : Below wr.heap.size wr wx) => rindex_any E (.slice ya E.length yc) zc zq wx ((H6.out.2.now.later (HBK.out.trans (hb.mono HBK.out.size)))) (by have := HLE.out; omega))
          clear hkt hqw hcell huc hz hI
          go_wp2_with fail
          refine plan_abs (fun wx => Below wr.heap.size wr wx) [(true, 0), (true, 1), (true, 2), (true, 3), (true, 4), (true, 5), (true, 6), (true, 7), (true, 8), (true, 9), (true, 10), (true, 11), (true, 12), (true, 13), (true, 14), (true, 15), (true, 16), (true, 17), (true, 18), (true, 19), (true, 20), (false, 21), (true, 22)] (by kernel_rfl) (by kernel_rfl) (fun _ _ d _ _ h => by cases d <;> exact h) fun w7 hs7 => ⟨hs7.below _, ?_⟩
          have Y7 := Lib.hid (hs7.below wr.heap.size)
          clear hs7
          iterate 21 (refine pl_run _ ?_ rfl rfl ?_ ?_; rotate_left; (focus (intro w' hS; obtain ⟨q0, q1, q2, q3⟩ := HQC.out w' hS; go_simp; exact rfl)); simp only [Act.put, List.setIfInBounds_toArray, List.set_cons_zero, List.set_cons_succ, List.getElem_toArray, List.getElem_cons_zero, List.getElem_cons_succ])
          refine pl_call1 _ rfl rfl (by go_simp) (HCX.out w7 Y7.out) (fun w9 hb => Y7.out.trans (hb.mono Y7.out.size)) fun w8 hb8 => ?_
          have Y8 := Lib.hid (HBK.out.trans ((Y7.out.trans (hb8.mono Y7.out.size)).mono HBK.out.size))
          clear hb8 HCX
          simp only [Act.put, List.setIfInBounds_toArray, List.set_cons_zero, List.set_cons_succ, List.getElem_toArray, List.getElem_cons_zero, List.getElem_cons_succ]
          rw [show ixR E (zc, zq) = I from HX0.out.symm]
          have s1 : (I != I) = false := by simp
          iterate 1 (refine pl_run _ ?_ rfl rfl ?_ ?_; rotate_left; (focus (intro w' hS; go_simp; exact rfl)); simp only [Act.put, List.setIfInBounds_toArray, List.set_cons_zero, List.set_cons_succ, List.getElem_toArray, List.getElem_cons_zero, List.getElem_cons_succ])
          refine pl_end ?_
          go_wp2_with fail
          go_roundw
          case rel => exact ⟨k + 1, by have := HKT.out; omega, by go_num, Y8.out⟩
          case measure => have := HKT.out; simp [intOf]; omega
        · obtain rfl : k = Q.length := by have := HK.out; omega
          have hkt' : ¬ (Q.length : Int) < (Q.length : Int) := by omega
          clear hkt
          go_wp2_with fail
          go_roundw
          case rel => exact ⟨i + 1, by have := HLT.out; omega, by go_num, H6.out.1.on HBK.out, H6.out.2.on (Keeps.of HBK.out)⟩
          case measure => have := HLT.out; simp [intOf]; omega
    · obtain rfl : i = L.length := by have := HI.out; omega
      have hlt' : ¬ (L.length : Int) < (L.length : Int) := by omega
      have HS := Lib.hid (show LgX C w Z g E wr ∧ ReqsAt wr (.slice ya E.length yc) E from ⟨HEA.out ▸ HST.out.1, HST.out.2.now⟩)
      clear hlt
      go_wp2_with fail
      refine (lg_index C w wr _ g E c q HS.out.1 (by have := HLE.out; omega) H64.out).mono ?_
      rintro e w6 ⟨rfl, hb6⟩
      have Y6 := Lib.hid hb6
      obtain ⟨m, B, hD, hD1, hD2⟩ := ixV_is E c q
      have HD1 := Lib.hid hD1
      have HD2 := Lib.hid hD2
      rw [hD]
      clear hb6 hD hD1 hD2
      go_wp2_with fail
      refine (rindex_any E _ c q w6 (HS.out.2.later Y6.out) (by have := HLE.out; omega)).mono ?_
      rintro e w7 ⟨rfl, hb7⟩
      have Y7 := Lib.hid (Y6.out.trans (hb7.mono Y6.out.size))
      obtain ⟨X, hX⟩ : ∃ X, ixR E (c, q) = X := ⟨_, rfl⟩
      have HXB := Lib.hid (ix_bound E (c, q))
      rw [hX] at HD1 HD2 HXB ⊢
      clear hb7 hX
      go_wp2_with fail
      refine (lg_entries C w w7 _ g E (HS.out.1.on Y7.out) (by have := HLE.out; omega)).mono ?_
      rintro e w8 ⟨u, rfl, hu, hb8⟩
      have HU := Lib.hid hu
      have Y8 := Lib.hid (Y7.out.trans (hb8.mono Y7.out.size))
      clear hu hb8
      go_wp2_with fail
      refine (rsame11_any E E u _ w8 HU.out (HS.out.2.later Y8.out) (by have := HLE.out; omega)).mono ?_
      rintro e w9 ⟨rfl, hb9⟩
      have Y9 := Lib.hid (Y8.out.trans (hb9.mono Y8.out.size))
      rw [decide_eq_true rfl]
      clear hb9
      go_wp2_with fail
      refine (lg_len C w w9 _ g E (HS.out.1.on Y9.out) (by have := HLE.out; omega)).mono ?_
      rintro e w10 ⟨rfl, hb10⟩
      have BZ := Lib.hid (HS.out.1.below.trans ((Y9.out.trans (hb10.mono Y9.out.size)).mono HS.out.1.below.size))
      have s1 : ((E.length : Int) == (E.length : Int)) = true := by simp
      clear hb10
      by_cases h0 : 0 ≤ X
      · obtain ⟨rfl, rfl⟩ := HD1.out h0
        have d0 : decide ((0 : Int) ≤ m) = true := decide_eq_true h0
        have d1 : max m 0 = m := by omega
        have s2 : (m == m) = true := by simp
        go_wp2_with fail
        go_ret
        exact ⟨rfl, BZ.out⟩
      · obtain ⟨rfl, rfl⟩ := HD2.out (by omega)
        have d0 : decide ((0 : Int) ≤ X) = false := decide_eq_false h0
        have d1 : max X 0 = 0 := by omega
        go_wp2_with fail
        go_ret
        exact ⟨rfl, BZ.out⟩
end Go.Proofs.YtbakceglaadfpaaDoor
end
section
open Go Go.RowKit
namespace LE
open FF JJ CC WW BB
theorem reqs_takeL {w : World} {a : Option Addr} {n c : Nat} {l : List Rq} (h : ReqsAt w (.slice a n c) l) (k c' : Nat) (hk : k ≤ l.length) : ReqsAt w (.slice a k c') (l.take k) := by
  have hl : (l.take k).length = k := by rw [List.length_take]; omega
  obtain ⟨a0, cap, e, h⟩ := h
  injection e with e1 e2 e3
  subst e1
  refine ⟨a, c', by rw [hl], ?_⟩
  rcases h with rfl | ⟨b, off, rfl, hb, hc⟩
  · exact .inl (by simp)
  · refine .inr ⟨b, off, rfl, hb, fun i hi => ?_⟩
    rw [hl] at hi
    have e : (l.take k).getD i (0, 0, ⟨#[]⟩) = l.getD i (0, 0, ⟨#[]⟩) := by
      rw [List.getD_eq_getElem?_getD, List.getD_eq_getElem?_getD, List.getElem?_take, if_pos hi]
    rw [e]
    exact hc i (by omega)
theorem own_capL {w : World} {base n k c : Nat} {e : TypeId} {a : Option Addr} {xs : List Value} (h : w.ownsRow base e k (.slice a n c) n xs) : n ≤ c := by
  rcases h.2 with ⟨h1, h2⟩ | ⟨q, cap, cur, h1, _, _, h4, _⟩
  · omega
  · injection h1 with _ _ h1; omega
theorem small_getD {l : List Rq} (h : SmallL l) (i : Nat) : (l.getD i r0).2.2.size ≤ 100000 := by
  by_cases hi : i < l.length
  · exact (h _ (getD_mem hi)).1
  · rw [List.getD_eq_getElem?_getD, List.getElem?_eq_none (by omega)]; exact Nat.zero_le _
/-- what the digest tells -/
theorem digV_is (E : List Rq) (n : Int) : ∃ (D : ByteArray) (R : Int), digV E n = .tuple #[.string D, .int .i64 R] ∧ ((0 ≤ n ∧ n ≤ (E.length : Int)) → D = digE (E.take n.toNat) ∧ R = 0) ∧ (¬ (0 ≤ n ∧ n ≤ (E.length : Int)) → D = ⟨#[]⟩ ∧ R = 10) := by
  unfold digV
  by_cases h : 0 ≤ n ∧ n ≤ (E.length : Int)
  · rw [if_pos h]; exact ⟨_, _, rfl, fun _ => ⟨rfl, rfl⟩, fun h2 => absurd h h2⟩
  · rw [if_neg h]; exact ⟨_, _, rfl, fun h2 => absurd h2 h, fun _ => ⟨rfl, rfl⟩⟩
theorem atV_is (E : List Rq) (n : Int) : ∃ (c q : Int) (t : ByteArray) (B : Bool), atV E n = .tuple #[.agg #[.int .i64 c, .int .i64 q, .string t], .bool B] ∧ ((0 ≤ n ∧ n < (E.length : Int)) → E.getD n.toNat r0 = (c, q, t) ∧ B = true) ∧ (¬ (0 ≤ n ∧ n < (E.length : Int)) → c = 0 ∧ q = 0 ∧ t = ⟨#[]⟩ ∧ B = false) := by
  unfold atV atR
  by_cases h : 0 ≤ n ∧ n < (E.length : Int)
  · rw [if_pos h, decide_eq_true h]; exact ⟨_, _, _, _, rfl, fun _ => ⟨rfl, rfl⟩, fun h2 => absurd h h2⟩
  · rw [if_neg h, decide_eq_false h]; exact ⟨_, _, _, _, rfl, fun h2 => absurd h2 h, fun _ => ⟨rfl, rfl, rfl, rfl⟩⟩
theorem small_take {l : List Rq} (h : SmallL l) (i : Nat) : SmallL (l.take i) := fun r hr => h r (List.mem_of_mem_take hr)
end LE
namespace Go.Proofs.YtbakceglaadfpaaDoor
open LE ZZ RR FF JJ CC WW BB
theorem under_le (w : World) : (underlying 27).run Tryd.prog w = .ok (.slice 34) w := by kernel_rfl
theorem size_le (w : World) : (Go.sizeOf 34).run Tryd.prog w = .ok 3 w := by kernel_rfl
set_option maxRecDepth 100000 in
set_option maxHeartbeats 16000000 in
theorem lawD13 (C : Code13) (L : List Bt) (v : Value) (n : Int) (w : World) (hT : Tabs w) (hv : BatsAt w v L) (hm : MemBt L) (hn : -9223372036854775808 ≤ n ∧ n ≤ 9223372036854775807) :
    Calls Tryd.prog 4 #[v, .int .i64 n] w fun e w' => e = .returned (.bool true) ∧ Below w.heap.size w w' := by
  have HT := Lib.hid hT
  have HV := Lib.hid hv
  have HM := Lib.hid hm
  have HNN := Lib.hid hn
  obtain ⟨a0, cap, rfl, _⟩ := hv
  clear hT hm hn
  go_enter Tryd.func4, Tryd.ntmps4
  go_wp2_with fail
  refine (awake13_any C w HT.out).mono ?_
  rintro e w1 ⟨rfl, hb1⟩
  have B1 := Lib.hid hb1
  clear hb1
  go_wp2_with fail
  refine (few13_any L _ 20 w1 (HV.out.later B1.out) HM.out).mono ?_
  rintro e w2 ⟨X, rfl, hX, hb2⟩
  have B2 := Lib.hid (B1.out.trans (hb2.mono B1.out.size))
  have HX := Lib.hid hX
  clear hX hb2
  cases X with
  | false =>
    go_wp2_with fail
    refine (awake13_any C w2 (tabs_on HT.out B2.out)).mono ?_
    rintro e wz ⟨rfl, hbz⟩
    have BZ := Lib.hid (B2.out.trans (hbz.mono B2.out.size))
    go_wp2_with fail
    go_ret
    exact ⟨rfl, BZ.out⟩
  | true =>
  have HL20 := Lib.hid (show L.length ≤ 20 by have := (HX.out rfl).1; omega)
  have HFEW := Lib.hid (fun i (hi : i < L.length) => (HX.out rfl).2 i hi (by have := HL20.out; omega))
  go_wp2_with fail
  refine (lg_new C w w2 HT.out B2.out).mono ?_
  rintro e w3 ⟨g, rfl, h3, _⟩
  have H3 := Lib.hid (h3.less (Z' := fun _ => False) fun _ h => h.elim)
  clear h3
  go_wp2_with fail
  go_loopw [6] (fun y wr => ∃ i : Nat, i ≤ L.length ∧ y = .int .i64 (i : Int) ∧ LgX C w (fun _ => False) g (entB L i) wr) (fun y _ => L.length - (intOf y).toNat)
  case atStart => exact ⟨0, Nat.zero_le _, rfl, H3.out⟩
  case round =>
    obtain ⟨i, hi, rfl, hst⟩ := hrel
    have HST := Lib.hid hst
    have HI := Lib.hid hi
    have i0 : (0 : Int) ≤ (i : Int) := by omega
    have ib : (i : Int) ≤ 20 := by have := HL20.out; omega
    clear hst hi
    by_cases hlt : i < L.length
    · have hlt' : (i : Int) < (L.length : Int) := by omega
      have HLT := Lib.hid hlt
      have HFW := Lib.hid (HFEW.out i hlt)
      have HSU := Lib.hid (entB_succ hlt)
      obtain ⟨lb, loff, rfl, _, hrq, hat⟩ := bats_at HV.out i hlt
      obtain ⟨P, hP⟩ : ∃ P, L.getD i bt0 = P := ⟨_, rfl⟩
      rw [hP] at hrq hat HFW HSU
      obtain ⟨pv, Q⟩ := P
      have HRQ := Lib.hid (show ReqsAt w pv Q from hrq)
      replace hat : ∀ wx, Below w.heap.size w wx → wx.cell? ⟨lb, loff + i, none⟩ = some pv := hat
      have c0 := hat wr HST.out.below
      clear hlt hat hP hrq
      go_wp2_with fail
      refine (lg_apply C w wr _ g (entB L i) Q pv HT.out HST.out HRQ.out (by have := entB_len HFEW.out i HI.out; have := HL20.out; have := HI.out; omega) (Nat.le_trans HFW.out.1 (by omega)) (entB_small HFEW.out i HI.out) (few_smallL HFW.out)).mono ?_
      rintro e w5 ⟨u, rfl, h5, _⟩
      have H5 := Lib.hid (show LgX C w (fun _ => False) g (entB L (i + 1)) w5 by rw [HSU.out]; exact h5)
      clear h5 c0
      go_wp2_with fail
      go_roundw
      case rel => exact ⟨i + 1, by have := HLT.out; omega, by go_num, H5.out⟩
      case measure => have := HLT.out; simp [intOf]; omega
    · obtain rfl : i = L.length := by have := HI.out; omega
      have hlt' : ¬ (L.length : Int) < (L.length : Int) := by omega
      have HLE := Lib.hid (show (entB L L.length).length ≤ 160 by have := entB_len HFEW.out L.length (Nat.le_refl _); have := HL20.out; omega)
      have HSM := Lib.hid (entB_small HFEW.out L.length (Nat.le_refl _))
      have HEA := Lib.hid (entB_all L)
      obtain ⟨E, hE⟩ : ∃ E, entB L L.length = E := ⟨_, rfl⟩
      rw [hE] at HST HLE HSM HEA
      clear hlt hE
      go_wp2_with fail
      refine (all13_any L _ wr (HV.out.later HST.out.below) (by have := HL20.out; omega) HFEW.out).mono ?_
      rintro e w4 ⟨x, rfl, hx, hb4⟩
      have HRX := Lib.hid (reqs_of_own hx)
      have B4 := Lib.hid hb4
      obtain ⟨xa, xc, rfl⟩ := own_slZ hx
      clear hx hb4
      go_wp2_with fail
      refine (rentries_any (flatB L) _ w4 HRX.out (by have := flatB_len L HFEW.out L.length (Nat.le_refl _); rw [List.take_length] at this; have := HL20.out; omega)).mono ?_
      rintro e w5 ⟨y, rfl, hy, hb5⟩
      rw [← HEA.out] at hy
      have HRY := Lib.hid (reqs_of_own hy)
      obtain ⟨ya, yc, rfl⟩ := own_slZ hy
      have HCY := Lib.hid (own_capL hy)
      have H5 := Lib.hid ((HST.out.on B4.out).on hb5)
      clear hy hb5
      go_wp2_with fail
      refine (lg_digest C w w5 _ g E n HT.out H5.out (by have := HLE.out; omega) HSM.out).mono ?_
      rintro e w6 ⟨rfl, hb6⟩
      have H6 := Lib.hid (H5.out.on hb6)
      have Y6 := Lib.hid hb6
      obtain ⟨D, R, hD, hD1, hD2⟩ := digV_is E n
      have HD1 := Lib.hid hD1
      have HD2 := Lib.hid hD2
      rw [hD]
      clear hb6 hD hD1 hD2
      go_wp2_with fail
      refine (lg_at C w w6 _ g E n H6.out (by have := HLE.out; omega)).mono ?_
      rintro e w7 ⟨rfl, hb7⟩
      have H7 := Lib.hid (H6.out.on hb7)
      have Y7 := Lib.hid (Y6.out.trans (hb7.mono Y6.out.size))
      obtain ⟨zc, zq, zs, B, hZ, hZ1, hZ2⟩ := atV_is E n
      have HZ1 := Lib.hid hZ1
      have HZ2 := Lib.hid hZ2
      rw [hZ]
      clear hb7 hZ hZ1 hZ2
      have XI := Lib.hid (show Blk (w7.alloc (.cells #[.int .i64 0, .int .i64 0, .string ⟨#[]⟩] 34)) w7.heap.size 3 (rowL [.int .i64 0, .int .i64 0, .string ⟨#[]⟩]) from Blk.new' rfl (row3_ _ _ _))
      have z0 := XI.out.frz 0
      have z1 := XI.out.frz 1
      have z2 := XI.out.frz 2
      go_upto_region 11 with fail
      clear z0 z1 z2 XI
      have A8 := Lib.hid ((Below.refl w7.heap.size w7).alloc (Nat.le_refl _) (.cells #[.int .i64 zc, .int .i64 zq, .string zs] 34))
      have XI := Lib.hid (show Blk (w7.alloc (.cells #[.int .i64 zc, .int .i64 zq, .string zs] 34)) w7.heap.size 3 (rowL [.int .i64 zc, .int .i64 zq, .string zs]) from Blk.new' rfl (row3_ _ _ _))
      have Y8 := Lib.hid (Y7.out.trans (A8.out.mono Y7.out.size))
      have B8 := Lib.hid (H5.out.below.trans (Y8.out.mono H5.out.below.size))
      obtain ⟨y, hy⟩ : ∃ y, w7.heap.size = y := ⟨_, rfl⟩
      obtain ⟨w8, hw8⟩ : ∃ w8, w7.alloc (.cells #[.int .i64 zc, .int .i64 zq, .string zs] 34) = w8 := ⟨_, rfl⟩
      rw [hw8] at XI Y8 B8
      rw [hy] at XI
      rw [hw8, hy]
      clear A8 hw8 hy
      obtain ⟨c0, c1, c2⟩ := cells3 XI.out
      have n1 := HNN.out.1
      have n2 := HNN.out.2
      have eb := HLE.out
      by_cases h0 : n < 0
      · obtain ⟨rfl, rfl, rfl, rfl⟩ := HZ2.out (by omega)
        obtain ⟨rfl, rfl⟩ := HD2.out (by omega)
        have t0 : ¬ (0 : Int) ≤ n := by omega
        have d0 : decide ((0 : Int) ≤ n) = false := decide_eq_false t0
        have d1 : decide (n < 0) = true := decide_eq_true h0
        go_wp2_with fail
        go_quiet (fail)
        go_wp2_with fail
        go_ret
        exact ⟨rfl, below_drewI B8.out _⟩
      · have t0 : (0 : Int) ≤ n := by omega
        have d0 : decide ((0 : Int) ≤ n) = true := decide_eq_true t0
        have d1 : decide (n < 0) = false := decide_eq_false h0
        by_cases h1 : n < (E.length : Int)
        · obtain ⟨hgd, rfl⟩ := HZ1.out ⟨t0, h1⟩
          obtain ⟨rfl, rfl⟩ := HD1.out ⟨t0, by omega⟩
          obtain ⟨k, rfl⟩ := Int.eq_ofNat_of_zero_le t0
          have hk : k < E.length := by omega
          replace hgd : E.getD k r0 = (zc, zq, zs) := hgd
          have HKL := Lib.hid hk
          have i0 : (0 : Int) ≤ (k : Int) := by omega
          have ib : (k : Int) ≤ 160 := by omega
          obtain ⟨a1, cc1, he, h | ⟨b, off, e1, hbw, hcell⟩⟩ := HRY.out
          · rw [h] at hk; simp at hk
          injection he with he1 _ he3
          subst he1 he3 e1
          have HQ := Lib.hid (fun (wx : World) (hb : Below w8.heap.size w8 wx) => (show wx.cell? ⟨b, off + k * 3, none⟩ = some (.int .i64 zc) ∧ wx.cell? ⟨b, off + k * 3 + 1, none⟩ = some (.int .i64 zq) ∧ wx.cell? ⟨b, off + k * 3 + 2, none⟩ = some (.string zs) from by
            have h := JJ.reqs_at (Y8.out.trans (hb.mono Y8.out.size)) hbw hcell k hk
            rw [hgd] at h; exact h))
          have HC := Lib.hid (fun (wx : World) (hb : Below w8.heap.size w8 wx) => cells3 (XI.out.below hb XI.out.lt))
          have s1 : (zc == zc) = true := by simp
          have s2 : (zq == zq) = true := by simp
          have s3 : (zs.toList == zs.toList) = true := by simp
          have t1 : ¬ (E.length : Int) < (k : Int) := by omega
          have d2 : decide ((E.length : Int) < (k : Int)) = false := decide_eq_false t1
          have d3 : decide ((k : Int) < (E.length : Int)) = true := decide_eq_true h1
          have hkn : ((k : Int)).toNat = k := by simp
          rw [hkn]
          obtain ⟨T, hTT⟩ : ∃ T, digE (E.take k) = T := ⟨_, rfl⟩
          have HTT := Lib.hid hTT
          rw [hTT]
          clear hTT hbw hcell hgd hkn
          clear c0 c1 c2
          go_wp2_with fail
          refine plan_abs (fun wx => Below w8.heap.size w8 wx) [(true, 0), (true, 1), (true, 2), (true, 3), (true, 4), (true, 5), (true, 6), (true, 7), (true, 8), (true, 9), (true, 10), (true, 11), (true, 12), (true, 13), (true, 14), (true, 15), (true, 16), (true, 17), (true, 18), (true, 19), (true, 20), (true, 21), (true, 22), (true, 23), (true, 24), (true, 25), (true, 26), (true, 27), (true, 28), (true, 29)] (by kernel_rfl) (by kernel_rfl) (fun _ _ d _ _ h => by cases d <;> exact h) fun w9 hs9 => ⟨hs9.below _, ?_⟩
          have Y9 := Lib.hid (hs9.below w8.heap.size)
          clear hs9
          iterate 25 (refine pl_run _ ?_ rfl rfl ?_ ?_; rotate_left; (focus (intro w' hS; obtain ⟨q0, q1, q2⟩ := HQ.out w' hS; obtain ⟨c0, c1, c2⟩ := HC.out w' hS; go_simp; exact rfl)); simp only [Act.put, List.setIfInBounds_toArray, List.set_cons_zero, List.set_cons_succ, List.getElem_toArray, List.getElem_cons_zero, List.getElem_cons_succ])
          iterate 3 (refine pl_off _ rfl rfl ?_; simp only [Act.put, List.setIfInBounds_toArray, List.set_cons_zero, List.set_cons_succ, List.getElem_toArray, List.getElem_cons_zero, List.getElem_cons_succ])
          iterate 2 (refine pl_run _ ?_ rfl rfl ?_ ?_; rotate_left; (focus (intro w' hS; go_simp; exact rfl)); simp only [Act.put, List.setIfInBounds_toArray, List.set_cons_zero, List.set_cons_succ, List.getElem_toArray, List.getElem_cons_zero, List.getElem_cons_succ])
          refine pl_end ?_
          have Y59 := Lib.hid (Y8.out.trans (Y9.out.mono Y8.out.size))
          go_wp2_with (with_reducible refine hold_slice11 rfl ?_)
          refine wpl_slice_hi11 (.tmp 96) (.tmp 97) (by rfl) rfl (by rfl) (by rfl) (under_le _) (size_le _) (by have := HKL.out; have := HCY.out; omega) ?_
          go_wp2_with fail
          refine (rdigest_any (E.take k) _ w9 (reqs_takeL (HRY.out.later Y59.out) k _ (by have := HKL.out; omega)) (by rw [List.length_take]; have := HLE.out; omega) (fun i => small_getD (small_take HSM.out k) i)).mono ?_
          rintro e w10 ⟨rfl, hb10⟩
          have B10 := Lib.hid ((H5.out.below.trans (Y59.out.mono H5.out.below.size)).trans (hb10.mono ((H5.out.below.trans (Y59.out.mono H5.out.below.size))).size))
          rw [HTT.out]
          have s4 : (T.toList == T.toList) = true := by simp
          clear hb10
          go_wp2_with fail
          go_ret
          exact ⟨rfl, B10.out⟩
        · obtain ⟨rfl, rfl, rfl, rfl⟩ := HZ2.out (by omega)
          have d3 : decide (n < (E.length : Int)) = false := decide_eq_false h1
          by_cases h2 : (E.length : Int) < n
          · obtain ⟨rfl, rfl⟩ := HD2.out (by omega)
            have d2 : decide ((E.length : Int) < n) = true := decide_eq_true h2
            go_wp2_with fail
            go_quiet (fail)
            go_wp2_with fail
            go_ret
            exact ⟨rfl, below_drewI B8.out _⟩
          · obtain ⟨rfl, rfl⟩ := HD1.out ⟨t0, by omega⟩
            have d2 : decide ((E.length : Int) < n) = false := decide_eq_false h2
            go_wp2_with fail
            go_quiet (fail)
            obtain ⟨k, rfl⟩ := Int.eq_ofNat_of_zero_le t0
            have HKL := Lib.hid (show k ≤ E.length by omega)
            have i0 : (0 : Int) ≤ (k : Int) := by omega
            have ib : (k : Int) ≤ 160 := by omega
            have hkn : ((k : Int)).toNat = k := by simp
            rw [hkn]
            obtain ⟨T, hTT⟩ : ∃ T, digE (E.take k) = T := ⟨_, rfl⟩
            have HTT := Lib.hid hTT
            rw [hTT]
            clear hTT hkn
            go_wp2_with (with_reducible refine hold_slice11 rfl ?_)
            refine wpl_slice_hi11 (.tmp 96) (.tmp 97) (by rfl) rfl (by rfl) (by rfl) (under_le _) (size_le _) (by have := HKL.out; have := HCY.out; omega) ?_
            go_wp2_with fail
            refine (rdigest_any (E.take k) _ _ (reqs_takeL (HRY.out.later (below_drewI Y8.out _)) k _ (by have := HKL.out; omega)) (by rw [List.length_take]; have := HLE.out; omega) (fun i => small_getD (small_take HSM.out k) i)).mono ?_
            rintro e w10 ⟨rfl, hb10⟩
            have B10 := Lib.hid ((H5.out.below.trans ((below_drewI Y8.out _).mono H5.out.below.size)).trans (hb10.mono ((H5.out.below.trans ((below_drewI Y8.out _).mono H5.out.below.size))).size))
            rw [HTT.out]
            have s4 : (T.toList == T.toList) = true := by simp
            clear hb10
            go_wp2_with fail
            go_ret
            exact ⟨rfl, B10.out⟩
end Go.Proofs.YtbakceglaadfpaaDoor
end
section
open Go Go.RowKit
namespace LE
open FF JJ CC WW BB
theorem run_slice_at {P : Program} {w : World} {t e sz b off n cap lo hi : Nat} (hU : (underlying t).run P w = .ok (.slice e) w) (hS : (Go.sizeOf e).run P w = .ok sz w) (h1 : lo < hi) (h2 : hi ≤ cap) :
    (Instr.sliceAt t (.slice (some ⟨b, off, none⟩) n cap) (some (.int .i64 (lo : Int))) (some (.int .i64 (hi : Int))) none).run P w = .ok (.slice (some ⟨b, off + lo * sz, none⟩) (hi - lo) (cap - lo)) w := by
  have h4 : (⟨b, off, none⟩ : Addr).add (lo * sz) = ⟨b, off + lo * sz, none⟩ := ZZ.add_plain _ _ _
  have h5 : ¬ cap = lo := by omega
  have h6 : lo ≤ hi := by omega
  unfold Instr.sliceAt Instr.slice
  simp [hU, Instr.sliceBounds, Instr.sliceBound, asIntOf, hS, h2, h4, h5, h6]
theorem wpl_slice_at {P : Program} {ops : Array Oper} {Q : Exit → Act → World → Prop} {a : Act} {w : World} {rest : List Oper} {o : Oper} {t e sz b off n cap lo hi : Nat} (x y z : Operand) (hg : Region.wanted o (yielded ops a.tmps) = true) (ho : o.op = .slice t x (some y) (some z) none)
    (hx : a.eval x = .slice (some ⟨b, off, none⟩) n cap) (hy : a.eval y = .int .i64 (lo : Int)) (hz : a.eval z = .int .i64 (hi : Int)) (hU : (underlying t).run P w = .ok (.slice e) w) (hS : (Go.sizeOf e).run P w = .ok sz w) (h1 : lo < hi) (h2 : hi ≤ cap)
    (hK : wpList P ops Q rest (a.put o.dst (.slice (some ⟨b, off + lo * sz, none⟩) (hi - lo) (cap - lo))) w) : wpList P ops Q (o :: rest) a w := by
  have := run_slice_at (P := P) (b := b) (off := off) (n := n) hU hS h1 h2
  have h : (execOp a.eval o).run P w = .ok (.value (.slice (some ⟨b, off + lo * sz, none⟩) (hi - lo) (cap - lo))) w := by
    unfold execOp
    simp only [ho, Option.map_some, Option.map_none, hx, hy, hz, Sem.run_bind, this, Result.andThen_ok, Sem.run_pure]
  unfold wpList
  rw [if_pos hg]
  left
  unfold Oper.wp
  rw [h]
  exact hK
/-- one of a slice -/
theorem reqs_one {w : World} {b off n c k c' : Nat} {l : List Rq} (h : ReqsAt w (.slice (some ⟨b, off, none⟩) n c) l) (hk : k < l.length) : ReqsAt w (.slice (some ⟨b, off + k * 3, none⟩) 1 c') [l.getD k r0] := by
  obtain ⟨a0, cap, e, h⟩ := h
  injection e with e1 e2 e3
  subst e1
  refine ⟨_, c', rfl, ?_⟩
  rcases h with rfl | ⟨b', off', e, hb, hc⟩
  · simp at hk
  · injection e with e
    injection e with e1 e2
    subst e1 e2
    refine .inr ⟨_, _, rfl, hb, fun i hi => ?_⟩
    obtain rfl : i = 0 := by simp at hi; omega
    rw [show [l.getD k r0].getD 0 (0, 0, ⟨#[]⟩) = l.getD k (0, 0, ⟨#[]⟩) from rfl]
    simpa using hc k hk
/-- the two ledgers, in disjoint blocks -/
theorem LgX.swap {w0 w : World} {g1 g2 : Nat} {E1 E2 : List Rq} {At : (Nat → Prop) → World → Nat → List Rq → Prop} (lt : ∀ {O w g E}, At O w g E → ∀ b, O b → b < w.heap.size) {O2 : Nat → Prop} (h2 : At O2 w g2 E2) (h0 : ∀ b, O2 b → w0.heap.size ≤ b)
    (h : ∃ O, At O w g1 E1 ∧ (∀ b, O b → w0.heap.size ≤ b ∧ ¬ O2 b) ∧ Below w0.heap.size w0 w ∧ ∀ b, O2 b → b < w.heap.size) :
    ∃ O1, At O1 w g1 E1 ∧ (∃ O, At O w g2 E2 ∧ (∀ b, O b → w0.heap.size ≤ b ∧ ¬ O1 b) ∧ Below w0.heap.size w0 w ∧ ∀ b, O1 b → b < w.heap.size) ∧ ∀ b, O1 b → w0.heap.size ≤ b := by
  obtain ⟨O, k1, k2, k3, _⟩ := h
  exact ⟨O, k1, ⟨O2, h2, fun b hb => ⟨h0 b hb, fun h => (k2 b h).2 hb⟩, k3, lt k1⟩, fun b hb => (k2 b hb).1⟩
theorem appE_one {l : List Rq} {i : Nat} (h : i < l.length) : appE [] (l.take (i + 1)) = appE (appE [] (l.take i)) [l.getD i r0] := appE_take h
theorem app_smallL {b E : List Rq} (h1 : SmallL E) (h2 : SmallL b) : SmallL (appE E b) := fun r hr => (app_sub hr).elim (h1 r) (h2 r)
theorem small_upto {l : List Rq} {i : Nat} (h64 : ∀ r ∈ l, In64 (keyR r)) (h : ∀ j, j < i → (l.getD j r0).2.2.size ≤ 60) : SmallL (l.take i) := fun r hr => by
  refine ⟨?_, h64 r (List.mem_of_mem_take hr)⟩
  obtain ⟨j, hj, e⟩ := mem_getD (d := r0) hr
  rw [List.length_take] at hj
  have h1 : (l.take i).getD j r0 = l.getD j r0 := by rw [List.getD_eq_getElem?_getD, List.getD_eq_getElem?_getD, List.getElem?_take, if_pos (by omega)]
  have := h j (by omega)
  rw [← e, h1]; omega
end LE
namespace Go.Proofs.YtbakceglaadfpaaDoor
open LE ZZ RR FF JJ CC WW BB
set_option maxRecDepth 100000 in
set_option maxHeartbeats 16000000 in
theorem lawP13 (C : Code13) (l : List Rq) (v : Value) (w : World) (hT : Tabs w) (hv : ReqsAt w v l) (hm : MemRq l) (hc : ∀ a n c, v = .slice a n c → n ≤ c) :
    Calls Tryd.prog 6 #[v] w fun e w' => e = .returned (.bool true) ∧ Below w.heap.size w w' := by
  have HT := Lib.hid hT
  have HV := Lib.hid hv
  have HM := Lib.hid hm
  obtain ⟨a0, cap, rfl, hx⟩ := hv
  have HH := Lib.hid hx
  have hlm := hm.1
  have HCAP := Lib.hid (hc _ _ _ rfl)
  clear hT hm hx hc
  go_enter Tryd.func6, Tryd.ntmps6
  go_wp2_with fail
  refine (awake13_any C w HT.out).mono ?_
  rintro e w1 ⟨rfl, hb1⟩
  have B1 := Lib.hid hb1
  clear hb1
  by_cases h60 : (60 : Int) < (l.length : Int)
  · go_wp2_with fail
    refine (awake13_any C w1 (tabs_on HT.out B1.out)).mono ?_
    rintro e wz ⟨rfl, hbz⟩
    have BZ := Lib.hid (B1.out.trans (hbz.mono B1.out.size))
    go_wp2_with fail
    go_ret
    exact ⟨rfl, BZ.out⟩
  have HL := Lib.hid (show l.length ≤ 60 by omega)
  have d60 : decide ((60 : Int) < (l.length : Int)) = false := decide_eq_false h60
  clear h60
  go_wp2_with fail
  refine (lg_new C w w1 HT.out B1.out).mono ?_
  rintro e w2 ⟨g1, rfl, h2, _⟩
  have H2 := Lib.hid h2
  clear h2
  go_wp2_with fail
  refine (C.new w2 (tabs_on HT.out H2.out.below)).mono ?_
  rintro e w3 ⟨g2, O2, rfl, k1, k2, k3⟩
  have HS := Lib.hid (show LgX C w O2 g1 [] w3 from ((H2.out.less (Z' := fun _ => False) fun _ h => h.elim).more k3 O2 k2).less fun b hb => .inr ⟨hb, C.lt k1 b hb⟩)
  have HY := Lib.hid k1
  have HO2 := Lib.hid (show ∀ b, O2 b → w.heap.size ≤ b from fun b hb => Nat.le_trans H2.out.below.size (k2 b hb))
  clear k1 k2 k3 d60
  go_wp2_with fail
  go_loopw [5] (fun y wr => ∃ i : Nat, i ≤ l.length ∧ y = .int .i64 (i : Int) ∧ LgX C w O2 g1 (appE [] (l.take i)) wr ∧ C.At O2 wr g2 [] ∧ ∀ j, j < i → (l.getD j r0).2.2.size ≤ 60) (fun y _ => l.length - (intOf y).toNat)
  case atStart => exact ⟨0, Nat.zero_le _, rfl, HS.out, HY.out, fun j hj => absurd hj (Nat.not_lt_zero _)⟩
  case round =>
    obtain ⟨i, hi, rfl, hst⟩ := hrel
    have HST := Lib.hid hst
    have HI := Lib.hid hi
    have i0 : (0 : Int) ≤ (i : Int) := by omega
    have ib : (i : Int) ≤ 60 := by have := HL.out; omega
    clear hst hi
    by_cases hlt : i < l.length
    · have hlt' : (i : Int) < (l.length : Int) := by omega
      have HLT := Lib.hid hlt
      have HSU := Lib.hid (appE_one hlt)
      obtain ⟨b, off, rfl, hbw, hcell⟩ : ∃ b off, a0 = some ⟨b, off, none⟩ ∧ b < w.heap.size ∧ _ := by
        rcases HH.out with h | h
        · subst h; simp at hlt
        · exact h
      obtain ⟨q0, q1, q2⟩ := JJ.reqs_at HST.out.1.below hbw hcell i hlt
      have HZM := Lib.hid (HM.out.2 _ (getD_mem (d := r0) hlt))
      have HONE := Lib.hid (fun c' => reqs_one (c' := c') HV.out hlt)
      obtain ⟨z, hz⟩ : ∃ z, l.getD i r0 = z := ⟨_, rfl⟩
      have HZ := Lib.hid hz
      rw [hz] at q0 q1 q2 HZM HONE HSU
      have hzm := HZM.out.1
      clear hlt hbw hcell hz q0 q1
      by_cases h60 : (60 : Int) < (z.2.2.size : Int)
      · go_wp2_with fail
        go_ret
        exact ⟨rfl, HST.out.1.below⟩
      · have HZ6 := Lib.hid (show z.2.2.size ≤ 60 by omega)
        have d60 : decide ((60 : Int) < (z.2.2.size : Int)) = false := decide_eq_false h60
        clear h60
        go_wp2_with (with_reducible refine hold_slice11 rfl ?_)
        refine wpl_slice_at (lo := i) (hi := i + 1) (.tmp 34) (.tmp 35) (.tmp 37) (by rfl) rfl (by rfl) (by rfl) (by simp [Act.eval]) (under_le _) (size_le _) (by omega) (by have := HLT.out; have := HCAP.out; omega) ?_
        rw [Nat.add_sub_cancel_left]
        obtain ⟨c', hc'⟩ : ∃ c', cap - i = c' := ⟨_, rfl⟩
        rw [hc']
        clear hc' q2
        have HSM := Lib.hid (show SmallL (appE [] (l.take i)) from app_smallL (fun _ h => by cases h) (small_upto (fun r hr => (HM.out.2 r hr).2) HST.out.2.2))
        have HEL := Lib.hid (show (appE [] (l.take i)).length ≤ 60 from Nat.le_trans (appE_len l i) HL.out)
        go_wp2_with fail
        refine (lg_apply C w wr O2 g1 _ [z] _ HT.out HST.out.1 (HONE.out c') (by have := HEL.out; omega) (by show 1 ≤ 100; omega) HSM.out (fun r hr => by rw [List.mem_singleton.1 hr]; exact ⟨by have := HZ6.out; omega, HZM.out.2⟩)).mono ?_
        rintro e w5 ⟨u, rfl, h5, _, hk5⟩
        have H5 := Lib.hid (show LgX C w O2 g1 (appE [] (l.take (i + 1))) w5 ∧ C.At O2 w5 g2 [] from ⟨by rw [HSU.out]; exact h5, C.keep HST.out.2.1 hk5⟩)
        clear h5 hk5
        go_wp2_with fail
        go_roundw
        case rel => exact ⟨i + 1, by have := HLT.out; omega, by go_num, H5.out.1, H5.out.2, fun j hj => if h : j = i then by subst h; rw [HZ.out]; exact HZ6.out else HST.out.2.2 j (by omega)⟩
        case measure => have := HLT.out; simp [intOf]; omega
    · obtain rfl : i = l.length := by have := HI.out; omega
      have hlt' : ¬ (l.length : Int) < (l.length : Int) := by omega
      obtain ⟨O1, k1, k2, k3⟩ := LgX.swap (At := C.At) (w0 := w) (w := wr) (g1 := g1) (g2 := g2) (E1 := appE [] (l.take l.length)) (E2 := []) (fun h => C.lt h) HST.out.2.1 HO2.out HST.out.1
      rw [List.take_length] at k1
      have K2 := Lib.hid (show LgX C w O1 g2 [] wr from k2)
      have K1 := Lib.hid k1
      have HSL := Lib.hid (show SmallL l by have := small_upto (fun r hr => (HM.out.2 r hr).2) HST.out.2.2; rw [List.take_length] at this; exact this)
      have HEL := Lib.hid (show (appE [] l).length ≤ 60 by have := appE_len l l.length; rw [List.take_length] at this; exact Nat.le_trans this HL.out)
      have HES := Lib.hid (show SmallL (appE [] l) from app_smallL (fun _ h => by cases h) HSL.out)
      clear k1 k2 k3 hlt
      go_wp2_with fail
      refine (lg_apply C w wr O1 g2 [] l _ HT.out K2.out HV.out (Nat.zero_le _) (by have := HL.out; omega) (fun _ h => by cases h) HSL.out).mono ?_
      rintro e w5 ⟨u, rfl, h5, _, hk5⟩
      obtain ⟨E, hE⟩ : ∃ E, appE [] l = E := ⟨_, rfl⟩
      rw [hE] at HEL HES h5 K1
      have X5 := Lib.hid (show C.At O1 w5 g1 E from C.keep K1.out hk5)
      have H5 := Lib.hid h5
      have HE1 := Lib.hid (show E.length ≤ 1000 by have := HEL.out; omega)
      have HDV := Lib.hid (show digV E (E.length : Int) = .tuple #[.string (digE E), .int .i64 0] by
        unfold digV
        rw [if_pos ⟨by omega, Int.le_refl _⟩, Int.toNat_natCast, List.take_length])
      obtain ⟨T, hTT⟩ : ∃ T, digE E = T := ⟨_, rfl⟩
      rw [hTT] at HDV
      clear h5 hk5 hE hTT
      go_wp2_with fail
      refine (C.len O1 w5 g1 E X5.out HE1.out).mono ?_
      rintro e w6 ⟨rfl, hb6⟩
      have Y6 := Lib.hid hb6
      clear hb6
      go_wp2_with fail
      refine (C.digest O1 w6 g1 E _ (C.keep X5.out (Keeps.of Y6.out)) (tabs_on HT.out (H5.out.on Y6.out).below) HE1.out HES.out).mono ?_
      rintro e w7 ⟨rfl, hb7⟩
      rw [HDV.out]
      have Y7 := Lib.hid (Y6.out.trans (hb7.mono Y6.out.size))
      clear hb7
      go_wp2_with fail
      refine (lg_len C w w7 _ g2 E (H5.out.on Y7.out) HE1.out).mono ?_
      rintro e w8 ⟨rfl, hb8⟩
      have Y8 := Lib.hid (Y7.out.trans (hb8.mono Y7.out.size))
      clear hb8
      go_wp2_with fail
      refine (lg_digest C w w8 _ g2 E _ HT.out (H5.out.on Y8.out) HE1.out HES.out).mono ?_
      rintro e w9 ⟨rfl, hb9⟩
      rw [HDV.out]
      have Y9 := Lib.hid (Y8.out.trans (hb9.mono Y8.out.size))
      clear hb9
      go_wp2_with fail
      refine (C.entries O1 w9 g1 E (C.keep X5.out (Keeps.of Y9.out)) HE1.out).mono ?_
      rintro e w10 ⟨u1, R1, rfl, _, hd1, _, hb10⟩
      have U1 := Lib.hid hd1.now
      have Y10 := Lib.hid (Y9.out.trans (hb10.mono Y9.out.size))
      clear hd1 hb10
      go_wp2_with fail
      refine (lg_entries C w w10 _ g2 E (H5.out.on Y10.out) HE1.out).mono ?_
      rintro e w11 ⟨u2, rfl, hu2, hb11⟩
      have U2 := Lib.hid hu2
      have U3 := Lib.hid (U1.out.later hb11)
      have Y11 := Lib.hid (Y10.out.trans (hb11.mono Y10.out.size))
      clear hu2 hb11
      go_wp2_with fail
      refine (rsame11_any E E u1 u2 w11 U3.out U2.out HE1.out).mono ?_
      rintro e w12 ⟨rfl, hb12⟩
      have BZ := Lib.hid (H5.out.below.trans ((Y11.out.trans (hb12.mono Y11.out.size)).mono H5.out.below.size))
      rw [decide_eq_true rfl]
      have s1 : (T.toList == T.toList) = true := by simp
      clear hb12
      go_wp2_with fail
      go_ret
      exact ⟨rfl, BZ.out⟩
end Go.Proofs.YtbakceglaadfpaaDoor
end
