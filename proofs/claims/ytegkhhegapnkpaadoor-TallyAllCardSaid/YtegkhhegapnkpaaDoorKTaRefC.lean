/-
  The walk of the reference's Add, of a vote whose view and block may be (layer 14).
-/
import Derived.Test.YtegkhhegapnkpaaDoorKTaMath
import Derived.Test.YtegkhhegapnkpaaDoorKGWait
import Derived.Test.YtegkhhegapnkpaaDoorKJCopy
import Derived.Test.YtegkhhegapnkpaaDoorKEText
import Derived.Test.YtegkhhegapnkpaaDoorKFAdopt
import Derived.Test.YtegkhhegapnkpaaDoorKPlanE
import Derived.Test.YtegkhhegapnkpaaDoorKFAt
import Derived.Test.YtegkhhegapnkpaaDoorKMLawS
import Derived.Test.YtegkhhegapnkpaaDoorKWFewS
import Derived.Test.YtegkhhegapnkpaaDoorKEHolds
import Derived.Test.YtegkhhegapnkpaaDoorKPlanG
import Derived.Test.YtegkhhegapnkpaaDoorKWZeroR
import Derived.Test.YtegkhhegapnkpaaDoorKLNum
import Derived.Maps.AppendAt
import Derived.Test.YtegkhhegapnkpaaDoorKFPutB
import Derived.Test.YtegkhhegapnkpaaDoorKERefS
import Derived.Test.YtegkhhegapnkpaaDoorKJRow
section
open Go Go.RowKit
namespace TA
open FF JJ CC MM WW BB
theorem low14 {A : Nat → Prop} {w w' : World} {n : Nat} (h : Keeps A w w') (hA : ∀ b, b < n → A b) (hn : n ≤ w.heap.size) : Below n w w' :=
  ⟨h.b0.os, h.b0.tape, h.b0.output, h.b0.size, fun k hk => h.block k (hA k hk) (Nat.lt_of_lt_of_le hk hn)⟩
/-- a number of 64 bits -/
def I64 (x : Int) : Prop := -9223372036854775808 ≤ x ∧ x ≤ 9223372036854775807
/-- the certificate that Add tells: nought, or that of the votes, in blocks from B on -/
def CertOf (B : Nat) (T : Ta) (x : Vt) (w : World) (cv : Value) : Prop :=
  (toldT T x = false → ∃ a c, cv = .agg #[.int .i64 0, .string ⟨#[]⟩, .slice a 0 c]) ∧
  (toldT T x = true → ∃ (L : List Sg) (sv : Value), L.map bare = sigsT (addT T x).votes x.1 x.2.1 ∧ cv = .agg #[.int .i64 x.1, .string x.2.1, sv] ∧ SigsNew B w sv ((mkL L).map bare))
/-- what a call's vote must be of, that it is looked at -/
structure Vote14 (T : Ta) (x : Vt) : Prop where
  v : I64 x.1
  f : I64 x.2.2.1
  n : I64 T.n
  d : I64 T.node
  k : x.2.1.size ≤ 1000
  tags : x.2.2.2.length ≤ 1000
  small : ∀ t ∈ x.2.2.2, t.size ≤ 1000
  seed : T.seed.size ≤ 1000
end TA
namespace Go.Proofs.YtegkhhegapnkpaaDoor
open TA FF JJ CC MM WW BB
structure Code14 where
  At : (Nat → Prop) → World → Nat → Ta → Prop
  keep : ∀ {O w w' g T}, At O w g T → Keeps O w w' → At O w' g T
  lt : ∀ {O w g T}, At O w g T → ∀ b, O b → b < w.heap.size
  new : ∀ w (s : ByteArray) (d n : Int), s.size ≤ 1000 → Calls Tryd.prog 54 #[.string s, .int .i64 d, .int .i64 n] w fun e w' => ∃ g O, e = .returned (.pointer (some ⟨g, 0, none⟩)) ∧ At O w' g (newT s d n) ∧ (∀ b, O b → w.heap.size ≤ b) ∧ Below w.heap.size w w'
  add : ∀ (O A : Nat → Prop) w g T (x : Vt) (tv : Value), At O w g T → InvTa T → Tabs w → (∀ b, O b → NoTab b) → Dep A w (fun w' => StrsAt w' tv x.2.2.2) → (∀ b, A b → ¬ O b) → Vote14 T x →
    Calls Tryd.prog 57 #[.pointer (some ⟨g, 0, none⟩), .int .i64 x.1, .string x.2.1, .agg #[.int .i64 x.2.2.1, tv]] w fun e w' => ∃ cv O', e = .returned (.tuple #[cv, .bool (toldT T x)]) ∧ At O' w' g (addT T x) ∧ Keeps (fun b => ¬ O b) w w' ∧ (∀ b, O' b → O b ∨ w.heap.size ≤ b) ∧ CertOf w.heap.size T x w' cv
  below : ∀ O w g T (v : Int), At O w g T → InvTa T → I64 v →
    Calls Tryd.prog 55 #[.pointer (some ⟨g, 0, none⟩), .int .i64 v] w fun e w' => e = .returned (.tuple #[]) ∧ ∃ O', At O' w' g (belowT T v) ∧ Keeps (fun b => ¬ O b) w w' ∧ ∀ b, O' b → O b ∨ w.heap.size ≤ b
  len : ∀ O w g T, At O w g T → InvTa T → Calls Tryd.prog 61 #[.pointer (some ⟨g, 0, none⟩)] w fun e w' => e = .returned (.int .i64 (T.votes.length : Int)) ∧ Below w.heap.size w w'
  count : ∀ O w g T (v : Int) (k : ByteArray), At O w g T → InvTa T → I64 v → k.size ≤ 1000 → Calls Tryd.prog 62 #[.pointer (some ⟨g, 0, none⟩), .int .i64 v, .string k] w fun e w' => e = .returned (.int .i64 (cntL T.votes v k : Int)) ∧ Below w.heap.size w w'
/-- the tally behind calls of a law that began in w0; it holds none of the blocks of Z -/
def TaX (C : Code14) (w0 : World) (Z : Nat → Prop) (g : Nat) (T : Ta) (w : World) : Prop := ∃ O, C.At O w g T ∧ (∀ b, O b → w0.heap.size ≤ b ∧ ¬ Z b) ∧ Below w0.heap.size w0 w ∧ ∀ b, Z b → b < w.heap.size
theorem TaX.below {C : Code14} {w0 w : World} {Z : Nat → Prop} {g : Nat} {T : Ta} (h : TaX C w0 Z g T w) : Below w0.heap.size w0 w := by obtain ⟨_, _, _, h, _⟩ := h; exact h
theorem TaX.on {C : Code14} {w0 w w' : World} {Z : Nat → Prop} {g : Nat} {T : Ta} (h : TaX C w0 Z g T w) (hb : Below w.heap.size w w') : TaX C w0 Z g T w' := by
  obtain ⟨O, h1, h2, h3, h4⟩ := h
  exact ⟨O, C.keep h1 (Keeps.of hb), h2, h3.trans (hb.mono h3.size), fun b hz => Nat.lt_of_lt_of_le (h4 b hz) hb.size⟩
/-- fewer blocks -/
theorem TaX.less {C : Code14} {w0 w : World} {Z Z' : Nat → Prop} {g : Nat} {T : Ta} (h : TaX C w0 Z g T w) (hz : ∀ b, Z' b → Z b) : TaX C w0 Z' g T w := by
  obtain ⟨O, h1, h2, h3, h4⟩ := h
  exact ⟨O, h1, fun b hO => ⟨(h2 b hO).1, fun h => (h2 b hO).2 (hz b h)⟩, h3, fun b h => h4 b (hz b h)⟩
/-- what another call has made is none of its blocks -/
theorem TaX.more {C : Code14} {w0 w w' : World} {Z : Nat → Prop} {g : Nat} {T : Ta} (h : TaX C w0 Z g T w) (hb : Below w.heap.size w w') (Z' : Nat → Prop) (hz : ∀ b, Z' b → w.heap.size ≤ b) : TaX C w0 (fun b => Z b ∨ Z' b ∧ b < w'.heap.size) g T w' := by
  obtain ⟨O, h1, h2, h3, h4⟩ := h
  refine ⟨O, C.keep h1 (Keeps.of hb), fun b hO => ⟨(h2 b hO).1, fun h => h.elim (h2 b hO).2 fun h => ?_⟩, h3.trans (hb.mono h3.size), fun b hz => hz.elim (fun h => Nat.lt_of_lt_of_le (h4 b h) hb.size) fun h => h.2⟩
  have := C.lt h1 b hO
  have := hz b h.1
  omega
/-- another call has turned none but blocks of Z, and made new ones -/
theorem TaX.turn {C : Code14} {w0 w w' : World} {Z Z' : Nat → Prop} {g : Nat} {T : Ta} (h : TaX C w0 Z g T w) (hk : Keeps (fun b => ¬ Z b) w w') (hl : ∀ b, Z b → w0.heap.size ≤ b) (hz : ∀ b, Z' b → Z b ∨ w.heap.size ≤ b ∧ b < w'.heap.size) : TaX C w0 Z' g T w' := by
  obtain ⟨O, h1, h2, h3, h4⟩ := h
  refine ⟨O, C.keep h1 (hk.sub fun b hb _ => (h2 b hb).2), fun b hO => ⟨(h2 b hO).1, fun h => ?_⟩, h3.trans (low14 hk (fun b hb hz => by have := hl b hz; omega) h3.size), fun b h => ?_⟩
  · rcases hz b h with h | h
    · exact (h2 b hO).2 h
    · have := C.lt h1 b hO; omega
  · rcases hz b h with h | h
    · exact Nat.lt_of_lt_of_le (h4 b h) hk.b0.size
    · exact h.2
theorem notab14 {w : World} (hT : Tabs w) : ∀ b, w.heap.size ≤ b → NoTab b := fun b hb => ⟨fun e => by have := hT.l1; omega, fun e => by have := hT.l2; omega, fun e => by have := hT.l3; omega⟩
theorem ta_new (C : Code14) (w0 w : World) (s : ByteArray) (d n : Int) (hb : Below w0.heap.size w0 w) (hs : s.size ≤ 1000) : Calls Tryd.prog 54 #[.string s, .int .i64 d, .int .i64 n] w fun e w' => ∃ g, e = .returned (.pointer (some ⟨g, 0, none⟩)) ∧ TaX C w0 (fun b => w0.heap.size ≤ b ∧ b < w.heap.size) g (newT s d n) w' ∧ Below w.heap.size w w' :=
  (C.new w s d n hs).mono fun _ _ ⟨g, O, he, h1, h2, h3⟩ => ⟨g, he, ⟨O, h1, fun b hO => ⟨Nat.le_trans hb.size (h2 b hO), fun h => by have := h2 b hO; omega⟩, hb.trans (h3.mono hb.size), fun b h => Nat.lt_of_lt_of_le h.2 h3.size⟩, h3⟩
/-- a vote whose tags rest upon blocks that aren't the tally's -/
theorem ta_add (C : Code14) (w0 w : World) (Z : Nat → Prop) (g : Nat) (T : Ta) (x : Vt) (tv : Value) (hT : Tabs w0) (h : TaX C w0 Z g T w) (hi : InvTa T) (A : Nat → Prop) (hv : Dep A w (fun w' => StrsAt w' tv x.2.2.2)) (hA : ∀ b, A b → b < w0.heap.size ∨ Z b) (hx : Vote14 T x) :
    Calls Tryd.prog 57 #[.pointer (some ⟨g, 0, none⟩), .int .i64 x.1, .string x.2.1, .agg #[.int .i64 x.2.2.1, tv]] w fun e w' => ∃ cv, e = .returned (.tuple #[cv, .bool (toldT T x)]) ∧ TaX C w0 Z g (addT T x) w' ∧ Keeps Z w w' ∧ CertOf w.heap.size T x w' cv := by
  obtain ⟨O, h1, h2, h3, h4⟩ := h
  refine (C.add O A w g T x tv h1 hi (hT.below h3 (Nat.le_refl _)) (fun b hO => notab14 hT b (h2 b hO).1) hv (fun b hb hO => (hA b hb).elim (fun h => by have := (h2 b hO).1; omega) (h2 b hO).2) hx).mono ?_
  rintro e w' ⟨cv, O', he, k1, k2, k3, k4⟩
  refine ⟨cv, he, ⟨O', k1, fun b hb => ⟨(k3 b hb).elim (fun h => (h2 b h).1) (Nat.le_trans h3.size), fun hz => ?_⟩, h3.trans (low14 k2 (fun b hb hO => by have := (h2 b hO).1; omega) h3.size), fun b hz => Nat.lt_of_lt_of_le (h4 b hz) k2.b0.size⟩, k2.sub fun b hz _ hO => (h2 b hO).2 hz, k4⟩
  rcases k3 b hb with h | h
  · exact (h2 b h).2 hz
  · have := h4 b hz; omega
theorem ta_below (C : Code14) (w0 w : World) (Z : Nat → Prop) (g : Nat) (T : Ta) (v : Int) (h : TaX C w0 Z g T w) (hi : InvTa T) (hv : I64 v) :
    Calls Tryd.prog 55 #[.pointer (some ⟨g, 0, none⟩), .int .i64 v] w fun e w' => e = .returned (.tuple #[]) ∧ TaX C w0 Z g (belowT T v) w' ∧ Keeps Z w w' := by
  obtain ⟨O, h1, h2, h3, h4⟩ := h
  refine (C.below O w g T v h1 hi hv).mono ?_
  rintro e w' ⟨he, O', k1, k2, k3⟩
  refine ⟨he, ⟨O', k1, fun b hb => ⟨(k3 b hb).elim (fun h => (h2 b h).1) (Nat.le_trans h3.size), fun hz => ?_⟩, h3.trans (low14 k2 (fun b hb hO => by have := (h2 b hO).1; omega) h3.size), fun b hz => Nat.lt_of_lt_of_le (h4 b hz) k2.b0.size⟩, k2.sub fun b hz _ hO => (h2 b hO).2 hz⟩
  rcases k3 b hb with h | h
  · exact (h2 b h).2 hz
  · have := h4 b hz; omega
theorem ta_len (C : Code14) (w0 w : World) (Z : Nat → Prop) (g : Nat) (T : Ta) (h : TaX C w0 Z g T w) (hi : InvTa T) : Calls Tryd.prog 61 #[.pointer (some ⟨g, 0, none⟩)] w fun e w' => e = .returned (.int .i64 (T.votes.length : Int)) ∧ Below w.heap.size w w' := by
  obtain ⟨O, h1, _⟩ := h
  exact C.len O w g T h1 hi
theorem ta_count (C : Code14) (w0 w : World) (Z : Nat → Prop) (g : Nat) (T : Ta) (v : Int) (k : ByteArray) (h : TaX C w0 Z g T w) (hi : InvTa T) (hv : I64 v) (hk : k.size ≤ 1000) : Calls Tryd.prog 62 #[.pointer (some ⟨g, 0, none⟩), .int .i64 v, .string k] w fun e w' => e = .returned (.int .i64 (cntL T.votes v k : Int)) ∧ Below w.heap.size w w' := by
  obtain ⟨O, h1, _⟩ := h
  exact C.count O w g T v k h1 hi hv hk
end Go.Proofs.YtegkhhegapnkpaaDoor
end
section
open Go Go.RowKit
namespace TA
open RR FF CC MM WW BB
/-- a call that is off, and the only one that may come up -/
theorem pl_offS {P : Program} {ops : Array Oper} {S : World → Prop} {Q : Exit → Act → World → Prop} {i : Nat} {r : List (Bool × Nat)} {a : Act} {w : World} (o : Oper) (ho : ops[i]? = some o) (hg : Region.wanted o (yielded ops a.tmps) = false) (hS : S w) (hK : wpPlan P ops Q S r (a.put o.dst undef) w) : wpPlan P ops Q S ((false, i) :: r) a w := by
  show wpOp P ops Q i _ a w
  unfold wpOp
  simp only [ho, hg]
  exact ⟨hS, hK⟩
/-- a vote in memory: its tags' slice, its last field -/
abbrev Vw := Vt × Value × Bool
def vw0 : Vw := (vt0, .slice none 0 0, false)
def encW (x : Vw) : List Value := [.int .i64 x.1.1, .string x.1.2.1, .int .i64 x.1.2.2.1, x.2.1, .bool x.2.2]
def cellsW (L : List Vw) : List Value := (L.map encW).flatten
theorem cellsW_snoc (L : List Vw) (x : Vw) : cellsW (L ++ [x]) = cellsW L ++ encW x := by unfold cellsW; rw [List.map_append, List.flatten_append]; simp
theorem cellsW_len (L : List Vw) : (cellsW L).length = L.length * 5 := by
  induction L with
  | nil => rfl
  | cons x r ih => show (encW x ++ cellsW r).length = _; rw [List.length_append, ih, List.length_cons]; show 5 + _ = _; omega
theorem cellsW_at : ∀ (L : List Vw) (i j : Nat) (u : Value), i < L.length → (encW (L.getD i vw0))[j]? = some u → (cellsW L)[i * 5 + j]? = some u
  | [], i, _, _, h, _ => by simp at h
  | x :: r, 0, j, u, _, hu => by
    show (encW x ++ cellsW r)[0 * 5 + j]? = some u
    have hu : (encW x)[j]? = some u := hu
    have hj : j < 5 := (List.getElem?_eq_some_iff.1 hu).1
    rw [Nat.zero_mul, Nat.zero_add, List.getElem?_append_left (by show j < 5; exact hj)]; exact hu
  | x :: r, i + 1, j, u, h, hu => by
    show (encW x ++ cellsW r)[(i + 1) * 5 + j]? = some u
    rw [List.getElem?_append_right (by show 5 ≤ _; omega), show (i + 1) * 5 + j - (encW x).length = i * 5 + j by show (i + 1) * 5 + j - 5 = _; omega]
    exact cellsW_at r i j u (by simpa using h) hu
theorem row_shape14 {w : World} {B k n : Nat} {e : TypeId} {v : Value} {xs : List Value} (h : w.ownsRow B e k v n xs) : ∃ a c, v = .slice a n c := by
  rcases h.2 with ⟨rfl, h0⟩ | ⟨q, cap, cur, rfl, _⟩
  · exact ⟨none, 0, by rw [h0]⟩
  · exact ⟨_, _, rfl⟩
theorem own_votes {w : World} {B : Nat} {e : TypeId} {v : Value} {L : List Vw} (h : w.ownsRow B e 5 v L.length (cellsW L)) (i : Nat) (hi : i < L.length) :
    ∃ q cap, v = .slice (some ⟨q, 0, none⟩) L.length cap ∧ q < w.heap.size ∧ ∀ wx : World, wx.heap[q]? = w.heap[q]? → wx.cell? ⟨q, i * 5, none⟩ = some (.int .i64 (L.getD i vw0).1.1) ∧ wx.cell? ⟨q, i * 5 + 1, none⟩ = some (.string (L.getD i vw0).1.2.1) ∧
      wx.cell? ⟨q, i * 5 + 2, none⟩ = some (.int .i64 (L.getD i vw0).1.2.2.1) ∧ wx.cell? ⟨q, i * 5 + 3, none⟩ = some (L.getD i vw0).2.1 ∧ wx.cell? ⟨q, i * 5 + 4, none⟩ = some (.bool (L.getD i vw0).2.2) := by
  rcases h.2 with ⟨_, h0⟩ | ⟨g, cap, cur, rfl, hg, hh, hn, hcm, hsz, htk⟩
  · omega
  · refine ⟨g, cap, rfl, (Array.getElem?_eq_some_iff.1 hh).1, fun wx hx => ?_⟩
    have key : ∀ j u, (encW (L.getD i vw0))[j]? = some u → wx.cell? ⟨g, i * 5 + j, none⟩ = some u := fun j u hu => by
      have h1 := cellsW_at L i j u hi hu
      have hj : j < 5 := (List.getElem?_eq_some_iff.1 hu).1
      rw [← htk, List.getElem?_take_of_lt (by omega), Array.getElem?_toList] at h1
      unfold World.cell?; rw [hx, hh]; simpa using h1
    exact ⟨key 0 _ rfl, key 1 _ rfl, key 2 _ rfl, key 3 _ rfl, key 4 _ rfl⟩
theorem own_flat14 {w w' : World} {B k n c : Nat} {e : TypeId} {a0 : Option Addr} {xs : List Value} (h : w.ownsRow B e k (.slice a0 n c) n xs) (hb : Below w.heap.size w w') : (a0 = none → n = 0) ∧ ∀ a, a0 = some a → ∀ j u, xs[j]? = some u → w'.cell? (a.add j) = some u := by
  rcases h.2 with ⟨h1, h0⟩ | ⟨g, cap, cur, h1, hg, hh, hn, hcm, hsz, htk⟩
  · injection h1 with h1 _ _
    refine ⟨fun _ => h0, fun a ha => ?_⟩
    rw [h1] at ha; cases ha
  · injection h1 with h1 _ _
    refine ⟨fun ha => ?_, fun a ha j u hu => ?_⟩
    · rw [h1] at ha; cases ha
    · rw [h1] at ha
      injection ha with ha
      subst ha
      have hl : g < w.heap.size := (Array.getElem?_eq_some_iff.1 hh).1
      have hj : j < n * k := by rw [← h.1]; exact (List.getElem?_eq_some_iff.1 hu).1
      rw [← htk, List.getElem?_take_of_lt hj, Array.getElem?_toList] at hu
      have e : (⟨g, 0, none⟩ : Addr).add j = ⟨g, j, none⟩ := by unfold Addr.add; split <;> simp [*]
      rw [e]
      refine (hb.cell (p := ⟨g, j, none⟩) hl).trans ?_
      unfold World.cell?; rw [hh]; simpa using hu
/-- the reference's tally's cells -/
def taF (T : Ta) (rv : Value) : Nat → Value := rowL [.string T.seed, .int .i64 T.node, .int .i64 T.n, .int .i64 T.under, rv]
theorem cells5 {w : World} {g : Nat} {a b c d e : Value} (h : Blk w g 5 (rowL [a, b, c, d, e])) : w.cell? ⟨g, 0, none⟩ = some a ∧ w.cell? ⟨g, 1, none⟩ = some b ∧ w.cell? ⟨g, 2, none⟩ = some c ∧ w.cell? ⟨g, 3, none⟩ = some d ∧ w.cell? ⟨g, 4, none⟩ = some e :=
  ⟨h.get 0 (by omega), h.get 1 (by omega), h.get 2 (by omega), h.get 3 (by omega), h.get 4 (by omega)⟩
theorem row5_ (a b c d e : Value) : (#[a, b, c, d, e] : Array Value) = row 5 (rowL [a, b, c, d, e]) := rfl
/-- the reference's tally in the box y: it is T -/
structure RtM (w : World) (tO : TypeId) (B y : Nat) (T : Ta) (L : List Vw) (rv : Value) : Prop where
  blk : Blk w y 5 (taF T rv)
  row : w.ownsRow B tO 5 rv L.length (cellsW L)
  fst : L.map Prod.fst = T.votes
  sl : ∀ x ∈ L, ∃ a n c, x.2.1 = .slice a n c
  ne : rv.ownBlock ≠ some y
theorem RtM.on {w w' : World} {tO : TypeId} {B y : Nat} {T : Ta} {L : List Vw} {rv : Value} (h : RtM w tO B y T L rv) (hk : Keeps (fun b => b = y ∨ rv.ownBlock = some b) w w') : RtM w' tO B y T L rv :=
  ⟨h.blk.of_heap (hk.block y (.inl rfl) h.blk.lt), row_keep h.row fun c hc => hk.block c (.inr hc) (h.row.lt c hc).2, h.fst, h.sl, h.ne⟩
theorem RtM.len {w : World} {tO : TypeId} {B y : Nat} {T : Ta} {L : List Vw} {rv : Value} (h : RtM w tO B y T L rv) : L.length = T.votes.length := by rw [← h.fst, List.length_map]
theorem RtM.at_ {w : World} {tO : TypeId} {B y : Nat} {T : Ta} {L : List Vw} {rv : Value} (h : RtM w tO B y T L rv) (i : Nat) (hi : i < L.length) : (L.getD i vw0).1 = T.votes.getD i vt0 := by
  rw [← h.fst, List.getD_eq_getElem?_getD, List.getElem?_eq_getElem hi, List.getD_eq_getElem?_getD, List.getElem?_map, List.getElem?_eq_getElem hi]; rfl
theorem cntL_take {L : List Vt} {i : Nat} (h : i < L.length) (v : Int) (k : ByteArray) : cntL (L.take (i + 1)) v k = cntL (L.take i) v k + if ofV v k (L.getD i vt0) = true then 1 else 0 := by
  rw [List.take_add_one, List.getElem?_eq_getElem h, List.getD_eq_getElem?_getD, List.getElem?_eq_getElem h]
  exact cntL_snoc _ _ _ _
theorem cntL_le (L : List Vt) (v : Int) (k : ByteArray) : cntL L v k ≤ L.length := List.length_filter_le _ _
/-- what holds asks first -/
def pre14 (T : Ta) (f : Int) (m : Nat) : Bool := decide (1 ≤ T.n ∧ T.n ≤ 7 ∧ 0 ≤ T.node ∧ T.node < T.n ∧ 0 ≤ f ∧ f < T.n ∧ (m : Int) = T.n)
theorem holds_pre {T : Ta} {t : ByteArray} {f : Int} {ts : List ByteArray} (h : pre14 T f ts.length = false) : holdsB T.seed T.node T.n t f ts = false := by
  have h := of_decide_eq_false h
  cases hh : holdsB T.seed T.node T.n t f ts with
  | false => rfl
  | true =>
    obtain ⟨h1, h2, h3⟩ := holds_of hh
    have h1 := among_of h1
    have h2 := among_of h2
    have h3 := (shaped_of h3).1
    exact absurd ⟨h1.1, h1.2.1, h1.2.2.1, h1.2.2.2, h2.2.2.1, h2.2.2.2, h3⟩ h
theorem holds_in {T : Ta} {t : ByteArray} {f : Int} {ts : List ByteArray} (h : pre14 T f ts.length = true) : holdsB T.seed T.node T.n t f ts = ((ts.all fun t => decide (t.size = 16)) && ((ts.getD T.node.toNat ⟨#[]⟩).toList == (tagB T.seed f T.node t).toList)) := by
  obtain ⟨h1, h2, h3, h4, h5, h6, h7⟩ := of_decide_eq_true h
  unfold holdsB shapedB
  rw [among_mk h1 h2 h3 h4, among_mk h1 h2 h5 h6, Bool.true_and, Bool.true_and, decide_eq_true h7, Bool.true_and]
end TA
namespace Go.Proofs.YtegkhhegapnkpaaDoor
open TA RR FF JJ CC MM WW BB
set_option maxRecDepth 100000 in
set_option maxHeartbeats 4000000 in
theorem rholds_no (T : Ta) (x : Vt) (b : Bool) (ta : Option Addr) (tc y : Nat) (rv : Value) (w : World) (hb : Blk w y 5 (taF T rv)) (hp : pre14 T x.2.2.1 x.2.2.2.length = false) :
    Calls Tryd.prog 114 #[.pointer (some ⟨y, 0, none⟩), .agg #[.int .i64 x.1, .string x.2.1, .int .i64 x.2.2.1, .slice ta x.2.2.2.length tc, .bool b]] w fun e w' => e = .returned (.bool false) ∧ Below w.heap.size w w' := by
  obtain ⟨v, k, f, ts⟩ := x
  obtain ⟨s, d, n, un, V⟩ := T
  have hp : ¬ (1 ≤ n ∧ n ≤ 7 ∧ 0 ≤ d ∧ d < n ∧ 0 ≤ f ∧ f < n ∧ (ts.length : Int) = n) := of_decide_eq_false hp
  obtain ⟨m, hm⟩ : ∃ m, ts.length = m := ⟨_, rfl⟩
  simp only [hm] at hp ⊢
  have HB := Lib.hid hb
  have B1 := Lib.hid ((Below.refl w.heap.size w).alloc (Nat.le_refl _) (.cells #[.int .i64 v, .string k, .int .i64 f, .slice ta m tc, .bool b] 100))
  have L1 := Lib.hid (show Blk (w.alloc (.cells #[.int .i64 v, .string k, .int .i64 f, .slice ta m tc, .bool b] 100)) w.heap.size 5 (rowL [.int .i64 v, .string k, .int .i64 f, .slice ta m tc, .bool b]) from Blk.new' rfl (row5_ _ _ _ _ _))
  clear hb hm
  go_enter Tryd.func114, Tryd.ntmps114
  go_upto_region 1 with fail
  obtain ⟨y0, hy0⟩ : ∃ y0, w.heap.size = y0 := ⟨_, rfl⟩
  obtain ⟨w1, hw1⟩ : ∃ w1, w.alloc (.cells #[.int .i64 v, .string k, .int .i64 f, .slice ta m tc, .bool b] 100) = w1 := ⟨_, rfl⟩
  rw [hw1] at B1 L1 ⊢
  rw [hy0] at L1 ⊢
  obtain ⟨c0, c1, c2, c3, c4⟩ := cells5 (show Blk w1 y 5 (rowL [.string s, .int .i64 d, .int .i64 n, .int .i64 un, rv]) from HB.out.below B1.out HB.out.lt)
  obtain ⟨d0, d1, d2, d3, d4⟩ := cells5 L1.out
  clear hw1 hy0
  by_cases h0 : n < 1
  · have t0 : decide (n < 1) = true := decide_eq_true h0
    clear h0 hp
    go_quiet (fail)
    go_wp2_with fail
    go_ret
    exact ⟨rfl, B1.out.trans (((Same.drewN _ _).below _).mono B1.out.size)⟩
  have t0 : decide (n < 1) = false := decide_eq_false h0
  by_cases h1 : 7 < n
  · have t1 : decide (7 < n) = true := decide_eq_true h1
    clear h0 h1 hp
    go_quiet (fail)
    go_wp2_with fail
    go_ret
    exact ⟨rfl, B1.out.trans (((Same.drewN _ _).below _).mono B1.out.size)⟩
  have t1 : decide (7 < n) = false := decide_eq_false h1
  by_cases h2 : d < 0
  · have t2 : decide (d < 0) = true := decide_eq_true h2
    clear h0 h1 h2 hp
    go_quiet (fail)
    go_wp2_with fail
    go_ret
    exact ⟨rfl, B1.out.trans (((Same.drewN _ _).below _).mono B1.out.size)⟩
  have t2 : decide (d < 0) = false := decide_eq_false h2
  by_cases h3 : n ≤ d
  · have t3 : decide (n ≤ d) = true := decide_eq_true h3
    clear h0 h1 h2 h3 hp
    go_quiet (fail)
    go_wp2_with fail
    go_ret
    exact ⟨rfl, B1.out.trans (((Same.drewN _ _).below _).mono B1.out.size)⟩
  have t3 : decide (n ≤ d) = false := decide_eq_false h3
  by_cases h4 : f < 0
  · have t4 : decide (f < 0) = true := decide_eq_true h4
    clear h0 h1 h2 h3 h4 hp
    go_quiet (fail)
    go_wp2_with fail
    go_ret
    exact ⟨rfl, B1.out.trans (((Same.drewN _ _).below _).mono B1.out.size)⟩
  have t4 : decide (f < 0) = false := decide_eq_false h4
  by_cases h5 : n ≤ f
  · have t5 : decide (n ≤ f) = true := decide_eq_true h5
    clear h0 h1 h2 h3 h4 h5 hp
    go_quiet (fail)
    go_wp2_with fail
    go_ret
    exact ⟨rfl, B1.out.trans (((Same.drewN _ _).below _).mono B1.out.size)⟩
  have t5 : decide (n ≤ f) = false := decide_eq_false h5
  have t6 : ((m : Int) != n) = true := by
    rw [bne_iff_ne]
    intro e
    exact hp (by omega)
  clear h0 h1 h2 h3 h4 h5 hp
  go_quiet (fail)
  go_wp2_with fail
  go_ret
  exact ⟨rfl, B1.out.trans (((Same.drewN _ _).below _).mono B1.out.size)⟩
set_option maxRecDepth 100000 in
set_option maxHeartbeats 4000000 in
theorem rcount_any (T : Ta) (L : List Vw) (rv : Value) (y B : Nat) (v : Int) (k : ByteArray) (w : World) (h : RtM w 100 B y T L rv) (hl : T.votes.length ≤ 1000) :
    Calls Tryd.prog 59 #[.pointer (some ⟨y, 0, none⟩), .int .i64 v, .string k] w fun e w' => e = .returned (.int .i64 (cntL T.votes v k : Int)) ∧ Below w.heap.size w w' := by
  have H := Lib.hid h
  have HL := Lib.hid (show L.length ≤ 1000 by rw [h.len]; exact hl)
  have HLL := Lib.hid h.len
  obtain ⟨ra, rc, rfl⟩ := row_shape14 h.row
  clear h hl
  go_enter Tryd.func59, Tryd.ntmps59
  go_wp2_with fail
  go_loopw [7, 8] (fun u x wr => ∃ i : Nat, i ≤ L.length ∧ x = .int .i64 (i : Int) ∧ u = .int .i64 (cntL (T.votes.take i) v k : Int) ∧ Below w.heap.size w wr) (fun _ x _ => L.length - (intOf x).toNat)
  case atStart => exact ⟨0, Nat.zero_le _, rfl, rfl, Below.refl _ _⟩
  case round =>
    obtain ⟨i, hi, rfl, rfl, hbr⟩ := hrel
    have HBR := Lib.hid hbr
    have HI := Lib.hid hi
    have i0 : (0 : Int) ≤ (i : Int) := by omega
    have ib : (i : Int) ≤ 1000 := by have := HL.out; omega
    obtain ⟨c0, c1, c2, c3, c4⟩ := cells5 (show Blk wr y 5 (rowL [.string T.seed, .int .i64 T.node, .int .i64 T.n, .int .i64 T.under, .slice ra L.length rc]) from H.out.blk.below hbr H.out.blk.lt)
    obtain ⟨z, hz⟩ : ∃ z, cntL (T.votes.take i) v k = z := ⟨_, rfl⟩
    have HZ := Lib.hid hz
    have zb : (z : Int) ≤ 1000 := by have := cntL_le (T.votes.take i) v k; rw [hz, List.length_take] at this; omega
    have z0 : (0 : Int) ≤ (z : Int) := by omega
    rw [hz]
    clear hbr hi hz
    by_cases hlt : i < L.length
    · have hlt' : (i : Int) < (L.length : Int) := by omega
      have HLT := Lib.hid hlt
      have HSN := Lib.hid (cntL_take (L := T.votes) (i := i) (by rw [← HLL.out]; exact hlt) v k)
      obtain ⟨q, cap, he, hq, hc⟩ := own_votes H.out.row i hlt
      injection he with e1 _ e3
      subst e1 e3
      obtain ⟨p0, p1, _⟩ := hc wr (HBR.out.block q hq)
      rw [H.out.at_ i hlt] at p0 p1
      obtain ⟨x, hx⟩ : ∃ x, T.votes.getD i vt0 = x := ⟨_, rfl⟩
      rw [hx] at p0 p1 HSN
      obtain ⟨xv, xk, xf, xt⟩ := x
      replace p0 : wr.cell? ⟨q, i * 5, none⟩ = some (.int .i64 xv) := p0
      replace p1 : wr.cell? ⟨q, i * 5 + 1, none⟩ = some (.string xk) := p1
      clear hlt hc hx hq
      by_cases h1 : xv = v
      · have t1 : (xv == v) = true := by simpa using h1
        by_cases h2 : xk = k
        · have t2 : (xk.toList == k.toList) = true := by rw [h2]; simp
          have HK := Lib.hid (show cntL (T.votes.take (i + 1)) v k = z + 1 by rw [HSN.out, HZ.out, if_pos (show ofV v k (xv, xk, xf, xt) = true from decide_eq_true ⟨h1, h2⟩)])
          clear h1 h2
          go_wp2_with fail
          go_roundw
          case rel => exact ⟨i + 1, by have := HLT.out; omega, by go_num, by rw [HK.out]; go_num, HBR.out⟩
          case measure => have := HLT.out; simp [intOf]; omega
        · have t2 := ba_beq h2
          have HK := Lib.hid (show cntL (T.votes.take (i + 1)) v k = z by rw [HSN.out, HZ.out, if_neg (show ¬ ofV v k (xv, xk, xf, xt) = true from fun h => h2 (of_decide_eq_true h).2)]; rfl)
          clear h1 h2
          go_wp2_with fail
          go_roundw
          case rel => exact ⟨i + 1, by have := HLT.out; omega, by go_num, by rw [HK.out], HBR.out⟩
          case measure => have := HLT.out; simp [intOf]; omega
      · have t1 : (xv == v) = false := by simpa using h1
        have HK := Lib.hid (show cntL (T.votes.take (i + 1)) v k = z by rw [HSN.out, HZ.out, if_neg (show ¬ ofV v k (xv, xk, xf, xt) = true from fun h => h1 (of_decide_eq_true h).1)]; rfl)
        clear h1
        go_wp2_with fail
        go_roundw
        case rel => exact ⟨i + 1, by have := HLT.out; omega, by go_num, by rw [HK.out], HBR.out⟩
        case measure => have := HLT.out; simp [intOf]; omega
    · obtain rfl : i = L.length := by have := HI.out; omega
      have hlt' : ¬ (L.length : Int) < (L.length : Int) := by omega
      have HK := Lib.hid (show cntL T.votes v k = z by rw [← HZ.out, HLL.out, List.take_length])
      clear hlt
      go_wp2_with fail
      go_ret
      exact ⟨by rw [HK.out]; rfl, HBR.out⟩
end Go.Proofs.YtegkhhegapnkpaaDoor
end
section
open Go Go.RowKit
namespace TA
open RR FF CC MM WW BB
/-- the calls of a law, in memory -/
def OpsA (w : World) (v : Value) (L : List Vw) : Prop :=
  ∃ a0 cap, v = .slice a0 L.length cap ∧ (L = [] ∨ ∃ b off, a0 = some ⟨b, off, none⟩ ∧ b < w.heap.size ∧ ∀ i, i < L.length → w.cell? ⟨b, off + i * 5, none⟩ = some (.int .i64 (L.getD i vw0).1.1) ∧ w.cell? ⟨b, off + i * 5 + 1, none⟩ = some (.string (L.getD i vw0).1.2.1) ∧
    w.cell? ⟨b, off + i * 5 + 2, none⟩ = some (.int .i64 (L.getD i vw0).1.2.2.1) ∧ w.cell? ⟨b, off + i * 5 + 3, none⟩ = some (L.getD i vw0).2.1 ∧ w.cell? ⟨b, off + i * 5 + 4, none⟩ = some (.bool (L.getD i vw0).2.2) ∧ StrsAt w (L.getD i vw0).2.1 (L.getD i vw0).1.2.2.2)
theorem ops_at {w : World} {a0 : Option Addr} {n cap : Nat} {L : List Vw} (h : OpsA w (.slice a0 n cap) L) (i : Nat) (hi : i < L.length) :
    ∃ b off, a0 = some ⟨b, off, none⟩ ∧ n = L.length ∧ StrsAt w (L.getD i vw0).2.1 (L.getD i vw0).1.2.2.2 ∧ ∀ wx, Below w.heap.size w wx → wx.cell? ⟨b, off + i * 5, none⟩ = some (.int .i64 (L.getD i vw0).1.1) ∧ wx.cell? ⟨b, off + i * 5 + 1, none⟩ = some (.string (L.getD i vw0).1.2.1) ∧
      wx.cell? ⟨b, off + i * 5 + 2, none⟩ = some (.int .i64 (L.getD i vw0).1.2.2.1) ∧ wx.cell? ⟨b, off + i * 5 + 3, none⟩ = some (L.getD i vw0).2.1 ∧ wx.cell? ⟨b, off + i * 5 + 4, none⟩ = some (.bool (L.getD i vw0).2.2) := by
  obtain ⟨a, c, e, h⟩ := h
  injection e with e1 e2 e3
  subst e1 e2 e3
  rcases h with rfl | ⟨b, off, e, hl, hc⟩
  · simp at hi
  · obtain ⟨h1, h2, h3, h4, h5, h6⟩ := hc i hi
    exact ⟨b, off, e, rfl, h6, fun wx hb => ⟨(hb.cell (p := ⟨b, off + i * 5, none⟩) hl).trans h1, (hb.cell (p := ⟨b, off + i * 5 + 1, none⟩) hl).trans h2, (hb.cell (p := ⟨b, off + i * 5 + 2, none⟩) hl).trans h3, (hb.cell (p := ⟨b, off + i * 5 + 3, none⟩) hl).trans h4, (hb.cell (p := ⟨b, off + i * 5 + 4, none⟩) hl).trans h5⟩⟩
theorem OpsA.later {w w' : World} {v : Value} {L : List Vw} (h : OpsA w v L) (hb : Below w.heap.size w w') : OpsA w' v L := by
  obtain ⟨a0, cap, e, h⟩ := h
  refine ⟨a0, cap, e, h.imp id fun ⟨b, off, e2, hl, hc⟩ => ⟨b, off, e2, Nat.lt_of_lt_of_le hl hb.size, fun i hi => ?_⟩⟩
  obtain ⟨h1, h2, h3, h4, h5, h6⟩ := hc i hi
  exact ⟨(hb.cell (p := ⟨b, off + i * 5, none⟩) hl).trans h1, (hb.cell (p := ⟨b, off + i * 5 + 1, none⟩) hl).trans h2, (hb.cell (p := ⟨b, off + i * 5 + 2, none⟩) hl).trans h3, (hb.cell (p := ⟨b, off + i * 5 + 3, none⟩) hl).trans h4, (hb.cell (p := ⟨b, off + i * 5 + 4, none⟩) hl).trans h5, h6.later hb⟩
/-- it fits into memory -/
def MemV (x : Vt) : Prop := I64 x.1 ∧ I64 x.2.2.1 ∧ x.2.1.size ≤ 9223372036854775807 ∧ x.2.2.2.length ≤ 9223372036854775807
def MemA (L : List Vw) : Prop := L.length ≤ 9223372036854775807 ∧ ∀ x ∈ L, MemV x.1
/-- what few tells of one call -/
def FewV (x : Vt) : Prop := MemV x ∧ x.2.1.size ≤ 50 ∧ fewSig x.2.2.2 = true
theorem few_small14 {ts : List ByteArray} (h : fewSig ts = true) : ts.length ≤ 10 ∧ ∀ t ∈ ts, t.size ≤ 30 := by
  unfold fewSig at h
  rw [Bool.and_eq_true, decide_eq_true_eq, List.all_eq_true] at h
  refine ⟨h.2, fun t ht => ?_⟩
  have := h.1 t (by rw [List.take_of_length_le (by omega)]; exact ht)
  simpa using this
theorem few_vote {T : Ta} {x : Vt} (h : FewV x) (hn : I64 T.n) (hd : I64 T.node) (hs : T.seed.size ≤ 1000) : Vote14 T x := by
  obtain ⟨⟨h1, h2, _, _⟩, h5, h6⟩ := h
  obtain ⟨h7, h8⟩ := few_small14 h6
  exact ⟨h1, h2, hn, hd, by omega, by omega, fun t ht => by have := h8 t ht; omega, hs⟩
def FewAns14 (L : List Vw) (n : Int) (w : World) (e : Ending) (w' : World) : Prop := ∃ X, e = .returned (.bool X) ∧ (X = true → (L.length : Int) ≤ n ∧ ∀ i, i < L.length → i < 100 → FewV (L.getD i vw0).1) ∧ Below w.heap.size w w'
def vA (s : ByteArray) (n : Nat) (v : Int) (k : Nat) : Vt := (v, firstD, (k : Int), tagsTo s (k : Int) (textB v firstD) n)
def TA14 (s : ByteArray) (n : Nat) (v : Int) (who : List Nat) : Ta := ⟨s, 0, (n : Int), 0, who.map (vA s n v)⟩
theorem vote_holds14 (s t : ByteArray) (n k i : Nat) (hn : 1 ≤ n ∧ n ≤ 7) (hk : k < n) (hi : i < n) : holdsB s (i : Int) (n : Int) t (k : Int) (tagsTo s (k : Int) t n) = true := by
  unfold holdsB
  have h3 : shapedB (tagsTo s (k : Int) t n) (n : Int) = true := by
    unfold shapedB
    rw [Bool.and_eq_true, decide_eq_true_eq, List.all_eq_true]
    refine ⟨by rw [tags_len], fun x hx => ?_⟩
    have := tags_16 _ _ _ _ x hx
    simpa using this
  rw [among_mk (by omega) (by omega) (by omega) (by omega), among_mk (by omega) (by omega) (by omega) (by omega), h3, Bool.true_and, Bool.true_and, Bool.true_and, beq_iff_eq, Int.toNat_natCast, tags_get _ _ _ _ _ hi]
section
variable {s : ByteArray} {n : Nat} {v : Int} {who : List Nat} {k : Nat}
theorem all_may (hv : 1 ≤ v ∧ v ≤ 1000000) (hn : 1 ≤ n ∧ n ≤ 7) (hk : k < n) : mayT (TA14 s n v who) (vA s n v k) = true := by
  unfold mayT
  rw [Bool.and_eq_true, decide_eq_true_eq]
  exact ⟨⟨hv.1, hv.2, by show (0 : Int) < v; omega, firstD_size⟩, vote_holds14 s _ n k 0 hn hk (by omega)⟩
theorem all_had : hadL (who.map (vA s n v)) v (k : Int) = decide (k ∈ who) := by
  unfold hadL
  rw [Bool.eq_iff_iff, List.any_eq_true, decide_eq_true_iff]
  constructor
  · rintro ⟨x, hx, h⟩
    obtain ⟨j, hj, rfl⟩ := List.mem_map.1 hx
    have h := (of_decide_eq_true h).2
    have h : (j : Int) = (k : Int) := h
    have : j = k := by omega
    exact this ▸ hj
  · intro h
    exact ⟨_, List.mem_map_of_mem h, decide_eq_true ⟨rfl, rfl⟩⟩
theorem all_cnt : cntL (who.map (vA s n v)) v firstD = who.length := by
  unfold cntL
  rw [List.filter_eq_self.2 fun x hx => ?_, List.length_map]
  obtain ⟨j, _, rfl⟩ := List.mem_map.1 hx
  exact decide_eq_true ⟨rfl, rfl⟩
theorem all_ok (hv : 1 ≤ v ∧ v ≤ 1000000) (hn : 1 ≤ n ∧ n ≤ 7) (hk : k < n) (hl : who.length ≤ n) : okT (TA14 s n v who) (vA s n v k) = decide (k ∉ who) := by
  unfold okT
  rw [all_may hv hn hk, Bool.true_and, decide_eq_true (show ((TA14 s n v who).votes.length : Int) < 4 * (TA14 s n v who).n by
    show ((who.map (vA s n v)).length : Int) < 4 * (n : Int)
    rw [List.length_map]; omega), Bool.true_and]
  show (!hadL (who.map (vA s n v)) v (k : Int)) = _
  rw [all_had, decide_not]
theorem all_add (hv : 1 ≤ v ∧ v ≤ 1000000) (hn : 1 ≤ n ∧ n ≤ 7) (hk : k < n) (hl : who.length ≤ n) : addT (TA14 s n v who) (vA s n v k) = TA14 s n v (if k ∈ who then who else who ++ [k]) := by
  unfold addT
  rw [all_ok hv hn hk hl]
  by_cases h : k ∈ who
  · rw [decide_eq_false (by simp [h]), if_neg (by decide), if_pos h]
  · rw [decide_eq_true h, if_pos rfl, if_neg h]
    unfold TA14
    rw [List.map_append]; rfl
theorem all_told (hv : 1 ≤ v ∧ v ≤ 1000000) (hn : 1 ≤ n ∧ n ≤ 7) (hk : k < n) (hl : who.length ≤ n) : toldT (TA14 s n v who) (vA s n v k) = decide (k ∉ who ∧ (who.length : Int) + 1 = quorumI (n : Int)) := by
  unfold toldT
  rw [all_ok hv hn hk hl, all_add hv hn hk hl]
  by_cases h : k ∈ who
  · have e1 : decide (k ∉ who) = false := by simp [h]
    rw [e1, Bool.false_and]; simp [h]
  · rw [decide_eq_true h, Bool.true_and, if_neg h]
    show decide ((cntL ((who ++ [k]).map (vA s n v)) v firstD : Int) = quorumI (n : Int)) = _
    rw [all_cnt, List.length_append, List.length_singleton]
    refine decide_eq_decide.2 ⟨fun e => ⟨h, by push_cast at e; exact e⟩, fun e => by push_cast; exact e.2⟩
theorem all_vote (hv : 1 ≤ v ∧ v ≤ 1000000) (hn : 1 ≤ n ∧ n ≤ 7) (hk : k < n) (hs : s.size ≤ 1000) : Vote14 (TA14 s n v who) (vA s n v k) :=
  ⟨⟨by show _ ≤ v; omega, by show v ≤ _; omega⟩, ⟨by show _ ≤ (k : Int); omega, by show (k : Int) ≤ _; omega⟩, ⟨by show _ ≤ (n : Int); omega, by show (n : Int) ≤ _; omega⟩, ⟨by show (_ : Int) ≤ 0; decide, by show (0 : Int) ≤ _; decide⟩, by show firstD.size ≤ _; rw [firstD_size]; decide,
    by show (tagsTo _ _ _ _).length ≤ _; rw [tags_len]; omega, fun t ht => by have := tags_16 _ _ _ _ t ht; omega, hs⟩
end
/-- a signature's tags, in a block that stays -/
theorem tags_dep {t : TypeId} {w : World} {b n : Nat} {s tx : ByteArray} {f : Int} (h : TBlk t w b n (tagsF s f tx n)) : Dep (fun c => c = b) w (fun w' => StrsAt w' (.slice (some ⟨b, 0, none⟩) n n) (tagsTo s f tx n)) := fun _ hk => strs_tags ((hk.block b rfl h.lt).trans h)
end TA
namespace Go.Proofs.YtegkhhegapnkpaaDoor
open TA RR FF JJ CC MM WW BB
set_option maxRecDepth 100000 in
set_option maxHeartbeats 8000000 in
theorem awake14_any (C : Code14) (w : World) (hT : Tabs w) : Calls Tryd.prog 52 #[] w fun e w' => e = .returned (.bool true) ∧ Below w.heap.size w w' := by
  have HT := Lib.hid hT
  clear hT
  go_enter Tryd.func52, Tryd.ntmps52
  go_wp2_with fail
  refine (ta_new C w w ⟨#[115]⟩ 0 1 (Below.refl _ _) (by decide)).mono ?_
  rintro e w1 ⟨g, rfl, h1, _⟩
  have H1 := Lib.hid (h1.less (Z' := fun _ => False) fun _ h => h.elim)
  clear h1
  go_wp2_with fail
  refine (first_any w1 (tabs_on HT.out H1.out.below)).mono ?_
  rintro e w2 ⟨rfl, hb2⟩
  have H2 := Lib.hid (H1.out.on hb2)
  have hfd := cert_f1 0 firstD (.slice none 0 0)
  obtain ⟨F, hF⟩ : ∃ F, firstD = F := ⟨_, rfl⟩
  have HF := Lib.hid hF
  have HFZ := Lib.hid (show F.size = 32 by rw [← hF]; exact firstD_size)
  rw [hF] at hfd ⊢
  clear hb2 hF
  go_wp2_with fail
  clear hfd
  refine (text5_any 1 F (by have := HFZ.out; omega) w2).mono ?_
  rintro e w3 ⟨rfl, hb3⟩
  have H3 := Lib.hid (H2.out.on hb3)
  clear hb3
  obtain ⟨X, hX⟩ : ∃ X, textB 1 F = X := ⟨_, rfl⟩
  have HX := Lib.hid hX
  have HXZ := Lib.hid (show X.size ≤ 100000 by rw [← hX, textB_size]; have := HFZ.out; omega)
  rw [hX]
  clear hX
  go_wp2_with fail
  refine (sign_ok ⟨#[115]⟩ 0 1 X (among_mk (by decide) (by decide) (by decide) (by decide)) (by decide) HXZ.out w3 (tabs_on HT.out H3.out.below)).mono ?_
  rintro e w4 ⟨b, hbl, rfl, hbt, hb4⟩
  have A5 := (Below.refl w4.heap.size w4).alloc (Nat.le_refl _) (.cells #[.int .i64 0, .slice (some ⟨b, 0, none⟩) 1 1] 98)
  have HDT := Lib.hid ((tags_dep hbt).on (Keeps.of A5))
  have H5 := Lib.hid ((H3.out.more (hb4.trans (A5.mono hb4.size)) (fun c => c = b) fun c hc => by rw [hc]; exact hbl).less (Z' := fun c => c = b) fun c hc => .inr ⟨hc, by rw [hc]; exact Nat.lt_of_lt_of_le hbt.lt A5.size⟩)
  have L5 := Lib.hid (show Blk (w4.alloc (.cells #[.int .i64 0, .slice (some ⟨b, 0, none⟩) 1 1] 98)) w4.heap.size 2 (rowL [.int .i64 0, .slice (some ⟨b, 0, none⟩) 1 1]) from Blk.new' rfl (row2_ _ _))
  clear hbl hbt hb4 A5
  go_upto_region 4 with fail
  obtain ⟨y, hy⟩ : ∃ y, w4.heap.size = y := ⟨_, rfl⟩
  obtain ⟨w5, hw5⟩ : ∃ w5, w4.alloc (.cells #[.int .i64 0, .slice (some ⟨b, 0, none⟩) 1 1] 98) = w5 := ⟨_, rfl⟩
  rw [hw5] at HDT H5 L5 ⊢
  rw [hy] at L5 ⊢
  clear hw5 hy
  obtain ⟨c0, c1⟩ := cells2 L5.out
  go_wp2_with fail
  clear c0 c1
  have HXX := Lib.hid (show vA ⟨#[115]⟩ 1 1 0 = (1, F, 0, tagsTo ⟨#[115]⟩ 0 X 1) by unfold vA; rw [HF.out, HX.out]; rfl)
  have HTT := Lib.hid (show newT ⟨#[115]⟩ 0 1 = TA14 ⟨#[115]⟩ 1 1 [] from rfl)
  have HTD := Lib.hid (show toldT (newT ⟨#[115]⟩ 0 1) (1, F, 0, tagsTo ⟨#[115]⟩ 0 X 1) = true by
    rw [HTT.out, ← HXX.out, all_told ⟨by decide, by decide⟩ ⟨by decide, by decide⟩ (by decide) (by decide)]; rfl)
  refine (ta_add C w w5 _ g (newT ⟨#[115]⟩ 0 1) (1, F, 0, tagsTo ⟨#[115]⟩ 0 X 1) (.slice (some ⟨b, 0, none⟩) 1 1) HT.out H5.out (inv_newT _ _ _) (fun c => c = b) HDT.out (fun c hc => .inr hc) (by rw [HTT.out, ← HXX.out]; exact all_vote ⟨by decide, by decide⟩ ⟨by decide, by decide⟩ (by decide) (by decide))).mono ?_
  rintro e w6 ⟨cv, rfl, h6, _, hcv⟩
  rw [HTD.out]
  obtain ⟨L, sv, _, rfl, hsa⟩ := hcv.2 HTD.out
  obtain ⟨sa, sc, rfl, _⟩ := hsa
  have B6 := Lib.hid h6.below
  clear h6 hcv
  go_wp2_with fail
  go_ret
  exact ⟨rfl, B6.out.alloc B6.out.size _⟩
set_option maxRecDepth 100000 in
set_option maxHeartbeats 8000000 in
theorem few14_any (L : List Vw) (v : Value) (n : Int) (w : World) (hv : OpsA w v L) (hm : MemA L) :
    Calls Tryd.prog 53 #[v, .int .i64 n] w (FewAns14 L n w) := by
  have HV := Lib.hid hv
  have HM := Lib.hid hm
  obtain ⟨a0, cap, rfl, _⟩ := hv
  have HLM := Lib.hid hm.1
  clear hm
  go_enter Tryd.func53, Tryd.ntmps53
  go_wp2_with fail
  go_loopw [5] (fun y wr => ∃ i : Nat, i ≤ L.length ∧ i ≤ 100 ∧ y = .int .i64 (i : Int) ∧ (∀ j, j < i → FewV (L.getD j vw0).1) ∧ Below w.heap.size w wr) (fun y _ => 100 - (intOf y).toNat)
  case atStart => exact ⟨0, Nat.zero_le _, by omega, rfl, fun j hj => absurd hj (Nat.not_lt_zero _), Below.refl _ _⟩
  case round =>
    obtain ⟨i, hi, h200, rfl, hall, hb⟩ := hrel
    have HALL := Lib.hid hall
    have HB := Lib.hid hb
    have HI := Lib.hid (And.intro hi h200)
    have i0 : (0 : Int) ≤ (i : Int) := by omega
    have ib : (i : Int) ≤ 100 := by omega
    clear hall hb hi h200
    by_cases hlt : i < L.length
    · by_cases h9 : i < 100
      · have hlt' : (i : Int) < (L.length : Int) := by omega
        have h9' : (i : Int) < 100 := by omega
        have HLT := Lib.hid (And.intro hlt h9)
        obtain ⟨lb, loff, rfl, _, hst, hat⟩ := ops_at HV.out i hlt
        have HMX := Lib.hid (HM.out.2 (L.getD i vw0) (by rw [List.getD_eq_getElem?_getD, List.getElem?_eq_getElem hlt]; exact List.getElem_mem hlt))
        obtain ⟨P, hP⟩ : ∃ P, L.getD i vw0 = P := ⟨_, rfl⟩
        have HPP := Lib.hid hP
        rw [hP] at hst hat HMX
        obtain ⟨⟨xv, xk, xf, xt⟩, tv, tb⟩ := P
        replace hst : StrsAt w tv xt := hst
        have HST := Lib.hid hst
        have HAT := Lib.hid (fun (wx : World) (hb : Below w.heap.size w wx) => show wx.cell? ⟨lb, loff + i * 5 + 1, none⟩ = some (.string xk) ∧ wx.cell? ⟨lb, loff + i * 5 + 2, none⟩ = some (.int .i64 xf) ∧ wx.cell? ⟨lb, loff + i * 5 + 3, none⟩ = some tv from ⟨(hat wx hb).2.1, (hat wx hb).2.2.1, (hat wx hb).2.2.2.1⟩)
        have HMX := Lib.hid (show MemV (xv, xk, xf, xt) from HMX.out)
        obtain ⟨ta, tc, rfl, _⟩ := hst
        obtain ⟨k1, k2, k3⟩ := HAT.out wr HB.out
        obtain ⟨F, hF⟩ : ∃ F, fewSig xt = F := ⟨_, rfl⟩
        have HF := Lib.hid hF
        have hks : xk.size ≤ 9223372036854775807 := HMX.out.2.2.1
        have HKS := Lib.hid hks
        obtain ⟨m, hm⟩ : ∃ m, xt.length = m := ⟨_, rfl⟩
        have HFS := Lib.hid (show Calls Tryd.prog 69 #[.agg #[.int .i64 xf, .slice ta m tc]] wr fun e w' => e = .returned (.bool F) ∧ Below wr.heap.size wr w' by
          have h := fewsig_any xf _ xt wr (HST.out.later HB.out) HMX.out.2.2.2
          rw [hF, hm] at h; exact h)
        rw [hm] at k3
        clear hlt h9 hat hP hF hm
        go_wp2_with fail
        refine HFS.out.mono ?_
        rintro e w2 ⟨rfl, hb2⟩
        have B2 := Lib.hid (HB.out.trans (hb2.mono HB.out.size))
        clear hb2 k1 k2 k3 hks
        cases F with
        | false =>
          go_wp2_with fail
          go_ret
          exact ⟨false, rfl, (fun h => (by cases h)), B2.out⟩
        | true =>
          obtain ⟨k1, _, _⟩ := HAT.out w2 B2.out
          have hks := HKS.out
          by_cases h50 : (50 : Int) < (xk.size : Int)
          · go_wp2_with fail
            go_ret
            exact ⟨false, rfl, (fun h => (by cases h)), B2.out⟩
          · have HF50 := Lib.hid (show xk.size ≤ 50 by omega)
            have d2 : decide ((50 : Int) < (xk.size : Int)) = false := decide_eq_false h50
            clear h50
            go_wp2_with fail
            go_roundw
            case rel => exact ⟨i + 1, by have := HLT.out; omega, by have := HLT.out; omega, by go_num, fun j hj => if h : j = i then by subst h; rw [HPP.out]; exact ⟨HMX.out, HF50.out, HF.out⟩ else HALL.out j (by omega), B2.out⟩
            case measure => have := HLT.out; simp [intOf]; omega
      · have hi2 : i = 100 := by have := HI.out; omega
        have h9' : ¬ (i : Int) < 100 := by omega
        have hlt' : (i : Int) < (L.length : Int) := by omega
        clear hlt h9
        obtain ⟨X, hX⟩ : ∃ X, decide ((L.length : Int) ≤ n) = X := ⟨_, rfl⟩
        have HX := Lib.hid hX
        have HI2 := Lib.hid hi2
        clear hi2
        go_wp2_with fail
        go_ret
        exact ⟨X, by simp, fun h => ⟨of_decide_eq_true (HX.out.trans h), fun j h1 h2 => HALL.out j (by have := HI2.out; omega)⟩, HB.out⟩
    · have hi2 : i = L.length := by have := HI.out; omega
      have hlt' : ¬ (i : Int) < (L.length : Int) := by omega
      clear hlt
      obtain ⟨X, hX⟩ : ∃ X, decide ((L.length : Int) ≤ n) = X := ⟨_, rfl⟩
      have HX := Lib.hid hX
      have HI2 := Lib.hid hi2
      clear hi2
      go_wp2_with fail
      go_ret
      exact ⟨X, by simp, fun h => ⟨of_decide_eq_true (HX.out.trans h), fun j h1 h2 => HALL.out j (by have := HI2.out; omega)⟩, HB.out⟩
end Go.Proofs.YtegkhhegapnkpaaDoor
end
section
open Go Go.RowKit
namespace TA
open RR FF JJ CC MM WW BB
theorem add_told {T : Ta} {x : Vt} (hi : InvTa T) (ht : toldT T x = true) {L : List Sg} (hL : L.map bare = sigsT (addT T x).votes x.1 x.2.1) : certHolds T.seed T.node T.n x.1 x.2.1 ((mkL L).map bare) = true ∧ rightCert x.1 x.2.1 ((mkL L).map bare) = true := by
  have hia := hi.add x
  obtain ⟨hs, hn⟩ := hia.sigs x.1 x.2.1
  obtain ⟨e1, e2, e3, _⟩ := add_same T x
  unfold toldT at ht
  rw [Bool.and_eq_true, decide_eq_true_eq] at ht
  obtain ⟨⟨h1, h2, _, h4⟩, _⟩ := may_of (ok_of ht.1).1
  rw [← hL, e1, e2, e3] at hs
  rw [← hL] at hn
  refine ⟨?_, (told_holds hs hn ⟨h1, h2⟩ h4).2.2⟩
  rw [(told_holds hs hn ⟨h1, h2⟩ h4).1]
  have hlen : (L.length : Int) = quorumI T.n := by
    have h9 : (L.map bare).length = cntL (addT T x).votes x.1 x.2.1 := by rw [hL, sigsT_len]
    rw [List.length_map] at h9
    rw [h9]; exact ht.2
  exact decide_eq_true (by omega)
/-- a certificate's cells -/
theorem cert_shape {T : Ta} {x : Vt} {B : Nat} {w : World} {cv : Value} (h : CertOf B T x w cv) : ∃ (c1 : Int) (c2 : ByteArray) (sa : Option Addr) (sn sc : Nat), cv = .agg #[.int .i64 c1, .string c2, .slice sa sn sc] ∧
    (toldT T x = true → c1 = x.1 ∧ c2 = x.2.1 ∧ ∃ L : List Sg, L.map bare = sigsT (addT T x).votes x.1 x.2.1 ∧ SigsNew B w (.slice sa sn sc) ((mkL L).map bare)) ∧ (toldT T x = false → c1 = 0 ∧ c2 = ⟨#[]⟩ ∧ sn = 0) := by
  cases ht : toldT T x with
  | false =>
    obtain ⟨a, c, e⟩ := h.1 ht
    exact ⟨_, _, _, _, _, e, fun h => (by cases h), fun _ => ⟨rfl, rfl, rfl⟩⟩
  | true =>
    obtain ⟨L, sv, h1, e, h2⟩ := h.2 ht
    obtain ⟨a, c, e2, h3⟩ := h2
    exact ⟨_, _, _, _, _, by rw [e, e2], fun _ => ⟨rfl, rfl, L, h1, a, c, by rw [List.length_map] at e2 ⊢, h3⟩, fun h => (by cases h)⟩
theorem own_int14 {w : World} {B : Nat} {e : TypeId} {a : Option Addr} {n c : Nat} {V : List Int} (h : w.ownsRow B e 1 (.slice a n c) V.length (V.map (Value.int .i64))) (j : Nat) (hj : j < V.length) :
    ∃ q, a = some ⟨q, 0, none⟩ ∧ q < w.heap.size ∧ ∀ wx : World, wx.heap[q]? = w.heap[q]? → wx.cell? ⟨q, j, none⟩ = some (.int .i64 (V.getD j 0)) := by
  rcases h.2 with ⟨_, h0⟩ | ⟨g, cap, cur, h1, hg, hh, hn, hcm, hsz, htk⟩
  · omega
  · injection h1 with h1 _ _
    refine ⟨g, h1, (Array.getElem?_eq_some_iff.1 hh).1, fun wx hx => ?_⟩
    have h2 : (V.map (Value.int .i64))[j]? = some (.int .i64 (V.getD j 0)) := by
      rw [List.getElem?_map, List.getElem?_eq_getElem hj, List.getD_eq_getElem?_getD, List.getElem?_eq_getElem hj]; rfl
    rw [← htk, List.getElem?_take_of_lt (by omega), Array.getElem?_toList] at h2
    unfold World.cell?; rw [hx, hh]; simpa using h2
theorem cells1_new14 (w : World) (u : Value) (t : TypeId) : ∀ j x, [u][j]? = some x → (w.alloc (.cells #[u] t)).cell? ((⟨w.heap.size, 0, none⟩ : Addr).add j) = some x := by
  intro j x hj
  match j, hj with
  | 0, hj => simp at hj; subst hj; rw [Addr.add_lit]; exact cell_new w _ t 0 _ rfl
  | j + 1, hj => simp at hj
/-- an append whose run is known -/
theorem wpl_append_run14 {P : Program} {w w' : World} {ops : Array Oper} {rest : List Oper} {o : Oper} {a : Act} {Q : Exit → Act → World → Prop} {v' : Value} (hgd : o.guard = none) (s x : Operand) (t : TypeId)
    (ho : o.op = .call { callee := .builtin .append, args := #[s, x], argTypes := #[t, t] }) (hr : (Builtin.append_ #[t, t] o.type #[a.eval s, a.eval x]).run P w = .ok v' w') (h : wpList P ops Q rest (a.put o.dst v') w') : wpList P ops Q (o :: rest) a w := by
  refine wpList_plain hgd fun K hK => ?_
  unfold Oper.wp execOp
  simp only [ho, resolve, invoke, builtin, Sem.run_bind, Sem.run_pure, Result.andThen_ok, List.map_toArray, List.map_cons, List.map_nil, hr]
  exact hK _ _ h
/-- tags from behind the law's beginning -/
theorem strs_dep14 {w0 w : World} {v : Value} {l : List ByteArray} (h : StrsAt w0 v l) (hb : Below w0.heap.size w0 w) : Dep (fun c => c < w0.heap.size) w (fun w' => StrsAt w' v l) := fun _ hk => h.later (hb.trans (low14 hk (fun _ h => h) hb.size))
end TA
namespace Go.Proofs.YtegkhhegapnkpaaDoor
open TA RR FF JJ CC MM WW BB
set_option maxRecDepth 100000 in
set_option maxHeartbeats 32000000 in
theorem lawC14 (C : Code14) (a b : Nat) (L : List Vw) (v : Value) (w : World) (ha : a < 256) (hb : b < 256) (hT : Tabs w) (hv : OpsA w v L) (hm : MemA L) :
    Calls Tryd.prog 11 #[.agg #[.int .u8 (a : Int), .int .u8 (b : Int)], v] w fun e w' => e = .returned (.bool true) ∧ Below w.heap.size w w' := by
  have HT := Lib.hid hT
  have HV := Lib.hid hv
  have HM := Lib.hid hm
  have HAB := Lib.hid (And.intro ha hb)
  obtain ⟨a0, cap, rfl, _⟩ := hv
  have B1 := Lib.hid ((Below.refl w.heap.size w).alloc (Nat.le_refl _) (.cells #[.int .u8 (a : Int), .int .u8 (b : Int)] 64))
  have L1 := Lib.hid (show Blk (w.alloc (.cells #[.int .u8 (a : Int), .int .u8 (b : Int)] 64)) w.heap.size 2 (rowL [.int .u8 (a : Int), .int .u8 (b : Int)]) from Blk.new' rfl (row2_ _ _))
  clear hT hm ha hb
  go_enter Tryd.func11, Tryd.ntmps11
  go_upto_region 1 with fail
  obtain ⟨y0, hy0⟩ : ∃ y0, w.heap.size = y0 := ⟨_, rfl⟩
  have HY0 := Lib.hid hy0
  obtain ⟨w1, hw1⟩ : ∃ w1, w.alloc (.cells #[.int .u8 (a : Int), .int .u8 (b : Int)] 64) = w1 := ⟨_, rfl⟩
  rw [hw1] at B1 L1 ⊢
  rw [hy0] at L1 ⊢
  clear hw1 hy0
  go_wp2_with fail
  refine (awake14_any C w1 (tabs_on HT.out B1.out)).mono ?_
  rintro e w2 ⟨rfl, hb2⟩
  have B2 := Lib.hid (B1.out.trans (hb2.mono B1.out.size))
  have L2 := Lib.hid (L1.out.below hb2 L1.out.lt)
  clear hb2
  go_wp2_with fail
  refine (few14_any L _ 50 w2 (HV.out.later B2.out) HM.out).mono ?_
  rintro e w3 ⟨X, rfl, hX, hb3⟩
  have B3 := Lib.hid (B2.out.trans (hb3.mono B2.out.size))
  have L3 := Lib.hid (L2.out.below hb3 L2.out.lt)
  have HX := Lib.hid hX
  clear hb3 hX
  cases X with
  | false =>
    go_wp2_with fail
    refine (awake14_any C w3 (tabs_on HT.out B3.out)).mono ?_
    rintro e wz ⟨rfl, hbz⟩
    have BZ := Lib.hid (B3.out.trans (hbz.mono B3.out.size))
    go_wp2_with fail
    go_ret
    exact ⟨rfl, BZ.out⟩
  | true =>
  have HL50 := Lib.hid (show L.length ≤ 50 by have := (HX.out rfl).1; omega)
  have HFEW := Lib.hid (fun i (hi : i < L.length) => (HX.out rfl).2 i hi (by have := HL50.out; omega))
  obtain ⟨c0, c1⟩ := cells2 L3.out
  obtain ⟨n, hn⟩ : ∃ n : Nat, (1 + (a : Int) % 7) = (n : Int) := ⟨1 + a % 7, by omega⟩
  have HN := Lib.hid (show 1 ≤ n ∧ n ≤ 7 by omega)
  have n1 : (1 : Int) ≤ (n : Int) := by omega
  have n7 : (n : Int) ≤ 7 := by omega
  have nz : ¬ (n : Int) = 0 := by omega
  obtain ⟨k, hk⟩ : ∃ k : Nat, k = b % n := ⟨_, rfl⟩
  have m1 : (b : Int).tmod (n : Int) = (k : Int) := by rw [hk]; rfl
  have m2 : (b : Int) % (n : Int) = (k : Int) := by rw [hk]; rfl
  have HKN := Lib.hid (show k < n by rw [hk]; exact Nat.mod_lt _ (by have := HN.out; omega))
  have a0' : (0 : Int) ≤ (a : Int) := by omega
  have a1' : (a : Int) ≤ 255 := by have := HAB.out; omega
  have b0' : (0 : Int) ≤ (b : Int) := by omega
  have b1' : (b : Int) ≤ 255 := by have := HAB.out; omega
  clear hk
  go_wp2_with fail
  clear m1 m2 a0' a1' b0' b1' c0 c1
  refine (ta_new C w w3 ⟨#[115]⟩ (k : Int) (n : Int) B3.out (by decide)).mono ?_
  rintro e w4 ⟨g, rfl, h4, _⟩
  have H4 := Lib.hid (h4.less (Z' := fun b => (Value.slice none 0 0).ownBlock = some b) fun b h => by cases h)
  clear h4
  obtain ⟨T0, hT0⟩ : ∃ T0, newT ⟨#[115]⟩ (k : Int) (n : Int) = T0 := ⟨_, rfl⟩
  have HF0 := Lib.hid (show InvTa T0 ∧ T0.seed = ⟨#[115]⟩ ∧ T0.node = (k : Int) ∧ T0.n = (n : Int) ∧ ToldV T0 [] from hT0 ▸ ⟨inv_newT _ _ _, rfl, rfl, rfl, fun u hu => by cases hu⟩)
  rw [hT0] at H4
  clear hT0
  go_wp2_with fail
  go_loopw [8, 9] (fun x z wr => ∃ (i : Nat) (T : Ta) (V : List Int), i ≤ L.length ∧ z = .int .i64 (i : Int) ∧ V.length ≤ i ∧ TaX C w (fun b => x.ownBlock = some b) g T wr ∧ wr.ownsRow w4.heap.size 3 1 x V.length (V.map (Value.int .i64)) ∧ (InvTa T ∧ T.seed = ⟨#[115]⟩ ∧ T.node = (k : Int) ∧ T.n = (n : Int) ∧ ToldV T V) ∧ w4.heap.size ≤ wr.heap.size) (fun _ z _ => L.length - (intOf z).toNat)
  case atStart => exact ⟨0, T0, [], Nat.zero_le _, rfl, Nat.le_refl _, H4.out, World.ownsRow_nil _ _ _ _, HF0.out, Nat.le_refl _⟩
  case round =>
    obtain ⟨i, T, V, hi, rfl, hVi, hst, hrow, hF, hzr⟩ := hrel
    have HST := Lib.hid hst
    have HROW := Lib.hid hrow
    have HF := Lib.hid hF
    have HVI := Lib.hid hVi
    have HII := Lib.hid hi
    have HZR := Lib.hid hzr
    have i0 : (0 : Int) ≤ (i : Int) := by omega
    have ib : (i : Int) ≤ 50 := by have := HL50.out; omega
    obtain ⟨xa, xc, rfl⟩ := row_shape14 hrow
    clear hst hrow hF hVi hi hzr
    by_cases hlt : i < L.length
    · have hlt' : (i : Int) < (L.length : Int) := by omega
      have HLT := Lib.hid hlt
      have HFX := Lib.hid (HFEW.out i hlt)
      obtain ⟨lb, loff, rfl, _, hts, hat⟩ := ops_at HV.out i hlt
      obtain ⟨P, hP⟩ : ∃ P, L.getD i vw0 = P := ⟨_, rfl⟩
      rw [hP] at hts hat HFX
      obtain ⟨⟨xv, xk, xf, xt⟩, tv, tb⟩ := P
      have HTS := Lib.hid (show StrsAt w tv xt from hts)
      have HFX := Lib.hid (show FewV (xv, xk, xf, xt) from HFX.out)
      have HAT := Lib.hid (fun (wx : World) (hb : Below w.heap.size w wx) => show wx.cell? ⟨lb, loff + i * 5, none⟩ = some (.int .i64 xv) ∧ wx.cell? ⟨lb, loff + i * 5 + 1, none⟩ = some (.string xk) ∧ wx.cell? ⟨lb, loff + i * 5 + 2, none⟩ = some (.int .i64 xf) ∧ wx.cell? ⟨lb, loff + i * 5 + 3, none⟩ = some tv ∧ wx.cell? ⟨lb, loff + i * 5 + 4, none⟩ = some (.bool tb) from hat wx hb)
      obtain ⟨ta, tc, rfl, _⟩ := HTS.out
      clear hlt hat hP hts
      obtain ⟨q0, q1, q2, q3, q4⟩ := HAT.out wr HST.out.below
      cases tb with
      | true =>
        go_wp2_with fail
        refine (ta_below C w wr _ g T xv HST.out HF.out.1 HFX.out.1.1).mono ?_
        rintro e w5 ⟨rfl, h5, hk5⟩
        have H5 := Lib.hid h5
        have R5 := Lib.hid (row_keep HROW.out fun c hc => hk5.block c hc (HROW.out.lt c hc).2)
        have Z5 := Lib.hid (Nat.le_trans HZR.out hk5.b0.size)
        have HF5 := Lib.hid (show InvTa (belowT T xv) ∧ (belowT T xv).seed = ⟨#[115]⟩ ∧ (belowT T xv).node = (k : Int) ∧ (belowT T xv).n = (n : Int) ∧ ToldV (belowT T xv) V from ⟨HF.out.1.below xv, HF.out.2.1, HF.out.2.2.1, HF.out.2.2.2.1, HF.out.2.2.2.2.below xv⟩)
        clear h5 hk5 q0 q1 q2 q3 q4
        go_wp2_with fail
        go_roundw
        case rel => exact ⟨i + 1, _, V, by have := HLT.out; omega, by go_num, by have := HVI.out; omega, H5.out, R5.out, HF5.out, Z5.out⟩
        case measure => have := HLT.out; simp [intOf]; omega
      | false =>
        have HVT := Lib.hid (few_vote (T := T) HFX.out (by rw [HF.out.2.2.2.1]; exact ⟨by omega, by omega⟩) (by rw [HF.out.2.2.1]; have := HKN.out; exact ⟨by omega, by omega⟩) (by rw [HF.out.2.1]; decide))
        go_upto_region 12 with fail
        go_cut [10, 11] from 52 to 71 (fun s10 s11 wx => ∃ (b0 : Nat) (c1 : Int) (c2 : ByteArray) (sa : Option Addr) (sn sc : Nat), s10 = .pointer (some ⟨b0, 0, none⟩) ∧ s11 = .bool (toldT T (xv, xk, xf, xt)) ∧ Blk wx b0 3 (rowL [.int .i64 c1, .string c2, .slice sa sn sc]) ∧ TaX C w (fun b => (Value.slice xa V.length xc).ownBlock = some b) g (addT T (xv, xk, xf, xt)) wx ∧
          Keeps (fun b => (Value.slice xa V.length xc).ownBlock = some b) wr wx ∧ (toldT T (xv, xk, xf, xt) = true → c1 = xv ∧ c2 = xk ∧ ∃ Lg : List Sg, Lg.map bare = sigsT (addT T (xv, xk, xf, xt)).votes xv xk ∧ SigsAt wx (.slice sa sn sc) ((mkL Lg).map bare)))
        case first =>
          refine crossE_abs (fun wx => Below w.heap.size w wx) 22 [0, 1, 2, 3, 4, 5, 6, 7, 8, 9, 10, 11, 12, 13, 14, 15] 16 20 [(true, 17), (true, 18), (true, 19), (false, 20), (false, 21), (false, 22)] [(false, 16), (true, 17), (true, 18), (true, 19), (false, 21), (false, 22)] (by kernel_rfl) (by kernel_rfl) (fun _ _ d _ _ h => by cases d <;> exact h) fun w5 hs5 => ⟨HST.out.below.trans ((hs5.below wr.heap.size).mono HST.out.below.size), ?_⟩
          have Y5 := Lib.hid (hs5.below wr.heap.size)
          have H5 := Lib.hid (HST.out.on Y5.out)
          clear hs5 q0 q1 q2 q3 q4
          iterate 16 (refine pre_run _ ?_ rfl rfl ?_ ?_; rotate_left; (focus (intro w' hS; obtain ⟨q0, q1, q2, q3, q4⟩ := HAT.out w' hS; go_simp; exact rfl)); simp only [Act.put, List.setIfInBounds_toArray, List.set_cons_zero, List.set_cons_succ, List.getElem_toArray, List.getElem_cons_zero, List.getElem_cons_succ])
          refine pre_end ⟨?_, ?_⟩
          · refine pe_call (R := fun v w' => ∃ cv, v = .tuple #[cv, .bool (toldT T (xv, xk, xf, xt))] ∧ TaX C w (fun b => (Value.slice xa V.length xc).ownBlock = some b) g (addT T (xv, xk, xf, xt)) w' ∧ Keeps (fun b => (Value.slice xa V.length xc).ownBlock = some b) w5 w' ∧ CertOf w5.heap.size T (xv, xk, xf, xt) w' cv) _ rfl rfl (by go_simp)
              ((ta_add C w w5 _ g T (xv, xk, xf, xt) (.slice ta xt.length tc) HT.out H5.out HF.out.1 (fun c => c < w.heap.size) (strs_dep14 HTS.out H5.out.below) (fun b hb => .inl hb) HVT.out).mono fun e w' ⟨cv, he, h⟩ => ⟨_, he, cv, rfl, h⟩) (fun v w' ⟨_, _, h, _⟩ => h.below) fun v w6 hr => ?_
            obtain ⟨cv, rfl, h6, hk6, hc6⟩ := hr
            obtain ⟨c1, c2, sa, sn, sc, rfl, hc1, _⟩ := cert_shape hc6
            have H6 := Lib.hid h6
            have HK6 := Lib.hid hk6
            have HC1 := Lib.hid hc1
            obtain ⟨TD, hTD⟩ : ∃ TD, toldT T (xv, xk, xf, xt) = TD := ⟨_, rfl⟩
            have HTD := Lib.hid hTD
            rw [hTD]
            clear h6 hk6 hc6 hc1 hTD
            simp only [Act.put, List.setIfInBounds_toArray, List.set_cons_zero, List.set_cons_succ, List.getElem_toArray, List.getElem_cons_zero, List.getElem_cons_succ]
            iterate 3 (refine pe_run _ ?_ rfl rfl ?_ ?_; rotate_left; (focus (intro w' hS; go_simp; exact rfl)); simp only [Act.put, List.setIfInBounds_toArray, List.set_cons_zero, List.set_cons_succ, List.getElem_toArray, List.getElem_cons_zero, List.getElem_cons_succ])
            have A7 := Lib.hid ((Below.refl w6.heap.size w6).alloc (Nat.le_refl _) (.cells #[.int .i64 0, .string ⟨#[]⟩, .slice none 0 0] 24))
            have L7 := Lib.hid (show Blk (w6.alloc (.cells #[.int .i64 0, .string ⟨#[]⟩, .slice none 0 0] 24)) w6.heap.size 3 (rowL [.int .i64 0, .string ⟨#[]⟩, .slice none 0 0]) from Blk.new' rfl (row3_ _ _ _))
            obtain ⟨w7, hw7⟩ : ∃ w7, w6.alloc (.cells #[.int .i64 0, .string ⟨#[]⟩, .slice none 0 0] 24) = w7 := ⟨_, rfl⟩
            have H7 := Lib.hid (H6.out.on (hw7 ▸ A7.out))
            refine pe_value (w' := w7) _ (.pointer (some ⟨w6.heap.size, 0, none⟩)) rfl rfl (by rw [← hw7]; go_simp) H7.out.below ?_
            rw [hw7] at A7 L7
            clear hw7
            simp only [Act.put, List.setIfInBounds_toArray, List.set_cons_zero, List.set_cons_succ, List.getElem_toArray, List.getElem_cons_zero, List.getElem_cons_succ]
            obtain ⟨d0, d1, d2⟩ := cells3 L7.out
            have f0 := L7.out.frz 0
            have f1 := L7.out.frz 1
            have f2 := L7.out.frz 2
            obtain ⟨xi, ui⟩ := rset3 L7.out (.int .i64 c1) (.string c2) (.slice sa sn sc)
            have HL6 := Lib.hid H6.out.below.size
            have BU := Lib.hid (ui.below HL6.out)
            have BU6 := Lib.hid (ui.below (Nat.le_refl w6.heap.size))
            have HXI := Lib.hid xi
            clear xi ui
            refine pe_store (w' := ((w7.setCell ⟨w6.heap.size, 0, none⟩ (.int .i64 c1)).setCell ⟨w6.heap.size, 1, none⟩ (.string c2)).setCell ⟨w6.heap.size, 2, none⟩ (.slice sa sn sc)) _ rfl rfl (by go_simp) (H7.out.below.trans BU.out) ?_
            simp only [Act.put, List.getElem_toArray, List.getElem_cons_zero, List.getElem_cons_succ]
            clear d0 d1 d2 f0 f1 f2
            refine pe_last _ rfl ?_
            simp only [List.getElem_toArray, List.getElem_cons_zero, List.getElem_cons_succ]
            go_wp2_with fail
            go_meet
            have B68 := A7.out.trans BU6.out
            exact ⟨w6.heap.size, c1, c2, sa, sn, sc, rfl, by rw [HTD.out], HXI.out, H6.out.on B68, (Keeps.of Y5.out).trans (HK6.out.trans (Keeps.of B68)), fun ht => by
              obtain ⟨k1, k2, Lg, k3, k4⟩ := HC1.out ht
              exact ⟨k1, k2, Lg, k3, (k4.later B68).sigs⟩⟩
          · have A7 := Lib.hid ((Below.refl w5.heap.size w5).alloc (Nat.le_refl _) (.cells #[.int .i64 0, .string ⟨#[]⟩, .slice none 0 0] 24))
            have L7 := Lib.hid (show Blk (w5.alloc (.cells #[.int .i64 0, .string ⟨#[]⟩, .slice none 0 0] 24)) w5.heap.size 3 (rowL [.int .i64 0, .string ⟨#[]⟩, .slice none 0 0]) from Blk.new' rfl (row3_ _ _ _))
            obtain ⟨y7, hy7⟩ : ∃ y7, w5.heap.size = y7 := ⟨_, rfl⟩
            have HY7 := Lib.hid hy7
            obtain ⟨w7, hw7⟩ : ∃ w7, w5.alloc (.cells #[.int .i64 0, .string ⟨#[]⟩, .slice none 0 0] 24) = w7 := ⟨_, rfl⟩
            have H7 := Lib.hid ((H5.out.more (hw7 ▸ A7.out) (fun b => b = y7) (fun b hb => by omega)).less (Z' := fun b => (Value.slice xa V.length xc).ownBlock = some b ∨ b = y7) fun b hb => hb.imp id fun h => ⟨h, by rw [h, ← hw7, ← hy7]; simp⟩)
            refine pe_value (w' := w7) _ (.pointer (some ⟨y7, 0, none⟩)) rfl rfl (by rw [← hw7, ← hy7]; go_simp) H7.out.below ?_
            rw [hw7] at A7 L7
            rw [hy7] at L7
            clear hw7 hy7
            simp only [Act.put, List.setIfInBounds_toArray, List.set_cons_zero, List.set_cons_succ, List.getElem_toArray, List.getElem_cons_zero, List.getElem_cons_succ]
            refine pe_call (R := fun v w' => ∃ cv, v = .tuple #[cv, .bool (toldT T (xv, xk, xf, xt))] ∧ TaX C w (fun b => (Value.slice xa V.length xc).ownBlock = some b ∨ b = y7) g (addT T (xv, xk, xf, xt)) w' ∧ Keeps (fun b => (Value.slice xa V.length xc).ownBlock = some b ∨ b = y7) w7 w' ∧ CertOf w7.heap.size T (xv, xk, xf, xt) w' cv) _ rfl rfl (by go_simp)
              ((ta_add C w w7 _ g T (xv, xk, xf, xt) (.slice ta xt.length tc) HT.out H7.out HF.out.1 (fun c => c < w.heap.size) (strs_dep14 HTS.out H7.out.below) (fun b hb => .inl hb) HVT.out).mono fun e w' ⟨cv, he, h⟩ => ⟨_, he, cv, rfl, h⟩) (fun v w' ⟨_, _, h, _⟩ => h.below) fun v w6 hr => ?_
            obtain ⟨cv, rfl, h6, hk6, hc6⟩ := hr
            obtain ⟨c1, c2, sa, sn, sc, rfl, hc1, _⟩ := cert_shape hc6
            have H6 := Lib.hid h6
            have HK6 := Lib.hid hk6
            have HC1 := Lib.hid hc1
            obtain ⟨TD, hTD⟩ : ∃ TD, toldT T (xv, xk, xf, xt) = TD := ⟨_, rfl⟩
            have HTD := Lib.hid hTD
            rw [hTD]
            clear h6 hk6 hc6 hc1 hTD
            have L6 := Lib.hid (L7.out.of_heap (HK6.out.block y7 (.inr rfl) L7.out.lt))
            simp only [Act.put, List.setIfInBounds_toArray, List.set_cons_zero, List.set_cons_succ, List.getElem_toArray, List.getElem_cons_zero, List.getElem_cons_succ]
            iterate 3 (refine pe_run _ ?_ rfl rfl ?_ ?_; rotate_left; (focus (intro w' hS; go_simp; exact rfl)); simp only [Act.put, List.setIfInBounds_toArray, List.set_cons_zero, List.set_cons_succ, List.getElem_toArray, List.getElem_cons_zero, List.getElem_cons_succ])
            obtain ⟨d0, d1, d2⟩ := cells3 L6.out
            have f0 := L6.out.frz 0
            have f1 := L6.out.frz 1
            have f2 := L6.out.frz 2
            obtain ⟨xi, ui⟩ := rset3 L6.out (.int .i64 c1) (.string c2) (.slice sa sn sc)
            have HL5 := Lib.hid (show w.heap.size ≤ y7 by have := H5.out.below.size; have := HY7.out; omega)
            have BU := Lib.hid (ui.below HL5.out)
            have UI := Lib.hid ui
            have HXI := Lib.hid xi
            clear xi ui
            refine pe_store (w' := ((w6.setCell ⟨y7, 0, none⟩ (.int .i64 c1)).setCell ⟨y7, 1, none⟩ (.string c2)).setCell ⟨y7, 2, none⟩ (.slice sa sn sc)) _ rfl rfl (by go_simp) (H6.out.below.trans BU.out) ?_
            simp only [Act.put, List.getElem_toArray, List.getElem_cons_zero, List.getElem_cons_succ]
            clear d0 d1 d2 f0 f1 f2
            refine pe_last _ rfl ?_
            simp only [List.getElem_toArray, List.getElem_cons_zero, List.getElem_cons_succ]
            go_wp2_with fail
            go_meet
            have hrl : ∀ b, (Value.slice xa V.length xc).ownBlock = some b → w.heap.size ≤ b ∧ b ≠ y7 := fun b hb => by
              have h1 := HROW.out.lt b hb
              have h2 := Y5.out.size
              have h3 := HY7.out
              have h4 := H4.out.below.size
              exact ⟨by omega, by omega⟩
            exact ⟨y7, c1, c2, sa, sn, sc, rfl, by rw [HTD.out], HXI.out, H6.out.turn (Keeps.upd UI.out fun b hb e => hb (.inr e)) (fun b hb => hb.elim (fun h => (hrl b h).1) fun h => by rw [h]; exact HL5.out) (fun b hb => .inl (.inl hb)),
              (Keeps.of Y5.out).trans ((Keeps.of A7.out).trans ((HK6.out.sub fun b hb _ => .inl hb).trans (Keeps.upd UI.out fun b hb => (hrl b hb).2))), fun ht => by
              obtain ⟨k1, k2, Lg, k3, k4⟩ := HC1.out ht
              exact ⟨k1, k2, Lg, k3, (k4.keep (by rw [UI.out.size]; exact Nat.le_refl _) fun c hc _ => UI.out.block c (by have := A7.out.size; have := L7.out.lt; omega)).sigs⟩⟩
        case rest =>
          obtain ⟨b0, c1, c2, sa, sn, sc, rfl, rfl, hbx, hcx, hkx, hcc⟩ := hcut
          have HBX := Lib.hid hbx
          have HCX := Lib.hid hcx
          have HKX := Lib.hid hkx
          have HCC := Lib.hid hcc
          have RX := Lib.hid (row_keep HROW.out fun c hc => hkx.block c hc (HROW.out.lt c hc).2)
          have ZX := Lib.hid (Nat.le_trans HZR.out hkx.b0.size)
          have HIA := Lib.hid (HF.out.1.add (xv, xk, xf, xt))
          have HSE := Lib.hid (add_same T (xv, xk, xf, xt))
          have HEQ := Lib.hid (show (addT T (xv, xk, xf, xt)).seed = ⟨#[115]⟩ ∧ (addT T (xv, xk, xf, xt)).node = (k : Int) ∧ (addT T (xv, xk, xf, xt)).n = (n : Int) by
            obtain ⟨e1, e2, e3, _⟩ := HSE.out
            exact ⟨e1.trans HF.out.2.1, e2.trans HF.out.2.2.1, e3.trans HF.out.2.2.2.1⟩)
          clear hbx hcx hkx hcc q0 q1 q2 q3 q4
          cases hTD : toldT T (xv, xk, xf, xt) with
          | false =>
            have HTV := Lib.hid (HF.out.2.2.2.2.add (xv, xk, xf, xt))
            clear hTD
            go_wp2_with fail
            go_roundw
            case rel => exact ⟨i + 1, _, V, by have := HLT.out; omega, by go_num, by have := HVI.out; omega, HCX.out, RX.out, ⟨HIA.out, HEQ.out.1, HEQ.out.2.1, HEQ.out.2.2, HTV.out⟩, ZX.out⟩
            case measure => have := HLT.out; simp [intOf]; omega
          | true =>
            obtain ⟨hni, htv⟩ := HF.out.2.2.2.2.new HF.out.1 hTD
            have HNI := Lib.hid (show xv ∉ V from hni)
            have HTV := Lib.hid (show ToldV (addT T (xv, xk, xf, xt)) (V ++ [xv]) from htv)
            obtain ⟨rfl, rfl, Lg, hLg, hsg⟩ := HCC.out hTD
            have HSG := Lib.hid hsg
            obtain ⟨hch, hri⟩ := add_told HF.out.1 hTD hLg
            have HCH := Lib.hid (show certHolds ⟨#[115]⟩ (k : Int) (n : Int) c1 c2 ((mkL Lg).map bare) = true by rw [← HF.out.2.1, ← HF.out.2.2.1, ← HF.out.2.2.2.1]; exact hch)
            have HSM := Lib.hid (right_small hri)
            clear hni htv hLg hsg hch hri hTD
            obtain ⟨d0, d1, d2⟩ := cells3 HBX.out
            go_wp2_with fail
            refine (chold_is true ⟨#[115]⟩ (k : Int) (n : Int) c1 c2 _ ((mkL Lg).map bare) HCH.out wc HSG.out (by have := HN.out; omega) (by decide) (by have := HSM.out.2.1; omega) HSM.out.1 (by rw [certB_size]; have h1 := HSM.out.1.2.1; have h2 := HSM.out.2.1; omega) (tabs_on HT.out HCX.out.below)).mono ?_
            rintro e w8 ⟨rfl, hb8⟩
            have Y8 := Lib.hid hb8
            have H8 := Lib.hid (HCX.out.on hb8)
            have R8 := Lib.hid (row_keep RX.out fun c hc => hb8.block c (RX.out.lt c hc).2)
            have L8 := Lib.hid (HBX.out.below hb8 HBX.out.lt)
            have Z8 := Lib.hid (Nat.le_trans ZX.out hb8.size)
            clear hb8 d0 d1 d2
            go_wp2_with fail
            go_loopw [12] (fun z wx => ∃ j : Nat, j ≤ V.length ∧ z = .int .i64 (j : Int) ∧ Below w8.heap.size w8 wx) (fun z _ => V.length - (intOf z).toNat)
            case atStart => exact ⟨0, Nat.zero_le _, rfl, Below.refl _ _⟩
            case round =>
              obtain ⟨j, hj, rfl, hbj⟩ := hrel
              have HBJ := Lib.hid hbj
              have HJ := Lib.hid hj
              have j0 : (0 : Int) ≤ (j : Int) := by omega
              have jb : (j : Int) ≤ 50 := by have := HVI.out; have := HII.out; omega
              clear hj hbj
              by_cases hjt : j < V.length
              · have hjt' : (j : Int) < (V.length : Int) := by omega
                have HJT := Lib.hid hjt
                obtain ⟨q, rfl, hq, hqc⟩ := own_int14 R8.out j hjt
                have p0 := hqc wr (HBJ.out.block q hq)
                have hne : V.getD j 0 ≠ c1 := fun e => HNI.out (by rw [← e, List.getD_eq_getElem?_getD, List.getElem?_eq_getElem hjt]; exact List.getElem_mem hjt)
                obtain ⟨u, hu⟩ : ∃ u, V.getD j 0 = u := ⟨_, rfl⟩
                rw [hu] at p0 hne
                have t1 : (u == c1) = false := by simpa using hne
                obtain ⟨d0, _, _⟩ := cells3 (L8.out.below HBJ.out L8.out.lt)
                clear hjt hqc hq hne hu
                go_upto_region 19 with fail
                refine quiet_abs (by kernel_rfl) (by kernel_rfl) fun w9 hs9 => ?_
                have m0 : w9.cell? ⟨q, j, none⟩ = some (.int .i64 u) := (hs9.cell _).trans p0
                have m1 : w9.cell? ⟨b0, 0, none⟩ = some (.int .i64 c1) := (hs9.cell _).trans d0
                have Y9 := Lib.hid (hs9.below wr.heap.size)
                clear hs9 p0 d0
                repeat still_step
                refine wpStill_nil ?_
                clear m0 m1
                go_wp2_with fail
                go_roundw
                case rel => exact ⟨j + 1, by have := HJT.out; omega, by go_num, HBJ.out.trans (Y9.out.mono HBJ.out.size)⟩
                case measure => have := HJT.out; simp [intOf]; omega
              · obtain rfl : j = V.length := by have := HJ.out; omega
                have hjt' : ¬ (V.length : Int) < (V.length : Int) := by omega
                have L9 := Lib.hid (L8.out.below HBJ.out L8.out.lt)
                have H9 := Lib.hid (H8.out.on HBJ.out)
                have R9 := Lib.hid (row_keep R8.out fun c hc => HBJ.out.block c (R8.out.lt c hc).2)
                have Z9 := Lib.hid (Nat.le_trans Z8.out HBJ.out.size)
                obtain ⟨d0, d1, d2⟩ := cells3 L9.out
                have A3 := Lib.hid ((Below.refl wr.heap.size wr).alloc (Nat.le_refl _) (.cells #[.int .i64 c1] 3))
                have HVL := Lib.hid (show V.length ≤ 50 by have := HVI.out; have := HII.out; have := HL50.out; omega)
                obtain ⟨ti, i1, i2, i3, i4⟩ := info_parts info_int
                obtain ⟨u', w10, hrun, hown, hgr, _, hloc⟩ := run_append_own_at (P := Tryd.prog) (w := wr.alloc (.cells #[.int .i64 c1] 3)) w4.heap.size 107 107 3 ti _ 1 8 (by kernel_rfl) i1 i2 i3 i4 rfl (by decide) _ V.length (V.map (Value.int .i64)) (row_keep R9.out fun c hc => A3.out.block c (R9.out.lt c hc).2) ⟨wr.heap.size, 0, none⟩ 1 1 [.int .i64 c1] rfl (cells1_new14 _ _ _) (by intro u hu; rw [List.mem_singleton.1 hu]; rfl) (by have := HVL.out; unfold maxLen; omega) (by have := HVL.out; omega) (Nat.le_trans Z9.out A3.out.size)
                obtain ⟨ua, uc, rfl⟩ := row_shape14 hown
                have HOW := Lib.hid (show w10.ownsRow w4.heap.size 3 1 (.slice ua (V.length + 1) uc) (V ++ [c1]).length ((V ++ [c1]).map (Value.int .i64)) by rw [List.map_append, List.length_append]; exact hown)
                have HGR := Lib.hid hgr
                have HLO := Lib.hid (show ∀ c, (Value.slice ua (V.length + 1) uc).ownBlock = some c → (Value.slice xa V.length xc).ownBlock = some c ∨ wr.heap.size ≤ c from fun c hc => by
                  rcases hloc with h | h
                  · exact Or.inl (h ▸ hc)
                  · rw [h] at hc; injection hc with hc; have := A3.out.size; exact Or.inr (by omega))
                clear hown hgr hloc i1 i2 i3 i4 hjt
                go_wp2_with (at_builtin; refine wpl_append_run14 rfl _ _ _ rfl hrun ?_)
                clear hrun
                go_roundw
                case rel =>
                  have hk10 : Keeps (fun b => ¬ (Value.slice xa V.length xc).ownBlock = some b) wr w10 := (Keeps.of A3.out).trans (Keeps.grown HGR.out fun b e c => c e)
                  refine ⟨i + 1, _, V ++ [c1], by have := HLT.out; omega, by go_num, by rw [List.length_append]; have := HVI.out; show V.length + 1 ≤ i + 1; omega, H9.out.turn hk10 (fun b hb => Nat.le_trans H4.out.below.size (R9.out.lt b hb).1) (fun b hb => (HLO.out b hb).imp id fun h => ⟨h, (HOW.out.lt b hb).2⟩), ?_, ⟨HIA.out, HEQ.out.1, HEQ.out.2.1, HEQ.out.2.2, HTV.out⟩, Nat.le_trans Z9.out hk10.b0.size⟩
                  exact HOW.out
                case measure => have := HLT.out; simp [intOf]; omega
    · obtain rfl : i = L.length := by have := HII.out; omega
      have hlt' : ¬ (L.length : Int) < (L.length : Int) := by omega
      have HLE := Lib.hid (show (T.votes.length : Int) ≤ 4 * (n : Int) by
        by_cases h0 : T.votes = []
        · rw [h0]; simp; omega
        · have := HF.out.1.len h0; rw [HF.out.2.2.2.1] at this; exact this)
      clear hlt
      go_wp2_with fail
      refine (ta_len C w wr _ g T HST.out HF.out.1).mono ?_
      rintro e w5 ⟨rfl, hb5⟩
      have B5 := Lib.hid (HST.out.below.trans (hb5.mono HST.out.below.size))
      have hle : (T.votes.length : Int) ≤ 4 * (n : Int) := HLE.out
      have hw4 : IntKind.i64.wrap (4 * (n : Int)) = 4 * (n : Int) := by have := HN.out; rw [IntKind.wrap_i64]; omega
      have hd : decide ((T.votes.length : Int) ≤ 4 * (n : Int)) = true := decide_eq_true hle
      clear hb5
      go_wp2_with fail
      go_ret
      exact ⟨rfl, B5.out⟩
end Go.Proofs.YtegkhhegapnkpaaDoor
end
section
open Go Go.RowKit
namespace FF
open WW BB MM
theorem ent_fresh {F : Fo} {N : List Iv} (hn : N.map Prod.fst = F.nodes) {x : It} (hx : Fresh F x) : entF F N x.1 = none := by
  unfold entF
  rw [Option.map_eq_none_iff, List.find?_eq_none]
  intro y hy e
  exact hx.2.2 y.1 (List.mem_append_left _ (hn ▸ List.mem_map.2 ⟨y, hy, rfl⟩)) (by simpa using e)
theorem ent_more {F : Fo} (hF : WF F) {N : List Iv} (hn : N.map Prod.fst = F.nodes) {x : Iv} (hx : Fresh F x.1) (hp : hasF F (parI x.1.2) = true) (h4 : F.nodes.length < 400) (h : ByteArray) :
    setM (entF F N) x.1.1 (mkS x (heightF F (parI x.1.2) + 1)) h = entF (moreF F x.1) (N ++ [x]) h := by
  have hw := more_wf hF hx hp h4
  unfold setM
  by_cases e : h = x.1.1
  · subst e
    rw [if_pos rfl]
    unfold entF
    have hnone : N.find? (fun y => decide (y.1.1 = x.1.1)) = none := by
      have := ent_fresh hn hx
      unfold entF at this
      rwa [Option.map_eq_none_iff] at this
    rw [List.find?_append, hnone]
    simp only [Option.none_or, List.find?_cons, decide_true, Option.map_some]
    rw [more_new hF hw hp]
  · rw [if_neg e]
    unfold entF
    rw [List.find?_append]
    cases hf : N.find? (fun y => decide (y.1.1 = h)) with
    | none =>
      rw [Option.none_or, List.find?_cons, show decide (x.1.1 = h) = false from decide_eq_false fun c => e c.symm]; rfl
    | some y =>
      obtain ⟨hy, hyh⟩ := find_mem hf
      rw [Option.some_or, Option.map_some, Option.map_some, more_old hF hw ((has_iff F h).2 (Or.inr ⟨y.1, hn ▸ List.mem_map.2 ⟨y, hy, rfl⟩, hyh⟩))]
theorem Keeps.upd' {A : Nat → Prop} {c : Nat} {w w' : World} (h : Upd c w w') (hA : ¬ A c) : Keeps A w w' := Keeps.upd h fun _ hb e => hA (e ▸ hb)
end FF
namespace Go.Proofs.YtegkhhegapnkpaaDoor
open FF JJ CC MM WW BB
section
variable {B : Nat} {w w' : World} {g : Nat} {F : Fo} {rt : ByteArray} {mv ov : Value} {N O : List Iv} {C : Nat → Prop}
theorem CFs.stood {bm : Nat} (h : CFs B w g F rt (.map (some bm)) ov N O C) (x : Iv) (hx : Fresh F x.1) (hp : hasF F (parI x.1.2) = true) (h4 : F.nodes.length < 400)
    (hm : MapAt Tryd.prog 9 w' (.map (some bm)) (setM (entF F N) x.1.1 (mkS x (heightF F (parI x.1.2) + 1))) (F.nodes.length + 1)) (hg : w.grownBy w' (some bm)) (hI : Dep C w (fun w' => InnV w' x)) (hs : SmallI x.1.2) :
    CFs B w' g (moreF F x.1) rt (.map (some bm)) ov (N ++ [x]) O C := by
  have hk : Keeps (fun b => b ≠ bm) w w' := Keeps.grown hg fun b e c => by injection e with e; exact c e.symm
  have hgm : g ≠ bm := fun e => h.gm (by rw [e]; rfl)
  refine ⟨more_wf h.wf hx hp h4, ?_, h.root, by rw [List.map_append, h.nodes]; rfl, h.orph, ?_, h.mB, ?_, ?_, h.gB, h.cB, h.cg, h.cm, h.co, fun b hb => Nat.lt_of_lt_of_le (h.cl b hb) hk.b0.size, ?_⟩
  · exact (hk.block g hgm h.blk.lt).trans h.blk
  · have e : (moreF F x.1).nodes.length = F.nodes.length + 1 := by simp [moreF]
    rw [e]
    exact hm.congr fun y => ent_more h.wf h.nodes hx hp h4 y
  · exact row_keep h.row fun c hc => hk.block c (fun e => h.mo c hc (by rw [e]; rfl)) (h.row.lt c hc).2
  · intro w2 hw2
    have hC : Keeps C w w' := hk.sub fun b hb _ e => h.cm bm rfl (e ▸ hb)
    intro y hy
    rw [List.append_assoc, List.mem_append, List.mem_append] at hy
    rcases hy with hy | hy | hy
    · exact h.inn.on hC w2 hw2 y (List.mem_append_left _ hy)
    · obtain rfl : y = x := by simpa using hy
      exact hI.on hC w2 hw2
    · exact h.inn.on hC w2 hw2 y (List.mem_append_right _ hy)
  · intro y hy
    rw [List.append_assoc, List.mem_append, List.mem_append] at hy
    rcases hy with hy | hy | hy
    · exact h.small y (List.mem_append_left _ hy)
    · obtain rfl : y = x := by simpa using hy
      exact hs
    · exact h.small y (List.mem_append_right _ hy)
end
end Go.Proofs.YtegkhhegapnkpaaDoor
end
section
open Go Go.RowKit
namespace TA
open RR FF CC MM WW BB
/-- those that stay -/
def keepV (L : List Vw) (u : Int) : List Vw := L.filter fun x => decide (u < x.1.1)
theorem keepV_take {L : List Vw} {i : Nat} (h : i < L.length) (u : Int) : keepV (L.take (i + 1)) u = if u < (L.getD i vw0).1.1 then keepV (L.take i) u ++ [L.getD i vw0] else keepV (L.take i) u := by
  rw [List.take_add_one, List.getElem?_eq_getElem h, List.getD_eq_getElem?_getD, List.getElem?_eq_getElem h]
  unfold keepV
  rw [List.filter_append]
  by_cases hx : u < L[i].1.1
  · simp [hx]
  · simp [hx]
theorem keepV_len (L : List Vw) (u : Int) (i : Nat) : (keepV (L.take i) u).length ≤ i := by
  have := List.length_filter_le (fun x => decide (u < x.1.1)) (L.take i)
  rw [List.length_take] at this
  unfold keepV; omega
theorem keepV_fst (L : List Vw) (u : Int) : (keepV L u).map Prod.fst = (L.map Prod.fst).filter fun x => decide (u < x.1) := by
  unfold keepV
  rw [List.filter_map]; rfl
theorem encW_one {x : Vw} (h : ∃ a n c, x.2.1 = .slice a n c) : ∀ u ∈ encW x, u.oneCell' = true := by
  obtain ⟨a, n, c, h⟩ := h
  intro u hu
  unfold encW at hu
  rw [h] at hu
  simp only [List.mem_cons, List.not_mem_nil, or_false] at hu
  rcases hu with rfl | rfl | rfl | rfl | rfl <;> rfl
theorem cellsW_one {L : List Vw} (h : ∀ x ∈ L, ∃ a n c, x.2.1 = .slice a n c) : ∀ u ∈ cellsW L, u.oneCell' = true := by
  intro u hu
  unfold cellsW at hu
  rw [List.mem_flatten] at hu
  obtain ⟨c, hc, hu⟩ := hu
  obtain ⟨x, hx, rfl⟩ := List.mem_map.1 hc
  exact encW_one (h x hx) u hu
theorem cells5_new (w : World) (a b c d e : Value) (t : TypeId) : ∀ j u, [a, b, c, d, e][j]? = some u → (w.alloc (.cells #[a, b, c, d, e] t)).cell? ((⟨w.heap.size, 0, none⟩ : Addr).add j) = some u := by
  intro j u hj
  match j, hj with
  | 0, hj => simp at hj; subst hj; rw [Addr.add_lit]; exact cell_new w _ t 0 _ rfl
  | 1, hj => simp at hj; subst hj; rw [Addr.add_lit]; exact cell_new w _ t 1 _ rfl
  | 2, hj => simp at hj; subst hj; rw [Addr.add_lit]; exact cell_new w _ t 2 _ rfl
  | 3, hj => simp at hj; subst hj; rw [Addr.add_lit]; exact cell_new w _ t 3 _ rfl
  | 4, hj => simp at hj; subst hj; rw [Addr.add_lit]; exact cell_new w _ t 4 _ rfl
  | j + 5, hj => simp at hj
/-- an append whose run is known -/
theorem wpl_append_runT {P : Program} {w w' : World} {ops : Array Oper} {rest : List Oper} {o : Oper} {a : Act} {Q : Exit → Act → World → Prop} {v' : Value} (hgd : o.guard = none) (s x : Operand) (t : TypeId)
    (ho : o.op = .call { callee := .builtin .append, args := #[s, x], argTypes := #[t, t] }) (hr : (Builtin.append_ #[t, t] o.type #[a.eval s, a.eval x]).run P w = .ok v' w') (h : wpList P ops Q rest (a.put o.dst v') w') : wpList P ops Q (o :: rest) a w := by
  refine wpList_plain hgd fun K hK => ?_
  unfold Oper.wp execOp
  simp only [ho, resolve, invoke, builtin, Sem.run_bind, Sem.run_pure, Result.andThen_ok, List.map_toArray, List.map_cons, List.map_nil, hr]
  exact hK _ _ h
theorem hadL_take {L : List Vt} {i : Nat} (h : i < L.length) (v f : Int) : hadL (L.take (i + 1)) v f = (hadL (L.take i) v f || decide ((L.getD i vt0).1 = v ∧ (L.getD i vt0).2.2.1 = f)) := by
  rw [List.take_add_one, List.getElem?_eq_getElem h, List.getD_eq_getElem?_getD, List.getElem?_eq_getElem h]
  unfold hadL
  rw [List.any_append]
  simp
theorem hadL_of {L : List Vt} {i : Nat} (h : i < L.length) {v f : Int} (h1 : (L.getD i vt0).1 = v ∧ (L.getD i vt0).2.2.1 = f) : hadL L v f = true := by
  unfold hadL
  rw [List.any_eq_true]
  refine ⟨L.getD i vt0, ?_, decide_eq_true h1⟩
  rw [List.getD_eq_getElem?_getD, List.getElem?_eq_getElem h]; exact List.getElem_mem h
end TA
namespace Go.Proofs.YtegkhhegapnkpaaDoor
open TA RR FF JJ CC MM WW BB
theorem und_ops14 : Tryd.prog.underlying 90 = some (.slice 100) := by kernel_rfl
theorem info_op14 : (Tryd.prog.info? 100).map (fun i => (i.zero, i.size, i.bytes)) = some (some (.agg #[.int .i64 0, .string ⟨#[]⟩, .int .i64 0, .slice none 0 0, .bool false]), 5, 64) := by kernel_rfl
set_option maxRecDepth 100000 in
set_option maxHeartbeats 4000000 in
theorem rbelow_any (T : Ta) (L : List Vw) (rv : Value) (y B : Nat) (v : Int) (w : World) (h : RtM w 100 B y T L rv) (hl : T.votes.length ≤ 1000) (hB : B ≤ w.heap.size) :
    Calls Tryd.prog 56 #[.pointer (some ⟨y, 0, none⟩), .int .i64 v] w fun e w' => e = .returned (.tuple #[]) ∧ ∃ rv', RtM w' 100 B y (belowT T v) (keepV L (max T.under v)) rv' ∧ Keeps (fun b => b ≠ y) w w' ∧ (∀ b, rv'.ownBlock = some b → w.heap.size ≤ b) := by
  have H := Lib.hid h
  have HL := Lib.hid (show L.length ≤ 1000 by rw [h.len]; exact hl)
  have HLL := Lib.hid h.len
  have HBB := Lib.hid hB
  obtain ⟨ra, rc, rfl⟩ := row_shape14 h.row
  obtain ⟨s, d, n, un, V⟩ := T
  obtain ⟨u, hu⟩ : ∃ u, max un v = u := ⟨_, rfl⟩
  have HU := Lib.hid hu
  obtain ⟨c0, c1, c2, c3, c4⟩ := cells5 (show Blk w y 5 (rowL [.string s, .int .i64 d, .int .i64 n, .int .i64 un, .slice ra L.length rc]) from h.blk)
  have f3 := h.blk.frz 3
  clear h hl hB
  go_enter Tryd.func56, Tryd.ntmps56
  go_upto_region 1 with fail
  clear c0 c1 c2 c3 c4 f3 hu
  have U1 := Lib.hid (Upd.set w y 3 (.int .i64 u))
  have K1 := Lib.hid (show Blk (w.setCell ⟨y, 3, none⟩ (.int .i64 u)) y 5 (rowL [.string s, .int .i64 d, .int .i64 n, .int .i64 u, .slice ra L.length rc]) from (H.out.blk.set 3 _).congr _ fun j hj => by
    match j, hj with
    | 0, _ => rfl
    | 1, _ => rfl
    | 2, _ => rfl
    | 3, _ => rfl
    | 4, _ => rfl)
  have R1 := Lib.hid (show (w.setCell ⟨y, 3, none⟩ (.int .i64 u)).ownsRow B 100 5 (.slice ra L.length rc) L.length (cellsW L) from row_keep H.out.row fun c hc => U1.out.block c (fun e => H.out.ne (e ▸ hc)))
  obtain ⟨w1, hw1⟩ : ∃ w1, w.setCell ⟨y, 3, none⟩ (.int .i64 u) = w1 := ⟨_, rfl⟩
  rw [hw1] at U1 K1 R1 ⊢
  have HZ1 := Lib.hid (show w1.heap.size = w.heap.size from U1.out.size)
  clear hw1
  go_wp2_with fail
  go_loopw [4, 5] (fun x z wr => ∃ i : Nat, i ≤ L.length ∧ z = .int .i64 (i : Int) ∧ wr.ownsRow w1.heap.size 100 5 x (keepV (L.take i) u).length (cellsW (keepV (L.take i) u)) ∧ Below w1.heap.size w1 wr) (fun _ z _ => L.length - (intOf z).toNat)
  case atStart => exact ⟨0, Nat.zero_le _, rfl, World.ownsRow_nil _ _ _ _, Below.refl _ _⟩
  case round =>
    obtain ⟨i, hi, rfl, hrow, hbr⟩ := hrel
    have HBR := Lib.hid hbr
    have HI := Lib.hid hi
    have HROW := Lib.hid hrow
    have i0 : (0 : Int) ≤ (i : Int) := by omega
    have ib : (i : Int) ≤ 1000 := by have := HL.out; omega
    obtain ⟨xa, xc, rfl⟩ := row_shape14 hrow
    have KR := Lib.hid (K1.out.below hbr K1.out.lt)
    have HC5 := Lib.hid (fun (wx : World) (hb : Below wr.heap.size wr wx) => cells5 (KR.out.below hb KR.out.lt))
    clear hbr hi hrow
    by_cases hlt : i < L.length
    · have hlt' : (i : Int) < (L.length : Int) := by omega
      have HLT := Lib.hid hlt
      have HSN := Lib.hid (keepV_take hlt u)
      have HOL := Lib.hid (Nat.le_trans (keepV_len L u i) (show i ≤ 1000 by omega))
      have HSL := Lib.hid (H.out.sl (L.getD i vw0) (by rw [List.getD_eq_getElem?_getD, List.getElem?_eq_getElem hlt]; exact List.getElem_mem hlt))
      obtain ⟨q, cap, he, hq, hc⟩ := own_votes R1.out i hlt
      injection he with e1 _ e3
      subst e1 e3
      have HQC := Lib.hid (fun (wx : World) (hb : Below wr.heap.size wr wx) => hc wx (((HBR.out.trans (hb.mono HBR.out.size))).block q hq))
      obtain ⟨x, hx⟩ : ∃ x, L.getD i vw0 = x := ⟨_, rfl⟩
      rw [hx] at HQC HSN HSL
      obtain ⟨⟨xv, xk, xf, xt⟩, tv, tb⟩ := x
      obtain ⟨a9, n9, c9, h9⟩ := HSL.out
      replace h9 : tv = .slice a9 n9 c9 := h9
      subst h9
      obtain ⟨c0, c1, c2, c3, c4⟩ := HC5.out wr (Below.refl _ _)
      obtain ⟨G, hG⟩ : ∃ G, decide (u < xv) = G := ⟨_, rfl⟩
      have HG := Lib.hid hG
      obtain ⟨p0, _⟩ := HQC.out wr (Below.refl _ _)
      replace p0 : wr.cell? ⟨q, i * 5, none⟩ = some (.int .i64 xv) := p0
      clear hlt hc hx hq
      go_upto_region 5 with fail
      refine quiet_abs (by kernel_rfl) (by kernel_rfl) fun w5 hs5 => ?_
      have m3 : w5.cell? ⟨y, 3, none⟩ = some (.int .i64 u) := (hs5.cell _).trans c3
      have m4 : w5.cell? ⟨y, 4, none⟩ = some (.slice (some ⟨q, 0, none⟩) L.length rc) := (hs5.cell _).trans c4
      have m0 : w5.cell? ⟨q, i * 5, none⟩ = some (.int .i64 xv) := (hs5.cell _).trans p0
      have Y5 := Lib.hid (hs5.below wr.heap.size)
      have R5 := Lib.hid (row_keep HROW.out fun c hc => Y5.out.block c (HROW.out.lt c hc).2)
      have B5 := Lib.hid (HBR.out.trans (Y5.out.mono HBR.out.size))
      clear hs5 c0 c1 c2 c3 c4 p0
      repeat still_step
      refine wpStill_nil ?_
      clear m0 m3 m4 hG
      cases G with
      | true =>
        have HEQ := Lib.hid (show keepV (L.take (i + 1)) u = keepV (L.take i) u ++ [((xv, xk, xf, xt), .slice a9 n9 c9, tb)] by rw [HSN.out, if_pos (of_decide_eq_true HG.out)])
        obtain ⟨p0, p1, p2, p3, p4⟩ := HQC.out w5 Y5.out
        replace p0 : w5.cell? ⟨q, i * 5, none⟩ = some (.int .i64 xv) := p0
        replace p1 : w5.cell? ⟨q, i * 5 + 1, none⟩ = some (.string xk) := p1
        replace p2 : w5.cell? ⟨q, i * 5 + 2, none⟩ = some (.int .i64 xf) := p2
        replace p3 : w5.cell? ⟨q, i * 5 + 3, none⟩ = some (.slice a9 n9 c9) := p3
        replace p4 : w5.cell? ⟨q, i * 5 + 4, none⟩ = some (.bool tb) := p4
        obtain ⟨_, _, _, _, c4⟩ := HC5.out w5 Y5.out
        have A3 := Lib.hid ((Below.refl w5.heap.size w5).alloc (Nat.le_refl _) (.cells #[.int .i64 xv, .string xk, .int .i64 xf, .slice a9 n9 c9, .bool tb] 100))
        obtain ⟨ti, i1, i2, i3, i4⟩ := info_parts info_op14
        obtain ⟨u', w4, hrun, hown, hgr, _, hloc⟩ := run_append_own_at (P := Tryd.prog) (w := w5.alloc (.cells #[.int .i64 xv, .string xk, .int .i64 xf, .slice a9 n9 c9, .bool tb] 100)) w1.heap.size 90 90 100 ti _ 5 64 und_ops14 i1 i2 i3 i4 rfl (by decide) _ (keepV (L.take i) u).length (cellsW (keepV (L.take i) u)) (row_keep R5.out fun c hc => A3.out.block c (R5.out.lt c hc).2) ⟨w5.heap.size, 0, none⟩ 1 1 [.int .i64 xv, .string xk, .int .i64 xf, .slice a9 n9 c9, .bool tb] rfl (cells5_new _ _ _ _ _ _ _) (encW_one (x := ((xv, xk, xf, xt), .slice a9 n9 c9, tb)) ⟨_, _, _, rfl⟩) (by have := HOL.out; unfold maxLen; omega) (by have := HOL.out; omega) (Nat.le_trans B5.out.size A3.out.size)
        obtain ⟨ua, uc, rfl⟩ := row_shape14 hown
        have HOW := Lib.hid (show w4.ownsRow w1.heap.size 100 5 (.slice ua ((keepV (L.take i) u).length + 1) uc) (keepV (L.take (i + 1)) u).length (cellsW (keepV (L.take (i + 1)) u)) by
          rw [HEQ.out, cellsW_snoc, List.length_append]; exact hown)
        have BF := Lib.hid ((B5.out.trans (A3.out.mono B5.out.size)).grown hgr (Nat.le_trans B5.out.size A3.out.size) (fun j hj => (R5.out.lt j hj).1))
        clear hown hgr hloc i1 i2 i3 i4
        go_wp2_with (at_builtin; refine wpl_append_runT rfl _ _ _ rfl hrun ?_)
        clear hrun
        go_roundw
        case rel => exact ⟨i + 1, by have := HLT.out; omega, by go_num, HOW.out, BF.out⟩
        case measure => have := HLT.out; simp [intOf]; omega
      | false =>
        have HEQ := Lib.hid (show keepV (L.take (i + 1)) u = keepV (L.take i) u by rw [HSN.out, if_neg (of_decide_eq_false HG.out)])
        go_wp2_with fail
        go_roundw
        case rel => exact ⟨i + 1, by have := HLT.out; omega, by go_num, by rw [HEQ.out]; exact R5.out, B5.out⟩
        case measure => have := HLT.out; simp [intOf]; omega
    · obtain rfl : i = L.length := by have := HI.out; omega
      have hlt' : ¬ (L.length : Int) < (L.length : Int) := by omega
      obtain ⟨c0, c1, c2, c3, c4⟩ := HC5.out wr (Below.refl _ _)
      have f4 := KR.out.frz 4
      have HRW := Lib.hid HROW.out
      rw [List.take_length] at HRW
      clear hlt
      go_wp2_with fail
      go_end0
      have U5 := Lib.hid (Upd.set wr y 4 (.slice xa (keepV L u).length xc))
      have HNE := Lib.hid (show ∀ c, (Value.slice xa (keepV L u).length xc).ownBlock = some c → c ≠ y from fun c hc e => by
        have h1 := (HRW.out.lt c hc).1
        have h2 := H.out.blk.lt
        have h3 := HZ1.out
        omega)
      refine ⟨rfl, .slice xa (keepV L u).length xc, ⟨?_, ?_, ?_, ?_, fun e => HNE.out y e rfl⟩, ?_, ?_⟩
      · refine (KR.out.set 4 _).congr _ fun j hj => ?_
        unfold belowT
        rw [HU.out]
        match j, hj with
        | 0, _ => rfl
        | 1, _ => rfl
        | 2, _ => rfl
        | 3, _ => rfl
        | 4, _ => rfl
      · rw [HU.out]
        exact own_base (row_keep HRW.out fun c hc => U5.out.block c (HNE.out c hc)) (by have := HZ1.out; have := HBB.out; omega)
      · rw [keepV_fst, H.out.fst]; rfl
      · exact fun x hx => H.out.sl x ((List.mem_filter.1 hx).1)
      · exact ((Keeps.upd' U1.out fun c => c rfl).trans (Keeps.of HBR.out)).trans (Keeps.upd' U5.out fun c => c rfl)
      · exact fun c hc => by have := (HRW.out.lt c hc).1; have := HZ1.out; omega
end Go.Proofs.YtegkhhegapnkpaaDoor
end
section
open Go Go.RowKit
namespace Go.Proofs.YtegkhhegapnkpaaDoor
open TA RR FF JJ CC MM WW BB
set_option maxRecDepth 100000 in
set_option maxHeartbeats 8000000 in
theorem rholds_yes (T : Ta) (x : Vt) (b : Bool) (ta : Option Addr) (tc y : Nat) (rv : Value) (w : World) (hb : Blk w y 5 (taF T rv)) (hv : StrsAt w (.slice ta x.2.2.2.length tc) x.2.2.2) (hs : T.seed.size ≤ 1000) (hk : x.2.1.size ≤ 1000) (hp : pre14 T x.2.2.1 x.2.2.2.length = true) :
    Calls Tryd.prog 114 #[.pointer (some ⟨y, 0, none⟩), .agg #[.int .i64 x.1, .string x.2.1, .int .i64 x.2.2.1, .slice ta x.2.2.2.length tc, .bool b]] w fun e w' => e = .returned (.bool (holdsB T.seed T.node T.n (textB x.1 x.2.1) x.2.2.1 x.2.2.2)) ∧ Below w.heap.size w w' := by
  rw [holds_in hp]
  obtain ⟨v, k, f, ts⟩ := x
  obtain ⟨s, d, n, un, V⟩ := T
  obtain ⟨p1, p2, p3, p4, p5, p6, p7⟩ : 1 ≤ n ∧ n ≤ 7 ∧ 0 ≤ d ∧ d < n ∧ 0 ≤ f ∧ f < n ∧ (ts.length : Int) = n := of_decide_eq_true hp
  show Calls _ _ #[.pointer (some ⟨y, 0, none⟩), .agg #[.int .i64 v, .string k, .int .i64 f, .slice ta ts.length tc, .bool b]] w fun e w' => e = .returned (.bool ((ts.all fun t => decide (t.size = 16)) && ((ts.getD d.toNat ⟨#[]⟩).toList == (tagB s f d (textB v k)).toList))) ∧ Below w.heap.size w w'
  obtain ⟨dd, rfl⟩ : ∃ dd : Nat, d = (dd : Int) := ⟨d.toNat, by omega⟩
  subst p7
  have HP := Lib.hid (show 1 ≤ ts.length ∧ ts.length ≤ 7 ∧ dd < ts.length ∧ 0 ≤ f ∧ f < (ts.length : Int) by omega)
  have HB := Lib.hid (show Blk w y 5 (rowL [.string s, .int .i64 (dd : Int), .int .i64 (ts.length : Int), .int .i64 un, rv]) from hb)
  have HV := Lib.hid (show StrsAt w (.slice ta ts.length tc) ts from hv)
  have HS := Lib.hid (show s.size ≤ 1000 from hs)
  have HK := Lib.hid (show k.size ≤ 1000 from hk)
  have B1 := Lib.hid ((Below.refl w.heap.size w).alloc (Nat.le_refl _) (.cells #[.int .i64 v, .string k, .int .i64 f, .slice ta ts.length tc, .bool b] 100))
  have L1 := Lib.hid (show Blk (w.alloc (.cells #[.int .i64 v, .string k, .int .i64 f, .slice ta ts.length tc, .bool b] 100)) w.heap.size 5 (rowL [.int .i64 v, .string k, .int .i64 f, .slice ta ts.length tc, .bool b]) from Blk.new' rfl (row5_ _ _ _ _ _))
  have t0 : decide ((ts.length : Int) < 1) = false := decide_eq_false (by omega)
  have t1 : decide ((7 : Int) < (ts.length : Int)) = false := decide_eq_false (by omega)
  have t2 : decide ((dd : Int) < 0) = false := decide_eq_false (by omega)
  have t3 : decide ((ts.length : Int) ≤ (dd : Int)) = false := decide_eq_false (by omega)
  have t4 : decide (f < 0) = false := decide_eq_false (by omega)
  have t5 : decide ((ts.length : Int) ≤ f) = false := decide_eq_false (by omega)
  have t6 : ((ts.length : Int) != (ts.length : Int)) = false := by simp
  have t3' : decide (ts.length ≤ dd) = false := decide_eq_false (by omega)
  have t0' : decide (ts.length < 1) = false := decide_eq_false (by omega)
  have t1' : decide (7 < ts.length) = false := decide_eq_false (by omega)
  clear hb hv hs hk hp p1 p2 p3 p4 p5 p6
  go_enter Tryd.func114, Tryd.ntmps114
  go_upto_region 1 with fail
  obtain ⟨y0, hy0⟩ : ∃ y0, w.heap.size = y0 := ⟨_, rfl⟩
  obtain ⟨w1, hw1⟩ : ∃ w1, w.alloc (.cells #[.int .i64 v, .string k, .int .i64 f, .slice ta ts.length tc, .bool b] 100) = w1 := ⟨_, rfl⟩
  rw [hw1] at B1 L1 ⊢
  rw [hy0] at L1 ⊢
  clear hw1 hy0
  have HBL := Lib.hid (show Blk w1 y 5 (rowL [.string s, .int .i64 (dd : Int), .int .i64 (ts.length : Int), .int .i64 un, rv]) from HB.out.below B1.out HB.out.lt)
  obtain ⟨c0, c1, c2, c3, c4⟩ := cells5 HBL.out
  obtain ⟨d0, d1, d2, d3, d4⟩ := cells5 L1.out
  go_quiet (fail)
  clear c0 c1 c2 c3 c4 d0 d1 d2 d3 d4 t0 t1 t2 t3 t4 t5 t6 t3' t0' t1'
  have Y2 := Lib.hid ((Same.drewN w1 nq).below w1.heap.size)
  obtain ⟨w2, hw2⟩ : ∃ w2, w1.drewN nq = w2 := ⟨_, rfl⟩
  rw [hw2] at Y2 ⊢
  clear hw2
  have HB2 := Lib.hid (HBL.out.below Y2.out HBL.out.lt)
  have L2 := Lib.hid (L1.out.below Y2.out L1.out.lt)
  have BW2 := Lib.hid (B1.out.trans (Y2.out.mono B1.out.size))
  have HV2 := Lib.hid (HV.out.later BW2.out)
  have HCC := Lib.hid (fun (wx : World) (hx : Below w2.heap.size w2 wx) => And.intro (cells5 (HB2.out.below hx HB2.out.lt)) (cells5 (L2.out.below hx L2.out.lt)))
  obtain ⟨gb, off, rfl, hgl, hcell⟩ : ∃ b off, ta = some ⟨b, off, none⟩ ∧ b < w2.heap.size ∧ ∀ i, i < ts.length → w2.cell? ⟨b, off + i, none⟩ = some (.string (ts.getD i ⟨#[]⟩)) := by
    obtain ⟨a1, c1, he, h | ⟨b, o, h1, h2, h3⟩⟩ := HV2.out
    · have := HP.out.1; rw [h] at this; simp at this
    · injection he with e1 _ _
      exact ⟨b, o, e1.trans h1, h2, h3⟩
  have HTC := Lib.hid (fun (wx : World) (hx : Below w2.heap.size w2 wx) i (hi : i < ts.length) => (hx.cell (p := ⟨gb, off + i, none⟩) hgl).trans (hcell i hi))
  clear hgl hcell
  go_wp2_with fail
  go_loopw [5] (fun x wr => ∃ i : Nat, i ≤ ts.length ∧ x = .int .i64 (i : Int) ∧ (ts.take i).all (fun t => decide (t.size = 16)) = true ∧ Below w2.heap.size w2 wr) (fun x _ => ts.length - (intOf x).toNat)
  case atStart => exact ⟨0, Nat.zero_le _, rfl, rfl, Below.refl _ _⟩
  case round =>
    obtain ⟨i, hi, rfl, hall, hbr⟩ := hrel
    have HALL := Lib.hid hall
    have HBR := Lib.hid hbr
    have HI := Lib.hid hi
    have i0 : (0 : Int) ≤ (i : Int) := by omega
    have ib : (i : Int) ≤ 7 := by have := HP.out; omega
    clear hall hbr hi
    by_cases hlt : i < ts.length
    · have hlt' : (i : Int) < (ts.length : Int) := by omega
      have HLT := Lib.hid hlt
      have hcl := HTC.out wr HBR.out i hlt
      obtain ⟨⟨c0, c1, c2, c3, c4⟩, d0, d1, d2, d3, d4⟩ := HCC.out wr HBR.out
      have HSN := Lib.hid (show (ts.take (i + 1)).all (fun t => decide (t.size = 16)) = ((ts.take i).all (fun t => decide (t.size = 16)) && decide ((ts.getD i ⟨#[]⟩).size = 16)) by
        rw [List.take_succ_eq_append_getElem hlt, List.all_append]
        simp [List.getD, List.getElem?_eq_getElem hlt])
      have HMEM := Lib.hid (show ts.getD i ⟨#[]⟩ ∈ ts by rw [List.getD_eq_getElem?_getD, List.getElem?_eq_getElem hlt]; exact List.getElem_mem hlt)
      obtain ⟨z, hz⟩ : ∃ z, ts.getD i ⟨#[]⟩ = z := ⟨_, rfl⟩
      rw [hz] at hcl HSN HMEM
      clear hz hlt
      by_cases h16 : z.size = 16
      · have t1 : ((z.size : Int) != 16) = false := by rw [h16]; rfl
        have H16 := Lib.hid h16
        clear h16
        go_wp2_with fail
        go_roundw
        case rel => exact ⟨i + 1, by have := HLT.out; omega, by go_num, by rw [HSN.out, HALL.out]; simpa using H16.out, HBR.out⟩
        case measure => have := HLT.out; simp [intOf]; omega
      · have t1 : ((z.size : Int) != 16) = true := by rw [bne_iff_ne]; omega
        have H16 := Lib.hid (show (ts.all fun t => decide (t.size = 16)) = false by
          rw [List.all_eq_false]; exact ⟨z, HMEM.out, by simpa using h16⟩)
        clear h16
        go_wp2_with fail
        go_ret
        exact ⟨by rw [H16.out]; rfl, BW2.out.trans (HBR.out.mono BW2.out.size)⟩
    · obtain rfl : i = ts.length := by have := HI.out; omega
      have hlt' : ¬ (ts.length : Int) < (ts.length : Int) := by omega
      have HALT := Lib.hid (show (ts.all fun t => decide (t.size = 16)) = true by have := HALL.out; rw [List.take_length] at this; exact this)
      obtain ⟨⟨c0, c1, c2, c3, c4⟩, d0, d1, d2, d3, d4⟩ := HCC.out wr HBR.out
      obtain ⟨X, hX⟩ : ∃ X, textB v k = X := ⟨_, rfl⟩
      have HXS := Lib.hid (show X.size ≤ 100000 by rw [← hX, textB_size]; have := HK.out; omega)
      have HTX := Lib.hid (fun wx => hX ▸ rtext5_any v k (by have := HK.out; omega) wx)
      obtain ⟨G, hG⟩ : ∃ G, tagB s f (dd : Int) X = G := ⟨_, rfl⟩
      have HTG := Lib.hid (fun wx => hG ▸ rtag_any s f (dd : Int) X HS.out HXS.out wx)
      have HGG := Lib.hid (show tagB s f (dd : Int) (textB v k) = G by rw [hX, hG])
      obtain ⟨z, hz⟩ : ∃ z, ts.getD dd ⟨#[]⟩ = z := ⟨_, rfl⟩
      have HZZ := Lib.hid hz
      have HZC := Lib.hid (fun (wx : World) (hx : Below wr.heap.size wr wx) => hz ▸ HTC.out wx (HBR.out.trans (hx.mono HBR.out.size)) dd HP.out.2.2.1)
      have HC8 := Lib.hid (fun (wx : World) (hx : Below wr.heap.size wr wx) => HCC.out wx (HBR.out.trans (hx.mono HBR.out.size)))
      have e0 : (0 : Int) ≤ (dd : Int) := by omega
      have e1 : (dd : Int) < (ts.length : Int) := by have := HP.out; omega
      clear hX hG hz hlt
      go_wp2_with fail
      clear c0 c1 c2 c3 c4 d0 d1 d2 d3 d4
      refine plan_abs (fun wx => Below wr.heap.size wr wx) [(true, 0), (true, 1), (true, 2), (true, 3), (true, 4), (true, 5), (true, 6), (true, 7), (true, 8), (true, 9), (true, 10), (true, 11), (true, 12), (true, 13), (true, 14), (true, 15), (true, 16), (true, 17), (true, 18), (true, 19), (true, 20), (true, 21), (true, 22), (true, 23), (false, 24), (false, 25), (true, 26), (true, 27)] (by kernel_rfl) (by kernel_rfl) (fun _ _ d _ _ h => by cases d <;> exact h) fun w5 hs5 => ⟨hs5.below _, ?_⟩
      have Y5 := Lib.hid (hs5.below wr.heap.size)
      clear hs5
      iterate 24 (refine pl_run _ ?_ rfl rfl ?_ ?_; rotate_left; (focus (intro w' hS; obtain ⟨⟨c0, c1, c2, c3, c4⟩, d0, d1, d2, d3, d4⟩ := HC8.out w' hS; have z0 := HZC.out w' hS; go_simp; exact rfl)); simp only [Act.put, List.setIfInBounds_toArray, List.set_cons_zero, List.set_cons_succ, List.getElem_toArray, List.getElem_cons_zero, List.getElem_cons_succ])
      refine pl_call1 _ rfl rfl (by go_simp) (HTX.out w5) (fun w9 hb => Y5.out.trans (hb.mono Y5.out.size)) fun w6 hb6 => ?_
      have Y6 := Lib.hid (Y5.out.trans (hb6.mono Y5.out.size))
      clear hb6
      simp only [Act.put, List.setIfInBounds_toArray, List.set_cons_zero, List.set_cons_succ, List.getElem_toArray, List.getElem_cons_zero, List.getElem_cons_succ]
      refine pl_call1 _ rfl rfl (by go_simp) (HTG.out w6) (fun w9 hb => Y6.out.trans (hb.mono Y6.out.size)) fun w7 hb7 => ?_
      have Y7 := Lib.hid (Y6.out.trans (hb7.mono Y6.out.size))
      clear hb7
      simp only [Act.put, List.setIfInBounds_toArray, List.set_cons_zero, List.set_cons_succ, List.getElem_toArray, List.getElem_cons_zero, List.getElem_cons_succ]
      obtain ⟨Q, hQ⟩ : ∃ Q, (z.toList == G.toList) = Q := ⟨_, rfl⟩
      have HQ := Lib.hid hQ
      iterate 2 (refine pl_run _ ?_ rfl rfl ?_ ?_; rotate_left; (focus (intro w' hS; go_simp; exact rfl)); simp only [Act.put, List.setIfInBounds_toArray, List.set_cons_zero, List.set_cons_succ, List.getElem_toArray, List.getElem_cons_zero, List.getElem_cons_succ])
      refine pl_end ?_
      go_wp2_with fail
      go_ret
      exact ⟨by rw [HALT.out, show ((dd : Int)).toNat = dd from rfl, HZZ.out, HGG.out, HQ.out]; rfl, BW2.out.trans ((HBR.out.trans (Y7.out.mono HBR.out.size)).mono BW2.out.size)⟩
theorem rholds14 (T : Ta) (x : Vt) (b : Bool) (ta : Option Addr) (tc y : Nat) (rv : Value) (H : Bool) (hH : holdsB T.seed T.node T.n (textB x.1 x.2.1) x.2.2.1 x.2.2.2 = H) (w : World) (hb : Blk w y 5 (taF T rv)) (hv : StrsAt w (.slice ta x.2.2.2.length tc) x.2.2.2) (hs : T.seed.size ≤ 1000) (hk : x.2.1.size ≤ 1000) :
    Calls Tryd.prog 114 #[.pointer (some ⟨y, 0, none⟩), .agg #[.int .i64 x.1, .string x.2.1, .int .i64 x.2.2.1, .slice ta x.2.2.2.length tc, .bool b]] w fun e w' => e = .returned (.bool H) ∧ Below w.heap.size w w' := by
  cases hp : pre14 T x.2.2.1 x.2.2.2.length with
  | true => exact hH ▸ rholds_yes T x b ta tc y rv w hb hv hs hk hp
  | false => rw [← hH, holds_pre hp]; exact rholds_no T x b ta tc y rv w hb hp
end Go.Proofs.YtegkhhegapnkpaaDoor
end
section
open Go Go.RowKit
namespace TA
open RR FF CC MM WW BB
/-- what Add asks first -/
def bas14 (T : Ta) (x : Vt) : Bool := decide (1 ≤ x.1 ∧ x.1 ≤ 1000000 ∧ T.under < x.1 ∧ x.2.1.size = 32)
theorem ok_no1 {T : Ta} {x : Vt} (h : bas14 T x = false) : okT T x = false := by unfold okT mayT; unfold bas14 at h; rw [h]; rfl
theorem ok_no2 {T : Ta} {x : Vt} (h : holdsB T.seed T.node T.n (textB x.1 x.2.1) x.2.2.1 x.2.2.2 = false) : okT T x = false := by unfold okT mayT; rw [h, Bool.and_false]; rfl
theorem ok_no3 {T : Ta} {x : Vt} (h : ¬ (T.votes.length : Int) < 4 * T.n) : okT T x = false := by unfold okT; rw [decide_eq_false h]; simp
theorem ok_no4 {T : Ta} {x : Vt} (h : hadL T.votes x.1 x.2.2.1 = true) : okT T x = false := by unfold okT; rw [h]; simp
theorem ok_yes {T : Ta} {x : Vt} (h1 : bas14 T x = true) (h2 : holdsB T.seed T.node T.n (textB x.1 x.2.1) x.2.2.1 x.2.2.2 = true) (h3 : (T.votes.length : Int) < 4 * T.n) (h4 : hadL T.votes x.1 x.2.2.1 = false) : okT T x = true := by
  unfold okT mayT; unfold bas14 at h1; rw [h1, h2, h4, decide_eq_true h3]; rfl
theorem told_no {T : Ta} {x : Vt} (h : okT T x = false) : toldT T x = false := by unfold toldT; rw [h]; rfl
/-- what Add leaves -/
def RAdd (w : World) (tO : TypeId) (B y : Nat) (T : Ta) (x : Vt) (rv : Value) (e : Ending) (w' : World) : Prop :=
  e = .returned (.bool (toldT T x)) ∧ ∃ L' rv', RtM w' tO B y (addT T x) L' rv' ∧ Keeps (fun b => b ≠ y) w w' ∧ ∀ b, rv'.ownBlock = some b → rv.ownBlock = some b ∨ w.heap.size ≤ b
theorem RAdd.no {w w' : World} {tO : TypeId} {B y : Nat} {T : Ta} {x : Vt} {L : List Vw} {rv : Value} (h : RtM w tO B y T L rv) (ho : okT T x = false) (hb : Below w.heap.size w w') : RAdd w tO B y T x rv (.returned (.bool false)) w' :=
  ⟨by rw [told_no ho], L, rv, by rw [add_no ho]; exact h.on (Keeps.of hb), Keeps.of hb, fun _ h => .inl h⟩
end TA
namespace Go.Proofs.YtegkhhegapnkpaaDoor
open TA RR FF JJ CC MM WW BB
set_option maxRecDepth 100000 in
set_option maxHeartbeats 16000000 in
theorem radd_no (T : Ta) (L : List Vw) (rv : Value) (y B : Nat) (x : Vt) (b : Bool) (ta : Option Addr) (tc : Nat) (w : World) (h : RtM w 100 B y T L rv) (hp : bas14 T x = false) :
    Calls Tryd.prog 58 #[.pointer (some ⟨y, 0, none⟩), .agg #[.int .i64 x.1, .string x.2.1, .int .i64 x.2.2.1, .slice ta x.2.2.2.length tc, .bool b]] w (RAdd w 100 B y T x rv) := by
  have HNO := Lib.hid (fun (w' : World) (hb : Below w.heap.size w w') => RAdd.no (x := x) h (ok_no1 hp) hb)
  have HBK := Lib.hid h.blk
  obtain ⟨v, k, f, ts⟩ := x
  obtain ⟨s, d, n, un, V⟩ := T
  have hp : ¬ (1 ≤ v ∧ v ≤ 1000000 ∧ un < v ∧ k.size = 32) := of_decide_eq_false hp
  show Calls _ _ #[.pointer (some ⟨y, 0, none⟩), .agg #[.int .i64 v, .string k, .int .i64 f, .slice ta ts.length tc, .bool b]] w _
  obtain ⟨m, hm⟩ : ∃ m, ts.length = m := ⟨_, rfl⟩
  rw [hm]
  have B1 := Lib.hid ((Below.refl w.heap.size w).alloc (Nat.le_refl _) (.cells #[.int .i64 v, .string k, .int .i64 f, .slice ta m tc, .bool b] 100))
  have L1 := Lib.hid (show Blk (w.alloc (.cells #[.int .i64 v, .string k, .int .i64 f, .slice ta m tc, .bool b] 100)) w.heap.size 5 (rowL [.int .i64 v, .string k, .int .i64 f, .slice ta m tc, .bool b]) from Blk.new' rfl (row5_ _ _ _ _ _))
  clear h hm
  go_enter Tryd.func58, Tryd.ntmps58
  go_upto_region 1 with fail
  obtain ⟨y0, hy0⟩ : ∃ y0, w.heap.size = y0 := ⟨_, rfl⟩
  obtain ⟨w1, hw1⟩ : ∃ w1, w.alloc (.cells #[.int .i64 v, .string k, .int .i64 f, .slice ta m tc, .bool b] 100) = w1 := ⟨_, rfl⟩
  rw [hw1] at B1 L1 ⊢
  rw [hy0] at L1 ⊢
  clear hw1 hy0
  have HB1 := Lib.hid (show Blk w1 y 5 (rowL [.string s, .int .i64 d, .int .i64 n, .int .i64 un, rv]) from HBK.out.below B1.out HBK.out.lt)
  have HCC := Lib.hid (fun (wx : World) (hx : Below w1.heap.size w1 wx) => And.intro (cells5 (HB1.out.below hx HB1.out.lt)) (cells5 (L1.out.below hx L1.out.lt)))
  by_cases h0 : v < 1
  · have t0 : decide (v < 1) = true := decide_eq_true h0
    clear h0 hp
    refine plan_abs (fun wx => Below w1.heap.size w1 wx) [(true, 0), (true, 1), (true, 2), (true, 3), (true, 4), (true, 5), (true, 6), (true, 7), (true, 8), (true, 9), (true, 10), (true, 11), (true, 12), (true, 13), (true, 14), (true, 15), (true, 16), (true, 17), (true, 18), (true, 19), (true, 20), (true, 21), (true, 22), (true, 23), (true, 24), (true, 25), (false, 26), (true, 27), (true, 28), (true, 29), (true, 30), (true, 31), (true, 32), (true, 33), (true, 34), (true, 35), (true, 36), (true, 37), (true, 38), (true, 39), (true, 40), (true, 41)] (by kernel_rfl) (by kernel_rfl) (fun _ _ d _ _ h => by cases d <;> exact h) fun w5 hs5 => ⟨hs5.below _, ?_⟩
    have Y5 := Lib.hid (hs5.below w1.heap.size)
    clear hs5
    iterate 26 (first | (refine pl_off _ rfl rfl ?_; simp only [Act.put, List.setIfInBounds_toArray, List.set_cons_zero, List.set_cons_succ, List.getElem_toArray, List.getElem_cons_zero, List.getElem_cons_succ]) | (refine pl_run _ ?_ rfl rfl ?_ ?_; rotate_left; (focus (intro w' hS; obtain ⟨⟨c0, c1, c2, c3, c4⟩, d0, d1, d2, d3, d4⟩ := HCC.out w' hS; go_simp; exact rfl)); simp only [Act.put, List.setIfInBounds_toArray, List.set_cons_zero, List.set_cons_succ, List.getElem_toArray, List.getElem_cons_zero, List.getElem_cons_succ]))
    refine pl_offS _ rfl rfl Y5.out ?_
    simp only [Act.put, List.setIfInBounds_toArray, List.set_cons_zero, List.set_cons_succ, List.getElem_toArray, List.getElem_cons_zero, List.getElem_cons_succ]
    iterate 15 (first | (refine pl_off _ rfl rfl ?_; simp only [Act.put, List.setIfInBounds_toArray, List.set_cons_zero, List.set_cons_succ, List.getElem_toArray, List.getElem_cons_zero, List.getElem_cons_succ]) | (refine pl_run _ ?_ rfl rfl ?_ ?_; rotate_left; (focus (intro w' hS; obtain ⟨⟨c0, c1, c2, c3, c4⟩, d0, d1, d2, d3, d4⟩ := HCC.out w' hS; go_simp; exact rfl)); simp only [Act.put, List.setIfInBounds_toArray, List.set_cons_zero, List.set_cons_succ, List.getElem_toArray, List.getElem_cons_zero, List.getElem_cons_succ]))
    refine pl_end ?_
    go_wp2_with fail
    go_ret
    exact HNO.out _ (B1.out.trans (Y5.out.mono B1.out.size))
  have t0 : decide (v < 1) = false := decide_eq_false h0
  by_cases h1 : 1000000 < v
  · have t1 : decide (1000000 < v) = true := decide_eq_true h1
    clear h0 h1 hp
    refine plan_abs (fun wx => Below w1.heap.size w1 wx) [(true, 0), (true, 1), (true, 2), (true, 3), (true, 4), (true, 5), (true, 6), (true, 7), (true, 8), (true, 9), (true, 10), (true, 11), (true, 12), (true, 13), (true, 14), (true, 15), (true, 16), (true, 17), (true, 18), (true, 19), (true, 20), (true, 21), (true, 22), (true, 23), (true, 24), (true, 25), (false, 26), (true, 27), (true, 28), (true, 29), (true, 30), (true, 31), (true, 32), (true, 33), (true, 34), (true, 35), (true, 36), (true, 37), (true, 38), (true, 39), (true, 40), (true, 41)] (by kernel_rfl) (by kernel_rfl) (fun _ _ d _ _ h => by cases d <;> exact h) fun w5 hs5 => ⟨hs5.below _, ?_⟩
    have Y5 := Lib.hid (hs5.below w1.heap.size)
    clear hs5
    iterate 26 (first | (refine pl_off _ rfl rfl ?_; simp only [Act.put, List.setIfInBounds_toArray, List.set_cons_zero, List.set_cons_succ, List.getElem_toArray, List.getElem_cons_zero, List.getElem_cons_succ]) | (refine pl_run _ ?_ rfl rfl ?_ ?_; rotate_left; (focus (intro w' hS; obtain ⟨⟨c0, c1, c2, c3, c4⟩, d0, d1, d2, d3, d4⟩ := HCC.out w' hS; go_simp; exact rfl)); simp only [Act.put, List.setIfInBounds_toArray, List.set_cons_zero, List.set_cons_succ, List.getElem_toArray, List.getElem_cons_zero, List.getElem_cons_succ]))
    refine pl_offS _ rfl rfl Y5.out ?_
    simp only [Act.put, List.setIfInBounds_toArray, List.set_cons_zero, List.set_cons_succ, List.getElem_toArray, List.getElem_cons_zero, List.getElem_cons_succ]
    iterate 15 (first | (refine pl_off _ rfl rfl ?_; simp only [Act.put, List.setIfInBounds_toArray, List.set_cons_zero, List.set_cons_succ, List.getElem_toArray, List.getElem_cons_zero, List.getElem_cons_succ]) | (refine pl_run _ ?_ rfl rfl ?_ ?_; rotate_left; (focus (intro w' hS; obtain ⟨⟨c0, c1, c2, c3, c4⟩, d0, d1, d2, d3, d4⟩ := HCC.out w' hS; go_simp; exact rfl)); simp only [Act.put, List.setIfInBounds_toArray, List.set_cons_zero, List.set_cons_succ, List.getElem_toArray, List.getElem_cons_zero, List.getElem_cons_succ]))
    refine pl_end ?_
    go_wp2_with fail
    go_ret
    exact HNO.out _ (B1.out.trans (Y5.out.mono B1.out.size))
  have t1 : decide (1000000 < v) = false := decide_eq_false h1
  by_cases h2 : v ≤ un
  · have t2 : decide (v ≤ un) = true := decide_eq_true h2
    clear h0 h1 h2 hp
    refine plan_abs (fun wx => Below w1.heap.size w1 wx) [(true, 0), (true, 1), (true, 2), (true, 3), (true, 4), (true, 5), (true, 6), (true, 7), (true, 8), (true, 9), (true, 10), (true, 11), (true, 12), (true, 13), (true, 14), (true, 15), (true, 16), (true, 17), (true, 18), (true, 19), (true, 20), (true, 21), (true, 22), (true, 23), (true, 24), (true, 25), (false, 26), (true, 27), (true, 28), (true, 29), (true, 30), (true, 31), (true, 32), (true, 33), (true, 34), (true, 35), (true, 36), (true, 37), (true, 38), (true, 39), (true, 40), (true, 41)] (by kernel_rfl) (by kernel_rfl) (fun _ _ d _ _ h => by cases d <;> exact h) fun w5 hs5 => ⟨hs5.below _, ?_⟩
    have Y5 := Lib.hid (hs5.below w1.heap.size)
    clear hs5
    iterate 26 (first | (refine pl_off _ rfl rfl ?_; simp only [Act.put, List.setIfInBounds_toArray, List.set_cons_zero, List.set_cons_succ, List.getElem_toArray, List.getElem_cons_zero, List.getElem_cons_succ]) | (refine pl_run _ ?_ rfl rfl ?_ ?_; rotate_left; (focus (intro w' hS; obtain ⟨⟨c0, c1, c2, c3, c4⟩, d0, d1, d2, d3, d4⟩ := HCC.out w' hS; go_simp; exact rfl)); simp only [Act.put, List.setIfInBounds_toArray, List.set_cons_zero, List.set_cons_succ, List.getElem_toArray, List.getElem_cons_zero, List.getElem_cons_succ]))
    refine pl_offS _ rfl rfl Y5.out ?_
    simp only [Act.put, List.setIfInBounds_toArray, List.set_cons_zero, List.set_cons_succ, List.getElem_toArray, List.getElem_cons_zero, List.getElem_cons_succ]
    iterate 15 (first | (refine pl_off _ rfl rfl ?_; simp only [Act.put, List.setIfInBounds_toArray, List.set_cons_zero, List.set_cons_succ, List.getElem_toArray, List.getElem_cons_zero, List.getElem_cons_succ]) | (refine pl_run _ ?_ rfl rfl ?_ ?_; rotate_left; (focus (intro w' hS; obtain ⟨⟨c0, c1, c2, c3, c4⟩, d0, d1, d2, d3, d4⟩ := HCC.out w' hS; go_simp; exact rfl)); simp only [Act.put, List.setIfInBounds_toArray, List.set_cons_zero, List.set_cons_succ, List.getElem_toArray, List.getElem_cons_zero, List.getElem_cons_succ]))
    refine pl_end ?_
    go_wp2_with fail
    go_ret
    exact HNO.out _ (B1.out.trans (Y5.out.mono B1.out.size))
  have t2 : decide (v ≤ un) = false := decide_eq_false h2
  have t3 : ((k.size : Int) != 32) = true := by
    rw [bne_iff_ne]
    intro e
    exact hp (by omega)
  clear h0 h1 h2 hp
  refine plan_abs (fun wx => Below w1.heap.size w1 wx) [(true, 0), (true, 1), (true, 2), (true, 3), (true, 4), (true, 5), (true, 6), (true, 7), (true, 8), (true, 9), (true, 10), (true, 11), (true, 12), (true, 13), (true, 14), (true, 15), (true, 16), (true, 17), (true, 18), (true, 19), (true, 20), (true, 21), (true, 22), (true, 23), (true, 24), (true, 25), (false, 26), (true, 27), (true, 28), (true, 29), (true, 30), (true, 31), (true, 32), (true, 33), (true, 34), (true, 35), (true, 36), (true, 37), (true, 38), (true, 39), (true, 40), (true, 41)] (by kernel_rfl) (by kernel_rfl) (fun _ _ d _ _ h => by cases d <;> exact h) fun w5 hs5 => ⟨hs5.below _, ?_⟩
  have Y5 := Lib.hid (hs5.below w1.heap.size)
  clear hs5
  iterate 26 (first | (refine pl_off _ rfl rfl ?_; simp only [Act.put, List.setIfInBounds_toArray, List.set_cons_zero, List.set_cons_succ, List.getElem_toArray, List.getElem_cons_zero, List.getElem_cons_succ]) | (refine pl_run _ ?_ rfl rfl ?_ ?_; rotate_left; (focus (intro w' hS; obtain ⟨⟨c0, c1, c2, c3, c4⟩, d0, d1, d2, d3, d4⟩ := HCC.out w' hS; go_simp; exact rfl)); simp only [Act.put, List.setIfInBounds_toArray, List.set_cons_zero, List.set_cons_succ, List.getElem_toArray, List.getElem_cons_zero, List.getElem_cons_succ]))
  refine pl_offS _ rfl rfl Y5.out ?_
  simp only [Act.put, List.setIfInBounds_toArray, List.set_cons_zero, List.set_cons_succ, List.getElem_toArray, List.getElem_cons_zero, List.getElem_cons_succ]
  iterate 15 (first | (refine pl_off _ rfl rfl ?_; simp only [Act.put, List.setIfInBounds_toArray, List.set_cons_zero, List.set_cons_succ, List.getElem_toArray, List.getElem_cons_zero, List.getElem_cons_succ]) | (refine pl_run _ ?_ rfl rfl ?_ ?_; rotate_left; (focus (intro w' hS; obtain ⟨⟨c0, c1, c2, c3, c4⟩, d0, d1, d2, d3, d4⟩ := HCC.out w' hS; go_simp; exact rfl)); simp only [Act.put, List.setIfInBounds_toArray, List.set_cons_zero, List.set_cons_succ, List.getElem_toArray, List.getElem_cons_zero, List.getElem_cons_succ]))
  refine pl_end ?_
  go_wp2_with fail
  go_ret
  exact HNO.out _ (B1.out.trans (Y5.out.mono B1.out.size))
end Go.Proofs.YtegkhhegapnkpaaDoor
end
section
open Go Go.RowKit
namespace Go.Proofs.YtegkhhegapnkpaaDoor
open TA RR FF JJ CC MM WW BB
set_option maxRecDepth 100000 in
set_option maxHeartbeats 32000000 in
theorem radd_yes (T : Ta) (L : List Vw) (rv : Value) (y B : Nat) (x : Vt) (b : Bool) (ta : Option Addr) (tc : Nat) (w : World) (h : RtM w 100 B y T L rv) (hi : InvTa T) (hp : bas14 T x = true) (hv : StrsAt w (.slice ta x.2.2.2.length tc) x.2.2.2) (hs : T.seed.size ≤ 1000) (hB : B ≤ w.heap.size) :
    Calls Tryd.prog 58 #[.pointer (some ⟨y, 0, none⟩), .agg #[.int .i64 x.1, .string x.2.1, .int .i64 x.2.2.1, .slice ta x.2.2.2.length tc, .bool b]] w (RAdd w 100 B y T x rv) := by
  have HR := Lib.hid h
  have HI := Lib.hid hi
  have HBB := Lib.hid hB
  have HBK := Lib.hid h.blk
  have HLL := Lib.hid h.len
  have HLN := Lib.hid (show L.length ≤ 28 by rw [h.len]; exact hi.few)
  have HV := Lib.hid hv
  have HS := Lib.hid hs
  have HP := Lib.hid hp
  obtain ⟨ra, rc, rfl⟩ := row_shape14 h.row
  have HNO := Lib.hid (fun (ho : okT T x = false) (w' : World) (hb : Below w.heap.size w w') => RAdd.no (x := x) HR.out ho hb)
  obtain ⟨v, k, f, ts⟩ := x
  obtain ⟨p1, p2, p3, p4⟩ : 1 ≤ v ∧ v ≤ 1000000 ∧ T.under < v ∧ k.size = 32 := of_decide_eq_true hp
  have HK := Lib.hid p4
  obtain ⟨H, hH⟩ : ∃ H, holdsB T.seed T.node T.n (textB v k) f ts = H := ⟨_, rfl⟩
  have HHO := Lib.hid (fun (b : Bool) (wx : World) (hb : Below w.heap.size w wx) => rholds14 T (v, k, f, ts) b ta tc y (.slice ra L.length rc) H hH wx (HBK.out.below hb HBK.out.lt) (HV.out.later hb) HS.out (by show k.size ≤ 1000; rw [HK.out]; omega))
  have HHH := Lib.hid hH
  have t0 : decide (v < 1) = false := decide_eq_false (by omega)
  have t1 : decide (1000000 < v) = false := decide_eq_false (by omega)
  have t3 : ((k.size : Int) != 32) = false := by rw [p4]; rfl
  have HT2 := Lib.hid (show decide (v ≤ T.under) = false from decide_eq_false (by omega))
  have HNN := Lib.hid (fun (hh : H = true) => show 1 ≤ T.n ∧ T.n ≤ 7 by
    have h1 := (holds_of (hH.trans hh)).1
    have h1 := among_of h1
    exact ⟨h1.1, h1.2.1⟩)
  show Calls _ _ #[.pointer (some ⟨y, 0, none⟩), .agg #[.int .i64 v, .string k, .int .i64 f, .slice ta ts.length tc, .bool b]] w _
  obtain ⟨m, hm⟩ : ∃ m, ts.length = m := ⟨_, rfl⟩
  have HHO2 := Lib.hid (fun (wx : World) (hb : Below w.heap.size w wx) => show Calls Tryd.prog 114 #[.pointer (some ⟨y, 0, none⟩), .agg #[.int .i64 v, .string k, .int .i64 f, .slice ta m tc, .bool b]] wx fun e w' => e = .returned (.bool H) ∧ Below wx.heap.size wx w' from hm ▸ HHO.out b wx hb)
  rw [hm]
  obtain ⟨s, d, n, un, V⟩ := T
  have t2 : decide (v ≤ un) = false := HT2.out
  have B1 := Lib.hid ((Below.refl w.heap.size w).alloc (Nat.le_refl _) (.cells #[.int .i64 v, .string k, .int .i64 f, .slice ta m tc, .bool b] 100))
  have L1 := Lib.hid (show Blk (w.alloc (.cells #[.int .i64 v, .string k, .int .i64 f, .slice ta m tc, .bool b] 100)) w.heap.size 5 (rowL [.int .i64 v, .string k, .int .i64 f, .slice ta m tc, .bool b]) from Blk.new' rfl (row5_ _ _ _ _ _))
  clear h hi hB hp hv hs hH hm p1 p2 p3 p4 HHO
  go_enter Tryd.func58, Tryd.ntmps58
  go_upto_region 1 with fail
  obtain ⟨y0, hy0⟩ : ∃ y0, w.heap.size = y0 := ⟨_, rfl⟩
  have HY0 := Lib.hid hy0
  obtain ⟨w1, hw1⟩ : ∃ w1, w.alloc (.cells #[.int .i64 v, .string k, .int .i64 f, .slice ta m tc, .bool b] 100) = w1 := ⟨_, rfl⟩
  rw [hw1] at B1 L1 ⊢
  rw [hy0] at L1 ⊢
  clear hw1 hy0
  have HB1 := Lib.hid (show Blk w1 y 5 (rowL [.string s, .int .i64 d, .int .i64 n, .int .i64 un, .slice ra L.length rc]) from HBK.out.below B1.out HBK.out.lt)
  have HCC := Lib.hid (fun (wx : World) (hx : Below w1.heap.size w1 wx) => And.intro (cells5 (HB1.out.below hx HB1.out.lt)) (cells5 (L1.out.below hx L1.out.lt)))
  cases H with
  | false =>
    have HO := Lib.hid (ok_no2 (T := ⟨s, d, n, un, V⟩) (x := (v, k, f, ts)) HHH.out)
    refine plan_abs (fun wx => Below w1.heap.size w1 wx) [(true, 0), (true, 1), (true, 2), (true, 3), (true, 4), (true, 5), (true, 6), (true, 7), (true, 8), (true, 9), (true, 10), (true, 11), (true, 12), (true, 13), (true, 14), (true, 15), (true, 16), (true, 17), (true, 18), (true, 19), (true, 20), (true, 21), (true, 22), (true, 23), (true, 24), (true, 25), (false, 26), (true, 27), (true, 28), (true, 29), (true, 30), (true, 31), (true, 32), (true, 33), (true, 34), (true, 35), (true, 36), (true, 37), (true, 38), (true, 39), (true, 40), (true, 41)] (by kernel_rfl) (by kernel_rfl) (fun _ _ d _ _ h => by cases d <;> exact h) fun w5 hs5 => ⟨hs5.below _, ?_⟩
    have Y5 := Lib.hid (hs5.below w1.heap.size)
    clear hs5
    iterate 26 (first | (refine pl_off _ rfl rfl ?_; simp only [Act.put, List.setIfInBounds_toArray, List.set_cons_zero, List.set_cons_succ, List.getElem_toArray, List.getElem_cons_zero, List.getElem_cons_succ]) | (refine pl_run _ ?_ rfl rfl ?_ ?_; rotate_left; (focus (intro w' hS; obtain ⟨⟨c0, c1, c2, c3, c4⟩, d0, d1, d2, d3, d4⟩ := HCC.out w' hS; go_simp; exact rfl)); simp only [Act.put, List.setIfInBounds_toArray, List.set_cons_zero, List.set_cons_succ, List.getElem_toArray, List.getElem_cons_zero, List.getElem_cons_succ]))
    refine pl_call1 _ rfl rfl (by go_simp) (HHO2.out w5 (B1.out.trans (Y5.out.mono B1.out.size))) (fun w9 hb => Y5.out.trans (hb.mono Y5.out.size)) fun w6 hb6 => ?_
    have Y6 := Lib.hid (Y5.out.trans (hb6.mono Y5.out.size))
    clear hb6
    simp only [Act.put, List.setIfInBounds_toArray, List.set_cons_zero, List.set_cons_succ, List.getElem_toArray, List.getElem_cons_zero, List.getElem_cons_succ]
    iterate 15 (first | (refine pl_off _ rfl rfl ?_; simp only [Act.put, List.setIfInBounds_toArray, List.set_cons_zero, List.set_cons_succ, List.getElem_toArray, List.getElem_cons_zero, List.getElem_cons_succ]) | (refine pl_run _ ?_ rfl rfl ?_ ?_; rotate_left; (focus (intro w' hS; obtain ⟨⟨c0, c1, c2, c3, c4⟩, d0, d1, d2, d3, d4⟩ := HCC.out w' hS; go_simp; exact rfl)); simp only [Act.put, List.setIfInBounds_toArray, List.set_cons_zero, List.set_cons_succ, List.getElem_toArray, List.getElem_cons_zero, List.getElem_cons_succ]))
    refine pl_end ?_
    go_wp2_with fail
    go_ret
    exact HNO.out HO.out _ (B1.out.trans (Y6.out.mono B1.out.size))
  | true =>
    have HN7 := Lib.hid (show 1 ≤ n ∧ n ≤ 7 from HNN.out rfl)
    have hw4 : IntKind.i64.wrap (4 * n) = 4 * n := by have := HN7.out; rw [IntKind.wrap_i64]; omega
    obtain ⟨N4, hN4⟩ : ∃ N4, 4 * n = N4 := ⟨_, rfl⟩
    have HN4 := Lib.hid hN4
    rw [hN4] at hw4
    by_cases hroom : N4 ≤ (L.length : Int)
    · have t4 : decide (N4 ≤ (L.length : Int)) = true := decide_eq_true hroom
      have HO := Lib.hid (ok_no3 (T := ⟨s, d, n, un, V⟩) (x := (v, k, f, ts)) (by have := HLL.out; have := HN4.out; show ¬ (V.length : Int) < 4 * n; have h9 : L.length = V.length := HLL.out; omega))
      clear hroom
      rw [← hN4] at hw4
      rw [← hN4] at t4
      clear hN4
      refine plan_abs (fun wx => Below w1.heap.size w1 wx) [(true, 0), (true, 1), (true, 2), (true, 3), (true, 4), (true, 5), (true, 6), (true, 7), (true, 8), (true, 9), (true, 10), (true, 11), (true, 12), (true, 13), (true, 14), (true, 15), (true, 16), (true, 17), (true, 18), (true, 19), (true, 20), (true, 21), (true, 22), (true, 23), (true, 24), (true, 25), (false, 26), (true, 27), (true, 28), (true, 29), (true, 30), (true, 31), (true, 32), (true, 33), (true, 34), (true, 35), (true, 36), (true, 37), (true, 38), (true, 39), (true, 40), (true, 41)] (by kernel_rfl) (by kernel_rfl) (fun _ _ d _ _ h => by cases d <;> exact h) fun w5 hs5 => ⟨hs5.below _, ?_⟩
      have Y5 := Lib.hid (hs5.below w1.heap.size)
      clear hs5
      iterate 26 (first | (refine pl_off _ rfl rfl ?_; simp only [Act.put, List.setIfInBounds_toArray, List.set_cons_zero, List.set_cons_succ, List.getElem_toArray, List.getElem_cons_zero, List.getElem_cons_succ]) | (refine pl_run _ ?_ rfl rfl ?_ ?_; rotate_left; (focus (intro w' hS; obtain ⟨⟨c0, c1, c2, c3, c4⟩, d0, d1, d2, d3, d4⟩ := HCC.out w' hS; go_simp; exact rfl)); simp only [Act.put, List.setIfInBounds_toArray, List.set_cons_zero, List.set_cons_succ, List.getElem_toArray, List.getElem_cons_zero, List.getElem_cons_succ]))
      refine pl_call1 _ rfl rfl (by go_simp) (HHO2.out w5 (B1.out.trans (Y5.out.mono B1.out.size))) (fun w9 hb => Y5.out.trans (hb.mono Y5.out.size)) fun w6 hb6 => ?_
      have Y6 := Lib.hid (Y5.out.trans (hb6.mono Y5.out.size))
      clear hb6
      simp only [Act.put, List.setIfInBounds_toArray, List.set_cons_zero, List.set_cons_succ, List.getElem_toArray, List.getElem_cons_zero, List.getElem_cons_succ]
      iterate 15 (first | (refine pl_off _ rfl rfl ?_; simp only [Act.put, List.setIfInBounds_toArray, List.set_cons_zero, List.set_cons_succ, List.getElem_toArray, List.getElem_cons_zero, List.getElem_cons_succ]) | (refine pl_run _ ?_ rfl rfl ?_ ?_; rotate_left; (focus (intro w' hS; obtain ⟨⟨c0, c1, c2, c3, c4⟩, d0, d1, d2, d3, d4⟩ := HCC.out w' hS; go_simp; exact rfl)); simp only [Act.put, List.setIfInBounds_toArray, List.set_cons_zero, List.set_cons_succ, List.getElem_toArray, List.getElem_cons_zero, List.getElem_cons_succ]))
      refine pl_end ?_
      go_wp2_with fail
      go_ret
      exact HNO.out HO.out _ (B1.out.trans (Y6.out.mono B1.out.size))
    · have t4 : decide (N4 ≤ (L.length : Int)) = false := decide_eq_false hroom
      have HROOM := Lib.hid (show (V.length : Int) < 4 * n by have h9 : L.length = V.length := HLL.out; have := HN4.out; omega)
      clear hroom
      rw [← hN4] at hw4
      rw [← hN4] at t4
      clear hN4
      refine plan_abs (fun wx => Below w1.heap.size w1 wx) [(true, 0), (true, 1), (true, 2), (true, 3), (true, 4), (true, 5), (true, 6), (true, 7), (true, 8), (true, 9), (true, 10), (true, 11), (true, 12), (true, 13), (true, 14), (true, 15), (true, 16), (true, 17), (true, 18), (true, 19), (true, 20), (true, 21), (true, 22), (true, 23), (true, 24), (true, 25), (false, 26), (true, 27), (true, 28), (true, 29), (true, 30), (true, 31), (true, 32), (true, 33), (true, 34), (true, 35), (true, 36), (true, 37), (true, 38), (true, 39), (true, 40), (true, 41)] (by kernel_rfl) (by kernel_rfl) (fun _ _ d _ _ h => by cases d <;> exact h) fun w5 hs5 => ⟨hs5.below _, ?_⟩
      have Y5 := Lib.hid (hs5.below w1.heap.size)
      clear hs5
      iterate 26 (first | (refine pl_off _ rfl rfl ?_; simp only [Act.put, List.setIfInBounds_toArray, List.set_cons_zero, List.set_cons_succ, List.getElem_toArray, List.getElem_cons_zero, List.getElem_cons_succ]) | (refine pl_run _ ?_ rfl rfl ?_ ?_; rotate_left; (focus (intro w' hS; obtain ⟨⟨c0, c1, c2, c3, c4⟩, d0, d1, d2, d3, d4⟩ := HCC.out w' hS; go_simp; exact rfl)); simp only [Act.put, List.setIfInBounds_toArray, List.set_cons_zero, List.set_cons_succ, List.getElem_toArray, List.getElem_cons_zero, List.getElem_cons_succ]))
      refine pl_call1 _ rfl rfl (by go_simp) (HHO2.out w5 (B1.out.trans (Y5.out.mono B1.out.size))) (fun w9 hb => Y5.out.trans (hb.mono Y5.out.size)) fun w6 hb6 => ?_
      have Y6 := Lib.hid (Y5.out.trans (hb6.mono Y5.out.size))
      clear hb6
      simp only [Act.put, List.setIfInBounds_toArray, List.set_cons_zero, List.set_cons_succ, List.getElem_toArray, List.getElem_cons_zero, List.getElem_cons_succ]
      iterate 15 (first | (refine pl_off _ rfl rfl ?_; simp only [Act.put, List.setIfInBounds_toArray, List.set_cons_zero, List.set_cons_succ, List.getElem_toArray, List.getElem_cons_zero, List.getElem_cons_succ]) | (refine pl_run _ ?_ rfl rfl ?_ ?_; rotate_left; (focus (intro w' hS; obtain ⟨⟨c0, c1, c2, c3, c4⟩, d0, d1, d2, d3, d4⟩ := HCC.out w' hS; go_simp; exact rfl)); simp only [Act.put, List.setIfInBounds_toArray, List.set_cons_zero, List.set_cons_succ, List.getElem_toArray, List.getElem_cons_zero, List.getElem_cons_succ]))
      refine pl_end ?_
      have B6 := Lib.hid (B1.out.trans (Y6.out.mono B1.out.size))
      have HCC := Lib.hid (fun (wx : World) (hx : Below w6.heap.size w6 wx) => HCC.out wx (Y6.out.trans (hx.mono Y6.out.size)))
      have HRW := Lib.hid (row_keep HR.out.row fun c hc => B6.out.block c (HR.out.row.lt c hc).2)
      clear t0 t1 t2 t3 t4 hw4 HHO2
      go_wp2_with fail
      go_loopw [5] (fun z wr => ∃ i : Nat, i ≤ L.length ∧ z = .int .i64 (i : Int) ∧ hadL (V.take i) v f = false ∧ Below w6.heap.size w6 wr) (fun z _ => L.length - (intOf z).toNat)
      case atStart => exact ⟨0, Nat.zero_le _, rfl, rfl, Below.refl _ _⟩
      case round =>
        obtain ⟨i, hi, rfl, hhad, hbr⟩ := hrel
        have HBR := Lib.hid hbr
        have HII := Lib.hid hi
        have HHAD := Lib.hid hhad
        have i0 : (0 : Int) ≤ (i : Int) := by omega
        have ib : (i : Int) ≤ 28 := by have := HLN.out; omega
        have HCR := Lib.hid (fun (wx : World) (hx : Below wr.heap.size wr wx) => HCC.out wx (HBR.out.trans (hx.mono HBR.out.size)))
        clear hbr hi hhad
        by_cases hlt : i < L.length
        · have hlt' : (i : Int) < (L.length : Int) := by omega
          have HLT := Lib.hid hlt
          have HLV := Lib.hid (show i < V.length by have h9 : L.length = V.length := HLL.out; omega)
          have HSN := Lib.hid (hadL_take HLV.out v f)
          obtain ⟨q, cap, he, hq, hc⟩ := own_votes HRW.out i hlt
          injection he with e1 _ e3
          subst e1 e3
          have HXX := Lib.hid (show (L.getD i vw0).1 = V.getD i vt0 from HR.out.at_ i hlt)
          have HQC := Lib.hid (fun (wx : World) (hx : Below wr.heap.size wr wx) => hc wx ((HBR.out.trans (hx.mono HBR.out.size)).block q hq))
          obtain ⟨x, hx⟩ : ∃ x, L.getD i vw0 = x := ⟨_, rfl⟩
          rw [hx] at HQC HXX
          obtain ⟨⟨xv, xk, xf, xt⟩, tv, tb⟩ := x
          have HQ2 := Lib.hid (fun (wx : World) (hx : Below wr.heap.size wr wx) => show wx.cell? ⟨q, i * 5, none⟩ = some (.int .i64 xv) ∧ wx.cell? ⟨q, i * 5 + 2, none⟩ = some (.int .i64 xf) from ⟨(HQC.out wx hx).1, (HQC.out wx hx).2.2.1⟩)
          have HSN := Lib.hid (show hadL (V.take (i + 1)) v f = (false || decide (xv = v ∧ xf = f)) by rw [HSN.out, HHAD.out, ← HXX.out])
          clear hlt hc hx hq HQC
          by_cases h1 : xv = v
          · have t1 : (xv == v) = true := by simpa using h1
            by_cases h2 : xf = f
            · have t2 : (xf == f) = true := by simpa using h2
              have HO := Lib.hid (ok_no4 (T := ⟨s, d, n, un, V⟩) (x := (v, k, f, ts)) (hadL_of HLV.out (by rw [← HXX.out]; exact ⟨h1, h2⟩)))
              clear h1 h2
              obtain ⟨⟨_, _, _, _, c4⟩, _⟩ := HCR.out wr (Below.refl _ _)
              go_upto_region 6 with fail
              clear c4
              refine plan_abs (fun wx => Below wr.heap.size wr wx) [(true, 0), (true, 1), (true, 2), (true, 3), (true, 4), (true, 5), (true, 6), (true, 7), (true, 8), (true, 9), (true, 10), (true, 11), (true, 12), (true, 13), (true, 14), (true, 15), (true, 16), (true, 17), (true, 18), (true, 19), (true, 20), (true, 21), (true, 22), (true, 23), (true, 24), (true, 25)] (by kernel_rfl) (by kernel_rfl) (fun _ _ d _ _ h => by cases d <;> exact h) fun w7 hs7 => ⟨hs7.below _, ?_⟩
              have Y7 := Lib.hid (hs7.below wr.heap.size)
              clear hs7
              iterate 26 (first | (refine pl_off _ rfl rfl ?_; simp only [Act.put, List.setIfInBounds_toArray, List.set_cons_zero, List.set_cons_succ, List.getElem_toArray, List.getElem_cons_zero, List.getElem_cons_succ]) | (refine pl_run _ ?_ rfl rfl ?_ ?_; rotate_left; (focus (intro w' hS; obtain ⟨⟨c0, c1, c2, c3, c4⟩, d0, d1, d2, d3, d4⟩ := HCR.out w' hS; obtain ⟨q0, q2⟩ := HQ2.out w' hS; go_simp; exact rfl)); simp only [Act.put, List.setIfInBounds_toArray, List.set_cons_zero, List.set_cons_succ, List.getElem_toArray, List.getElem_cons_zero, List.getElem_cons_succ]))
              refine pl_end ?_
              go_wp2_with fail
              go_ret
              exact HNO.out HO.out _ (B6.out.trans ((HBR.out.trans (Y7.out.mono HBR.out.size)).mono B6.out.size))
            · have t2 : (xf == f) = false := by simpa using h2
              have HK2 := Lib.hid (show hadL (V.take (i + 1)) v f = false by rw [HSN.out, decide_eq_false (fun h => h2 h.2)]; rfl)
              clear h1 h2
              obtain ⟨⟨_, _, _, _, c4⟩, _⟩ := HCR.out wr (Below.refl _ _)
              go_upto_region 6 with fail
              clear c4
              refine plan_abs (fun wx => Below wr.heap.size wr wx) [(true, 0), (true, 1), (true, 2), (true, 3), (true, 4), (true, 5), (true, 6), (true, 7), (true, 8), (true, 9), (true, 10), (true, 11), (true, 12), (true, 13), (true, 14), (true, 15), (true, 16), (true, 17), (true, 18), (true, 19), (true, 20), (true, 21), (true, 22), (true, 23), (true, 24), (true, 25)] (by kernel_rfl) (by kernel_rfl) (fun _ _ d _ _ h => by cases d <;> exact h) fun w7 hs7 => ⟨hs7.below _, ?_⟩
              have Y7 := Lib.hid (hs7.below wr.heap.size)
              clear hs7
              iterate 26 (first | (refine pl_off _ rfl rfl ?_; simp only [Act.put, List.setIfInBounds_toArray, List.set_cons_zero, List.set_cons_succ, List.getElem_toArray, List.getElem_cons_zero, List.getElem_cons_succ]) | (refine pl_run _ ?_ rfl rfl ?_ ?_; rotate_left; (focus (intro w' hS; obtain ⟨⟨c0, c1, c2, c3, c4⟩, d0, d1, d2, d3, d4⟩ := HCR.out w' hS; obtain ⟨q0, q2⟩ := HQ2.out w' hS; go_simp; exact rfl)); simp only [Act.put, List.setIfInBounds_toArray, List.set_cons_zero, List.set_cons_succ, List.getElem_toArray, List.getElem_cons_zero, List.getElem_cons_succ]))
              refine pl_end ?_
              go_wp2_with fail
              go_roundw
              case rel => exact ⟨i + 1, by have := HLT.out; omega, by go_num, HK2.out, HBR.out.trans (Y7.out.mono HBR.out.size)⟩
              case measure => have := HLT.out; simp [intOf]; omega
          · have t1 : (xv == v) = false := by simpa using h1
            have HK2 := Lib.hid (show hadL (V.take (i + 1)) v f = false by rw [HSN.out, decide_eq_false (fun h => h1 h.1)]; rfl)
            clear h1
            obtain ⟨⟨_, _, _, _, c4⟩, _⟩ := HCR.out wr (Below.refl _ _)
            go_upto_region 6 with fail
            clear c4
            refine plan_abs (fun wx => Below wr.heap.size wr wx) [(true, 0), (true, 1), (true, 2), (true, 3), (true, 4), (true, 5), (true, 6), (true, 7), (true, 8), (true, 9), (true, 10), (true, 11), (true, 12), (true, 13), (true, 14), (true, 15), (true, 16), (true, 17), (true, 18), (true, 19), (true, 20), (true, 21), (true, 22), (true, 23), (true, 24), (true, 25)] (by kernel_rfl) (by kernel_rfl) (fun _ _ d _ _ h => by cases d <;> exact h) fun w7 hs7 => ⟨hs7.below _, ?_⟩
            have Y7 := Lib.hid (hs7.below wr.heap.size)
            clear hs7
            iterate 26 (first | (refine pl_off _ rfl rfl ?_; simp only [Act.put, List.setIfInBounds_toArray, List.set_cons_zero, List.set_cons_succ, List.getElem_toArray, List.getElem_cons_zero, List.getElem_cons_succ]) | (refine pl_run _ ?_ rfl rfl ?_ ?_; rotate_left; (focus (intro w' hS; obtain ⟨⟨c0, c1, c2, c3, c4⟩, d0, d1, d2, d3, d4⟩ := HCR.out w' hS; obtain ⟨q0, q2⟩ := HQ2.out w' hS; go_simp; exact rfl)); simp only [Act.put, List.setIfInBounds_toArray, List.set_cons_zero, List.set_cons_succ, List.getElem_toArray, List.getElem_cons_zero, List.getElem_cons_succ]))
            refine pl_end ?_
            go_wp2_with fail
            go_roundw
            case rel => exact ⟨i + 1, by have := HLT.out; omega, by go_num, HK2.out, HBR.out.trans (Y7.out.mono HBR.out.size)⟩
            case measure => have := HLT.out; simp [intOf]; omega
        · obtain rfl : i = L.length := by have := HII.out; omega
          have hlt' : ¬ (L.length : Int) < (L.length : Int) := by omega
          have HLV := Lib.hid (show L.length = V.length from HLL.out)
          have HO := Lib.hid (ok_yes (T := ⟨s, d, n, un, V⟩) (x := (v, k, f, ts)) HP.out HHH.out HROOM.out (by have h9 := HHAD.out; rw [HLV.out, List.take_length] at h9; exact h9))
          have HAD := Lib.hid (show addT ⟨s, d, n, un, V⟩ (v, k, f, ts) = ⟨s, d, n, un, V ++ [(v, k, f, ts)]⟩ from add_yes HO.out)
          have HIA := Lib.hid (show InvTa ⟨s, d, n, un, V ++ [(v, k, f, ts)]⟩ from HAD.out ▸ HI.out.add (v, k, f, ts))
          clear hlt
          obtain ⟨⟨_, _, _, _, c4⟩, _⟩ := HCR.out wr (Below.refl _ _)
          go_upto_region 8 with fail
          clear c4
          refine twoE_abs 12 [0, 2, 3, 4, 5, 7] 1 6 8 84 89 91 [(false, 9), (false, 10), (false, 11), (false, 12)] _ _ _ 100 5 L.length (cellsW L) [.int .i64 v, .string k, .int .i64 f, .slice ta m tc, .bool b] (by kernel_rfl) (by kernel_rfl) (fun _ _ d _ _ h => by cases d <;> exact h) rfl rfl rfl ⟨rfl, rfl, rfl⟩ ⟨rfl, rfl, rfl⟩ ⟨by decide, by decide, by decide⟩ fun w7 hs7 => ?_
          have Y7 := Lib.hid (hs7.below wr.heap.size)
          have B7 := Lib.hid (HBR.out.trans (Y7.out.mono HBR.out.size))
          clear hs7
          obtain ⟨ti, i1, i2, i3, i4⟩ := info_parts info_op14
          iterate 6 (refine pre_run _ ?_ rfl rfl ?_ ?_; rotate_left; (focus (intro w' hS; obtain ⟨⟨c0, c1, c2, c3, c4⟩, d0, d1, d2, d3, d4⟩ := HCR.out w' (Y7.out.trans (hS.mono Y7.out.size)); go_simp; exact rfl)); simp only [Act.put, List.setIfInBounds_toArray, List.set_cons_zero, List.set_cons_succ, List.getElem_toArray, List.getElem_cons_zero, List.getElem_cons_succ])
          refine pre_end ⟨?_, ?_, ?_, ?_⟩
          · rintro a' (rfl | ⟨x, rfl⟩) w' <;> go_simp
          · rintro a' (rfl | ⟨x, rfl⟩ | ⟨x, z, rfl⟩) w' hb <;> go_simp
          · rintro b' a' ha w' hb hown
            have hfl := own_flat14 HRW.out (B7.out.trans (hb.mono B7.out.size))
            obtain ⟨v', w'', hr, ho, hg, hob⟩ := run_append_arg0 (P := Tryd.prog) w7.heap.size 90 90 100 ti _ 5 64 und_ops14 i1 i2 i3 i4 rfl (by decide) b' hown ra L.length rc (cellsW L) (cellsW_len L) hfl.1 hfl.2 (cellsW_one HR.out.sl) (by have := HLN.out; unfold maxLen; omega) (by have := HLN.out; omega) hb.size
            refine ⟨v', w'', ?_, ho, hg, hob⟩
            rcases ha with rfl | ⟨x, rfl⟩ | ⟨x, rfl⟩
            all_goals exact JJ.run_op_append _ _ _ rfl _ _ rfl rfl hr
          · intro b' v' b7 w' hT
            have HTW := Lib.hid hT
            clear hT
            simp only [Act.put, List.setIfInBounds_toArray, List.set_cons_zero, List.set_cons_succ]
            obtain ⟨u8, w8, hr8, ho8, hg8, _⟩ := run_append_own (P := Tryd.prog) w' w7.heap.size 90 90 100 ti _ 5 64 und_ops14 i1 i2 i3 i4 rfl (by decide) v' L.length (cellsW L) HTW.out.row ⟨b7, 0, none⟩ 1 1 [.int .i64 v, .string k, .int .i64 f, .slice ta m tc, .bool b] rfl (fun j u hj => by rw [Addr.add_lit, Nat.zero_add]; exact HTW.out.cell j u hj) (encW_one (x := ((v, k, f, ts), .slice ta m tc, b)) ⟨_, _, _, rfl⟩) (by have := HLN.out; unfold maxLen; omega) (by have := HLN.out; omega) HTW.out.below.size
            obtain ⟨ua, uc, rfl⟩ := row_shape14 ho8
            have O8 := Lib.hid (show w8.ownsRow w7.heap.size 100 5 (.slice ua (L.length + 1) uc) (L ++ [((v, k, f, ts), Value.slice ta m tc, b)]).length (cellsW (L ++ [((v, k, f, ts), Value.slice ta m tc, b)])) by
              rw [cellsW_snoc, List.length_append]; exact ho8)
            have B8 := Lib.hid (HTW.out.below.grown hg8 HTW.out.below.size (fun k hk => (HTW.out.row.lt k hk).1))
            refine pe_value (w' := w8) _ _ rfl rfl (JJ.run_op_append _ _ _ rfl _ _ rfl rfl hr8) B8.out ?_
            clear hr8 ho8 hg8 i1 i2 i3 i4
            simp only [Act.put, List.setIfInBounds_toArray, List.set_cons_zero, List.set_cons_succ, List.getElem_toArray, List.getElem_cons_zero, List.getElem_cons_succ]
            refine pe_value (w' := w8) _ (.pointer (some ⟨y, 0, none⟩)) rfl rfl (by go_simp) B8.out ?_
            simp only [Act.put, List.setIfInBounds_toArray, List.set_cons_zero, List.set_cons_succ, List.getElem_toArray, List.getElem_cons_zero, List.getElem_cons_succ]
            refine pe_value (w' := w8) _ (.pointer (some ⟨y, 4, none⟩)) rfl rfl (by go_simp) B8.out ?_
            simp only [Act.put, List.setIfInBounds_toArray, List.set_cons_zero, List.set_cons_succ, List.getElem_toArray, List.getElem_cons_zero, List.getElem_cons_succ]
            refine pe_last _ rfl ?_
            simp only [List.getElem_toArray, List.getElem_cons_zero, List.getElem_cons_succ]
            have BW8 := Lib.hid (B7.out.trans (B8.out.mono B7.out.size))
            have HB8 := Lib.hid (show Blk w8 y 5 (rowL [.string s, .int .i64 d, .int .i64 n, .int .i64 un, .slice ra L.length rc]) from HB1.out.below (Y6.out.trans (BW8.out.mono Y6.out.size)) HB1.out.lt)
            have L8 := Lib.hid (L1.out.below (Y6.out.trans (BW8.out.mono Y6.out.size)) L1.out.lt)
            obtain ⟨e0, e1, e2, e3, e4⟩ := cells5 HB8.out
            have f4 := HB8.out.frz 4
            go_upto_region 9 with fail
            clear e0 e1 e2 e3 e4 f4
            have U9 := Lib.hid (Upd.set w8 y 4 (.slice ua (L.length + 1) uc))
            have HNE := Lib.hid (show ∀ c, (Value.slice ua (L.length + 1) uc).ownBlock = some c → c ≠ y from fun c hc e => by
              have h1 := (O8.out.lt c hc).1
              have h2 := HBK.out.lt
              have h3 := (B6.out.trans (B7.out.mono B6.out.size)).size
              omega)
            have HB9 := Lib.hid (show Blk (w8.setCell ⟨y, 4, none⟩ (.slice ua (L.length + 1) uc)) y 5 (rowL [.string s, .int .i64 d, .int .i64 n, .int .i64 un, .slice ua (L.length + 1) uc]) from (HB8.out.set 4 _).congr _ fun j hj => by
              match j, hj with
              | 0, _ => rfl
              | 1, _ => rfl
              | 2, _ => rfl
              | 3, _ => rfl
              | 4, _ => rfl)
            have L9 := Lib.hid (L8.out.upd U9.out (by have := HBK.out.lt; have := HY0.out; omega))
            have HK9 := Lib.hid (show Keeps (fun b => b ≠ y) w (w8.setCell ⟨y, 4, none⟩ (.slice ua (L.length + 1) uc)) from (Keeps.of (B6.out.trans (BW8.out.mono B6.out.size))).trans (Keeps.upd' U9.out fun c => c rfl))
            have HR9 := Lib.hid (show RtM (w8.setCell ⟨y, 4, none⟩ (.slice ua (L.length + 1) uc)) 100 B y ⟨s, d, n, un, V ++ [(v, k, f, ts)]⟩ (L ++ [((v, k, f, ts), Value.slice ta m tc, b)]) (.slice ua (L.length + 1) uc) from
              ⟨HB9.out, own_base (row_keep O8.out fun c hc => U9.out.block c (HNE.out c hc)) (by have h3 := (B6.out.trans (B7.out.mono B6.out.size)).size; have := HBB.out; omega), by rw [List.map_append, HR.out.fst]; rfl, fun x hx => by
                rcases List.mem_append.1 hx with hx | hx
                · exact HR.out.sl x hx
                · rw [List.mem_singleton.1 hx]; exact ⟨_, _, _, rfl⟩, fun e => HNE.out y e rfl⟩)
            have HLO9 := Lib.hid (show ∀ c, (Value.slice ua (L.length + 1) uc).ownBlock = some c → w.heap.size ≤ c from fun c hc => by
              have h1 := (O8.out.lt c hc).1
              have h3 := (B6.out.trans (B7.out.mono B6.out.size)).size
              omega)
            obtain ⟨w9, hw9⟩ : ∃ w9, w8.setCell ⟨y, 4, none⟩ (.slice ua (L.length + 1) uc) = w9 := ⟨_, rfl⟩
            rw [hw9] at HB9 L9 HK9 HR9 ⊢
            clear hw9 U9
            obtain ⟨cn, hcn⟩ : ∃ cn, cntL (V ++ [(v, k, f, ts)]) v k = cn := ⟨_, rfl⟩
            have HCNT := Lib.hid (fun (wx : World) (hx : Below w9.heap.size w9 wx) => show Calls Tryd.prog 59 #[.pointer (some ⟨y, 0, none⟩), .int .i64 v, .string k] wx fun e w' => e = .returned (.int .i64 (cn : Int)) ∧ Below wx.heap.size wx w' from
              hcn ▸ rcount_any ⟨s, d, n, un, V ++ [(v, k, f, ts)]⟩ _ _ y B v k wx (HR9.out.on (Keeps.of hx)) (by have := HIA.out.few; omega))
            obtain ⟨fn, hfn⟩ : ∃ fn, faultsI n = fn := ⟨_, rfl⟩
            have HFN := Lib.hid (fun wx => rfaults_is n fn hfn (by have := HN7.out; omega) wx)
            have HQI := Lib.hid (show quorumI n = n - fn by unfold quorumI; rw [if_neg (by have := HN7.out; omega), hfn])
            have hwf : IntKind.i64.wrap (n - fn) = n - fn := by
              have h1 := HN7.out
              rw [← hfn]; unfold faultsI; rw [if_neg (by omega), IntKind.wrap_i64]; omega
            have HTO := Lib.hid (show toldT ⟨s, d, n, un, V⟩ (v, k, f, ts) = decide ((cn : Int) = n - fn) by
              unfold toldT; rw [HO.out, Bool.true_and, HAD.out]
              show decide ((cntL (V ++ [(v, k, f, ts)]) v k : Int) = quorumI n) = _
              rw [hcn, HQI.out])
            obtain ⟨Q, hQ⟩ : ∃ Q, ((cn : Int) == n - fn) = Q := ⟨_, rfl⟩
            have HQ := Lib.hid (show decide ((cn : Int) = n - fn) = Q by rw [← hQ]; rfl)
            clear hcn hfn
            have HC9 := Lib.hid (fun (wx : World) (hx : Below w9.heap.size w9 wx) => And.intro (cells5 (HB9.out.below hx HB9.out.lt)) (cells5 (L9.out.below hx L9.out.lt)))
            refine plan_abs (fun wx => Below w9.heap.size w9 wx) [(true, 0), (true, 1), (true, 2), (true, 3), (true, 4), (true, 6), (true, 7), (true, 8), (true, 9), (true, 10), (true, 11), (true, 12), (true, 13), (false, 5), (false, 14), (true, 15), (true, 16), (true, 17)] (by kernel_rfl) (by kernel_rfl) (fun _ _ d _ _ h => by cases d <;> exact h) fun w10 hs10 => ⟨hs10.below _, ?_⟩
            have Y10 := Lib.hid (hs10.below w9.heap.size)
            clear hs10
            iterate 13 (refine pl_run _ ?_ rfl rfl ?_ ?_; rotate_left; (focus (intro w' hS; obtain ⟨⟨c0, c1, c2, c3, c4⟩, d0, d1, d2, d3, d4⟩ := HC9.out w' hS; go_simp; exact rfl)); simp only [Act.put, List.setIfInBounds_toArray, List.set_cons_zero, List.set_cons_succ, List.getElem_toArray, List.getElem_cons_zero, List.getElem_cons_succ])
            refine pl_call1 _ rfl rfl (by go_simp) (HCNT.out w10 Y10.out) (fun w9 hb => Y10.out.trans (hb.mono Y10.out.size)) fun w11 hb11 => ?_
            have Y11 := Lib.hid (Y10.out.trans (hb11.mono Y10.out.size))
            clear hb11
            simp only [Act.put, List.setIfInBounds_toArray, List.set_cons_zero, List.set_cons_succ, List.getElem_toArray, List.getElem_cons_zero, List.getElem_cons_succ]
            refine pl_call1 (R := fun w' => Below w11.heap.size w11 w') _ rfl rfl (by go_simp) ((HFN.out w11).mono fun e w' h => ⟨h.1, by rw [← h.2]; exact Below.refl _ _⟩) (fun w9 hb => Y11.out.trans (hb.mono Y11.out.size)) fun w12 hb12 => ?_
            have Y12 := Lib.hid (Y11.out.trans (hb12.mono Y11.out.size))
            clear hb12
            simp only [Act.put, List.setIfInBounds_toArray, List.set_cons_zero, List.set_cons_succ, List.getElem_toArray, List.getElem_cons_zero, List.getElem_cons_succ]
            iterate 3 (refine pl_run _ ?_ rfl rfl ?_ ?_; rotate_left; (focus (intro w' hS; go_simp; exact rfl)); simp only [Act.put, List.setIfInBounds_toArray, List.set_cons_zero, List.set_cons_succ, List.getElem_toArray, List.getElem_cons_zero, List.getElem_cons_succ])
            refine pl_end ?_
            go_wp2_with fail
            go_ret
            refine ⟨by rw [HTO.out, HQ.out]; rfl, _, _, by rw [HAD.out]; exact HR9.out.on (Keeps.of Y12.out), HK9.out.trans (Keeps.of Y12.out), fun c hc => .inr (HLO9.out c hc)⟩
/-- Add, of whatever vote -/
theorem radd_any (T : Ta) (L : List Vw) (rv : Value) (y B : Nat) (x : Vt) (b : Bool) (ta : Option Addr) (tc : Nat) (w : World) (h : RtM w 100 B y T L rv) (hi : InvTa T) (hv : StrsAt w (.slice ta x.2.2.2.length tc) x.2.2.2) (hs : T.seed.size ≤ 1000) (hB : B ≤ w.heap.size) :
    Calls Tryd.prog 58 #[.pointer (some ⟨y, 0, none⟩), .agg #[.int .i64 x.1, .string x.2.1, .int .i64 x.2.2.1, .slice ta x.2.2.2.length tc, .bool b]] w (RAdd w 100 B y T x rv) := by
  cases hp : bas14 T x with
  | true => exact radd_yes T L rv y B x b ta tc w h hi hp hv hs hB
  | false => exact radd_no T L rv y B x b ta tc w h hp
end Go.Proofs.YtegkhhegapnkpaaDoor
end
