/-
  A map of blocks with their heights, nil or owned: what a look-up, 'len' and a store make of it. No program is named here.
-/
import Derived.Test.YthajnkcipifhcaaGreatDoorKRState
import Derived.Test.YthajnkcipifhcaaGreatDoorKFItem
import Derived.Test.YthajnkcipifhcaaGreatDoorKJUnlike
import Derived.Maps.OwnIn
import Derived.Maps.Keyed
import Derived.StringKeys
open Go Go.RowKit
namespace FF
open WW BB Go.Maps
/-- an entry: a block's numbers and its certificate's block, its two slices, its height -/
abbrev Sv := (Int × Int × Int × ByteArray) × (Option Addr × Nat × Nat) × (Option Addr × Nat × Nat) × Int
def slV (t : Option Addr × Nat × Nat) : Value := .slice t.1 t.2.1 t.2.2
def encE (s : Sv) : Value := .agg #[.int .i64 s.1.1, .int .i64 s.1.2.1, .int .i64 s.1.2.2.1, .string s.1.2.2.2, slV s.2.1, slV s.2.2.1, .int .i64 s.2.2.2]
def svR (v : Value) : Option (DataW Sv × List MemPlace) :=
  match v with
  | .agg ⟨[.int .i64 v, .int .i64 p, .int .i64 j, .string k, .slice a n c, .slice b m d, .int .i64 h]⟩ => some (.held ((v, p, j, k), (a, n, c), (b, m, d), h), [])
  | _ => none
theorem svR_mk (s : Sv) : svR (encE s) = some (.held s, []) := rfl
def keyL (h : ByteArray) : Lit := .string h.data.toList
theorem keyL_inj {a b : ByteArray} (h : keyL a = keyL b) : a = b := by
  injection h with h
  rcases a with ⟨⟨a⟩⟩; rcases b with ⟨⟨b⟩⟩
  simp at h; rw [h]
theorem keyL_is (h : ByteArray) : WideAt.IsKeyLit (keyL h) := trivial
/-- D holds just f -/
structure MapOf (D : DataW Sv) (f : ByteArray → Option Sv) : Prop where
  tidy : Tidy D
  has : ∀ h, Maps.has D (keyL h) = (f h).isSome
  at_ : ∀ h s, f h = some s → ∀ z, D.atKey (keyL h) z = .held s
/-- one entry more -/
def setM (f : ByteArray → Option Sv) (h : ByteArray) (s : Sv) : ByteArray → Option Sv := fun x => if x = h then some s else f x
theorem MapOf.put {D : DataW Sv} {f : ByteArray → Option Sv} (m : MapOf D f) (h : ByteArray) (s : Sv) : MapOf (D.put (keyL h) (.held s)) (setM f h s) := by
  refine ⟨m.tidy.put (keyL_is h) _, fun x => ?_, fun x t hx z => ?_⟩
  · unfold setM
    by_cases e : x = h
    · subst e; rw [if_pos rfl, has_put_same m.tidy.isMap (keyL_is x)]; rfl
    · rw [if_neg e, has_put_other (fun c => e (keyL_inj c))]; exact m.has x
  · unfold setM at hx
    by_cases e : x = h
    · subst e; rw [if_pos rfl] at hx; cases hx; exact atKey_put_same m.tidy.isMap (keyL_is x) _ _
    · rw [if_neg e] at hx; rw [atKey_put_other (fun c => e (keyL_inj c))]; exact m.at_ x t hx z
theorem MapOf.congr {D : DataW Sv} {f f' : ByteArray → Option Sv} (m : MapOf D f) (h : ∀ x, f x = f' x) : MapOf D f' := by
  rw [show f' = f from funext fun x => (h x).symm]; exact m
theorem ownsMap_tight {P : Program} {k : TypeId} {w : World} {b n : Nat} {D : DataW Sv} (h : w.ownsMap P k svR b n D) : w.ownsMap P k svR b (Maps.size D) D := by
  obtain ⟨es, clock, hb, F, _, rfl⟩ := h
  refine ⟨es, clock, hb, F, ?_, rfl⟩
  simp [Maps.size, length_sorted]
/-- the map at mv holds just f, n entries: nil, or a block of its own -/
def MapAt (P : Program) (k : TypeId) (w : World) (mv : Value) (f : ByteArray → Option Sv) (n : Nat) : Prop :=
  (mv = .map none ∧ (∀ h, f h = none) ∧ n = 0) ∨ ∃ b D, mv = .map (some b) ∧ w.ownsMap P k svR b n D ∧ MapOf D f ∧ Maps.size D = n
/-- the map's block, if there is one -/
def mapBlk : Value → Option Nat
  | .map (some b) => some b
  | _ => none
section
variable {P : Program} {k e t : TypeId} {w w' : World} {mv : Value} {f : ByteArray → Option Sv} {n : Nat}
theorem MapAt.keep (h : MapAt P k w mv f n) (hb : ∀ b, mapBlk mv = some b → w'.heap[b]? = w.heap[b]?) : MapAt P k w' mv f n := by
  rcases h with h | ⟨b, D, rfl, ⟨es, clock, h1, h2⟩, h3⟩
  · exact Or.inl h
  · exact Or.inr ⟨b, D, rfl, ⟨es, clock, (hb b rfl).trans h1, h2⟩, h3⟩
theorem MapAt.lt (h : MapAt P k w mv f n) : ∀ b, mapBlk mv = some b → b < w.heap.size := by
  rcases h with ⟨rfl, _⟩ | ⟨b, D, rfl, h1, _⟩
  · exact fun b hb => by cases hb
  · exact fun c hc => by cases hc; exact h1.lt
theorem MapAt.later (h : MapAt P k w mv f n) (hb : Below w.heap.size w w') : MapAt P k w' mv f n := h.keep fun b e => hb.block b (h.lt b e)
theorem MapAt.congr {f' : ByteArray → Option Sv} (h : MapAt P k w mv f n) (hf : ∀ x, f x = f' x) : MapAt P k w mv f' n := by
  rw [show f' = f from funext fun x => (hf x).symm]; exact h
theorem MapAt.nomap (h : MapAt P k w mv f n) {cs : Array Value} {ty : TypeId} {fz : Nat × Nat} {b : Nat} (hb : w.heap[b]? = some (.cells cs ty fz)) : mapBlk mv ≠ some b := by
  rcases h with ⟨rfl, _⟩ | ⟨c, D, rfl, ⟨es, clock, h1, _⟩, _⟩
  · intro e; cases e
  · intro e; cases e; rw [hb] at h1; cases h1
theorem key_str (hk : P.underlying k = some .string) {h : ByteArray} (hs : h.size ≤ maxLen) : keyOf P k (.string h) = some (keyL h) := WideMaps.keyOf_string_mk hk hs
theorem MapAt.len (h : MapAt P k w mv f n) (ht : P.underlying t = some (.map k e)) (ty : TypeId) : (Builtin.len_ #[t] ty #[mv]).run P w = .ok (.int .i64 (n : Int)) w := by
  rcases h with ⟨rfl, _, rfl⟩ | ⟨b, D, rfl, hown, _, hn⟩
  · exact Maps.len_nil ht ty
  · rw [hown.len ht ty, hn]
/-- the store, run: of a map that isn't nil -/
theorem MapAt.store {b : Nat} (h : MapAt P k w (.map (some b)) f n) (hk : P.underlying k = some .string) (ht : P.underlying t = some (.map k e)) (hn : n < maxLen) {x : ByteArray} (hx : x.size ≤ maxLen) (hf : f x = none) (s : Sv) :
    ∃ w', (Instr.mapUpdate t (.map (some b)) (.string x) (encE s)).run P w = .ok () w' ∧ MapAt P k w' (.map (some b)) (setM f x s) (n + 1) ∧ w.grownBy w' (some b) := by
  have K : Keyed P k := string_keyed hk
  rcases h with ⟨h, _⟩ | ⟨c, D, hc, hown, hm, hs⟩
  · cases h
  · cases hc
    obtain ⟨w', h1, h2, h3⟩ := hown.update K ht hn (key_str hk hx) (svR_mk s)
    have hsz : Maps.size (D.put (keyL x) (.held s)) = n + 1 := by
      rw [size_put hm.tidy, hm.has x, hf, hs]; rfl
    refine ⟨w', h1, Or.inr ⟨b, _, rfl, ?_, hm.put x s, hsz⟩, h3⟩
    rw [← hsz]; exact ownsMap_tight h2
end
section
variable {P : Program} {ops : Array Oper} {rest : List Oper} {o : Oper} {a : Act} {Q : Exit → Act → World → Prop} {k e t : TypeId} {w : World} {mv : Value} {f : ByteArray → Option Sv} {n : Nat}
end
def slT : Value → Option Addr × Nat × Nat
  | .slice a n c => (a, n, c)
  | _ => (none, 0, 0)
def mkS (x : Iv) (t : Int) : Sv := ((viewI x.1.2, propI x.1.2, jvI x.1.2, parI x.1.2), slT x.2.1, slT x.2.2, t)
def entF (F : Fo) (N : List Iv) : ByteArray → Option Sv := fun h => (N.find? (fun x => decide (x.1.1 = h))).map fun x => mkS x (heightF F h)
theorem find_mem {N : List Iv} {h : ByteArray} {x : Iv} (hx : N.find? (fun x => decide (x.1.1 = h)) = some x) : x ∈ N ∧ x.1.1 = h :=
  ⟨List.mem_of_find?_eq_some hx, by simpa using List.find?_some hx⟩
end FF
