/-
  What comes in, opened: lists of tags, of signatures, of requests; certificates and blocks.
-/
import Derived.Test.YthajnkcipifhcaaGreatDoorRows
import Derived.Test.YthajnkcipifhcaaGreatDoorKWFewB
import Derived.Test.YthajnkcipifhcaaGreatDoorKWOpenS
import Derived.SliceStrings
import Derived.Lib.SmallJoins
import Derived.Deep.Slices
import Derived.Deep.Strs
open Go Go.RowKit
namespace Go.Proofs.YthajnkcipifhcaaGreatDoor
open WW BB Go.WideShapes Go.ChangeShapes Go.Deep
section
variable {H : Type} {enc : TypeId × Value → H} {W : World}
theorem cells_req : Tryz.prog.cellsOf 41 = 3 := by kernel_rfl
set_option maxRecDepth 100000 in
theorem open_req {fuel : Nat} {cs : List Value} {x : DataW H × List MemPlace} (h : TrodW enc W fuel 41 cs x) : ∃ c q s, cs = [.int .i64 c, .int .i64 q, .string s] ∧ s.size ≤ 9223372036854775807 := by
  obtain ⟨y0, y1, y2, n, _, hl, h0, h1, h2⟩ := trod_struct3 Tryz.underlying41 h
  rw [cells_req] at hl
  match cs, hl with
  | [u0, u1, u2], _ =>
    obtain ⟨c, hc, _⟩ := DataW.trod_int Tryz.underlying3 h0
    obtain ⟨q, hq, _⟩ := DataW.trod_int Tryz.underlying3 h1
    obtain ⟨s, hs, _, hm⟩ := DataW.trod_string Tryz.underlying9 h2
    have e0 : [u0] = [.int .i64 c] := hc
    have e1 : [u1] = [.int .i64 q] := hq
    have e2 : [u2] = [.string s] := hs
    simp only [List.cons.injEq, and_true] at e0 e1 e2
    exact ⟨c, q, s, by rw [e0, e1, e2], len_max hm⟩
/-- a slice's elements, one by one -/
theorem open_each {α : Type} {t e : TypeId} {fuel : Nat} {cs : List Value} {x : DataW H × List MemPlace} (k : Nat) (dflt : α) (R : List Value → α → Prop) (ht : Tryz.prog.underlying t = some (.slice e)) (hk : Tryz.prog.cellsOf e = k) (hk0 : 0 < k)
    (h : TrodW enc W fuel t cs x) (each : ∀ n cs' y, TrodW enc W n e cs' y → ∃ a, R cs' a) :
    ∃ a0 cap, ∃ l : List α, cs = [.slice a0 l.length cap] ∧ l.length ≤ 9223372036854775807 ∧ (l = [] ∨ ∃ b off, a0 = some ⟨b, off, none⟩ ∧ b < W.heap.size ∧ ∀ i, i < l.length → ∃ cs' : List Value, cs'.length = k ∧ R cs' (l.getD i dflt) ∧ ∀ j, j < k → W.cell? ⟨b, off + i * k + j, none⟩ = cs'[j]?) := by
  rcases open_slice ht h with ⟨rfl, _⟩ | ⟨a, len, cap, m, n, D, Pl, rfl, _, hl, hm, hmm, _, hx⟩
  · exact ⟨none, 0, [], rfl, by simp, Or.inl rfl⟩
  simp only [if_true] at hmm
  have hx' : ∀ i, i < len → ∃ a1 : α, ∃ cs' : List Value, W.cells? 0 (a.add (i * k)) k = some cs' ∧ R cs' a1 := fun i hi => by
    obtain ⟨cs', h1, h2⟩ := hx i (by omega)
    rw [hk] at h1
    obtain ⟨a1, ha⟩ := each n cs' _ h2
    exact ⟨a1, cs', h1, ha⟩
  haveI : Inhabited α := ⟨dflt⟩
  obtain ⟨f, hf⟩ := choose_lt hx'
  refine ⟨some a, cap, (List.range len).map f, by simp, by simp; exact Nat.le_trans hl (len_max hm), ?_⟩
  by_cases hl0 : len = 0
  · exact Or.inl (by subst hl0; rfl)
  refine Or.inr ?_
  obtain ⟨b, off, spot⟩ := a
  have hspot : spot = none := by
    obtain ⟨cs', h1, _⟩ := hf 0 (by omega)
    obtain ⟨_, h3, h4⟩ := World.cells?_some h1
    have h5 := h4 0 (by omega)
    rw [List.getElem?_eq_getElem (by omega)] at h5
    simpa [Addr.add] using World.cell?_spot h5
  subst hspot
  have hcell : ∀ i, i < len → ∃ cs' : List Value, cs'.length = k ∧ R cs' (f i) ∧ ∀ j, j < k → W.cell? ⟨b, off + i * k + j, none⟩ = cs'[j]? := fun i hi => by
    obtain ⟨cs', h1, h2⟩ := hf i hi
    obtain ⟨_, h3, h4⟩ := World.cells?_some h1
    refine ⟨cs', h3, h2, fun j hj => ?_⟩
    rw [← h4 j hj, add_plain, add_plain]
  refine ⟨b, off, rfl, ?_, fun i hi => ?_⟩
  · obtain ⟨cs', h3, _, h4⟩ := hcell 0 (by omega)
    have h5 := h4 0 hk0
    rw [List.getElem?_eq_getElem (by omega)] at h5
    exact World.block_lt_of_cell? W _ h5
  · have hi' : i < len := by simpa using hi
    have e : ((List.range len).map f).getD i dflt = f i := by
      rw [List.getD_eq_getElem?_getD, List.getElem?_eq_getElem (by simpa using hi')]; simp
    rw [e]
    exact hcell i hi'
set_option maxRecDepth 100000 in
theorem open_sigs {fuel : Nat} {cs : List Value} {x : DataW H × List MemPlace} (h : TrodW enc W fuel 31 cs x) : ∃ sv l, cs = [sv] ∧ SigsAt W sv l ∧ MemS l := by
  obtain ⟨a0, cap, l, rfl, hm, hl⟩ := open_each (α := Int × List ByteArray) 2 (0, []) (fun cs' a => ∃ tv, cs' = [.int .i64 a.1, tv] ∧ StrsAt W tv a.2 ∧ a.2.length ≤ 9223372036854775807) Tryz.underlying31 cells_sig (by omega) h (fun n cs' y hy => by
    obtain ⟨f, tv, ts, h1, h2, h3⟩ := open_sig hy
    exact ⟨(f, ts), tv, h1, h2, h3⟩)
  refine ⟨_, l, rfl, ⟨a0, cap, rfl, ?_⟩, hm, fun i hi => ?_⟩
  · rcases hl with hl | ⟨b, off, hb, hlt, hc⟩
    · exact Or.inl hl
    · refine Or.inr ⟨b, off, hb, hlt, fun i hi => ?_⟩
      obtain ⟨cs', h1, ⟨tv, rfl, h2, h3⟩, h4⟩ := hc i hi
      exact ⟨tv, h4 0 (by omega), h4 1 (by omega), h2⟩
  · rcases hl with hl | ⟨b, off, hb, hlt, hc⟩
    · subst hl; simp at hi
    · obtain ⟨cs', h1, ⟨tv, rfl, h2, h3⟩, h4⟩ := hc i hi
      exact h3
set_option maxRecDepth 100000 in
theorem open_reqs {fuel : Nat} {cs : List Value} {x : DataW H × List MemPlace} (h : TrodW enc W fuel 34 cs x) : ∃ rv l, cs = [rv] ∧ ReqsAt W rv l ∧ l.length ≤ 9223372036854775807 := by
  obtain ⟨a0, cap, l, rfl, hm, hl⟩ := open_each (α := Int × Int × ByteArray) 3 (0, 0, ⟨#[]⟩) (fun cs' a => cs' = [.int .i64 a.1, .int .i64 a.2.1, .string a.2.2]) Tryz.underlying34 cells_req (by omega) h (fun n cs' y hy => by
    obtain ⟨c, q, s, h1, _⟩ := open_req hy
    exact ⟨(c, q, s), h1⟩)
  refine ⟨_, l, rfl, ⟨a0, cap, rfl, ?_⟩, hm⟩
  rcases hl with hl | ⟨b, off, hb, hlt, hc⟩
  · exact Or.inl hl
  · refine Or.inr ⟨b, off, hb, hlt, fun i hi => ?_⟩
    obtain ⟨cs', h1, rfl, h4⟩ := hc i hi
    exact ⟨h4 0 (by omega), h4 1 (by omega), h4 2 (by omega)⟩
theorem cells_cert : Tryz.prog.cellsOf 33 = 3 := by kernel_rfl
theorem cells_block : Tryz.prog.cellsOf 36 = 6 := by kernel_rfl
set_option maxRecDepth 100000 in
theorem open_cert {fuel : Nat} {cs : List Value} {x : DataW H × List MemPlace} (h : TrodW enc W fuel 33 cs x) : ∃ v k sv l, cs = [.int .i64 v, .string k, sv] ∧ SigsAt W sv l ∧ MemS l ∧ k.size ≤ 9223372036854775807 := by
  obtain ⟨y0, y1, y2, n, _, hl, h0, h1, h2⟩ := trod_struct3 Tryz.underlying33 h
  rw [cells_cert] at hl
  match cs, hl with
  | [u0, u1, u2], _ =>
    obtain ⟨c, hc, _⟩ := DataW.trod_int Tryz.underlying3 h0
    obtain ⟨s, hs, _, hm⟩ := DataW.trod_string Tryz.underlying9 h1
    obtain ⟨sv, l, hv, hS, hM⟩ := open_sigs h2
    have e0 : [u0] = [.int .i64 c] := hc
    have e1 : [u1] = [.string s] := hs
    have e2 : [u2] = [sv] := hv
    simp only [List.cons.injEq, and_true] at e0 e1 e2
    exact ⟨c, s, sv, l, by rw [e0, e1, e2], hS, hM, len_max hm⟩
set_option maxRecDepth 100000 in
theorem open_block {fuel : Nat} {cs : List Value} {x : DataW H × List MemPlace} (h : TrodW enc W fuel 36 cs x) : ∃ v p cv k sv rv l m, cs = [.int .i64 v, .int .i64 p, .int .i64 cv, .string k, sv, rv] ∧ SigsAt W sv l ∧ ReqsAt W rv m ∧ MemS l ∧ k.size ≤ 9223372036854775807 ∧ m.length ≤ 9223372036854775807 := by
  obtain ⟨y0, y1, y2, y3, n, _, hl, h0, h1, h2, h3⟩ := Joins.trod_struct4 Tryz.underlying36 h
  rw [cells_block] at hl
  match cs, hl with
  | [u0, u1, u2, u3, u4, u5], _ =>
    obtain ⟨v, hv, _⟩ := DataW.trod_int Tryz.underlying3 h0
    obtain ⟨p, hp, _⟩ := DataW.trod_int Tryz.underlying3 h1
    obtain ⟨cv, k, sv, l, hc, hS, hM, hk⟩ := open_cert h2
    obtain ⟨rv, m, hr, hR, hm⟩ := open_reqs h3
    have e0 : [u0] = [.int .i64 v] := hv
    have e1 : [u1] = [.int .i64 p] := hp
    have e2 : [u2, u3, u4] = [.int .i64 cv, .string k, sv] := hc
    have e3 : [u5] = [rv] := hr
    simp only [List.cons.injEq, and_true] at e0 e1 e2 e3
    exact ⟨v, p, cv, k, sv, rv, l, m, by rw [e0, e1, e2.1, e2.2.1, e2.2.2, e3], hS, hR, hM, hk, hm⟩
end
end Go.Proofs.YthajnkcipifhcaaGreatDoor
