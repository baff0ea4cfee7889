/-
  Bytes of a string copied into a block; a digest that is fed byte by byte, as plain functions.
-/
import Derived.Test.YtfbjjlejmcpphaaDoorComp
import Derived.Test.YtfbjjlejmcpphaaDoorWMem
import Derived.Laws.CopyOwn
open Go Go.RowKit
namespace BB
theorem run_copy_str {P : Program} {w : World} {dT sT ty e b N off dLen cap n : Nat} {f : Nat → Value} {s : ByteArray} (hU : (underlying dT).run P w = .ok (.slice e) w) (hS : (Go.sizeOf e).run P w = .ok 1 w)
    (hb : Blk w b N f) (hN : off + n ≤ N) (hn : n = min s.size dLen) :
    ∃ w', (Builtin.copy_ #[dT, sT] ty #[.slice (some ⟨b, off, none⟩) dLen cap, .string s]).run P w = .ok (.int .i64 (n : Int)) w' ∧
      MS w b N (fun j => if off ≤ j ∧ j < off + n then cb (sb s.data.toList) (j - off) else f j) w' := by
  obtain ⟨t, ht⟩ := hb
  have hl : (row n (cb (sb s.data.toList))).toList.length = n := by simp [row]
  have hst := run_storeCells_at P b off t (row n (cb (sb s.data.toList))).toList 0 (row N f) w ht (by rw [row_size, hl]; omega) (fun v hv => by
    simp only [row, List.mem_map, List.mem_range] at hv
    obtain ⟨i, hi, rfl⟩ := hv
    rfl)
  have hx := extract_row s n (by omega)
  refine ⟨w.setRow b (List.take off (row N f).toList ++ (row n (cb (sb s.data.toList))).toList ++ List.drop (off + n) (row N f).toList).toArray, ?_, ⟨t, ?_⟩, ?_⟩
  · rw [hl, Nat.add_zero] at hst
    have hmin : Nat.min s.size dLen = n := hn.symm
    unfold Builtin.copy_
    simp only [List.getElem?_toArray, List.getElem?_cons_zero, List.getElem?_cons_succ, Sem.run_bind, hU, Result.andThen_ok, Builtin.lenOf, Sem.run_pure, hS, Builtin.firstCells, hmin, hx, hst, goInt]
  · rw [← row_splice N n off f _ hN]; exact setRow_heap w b _ _ t _ ht
  · refine ⟨by simp [World.setRow], fun k hk => ?_, rfl, rfl, rfl⟩
    simp only [World.setRow, Array.getElem?_modify]
    rw [if_neg (fun h => hk h.symm)]
theorem run_slice_arr {P : Program} {w : World} {t n e b off lo : Nat} (hU : (underlying t).run P w = .ok (.array n e) w) (hS : (Go.sizeOf e).run P w = .ok 1 w) (hlo : lo < n) :
    (Instr.sliceAt t (.pointer (some ⟨b, off, none⟩)) (some (.int .i64 (lo : Int))) none none).run P w = .ok (.slice (some ⟨b, off + lo, none⟩) (n - lo) (n - lo)) w := by
  have h2 : ¬ n = lo := by omega
  have h3 : (⟨b, off, none⟩ : Addr).add lo = ⟨b, off + lo, none⟩ := by unfold Addr.add; split <;> simp [*]
  unfold Instr.sliceAt
  simp [hU, Instr.sureAddr, Instr.sliceBounds, Instr.sliceBound, asIntOf, hS, h2, h3]
  intro h; omega
theorem run_slice_all {P : Program} {w : World} {t n e b off : Nat} (hU : (underlying t).run P w = .ok (.array n e) w) (hS : (Go.sizeOf e).run P w = .ok 1 w) :
    (Instr.sliceAt t (.pointer (some ⟨b, off, none⟩)) none none none).run P w = .ok (.slice (some ⟨b, off, none⟩) n n) w := by
  have h3 : (⟨b, off, none⟩ : Addr).add 0 = ⟨b, off, none⟩ := by unfold Addr.add; simp
  unfold Instr.sliceAt
  simp [hU, Instr.sureAddr, Instr.sliceBounds, hS, h3]
section
variable {P : Program} {ops : Array Oper} {Q : Exit → Act → World → Prop} {a : Act} {w : World} {rest : List Oper} {o : Oper}
theorem wpl_copy_str {dT sT e : TypeId} (d s : Operand) (b off N dLen cap n : Nat) (f : Nat → Value) (str : ByteArray) (hg : o.guard = none)
    (ho : o.op = .call { callee := .builtin .copy, args := #[d, s], argTypes := #[dT, sT] }) (hd : a.eval d = .slice (some ⟨b, off, none⟩) dLen cap) (hs : a.eval s = .string str)
    (hU : (underlying dT).run P w = .ok (.slice e) w) (hS : (Go.sizeOf e).run P w = .ok 1 w) (hb : Blk w b N f) (hN : off + n ≤ N) (hn : n = min str.size dLen)
    (hK : ∀ w', MS w b N (fun j => if off ≤ j ∧ j < off + n then cb (sb str.data.toList) (j - off) else f j) w' → wpList P ops Q rest (a.put o.dst (.int .i64 (n : Int))) w') : wpList P ops Q (o :: rest) a w := by
  obtain ⟨w', h, hm⟩ := run_copy_str (ty := o.type) (cap := cap) (sT := sT) hU hS hb hN hn
  refine wpl_value hg ?_ (hK w' hm)
  simp [execOp, ho, resolve, invoke, builtin, hd, hs, h, Result.andThen]
theorem stl_slice {K : Act → Prop} {t n e : Nat} (x y : Operand) (b off lo : Nat) (hg : o.guard = none) (ho : o.op = .slice t x (some y) none none) (hx : a.eval x = .pointer (some ⟨b, off, none⟩)) (hy : a.eval y = .int .i64 (lo : Int))
    (hU : (underlying t).run P w = .ok (.array n e) w) (hS : (Go.sizeOf e).run P w = .ok 1 w) (hlo : lo < n)
    (hK : wpStill P ops w K rest (a.put o.dst (.slice (some ⟨b, off + lo, none⟩) (n - lo) (n - lo)))) : wpStill P ops w K (o :: rest) a := by
  refine stl_step hg ?_ hK
  have := run_slice_arr (P := P) (b := b) (off := off) hU hS hlo
  unfold execOp
  simp only [ho, Option.map_some, Option.map_none, hx, hy, Sem.run_bind, this, Result.andThen_ok, Sem.run_pure]
end
/-- a digest on its way: the words, the block that is being filled, how far, and how many bytes the blocks ahead had -/
structure St where
  h : Nat → BitVec 32
  B : Nat → Nat
  fl : Nat
  be : Nat
def St.next (s : St) : St := if s.fl = 64 then ⟨comp s.h s.B (s.be + 64) false, fun _ => 0, 0, s.be + 64⟩ else s
def St.add (s : St) (c : UInt8) : St := let t := s.next; ⟨t.h, put t.B t.fl c.toNat, t.fl + 1, t.be⟩
def St.feed (s : St) (l : List UInt8) : St := l.foldl St.add s
theorem St.feed_append (s : St) (l m : List UInt8) : s.feed (l ++ m) = (s.feed l).feed m := by simp [St.feed]
theorem St.feed_nil (s : St) : s.feed [] = s := rfl
theorem St.next_fl (s : St) (h : s.fl ≤ 64) : s.next.fl < 64 := by
  unfold St.next; split
  · show 0 < 64; omega
  · omega
theorem St.next_of (s : St) (h : s.fl < 64) : s.next = s := by unfold St.next; rw [if_neg (by omega)]
theorem St.feed_next (s : St) (h : s.fl ≤ 64) (m : List UInt8) (hm : m ≠ []) : s.feed m = s.next.feed m := by
  cases m with
  | nil => exact absurd rfl hm
  | cons c m =>
    show (s.add c).feed m = (s.next.add c).feed m
    have : s.next.add c = s.add c := by unfold St.add; rw [St.next_of s.next (St.next_fl s h)]
    rw [this]
theorem sb_cons (c : UInt8) (m : List UInt8) (i : Nat) : sb (c :: m) (i + 1) = sb m i := by simp [sb]
theorem St.feed_chunk (m : List UInt8) : ∀ (s : St), s.fl + m.length ≤ 64 → s.feed m = ⟨s.h, fun j => if s.fl ≤ j ∧ j < s.fl + m.length then sb m (j - s.fl) else s.B j, s.fl + m.length, s.be⟩ := by
  induction m with
  | nil =>
    intro s _
    have : (fun j => if s.fl ≤ j ∧ j < s.fl + ([] : List UInt8).length then sb [] (j - s.fl) else s.B j) = s.B := by
      funext j; rw [if_neg (by simp only [List.length_nil]; omega)]
    rw [this]; rfl
  | cons c m ih =>
    intro s hs
    simp only [List.length_cons] at hs
    have hn : s.next = s := St.next_of s (by omega)
    have ha : s.add c = ⟨s.h, put s.B s.fl c.toNat, s.fl + 1, s.be⟩ := by unfold St.add; rw [hn]
    show (s.add c).feed m = _
    rw [ih (s.add c) (by rw [ha]; show s.fl + 1 + m.length ≤ 64; omega), ha]
    simp only [List.length_cons, St.mk.injEq, true_and]
    refine ⟨?_, by omega, trivial⟩
    funext j
    by_cases h1 : j < s.fl
    · rw [if_neg (by omega), if_neg (by omega), put_other _ _ (by omega)]
    · by_cases h2 : j = s.fl
      · subst h2
        rw [if_neg (by omega), if_pos (by omega), put_same]; simp [sb]
      · by_cases h3 : j < s.fl + (m.length + 1)
        · rw [if_pos (by omega), if_pos (by omega)]
          obtain ⟨i, hi⟩ : ∃ i, j - s.fl = i + 1 := ⟨j - s.fl - 1, by omega⟩
          rw [hi, sb_cons]; congr 1; omega
        · rw [if_neg (by omega), if_neg (by omega), put_other _ _ h2]
/-- what holds of a digest on its way -/
structure St.Ok (s : St) (L : Nat) : Prop where
  fl : s.fl ≤ 64
  B : ∀ i, s.B i < 256
  tot : s.be + s.fl = L
theorem St.Ok.next {s : St} {L : Nat} (h : s.Ok L) : s.next.Ok L := by
  unfold St.next; split
  · exact ⟨by show 0 ≤ 64; omega, fun _ => by show 0 < 256; omega, by have := h.tot; show s.be + 64 + 0 = L; omega⟩
  · exact h
theorem St.Ok.add {s : St} {L : Nat} (h : s.Ok L) (c : UInt8) : (s.add c).Ok (L + 1) := by
  have hn := h.next
  have hf := St.next_fl s h.fl
  refine ⟨by show s.next.fl + 1 ≤ 64; omega, fun i => ?_, by have := hn.tot; show s.next.be + (s.next.fl + 1) = _; omega⟩
  show put s.next.B s.next.fl c.toNat i < 256
  unfold put; split
  · exact UInt8.toNat_lt _
  · exact hn.B i
theorem St.Ok.feed {s : St} {L : Nat} (h : s.Ok L) (m : List UInt8) : (s.feed m).Ok (L + m.length) := by
  induction m generalizing s L with
  | nil => exact h
  | cons c m ih =>
    have := ih (h.add c)
    simp only [List.length_cons]
    rw [show L + (m.length + 1) = L + 1 + m.length by omega]
    exact this
def sizeV : Value → Nat | .string r => r.size | _ => 0
end BB
