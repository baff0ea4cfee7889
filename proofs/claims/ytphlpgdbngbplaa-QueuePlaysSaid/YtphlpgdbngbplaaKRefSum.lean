/-
  The walk of the document's Sum.
-/
import Derived.Test.YtphlpgdbngbplaaKWords
import Derived.Test.YtphlpgdbngbplaaKBRow
import Derived.Test.YtphlpgdbngbplaaKKeyed
import Derived.Deep.DeepCutAuto
import Derived.Deep.OwnRows
open Go Go.RowKit
namespace BB
/-- how many noughts fill the bytes up -/
def padn (n : Nat) : Nat := if n = 0 then 64 else (64 - n % 64) % 64
def lenV : Value → Nat | .slice _ n _ => n | _ => 0
theorem pad_more (a k : Nat) (h : k ≤ padn a) (hn : a + k = 0 ∨ (a + k) % 64 ≠ 0) : k + 1 ≤ padn a := by
  unfold padn at *; split at h <;> split <;> omega
theorem pad_done (a k : Nat) (h : k ≤ padn a) (h0 : a + k ≠ 0) (hn : (a + k) % 64 = 0) : k = padn a := by
  unfold padn at *; split at h <;> split <;> omega
theorem rep_succ (A : List UInt8) (k : Nat) : A ++ List.replicate k 0 ++ [0] = A ++ List.replicate (k + 1) 0 := by
  rw [List.append_assoc, ← List.replicate_succ']
theorem cell_new1 (w : World) (u : Value) (t : TypeId) : (w.alloc (.cells #[u] t)).cell? ⟨w.heap.size, 0, none⟩ = some u := by
  have : (w.alloc (.cells #[u] t)).heap[w.heap.size]? = some (.cells #[u] t) := by show (w.heap.push _)[w.heap.size]? = _; simp
  unfold World.cell?; rw [this]; simp
theorem padn_le (a k : Nat) (h : k ≤ padn a) : k ≤ 64 := by unfold padn at h; split at h <;> omega
theorem sb_pad (A : List UInt8) (k j : Nat) : sb (A ++ List.replicate k 0) j = sb A j := by
  by_cases h : j < A.length
  · simp [sb, List.getElem?_append_left h]
  · rw [sb_ge A j (by omega)]
    by_cases h2 : j < A.length + k
    · have h3 : j - A.length < k := by omega
      simp [sb, List.getElem?_append_right (show A.length ≤ j by omega), h3]
    · exact sb_ge _ _ (by simp; omega)
theorem xor_r0 : Value.int .u64 (bits .xor .u64 (bits .xor .u64 ((iv 0).toNat : Int) 16842784) 0) = .int .u64 ((iv 0 ^^^ (0x01010020 ^^^ BitVec.ofNat 32 (0 * 256))).toNat : Int) := by
  have e2 : (16842784 : Int) = ((0x01010020 : BitVec 32).toNat : Int) := rfl
  have e0 : (0 : Int) = ((0 : BitVec 32).toNat : Int) := rfl
  rw [e2, bvxor64, e0, bvxor64]; rfl
/-- the words behind i blocks of n bytes -/
def rmid (n : Nat) (A : List UInt8) (N i : Nat) : Nat → BitVec 32 := if 64 * i = N then rdone n A else rwords n (sb A) i
structure RSAt (e : TypeId) (w : World) (v : Value) (PA : List UInt8) (hb g : Nat) (h : Nat → BitVec 32) (w' : World) : Prop where
  below : Below w.heap.size w w'
  row : BRow e w' w.heap.size v PA
  words : Blk w' hb 8 (cw .u64 h)
  l : w.heap.size ≤ hb
  ne : hb ≠ g
theorem BRow.len {e : TypeId} {w : World} {base : Nat} {v : Value} {A : List UInt8} (h : BRow e w base v A) : lenV v = A.length := by
  obtain ⟨g, cap, cur, fr, rfl, _⟩ := h; rfl
theorem hold_append {P : Program} {ops : Array Oper} {Q : Exit → Act → World → Prop} {a : Act} {w : World} {rest : List Oper} {o : Oper} {s x : Operand} {t u : TypeId} (_ho : o.op = .call { callee := .builtin .append, args := #[s, x], argTypes := #[t, u] }) (h : Held (wpList P ops Q (o :: rest) a w)) : wpList P ops Q (o :: rest) a w := h
theorem run_slice_of {P : Program} {w : World} {t e g n cap lo hi : Nat} (hU : (underlying t).run P w = .ok (.slice e) w) (hS : (Go.sizeOf e).run P w = .ok 1 w) (h1 : lo ≤ hi) (h2 : hi ≤ cap) (h3 : lo < cap) :
    (Instr.sliceAt t (.slice (some ⟨g, 0, none⟩) n cap) (some (.int .i64 (lo : Int))) (some (.int .i64 (hi : Int))) none).run P w = .ok (.slice (some ⟨g, lo, none⟩) (hi - lo) (cap - lo)) w := by
  have a1 : ¬ cap < hi := by omega
  have a2 : ¬ hi < lo := by omega
  have h4 : (⟨g, 0, none⟩ : Addr).add lo = ⟨g, lo, none⟩ := by unfold Addr.add; split <;> simp [*]
  have h5 : ¬ cap = lo := by omega
  unfold Instr.sliceAt Instr.slice
  simp [hU, Instr.sliceBounds, Instr.sliceBound, asIntOf, hS, h1, h2, h4, h5]
theorem stl_slice_of {P : Program} {ops : Array Oper} {a : Act} {w : World} {rest : List Oper} {o : Oper} {K : Act → Prop} {t e : Nat} (x y z : Operand) (g n cap lo hi : Nat) (hg : o.guard = none) (ho : o.op = .slice t x (some y) (some z) none)
    (hx : a.eval x = .slice (some ⟨g, 0, none⟩) n cap) (hy : a.eval y = .int .i64 (lo : Int)) (hz : a.eval z = .int .i64 (hi : Int)) (hU : (underlying t).run P w = .ok (.slice e) w) (hS : (Go.sizeOf e).run P w = .ok 1 w) (h1 : lo ≤ hi) (h2 : hi ≤ cap) (h3 : lo < cap)
    (hK : wpStill P ops w K rest (a.put o.dst (.slice (some ⟨g, lo, none⟩) (hi - lo) (cap - lo)))) : wpStill P ops w K (o :: rest) a := by
  refine stl_step hg ?_ hK
  have := run_slice_of (P := P) (g := g) (n := n) hU hS h1 h2 h3
  unfold execOp
  simp only [ho, Option.map_some, Option.map_none, hx, hy, hz, Sem.run_bind, this, Result.andThen_ok, Sem.run_pure]
theorem BRow.cap {e : TypeId} {w : World} {base g n cap : Nat} {A : List UInt8} (h : BRow e w base (.slice (some ⟨g, 0, none⟩) n cap) A) : n ≤ cap ∧ n = A.length := by
  obtain ⟨g', cap', cur, fr, e', _, _, _, hle, _⟩ := h
  injection e' with _ e2 e3
  omega
theorem BRow.bytes {e : TypeId} {w : World} {base g n cap I : Nat} {A : List UInt8} (h : BRow e w base (.slice (some ⟨g, 0, none⟩) n cap) A) (hI : I + 64 ≤ n) : Bytes w g I 64 (fun j => sb A (I + j)) := by
  obtain ⟨g', cap', cur, fr, e', _, hh, _, hle, _, hc⟩ := h
  injection e' with e1 e2 e3
  injection e1 with e1
  injection e1 with e1 _ _
  subst e1
  refine ⟨?_, fun j hj => ?_⟩
  · rcases Nat.lt_or_ge g w.heap.size with h | h
    · exact h
    · rw [Array.getElem?_eq_none h] at hh; cases hh
  · have := hc (I + j) (by omega)
    unfold World.cell?; rw [hh]; simpa using this
theorem RSAt.store {e : TypeId} {w : World} {v : Value} {PA : List UInt8} {hb g : Nat} {h h' f : Nat → BitVec 32} {w6 w7 w8 : World} {n cap : Nat} (hv : v = .slice (some ⟨g, 0, none⟩) n cap) (H : RSAt e w v PA hb g h w6) (h7 : Below w6.heap.size w6 w7)
    (h8 : MS w7 hb 8 (fun j => if 0 ≤ j ∧ j < 0 + 8 then cw .u64 h' (j - 0) else cw .u64 f j) w8) : RSAt e w v PA hb g h' w8 := by
  have r7 := H.row.below h7 (Nat.le_refl _)
  refine ⟨(H.below.trans (h7.mono H.below.size)).trans (h8.2.below H.l), ?_, h8.1.congr _ fun i hi => by simp [hi], H.l, H.ne⟩
  subst hv
  obtain ⟨g', cap', cur, fr, e', hg', hh, r⟩ := r7
  have e1 : g' = g := by injection e' with e1 _ _; injection e1 with e1; injection e1 with e1 _ _; exact e1.symm
  exact ⟨g', cap', cur, fr, e', hg', by rw [h8.2.block g' (by rw [e1]; exact Ne.symm H.ne)]; exact hh, r⟩
theorem xor_rk (n : Nat) (h : n ≤ 32) : Value.int .u64 (bits .xor .u64 (bits .xor .u64 ((iv 0).toNat : Int) 16842784) (256 * (n : Int))) = .int .u64 ((iv 0 ^^^ (0x01010020 ^^^ BitVec.ofNat 32 (n * 256))).toNat : Int) := by
  have e2 : (16842784 : Int) = ((0x01010020 : BitVec 32).toNat : Int) := rfl
  have e0 : (256 * (n : Int)) = ((BitVec.ofNat 32 (n * 256)).toNat : Int) := by rw [BitVec.toNat_ofNat]; omega
  rw [e2, bvxor64, e0, bvxor64, BitVec.xor_assoc]
theorem run_slice_lo {P : Program} {w : World} {t e g n cap lo : Nat} (hU : (underlying t).run P w = .ok (.slice e) w) (hS : (Go.sizeOf e).run P w = .ok 1 w) (h1 : lo ≤ n) (h2 : n ≤ cap) :
    (Instr.sliceAt t (.slice (some ⟨g, 0, none⟩) n cap) (some (.int .i64 (lo : Int))) none none).run P w = .ok (.slice (some ⟨g, if lo < cap then lo else 0, none⟩) (n - lo) (cap - lo)) w := by
  have h4 : (⟨g, 0, none⟩ : Addr).add lo = ⟨g, lo, none⟩ := by unfold Addr.add; split <;> simp [*]
  unfold Instr.sliceAt Instr.slice
  by_cases hc : lo < cap
  · have h5 : ¬ cap = lo := by omega
    simp [hU, Instr.sliceBounds, Instr.sliceBound, asIntOf, hS, h1, h4, h5, hc]
  · have h5 : cap = lo := by omega
    simp [hU, Instr.sliceBounds, Instr.sliceBound, asIntOf, hS, h1, h5]
theorem wpl_slice_lo {P : Program} {ops : Array Oper} {Q : Exit → Act → World → Prop} {a : Act} {w : World} {rest : List Oper} {o : Oper} {t e : Nat} (x y : Operand) (g n cap lo : Nat) (hg : o.guard = none) (ho : o.op = .slice t x (some y) none none)
    (hx : a.eval x = .slice (some ⟨g, 0, none⟩) n cap) (hy : a.eval y = .int .i64 (lo : Int)) (hU : (underlying t).run P w = .ok (.slice e) w) (hS : (Go.sizeOf e).run P w = .ok 1 w) (h1 : lo ≤ n) (h2 : n ≤ cap) (off' n' c' : Nat) (e1 : off' = if lo < cap then lo else 0) (e2 : n' = n - lo) (e3 : c' = cap - lo)
    (hK : wpList P ops Q rest (a.put o.dst (.slice (some ⟨g, off', none⟩) n' c')) w) : wpList P ops Q (o :: rest) a w := by
  subst e1 e2 e3
  refine wpl_value hg ?_ hK
  have := run_slice_lo (P := P) (g := g) hU hS h1 h2
  unfold execOp
  simp only [ho, Option.map_some, Option.map_none, hx, hy, Sem.run_bind, this, Result.andThen_ok, Sem.run_pure]
theorem key_row (l m : List UInt8) (h0 : l ≠ []) (h : l.length ≤ 32) (off : Nat) (ho : off = if 64 < 64 + m.length then 64 else 0) (j : Nat) (hj : j < 64 + m.length) :
    (if off ≤ j ∧ j < off + m.length then cb (sb m) (j - off) else if 0 ≤ j ∧ j < 0 + l.length then cb (sb l) (j - 0) else .int .u8 0) = .int .u8 (sb (kblock l ++ m) j : Int) := by
  have hk : kblock l = l ++ List.replicate (64 - l.length) 0 := by unfold kblock; rw [if_neg h0]
  have hkl : (l ++ List.replicate (64 - l.length) (0 : UInt8)).length = 64 := by simp; omega
  rw [hk]
  by_cases h1 : j < 64
  · have e1 : sb (l ++ List.replicate (64 - l.length) 0 ++ m) j = sb l j := by
      rw [← sb_pad l (64 - l.length) j]
      simp only [sb, List.getD_eq_getElem?_getD]
      rw [List.getElem?_append_left (by omega)]
    rw [e1]
    have : ¬ (off ≤ j ∧ j < off + m.length) := by
      rw [ho]; split <;> omega
    rw [if_neg this]
    by_cases h2 : j < l.length
    · rw [if_pos (by omega)]; rfl
    · rw [if_neg (by omega), sb_ge _ _ (by omega)]; rfl
  · have ho' : off = 64 := by rw [ho, if_pos (by omega)]
    have e1 : sb (l ++ List.replicate (64 - l.length) 0 ++ m) j = sb m (j - 64) := by
      simp only [sb, List.getD_eq_getElem?_getD]
      rw [List.getElem?_append_right (by omega), hkl]
    rw [e1, if_pos (by omega), ho']; rfl
theorem kblock_len (l : List UInt8) (h : l.length ≤ 32) : (kblock l).length ≤ 64 := by unfold kblock; split <;> simp; omega
end BB
namespace Go.Proofs.Ytphlpgdbngbplaa
open BB
theorem info_byte' : (Try.prog.info? 5).map (fun i => (i.zero, i.size, i.bytes)) = some (some (.int .u8 0), 1, 1) := by kernel_rfl
theorem info_byte : ∃ i, Try.prog.info? 5 = some i ∧ i.zero = some (.int .u8 0) ∧ i.size = 1 ∧ i.bytes = 1 := by
  have h : (Try.prog.info? 5).map (fun i => (i.zero, i.size, i.bytes)) = some (some (.int .u8 0), 1, 1) := by kernel_rfl
  generalize Try.prog.info? 5 = x at h
  cases x with
  | none => cases h
  | some i =>
    simp only [Option.map_some, Option.some.injEq, Prod.mk.injEq] at h
    exact ⟨i, rfl, h.1, h.2.1, h.2.2⟩
end Go.Proofs.Ytphlpgdbngbplaa
