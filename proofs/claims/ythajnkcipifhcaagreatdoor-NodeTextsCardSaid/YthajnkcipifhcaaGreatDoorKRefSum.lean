/-
  The walk of the document's Sum.
-/
import Derived.Test.YthajnkcipifhcaaGreatDoorKMixed
import Derived.Test.YthajnkcipifhcaaGreatDoorKBRow
import Derived.Test.YthajnkcipifhcaaGreatDoorKKeyed
import Derived.Deep.DeepCutAuto
import Derived.Deep.OwnRows
open Go Go.RowKit
namespace BB
/-- how many noughts fill the bytes up -/
def padn (n : Nat) : Nat := if n = 0 then 64 else (64 - n % 64) % 64
def lenV : Value → Nat | .slice _ n _ => n | _ => 0
theorem pad_more (a k : Nat) (h : k ≤ padn a) (hn : a + k = 0 ∨ (a + k) % 64 ≠ 0) : k + 1 ≤ padn a := by
  unfold padn at *; split at h <;> split <;> omega
theorem pad_done (a k : Nat) (h : k ≤ padn a) (h0 : a + k ≠ 0) (hn : (a + k) % 64 = 0) : k = padn a := by
  unfold padn at *; split at h <;> split <;> omega
theorem rep_succ (A : List UInt8) (k : Nat) : A ++ List.replicate k 0 ++ [0] = A ++ List.replicate (k + 1) 0 := by
  rw [List.append_assoc, ← List.replicate_succ']
theorem cell_new1 (w : World) (u : Value) (t : TypeId) : (w.alloc (.cells #[u] t)).cell? ⟨w.heap.size, 0, none⟩ = some u := by
  have : (w.alloc (.cells #[u] t)).heap[w.heap.size]? = some (.cells #[u] t) := by show (w.heap.push _)[w.heap.size]? = _; simp
  unfold World.cell?; rw [this]; simp
theorem padn_le (a k : Nat) (h : k ≤ padn a) : k ≤ 64 := by unfold padn at h; split at h <;> omega
theorem sb_pad (A : List UInt8) (k j : Nat) : sb (A ++ List.replicate k 0) j = sb A j := by
  by_cases h : j < A.length
  · simp [sb, List.getElem?_append_left h]
  · rw [sb_ge A j (by omega)]
    by_cases h2 : j < A.length + k
    · have h3 : j - A.length < k := by omega
      simp [sb, List.getElem?_append_right (show A.length ≤ j by omega), h3]
    · exact sb_ge _ _ (by simp; omega)
/-- the words behind i blocks of n bytes -/
def rmid (n : Nat) (A : List UInt8) (N i : Nat) : Nat → BitVec 32 := if 64 * i = N then rdone n A else rwords n (sb A) i
structure RSAt (e : TypeId) (w : World) (v : Value) (PA : List UInt8) (hb g : Nat) (h : Nat → BitVec 32) (w' : World) : Prop where
  below : Below w.heap.size w w'
  row : BRow e w' w.heap.size v PA
  words : Blk w' hb 8 (cw .u64 h)
  l : w.heap.size ≤ hb
  ne : hb ≠ g
theorem BRow.len {e : TypeId} {w : World} {base : Nat} {v : Value} {A : List UInt8} (h : BRow e w base v A) : lenV v = A.length := by
  obtain ⟨g, cap, cur, fr, rfl, _⟩ := h; rfl
theorem hold_append {P : Program} {ops : Array Oper} {Q : Exit → Act → World → Prop} {a : Act} {w : World} {rest : List Oper} {o : Oper} {s x : Operand} {t u : TypeId} (_ho : o.op = .call { callee := .builtin .append, args := #[s, x], argTypes := #[t, u] }) (h : Held (wpList P ops Q (o :: rest) a w)) : wpList P ops Q (o :: rest) a w := h
theorem run_slice_of {P : Program} {w : World} {t e g n cap lo hi : Nat} (hU : (underlying t).run P w = .ok (.slice e) w) (hS : (Go.sizeOf e).run P w = .ok 1 w) (h1 : lo ≤ hi) (h2 : hi ≤ cap) (h3 : lo < cap) :
    (Instr.sliceAt t (.slice (some ⟨g, 0, none⟩) n cap) (some (.int .i64 (lo : Int))) (some (.int .i64 (hi : Int))) none).run P w = .ok (.slice (some ⟨g, lo, none⟩) (hi - lo) (cap - lo)) w := by
  have a1 : ¬ cap < hi := by omega
  have a2 : ¬ hi < lo := by omega
  have h4 : (⟨g, 0, none⟩ : Addr).add lo = ⟨g, lo, none⟩ := by unfold Addr.add; split <;> simp [*]
  have h5 : ¬ cap = lo := by omega
  unfold Instr.sliceAt Instr.slice
  simp [hU, Instr.sliceBounds, Instr.sliceBound, asIntOf, hS, h1, h2, h4, h5]
theorem stl_slice_of {P : Program} {ops : Array Oper} {a : Act} {w : World} {rest : List Oper} {o : Oper} {K : Act → Prop} {t e : Nat} (x y z : Operand) (g n cap lo hi : Nat) (hg : o.guard = none) (ho : o.op = .slice t x (some y) (some z) none)
    (hx : a.eval x = .slice (some ⟨g, 0, none⟩) n cap) (hy : a.eval y = .int .i64 (lo : Int)) (hz : a.eval z = .int .i64 (hi : Int)) (hU : (underlying t).run P w = .ok (.slice e) w) (hS : (Go.sizeOf e).run P w = .ok 1 w) (h1 : lo ≤ hi) (h2 : hi ≤ cap) (h3 : lo < cap)
    (hK : wpStill P ops w K rest (a.put o.dst (.slice (some ⟨g, lo, none⟩) (hi - lo) (cap - lo)))) : wpStill P ops w K (o :: rest) a := by
  refine stl_step hg ?_ hK
  have := run_slice_of (P := P) (g := g) (n := n) hU hS h1 h2 h3
  unfold execOp
  simp only [ho, Option.map_some, Option.map_none, hx, hy, hz, Sem.run_bind, this, Result.andThen_ok, Sem.run_pure]
theorem BRow.cap {e : TypeId} {w : World} {base g n cap : Nat} {A : List UInt8} (h : BRow e w base (.slice (some ⟨g, 0, none⟩) n cap) A) : n ≤ cap ∧ n = A.length := by
  obtain ⟨g', cap', cur, fr, e', _, _, _, hle, _⟩ := h
  injection e' with _ e2 e3
  omega
theorem BRow.bytes {e : TypeId} {w : World} {base g n cap I : Nat} {A : List UInt8} (h : BRow e w base (.slice (some ⟨g, 0, none⟩) n cap) A) (hI : I + 64 ≤ n) : Bytes w g I 64 (fun j => sb A (I + j)) := by
  obtain ⟨g', cap', cur, fr, e', _, hh, _, hle, _, hc⟩ := h
  injection e' with e1 e2 e3
  injection e1 with e1
  injection e1 with e1 _ _
  subst e1
  refine ⟨?_, fun j hj => ?_⟩
  · rcases Nat.lt_or_ge g w.heap.size with h | h
    · exact h
    · rw [Array.getElem?_eq_none h] at hh; cases hh
  · have := hc (I + j) (by omega)
    unfold World.cell?; rw [hh]; simpa using this
theorem RSAt.store {e : TypeId} {w : World} {v : Value} {PA : List UInt8} {hb g : Nat} {h h' f : Nat → BitVec 32} {w6 w7 w8 : World} {n cap : Nat} (hv : v = .slice (some ⟨g, 0, none⟩) n cap) (H : RSAt e w v PA hb g h w6) (h7 : Below w6.heap.size w6 w7)
    (h8 : MS w7 hb 8 (fun j => if 0 ≤ j ∧ j < 0 + 8 then cw .u64 h' (j - 0) else cw .u64 f j) w8) : RSAt e w v PA hb g h' w8 := by
  have r7 := H.row.below h7 (Nat.le_refl _)
  refine ⟨(H.below.trans (h7.mono H.below.size)).trans (h8.2.below H.l), ?_, h8.1.congr _ fun i hi => by simp [hi], H.l, H.ne⟩
  subst hv
  obtain ⟨g', cap', cur, fr, e', hg', hh, r⟩ := r7
  have e1 : g' = g := by injection e' with e1 _ _; injection e1 with e1; injection e1 with e1 _ _; exact e1.symm
  exact ⟨g', cap', cur, fr, e', hg', by rw [h8.2.block g' (by rw [e1]; exact Ne.symm H.ne)]; exact hh, r⟩
theorem xor_rk (n : Nat) (h : n ≤ 32) : Value.int .u64 (bits .xor .u64 (bits .xor .u64 ((iv 0).toNat : Int) 16842784) (256 * (n : Int))) = .int .u64 ((iv 0 ^^^ (0x01010020 ^^^ BitVec.ofNat 32 (n * 256))).toNat : Int) := by
  have e2 : (16842784 : Int) = ((0x01010020 : BitVec 32).toNat : Int) := rfl
  have e0 : (256 * (n : Int)) = ((BitVec.ofNat 32 (n * 256)).toNat : Int) := by rw [BitVec.toNat_ofNat]; omega
  rw [e2, bvxor64, e0, bvxor64, BitVec.xor_assoc]
theorem run_slice_lo {P : Program} {w : World} {t e g n cap lo : Nat} (hU : (underlying t).run P w = .ok (.slice e) w) (hS : (Go.sizeOf e).run P w = .ok 1 w) (h1 : lo ≤ n) (h2 : n ≤ cap) :
    (Instr.sliceAt t (.slice (some ⟨g, 0, none⟩) n cap) (some (.int .i64 (lo : Int))) none none).run P w = .ok (.slice (some ⟨g, if lo < cap then lo else 0, none⟩) (n - lo) (cap - lo)) w := by
  have h4 : (⟨g, 0, none⟩ : Addr).add lo = ⟨g, lo, none⟩ := by unfold Addr.add; split <;> simp [*]
  unfold Instr.sliceAt Instr.slice
  by_cases hc : lo < cap
  · have h5 : ¬ cap = lo := by omega
    simp [hU, Instr.sliceBounds, Instr.sliceBound, asIntOf, hS, h1, h4, h5, hc]
  · have h5 : cap = lo := by omega
    simp [hU, Instr.sliceBounds, Instr.sliceBound, asIntOf, hS, h1, h5]
theorem wpl_slice_lo {P : Program} {ops : Array Oper} {Q : Exit → Act → World → Prop} {a : Act} {w : World} {rest : List Oper} {o : Oper} {t e : Nat} (x y : Operand) (g n cap lo : Nat) (hg : o.guard = none) (ho : o.op = .slice t x (some y) none none)
    (hx : a.eval x = .slice (some ⟨g, 0, none⟩) n cap) (hy : a.eval y = .int .i64 (lo : Int)) (hU : (underlying t).run P w = .ok (.slice e) w) (hS : (Go.sizeOf e).run P w = .ok 1 w) (h1 : lo ≤ n) (h2 : n ≤ cap) (off' n' c' : Nat) (e1 : off' = if lo < cap then lo else 0) (e2 : n' = n - lo) (e3 : c' = cap - lo)
    (hK : wpList P ops Q rest (a.put o.dst (.slice (some ⟨g, off', none⟩) n' c')) w) : wpList P ops Q (o :: rest) a w := by
  subst e1 e2 e3
  refine wpl_value hg ?_ hK
  have := run_slice_lo (P := P) (g := g) hU hS h1 h2
  unfold execOp
  simp only [ho, Option.map_some, Option.map_none, hx, hy, Sem.run_bind, this, Result.andThen_ok, Sem.run_pure]
theorem key_row (l m : List UInt8) (h0 : l ≠ []) (h : l.length ≤ 32) (off : Nat) (ho : off = if 64 < 64 + m.length then 64 else 0) (j : Nat) (hj : j < 64 + m.length) :
    (if off ≤ j ∧ j < off + m.length then cb (sb m) (j - off) else if 0 ≤ j ∧ j < 0 + l.length then cb (sb l) (j - 0) else .int .u8 0) = .int .u8 (sb (kblock l ++ m) j : Int) := by
  have hk : kblock l = l ++ List.replicate (64 - l.length) 0 := by unfold kblock; rw [if_neg h0]
  have hkl : (l ++ List.replicate (64 - l.length) (0 : UInt8)).length = 64 := by simp; omega
  rw [hk]
  by_cases h1 : j < 64
  · have e1 : sb (l ++ List.replicate (64 - l.length) 0 ++ m) j = sb l j := by
      rw [← sb_pad l (64 - l.length) j]
      simp only [sb, List.getD_eq_getElem?_getD]
      rw [List.getElem?_append_left (by omega)]
    rw [e1]
    have : ¬ (off ≤ j ∧ j < off + m.length) := by
      rw [ho]; split <;> omega
    rw [if_neg this]
    by_cases h2 : j < l.length
    · rw [if_pos (by omega)]; rfl
    · rw [if_neg (by omega), sb_ge _ _ (by omega)]; rfl
  · have ho' : off = 64 := by rw [ho, if_pos (by omega)]
    have e1 : sb (l ++ List.replicate (64 - l.length) 0 ++ m) j = sb m (j - 64) := by
      simp only [sb, List.getD_eq_getElem?_getD]
      rw [List.getElem?_append_right (by omega), hkl]
    rw [e1, if_pos (by omega), ho']; rfl
theorem kblock_len (l : List UInt8) (h : l.length ≤ 32) : (kblock l).length ≤ 64 := by unfold kblock; split <;> simp; omega
end BB
namespace Go.Proofs.YthajnkcipifhcaaGreatDoor
open BB
theorem info_byte' : (Tryz.prog.info? 5).map (fun i => (i.zero, i.size, i.bytes)) = some (some (.int .u8 0), 1, 1) := by kernel_rfl
theorem info_byte : ∃ i, Tryz.prog.info? 5 = some i ∧ i.zero = some (.int .u8 0) ∧ i.size = 1 ∧ i.bytes = 1 := by
  have h : (Tryz.prog.info? 5).map (fun i => (i.zero, i.size, i.bytes)) = some (some (.int .u8 0), 1, 1) := by kernel_rfl
  generalize Tryz.prog.info? 5 = x at h
  cases x with
  | none => cases h
  | some i =>
    simp only [Option.map_some, Option.some.injEq, Prod.mk.injEq] at h
    exact ⟨i, rfl, h.1, h.2.1, h.2.2⟩
set_option maxRecDepth 100000 in
set_option maxHeartbeats 4000000 in
theorem rsum_any (K s : ByteArray) (hk : K.size ≤ 32) (hs : s.size < 1000000) (w : World) :
    Calls Tryz.prog 73 #[.string K, .string s] w fun e w' => e = .returned (.string (outS (rdone K.size (kblock K.data.toList ++ s.data.toList)))) ∧ Below w.heap.size w w' := by
  have hconv := run_bytes_of_string (P := Tryz.prog) w 9 99 5 s (by kernel_rfl) (by kernel_rfl) (by kernel_rfl)
  have HC := Lib.hid (brow_conv (e := 5) w s)
  obtain ⟨A, hA⟩ : ∃ A, A = kblock K.data.toList ++ s.data.toList := ⟨_, rfl⟩
  obtain ⟨N, hAl⟩ : ∃ N, A.length = N := ⟨_, rfl⟩
  have hN : N < 1000100 := by
    rw [← hAl, hA, List.length_append]
    have := kblock_len K.data.toList (by simpa using hk)
    have : s.data.toList.length = s.size := by simp
    omega
  have HSS := Lib.hid hs
  have HS := Lib.hid hN
  have HA := Lib.hid hA
  have HAL := Lib.hid hAl
  have HKS := Lib.hid hk
  clear hs hN hA hAl hk
  go_enter Tryz.func73, Tryz.ntmps73
  go_upto_if 18 with fail
  clear hconv
  go_cut [5] from 14 (fun v wx => Below w.heap.size w wx ∧ BRow 5 wx w.heap.size v A)
  case first =>
    by_cases hk0 : K.size = 0
    · have t1 : ¬ (0 : Int) < (K.size : Int) := by omega
      have HK0 := Lib.hid hk0
      clear hk0
      go_wp2_with fail
      go_meet
      case rel =>
        refine ⟨((Below.refl _ _).alloc (Nat.le_refl _) _).drew, ?_⟩
        have : A = s.data.toList := by
          rw [HA.out]
          have : K.data.toList = [] := by
            apply List.eq_nil_of_length_eq_zero
            rw [Array.length_toList]
            exact HK0.out
          rw [this]; rfl
        rw [this]; exact HC.out
    · have t1 : (0 : Int) < (K.size : Int) := by omega
      have HK0 := Lib.hid hk0
      clear hk0
      have sb1 : IntKind.i64.wrap (64 + (s.size : Int)) = 64 + (s.size : Int) := by have := HSS.out; rw [IntWalk.i64_in _ (by omega)]
      go_wp2_with (with_reducible refine hold_make rfl ?_)
      clear sb1
      refine wpl_make (.tmp 21) (.tmp 21) 99 5 (.int .u8 0) 1 (64 + s.size) rfl rfl ?_ ?_ (by kernel_rfl) info_byte' (by rfl) (by have := HSS.out; omega) (by have := HSS.out; omega) ?_
      · exact congrArg (Value.int .i64) (by omega)
      · exact congrArg (Value.int .i64) (by omega)
      have hz1 : ∀ o : Obj, (w.alloc o).drew.heap.size = w.heap.size + 1 := fun o => by simp
      rw [hz1]
      clear hz1
      refine abs_list (fun w' => Below w.heap.size w w' ∧ TBlk 5 w' (w.heap.size + 1) (64 + s.size) (fun _ => .int .u8 0)) ⟨?_, ?_⟩ ?_
      · exact (((Below.refl _ _).alloc (Nat.le_refl _) _).drew).alloc (by simp) _
      · exact TBlk.new' _ _ _ _ _ _ (by simp) (made_row _ _)
      · rintro w4 ⟨b4, k4⟩
        go_wp2_with (with_reducible refine hold_copy rfl ?_)
        refine wpl_copy_str_t (.tmp 23) (.tmp 24) (w.heap.size + 1) 0 (64 + s.size) (64 + s.size) (64 + s.size) K.size (fun _ => .int .u8 0) K rfl rfl (by rfl) (by rfl) (under_bytes _) (size_byte _) k4 (by have := HKS.out; omega) (by have := HKS.out; omega) ?_
        intro w5 h5
        have B5 := Lib.hid (b4.trans (h5.2.below (by omega)))
        have H5 := Lib.hid h5.1
        clear b4 k4 h5
        go_wp2_with (with_reducible refine hold_slice rfl ?_)
        obtain ⟨off, hoff⟩ : ∃ off, off = if 64 < 64 + s.size then 64 else 0 := ⟨_, rfl⟩
        refine wpl_slice_lo (.tmp 26) (.const (.int .i64 64)) (w.heap.size + 1) (64 + s.size) (64 + s.size) 64 rfl rfl (by rfl) (by rfl) (under_bytes _) (size_byte _) (by omega) (by omega) off s.size s.size hoff (by omega) (by omega) ?_
        have HOFF := Lib.hid hoff
        clear hoff
        go_wp2_with (with_reducible refine hold_copy rfl ?_)
        refine wpl_copy_str_t (.tmp 27) (.tmp 28) (w.heap.size + 1) off (64 + s.size) s.size s.size s.size _ s rfl rfl (by rfl) (by rfl) (under_bytes _) (size_byte _) H5.out (by rw [HOFF.out]; split <;> omega) (by omega) ?_
        intro w6 h6
        have B6 := Lib.hid (B5.out.trans (h6.2.below (by omega)))
        have H6 := Lib.hid h6.1
        clear h6 B5 H5
        go_wp2_with fail
        go_meet
        case rel =>
          refine ⟨B6.out, ?_⟩
          have hne : K.data.toList ≠ [] := fun e => by
            have h0 := HK0.out
            have : K.data.toList.length = K.size := by simp
            rw [e] at this
            simp at this
            omega
          have hkl : K.data.toList.length = K.size := by simp
          have hsl : s.data.toList.length = s.size := by simp
          have hAl2 : A.length = 64 + s.size := by
            rw [HA.out, List.length_append, hsl]
            have := HKS.out
            unfold kblock
            rw [if_neg hne]; simp; omega
          have ht := H6.out
          refine ⟨w.heap.size + 1, 64 + s.size, _, (0, 0), by rw [hAl2], by omega, ht, row_size _ _, by omega, Or.inl rfl, fun j hj => ?_⟩
          rw [hAl2] at hj
          rw [row_get _ _ _ hj, HA.out, ← hsl, ← hkl]
          exact congrArg some (key_row _ _ hne (by rw [hkl]; exact HKS.out) off (by rw [hsl]; exact HOFF.out) j (by omega))
  case rest =>
  obtain ⟨b1, r1⟩ := hcut
  have R1 := Lib.hid r1
  obtain ⟨g, cap, cur, fr, rfl, hx⟩ := r1
  clear hx
  have R2 := R1.out
  rw [HAL.out] at R2
  have R1 := Lib.hid R2
  clear R2
  rw [HAL.out]
  go_wp2_with fail
  have r1 := R1.out
  clear R1
  revert r1
  generalize Value.slice (some ⟨g, 0, none⟩) N cap = v0
  intro r1
  go_loopw [5] (fun v wr => ∃ k : Nat, k ≤ padn A.length ∧ Below w.heap.size w wr ∧ BRow 5 wr w.heap.size v (A ++ List.replicate k 0)) (fun v _ => 2000000 - lenV v)
  case atStart => exact ⟨0, by omega, b1, by simpa using r1⟩
  case round =>
    clear r1 b1
    obtain ⟨k, hk, hbr, hrow⟩ := hrel
    have hrow0 := Lib.hid hrow
    obtain ⟨g, cap, cur, fr, rfl, _⟩ := hrow
    obtain ⟨n, hn⟩ : ∃ n, n = (A ++ List.replicate k (0 : UInt8)).length := ⟨_, rfl⟩
    have hn2 : n = A.length + k := by rw [hn]; simp
    rw [← hn]
    have HN := Lib.hid hn
    have HN2 := Lib.hid hn2
    have HK := Lib.hid hk
    clear hn hn2 hk
    by_cases h0 : n = 0
    · have t1 : ((n : Int) == 0) = true := by rw [h0]; rfl
      have H0 := Lib.hid h0
      clear h0
      go_wp2_with (with_reducible refine hold_append rfl ?_)
      obtain ⟨ti, i1, i2, i3, i4⟩ := info_byte
      have bal : Below wr.heap.size wr (wr.alloc (.cells #[.int .u8 0] 5)) := (Below.refl _ _).alloc (Nat.le_refl _) _
      have hzs := hbr.size
      refine wpl_append0 rfl (.tmp 42) (.tmp 43) 99 rfl ti (by kernel_rfl) i1 i2 i3 i4 rfl (A := A ++ List.replicate k 0) (base := w.heap.size) (BRow.below (by rw [HN.out]; exact hrow0.out) bal (Nat.le_refl _)) (by rw [World.size_alloc]; omega) ⟨wr.heap.size, 0, none⟩ 1 rfl (cell_new1 _ _ _) (by rw [← HN.out, HN2.out, HAL.out]; have := padn_le _ _ HK.out; have := HS.out; omega) ?_
      intro v' w5 hrow5 hb5
      go_wp2_with fail
      rw [rep_succ] at hrow5
      refine ⟨⟨k + 1, pad_more _ _ HK.out (Or.inl (by rw [← HN2.out]; exact H0.out)), (hbr.trans (bal.mono hzs)).trans hb5, hrow5⟩, ?_⟩
      have hlv := hrow5.len
      show 2000000 - lenV v' < 2000000 - n
      rw [hlv, HN2.out]
      have := padn_le _ _ HK.out
      have := HS.out
      have := HAL.out
      simp only [List.length_append, List.length_replicate]
      omega
    · have t1 : ((n : Int) == 0) = false := by rw [beq_eq_false_iff_ne]; omega
      by_cases h64 : n % 64 = 0
      · have t2 : ((n : Int) % 64 != 0) = false := by rw [bne_eq_false_iff_eq]; omega
        have H0 := Lib.hid h0
        have H64 := Lib.hid h64
        clear h0 h64
        have R0 := Lib.hid (show BRow 5 wr w.heap.size (.slice (some ⟨g, 0, none⟩) n cap) (A ++ List.replicate k 0) by rw [HN.out]; exact hrow0.out)
        clear hrow0
        go_wp2_with fail
        refine (iv_any wr).mono ?_
        rintro e w4 ⟨rfl, hb4⟩
        go_wp2_with (with_reducible refine hold_store (.tmp 8) (.tmp 45) rfl ?_)
        refine wpl_store (.tmp 8) (.tmp 45) w4.heap.size 0 8 8 (cw .u64 fun _ => 0) (cw .u64 iv) rfl rfl rfl rfl (size_q8 _) (Blk.new' rfl rfl) (by omega) (fun _ _ => rfl) ?_
        intro w5 h5
        have d5 : Blk w5 w4.heap.size 8 (cw .u64 iv) := h5.1.congr _ fun i hi => by simp [hi]
        have hz4 := hb4.size
        have b5 : Below wr.heap.size wr w5 := (hb4.alloc hz4 _).trans (h5.2.below hz4)
        have R5 := Lib.hid (BRow.below R0.out b5 (Nat.le_refl _))
        have B5 := Lib.hid (hbr.trans (b5.mono hbr.size))
        have L5 := Lib.hid (Nat.le_trans hbr.size hz4)
        have G5 : Hid (w4.heap.size ≠ g) := by
          obtain ⟨g', cap', cur', fr', e', _, hh', _⟩ := R0.out
          have e2 : g' = g := by injection e' with e1 _ _; injection e1 with e1; injection e1 with e1 _ _; exact e1.symm
          have : g < wr.heap.size := by
            rw [← e2]
            rcases Nat.lt_or_ge g' wr.heap.size with h | h
            · exact h
            · rw [Array.getElem?_eq_none h] at hh'; cases hh'
          show w4.heap.size ≠ g
          omega
        have c0 : w5.cell? ⟨w4.heap.size, 0, none⟩ = some (.int .u64 ((iv 0).toNat : Int)) := d5.get 0 (by omega)
        have f0 := d5.frz 0
        clear hb4 h5 hz4 b5 R0 hbr
        generalize w4.heap.size = hb at *
        clear w4
        have kb : (K.size : Int) ≤ 32 := by have := HKS.out; omega
        have kz : (0 : Int) ≤ (K.size : Int) := by omega
        go_wp2_with fail
        clear kb kz
        have PAD := Lib.hid (pad_done A.length k HK.out (by rw [← HN2.out]; exact H0.out) (by rw [← HN2.out]; exact H64.out))
        obtain ⟨PA, hPA⟩ : ∃ PA, PA = A ++ List.replicate k (0 : UInt8) := ⟨_, rfl⟩
        refine abs_wp (fun w' => RSAt 5 w (.slice (some ⟨g, 0, none⟩) n cap) PA hb g (rmid K.size A n 0) w') ?_ ?_
        · have hz : rmid K.size A n 0 = h0 K.size := by
            unfold rmid; rw [if_neg (by have := H0.out; omega)]; rfl
          rw [hz, hPA]
          have hset : Below w.heap.size w5 (w5.setCell ⟨hb, 0, none⟩ (.int .u64 (bits .xor .u64 (bits .xor .u64 ((iv 0).toNat : Int) 16842784) (256 * (K.size : Int))))) := (Below.refl _ _).setCell L5.out _
          refine ⟨B5.out.trans hset, ?_, ?_, L5.out, G5.out⟩
          · obtain ⟨g', cap', cur', fr', e', hg', hh', r'⟩ := R5.out
            have e2 : g' = g := by injection e' with e1 _ _; injection e1 with e1; injection e1 with e1 _ _; exact e1.symm
            refine ⟨g', cap', cur', fr', e', hg', ?_, r'⟩
            rw [Below.heap_setCell _ _ _ _ (by rw [e2]; exact Ne.symm G5.out)]
            exact hh'
          · have := d5.set 0 (.int .u64 (bits .xor .u64 (bits .xor .u64 ((iv 0).toNat : Int) 16842784) (256 * (K.size : Int))))
            rwa [cw_put .u64 iv 0 _ _ (xor_rk _ HKS.out)] at this
        clear c0 f0 d5 R5 B5 L5 G5
        clear w5
        intro w6 h6
        have HPA := Lib.hid hPA
        clear hPA t1 t2
        go_loopw [9] (fun v wr => ∃ i : Nat, 64 * i ≤ n ∧ v = .int .i64 ((64 * i : Nat) : Int) ∧ RSAt 5 w (.slice (some ⟨g, 0, none⟩) n cap) PA hb g (rmid K.size A n i) wr) (fun v _ => n - (intOf v).toNat)
        case atStart => exact ⟨0, by omega, rfl, h6⟩
        case round =>
          clear h6
          clear w6
          obtain ⟨i, hi, rfl, hr⟩ := hrel
          obtain ⟨I, hI⟩ : ∃ I, I = 64 * i := ⟨_, rfl⟩
          rw [← hI]
          have nb : (n : Int) ≤ 2000000 := by have := HN2.out; have := HAL.out; have := HS.out; have := padn_le _ _ HK.out; omega
          by_cases hlt : I < n
          · have hlt' : (I : Int) < (n : Int) := by omega
            have hle : I + 64 ≤ n := by have := H64.out; omega
            have hlei : (I : Int) + 64 ≤ (n : Int) := by omega
            have ib : (I : Int) ≤ 2000000 := by omega
            have HI := Lib.hid hI
            have HR := Lib.hid hr
            have HLE := Lib.hid hle
            clear hI hr hi hle hlt
            by_cases hlast : I + 64 = n
            · have t3 : ((I : Int) + 64 == (n : Int)) = true := by rw [beq_iff_eq]; omega
              have HLAST := Lib.hid hlast
              clear hlast
              go_wp2_with fail
              refine tail_abs 8 (by kernel_rfl) (by kernel_rfl) fun w6 hs6 => ?_
              simp only [List.take_succ_cons, List.take_zero, List.drop_succ_cons, List.drop_zero]
              have S6 := Lib.hid (show RSAt 5 w (.slice (some ⟨g, 0, none⟩) n cap) PA hb g (rmid K.size A n i) w6 from ⟨HR.out.below.trans (hs6.below _), BRow.below HR.out.row (hs6.below _) (Nat.le_refl _), HR.out.words.same hs6, HR.out.l, HR.out.ne⟩)
              obtain ⟨J, hJ⟩ : ∃ J, J = I + 64 := ⟨_, rfl⟩
              have HJ := Lib.hid hJ
              have j1 : IntKind.i64.wrap ((I : Int) + 64) = (J : Int) := by rw [IntWalk.i64_in _ (by omega)]; omega
              clear hs6 hJ HR
              refine stl_load (.tmp 8) hb 0 8 8 (cw .u64 (rmid K.size A n i)) rfl rfl rfl (agg_q8 _) (size_q8 _) S6.out.words.cells (by omega) ?_
              repeat still_step
              refine stl_slice_of (.tmp 73) (.tmp 74) (.tmp 76) g n cap I J rfl rfl rfl rfl rfl (under_bytes _) (size_byte _) (by have := HJ.out; omega) (by have := HJ.out; have := HLE.out; have := S6.out.row.cap; omega) (by have := HLE.out; have := S6.out.row.cap; omega) ?_
              repeat still_step
              refine wpStill_nil ?_
              have e64 : J - I = 64 := by have := HJ.out; omega
              have n1 : IntKind.u64.wrap (N : Int) = (N : Int) := by have := HS.out; have := HJ.out; rw [IntKind.wrap_u64]; omega
              rw [e64]
              have CALL := Lib.hid (rbl_any (rmid K.size A n i) (fun j => sb PA (I + j)) (fun j => sb_lt _ _) g I (cap - I) N (by have := HS.out; have := HJ.out; omega) true w6 (S6.out.row.bytes HLE.out))
              clear j1 e64
              go_wp2_with (first
                | (go_at_call 123; refine CALL.out.mono ?_; rintro e w7 ⟨rfl, hb7⟩)
                | with_reducible refine hold_store (.tmp 8) (.tmp 80) rfl ?_)
              have ST := fun (w8 : World) h8 => RSAt.store (w8 := w8) (f := rmid K.size A n i) (h' := comp (rmid K.size A n i) (fun j => sb PA (I + j)) N true) rfl S6.out hb7 h8
              refine wpl_store (.tmp 8) (.tmp 80) hb 0 8 8 (cw .u64 (rmid K.size A n i)) (cw .u64 (comp (rmid K.size A n i) (fun j => sb PA (I + j)) N true)) rfl rfl rfl rfl (size_q8 _) (S6.out.words.below hb7 S6.out.words.lt) (by omega) (fun _ _ => rfl) ?_
              intro w8 h8
              have S8 := ST w8 h8
              clear ST h8
              have EQ : comp (rmid K.size A n i) (fun j => sb PA (I + j)) N true = rmid K.size A n (i + 1) := by
                have hl := HLAST.out
                have hI := HI.out
                have ei : (A.length - 1) / 64 = i := by
                  have h1 := HN2.out
                  have h2 := PAD.out
                  unfold padn at h2
                  split at h2 <;> omega
                unfold rmid
                rw [if_neg (by omega), if_pos (by omega)]
                unfold rdone
                rw [ei, HAL.out]
                refine comp_congr _ _ _ _ _ fun j _ => ?_
                rw [HPA.out, sb_pad, hI]; rfl
              rw [EQ] at S8
              clear EQ
              have HIS := Lib.hid (show J = 64 * (i + 1) by have := HJ.out; have := HI.out; omega)
              go_wp2_with fail
              refine ⟨⟨i + 1, by have := HLE.out; have := HI.out; omega, congrArg (Value.int .i64) (by have := HI.out; omega), S8⟩, ?_⟩
              have := HLE.out
              simp [intOf]; omega
            · have t3 : ((I : Int) + 64 == (n : Int)) = false := by rw [beq_eq_false_iff_ne]; omega
              have HLAST := Lib.hid hlast
              clear hlast
              go_wp2_with fail
              refine tail_abs 8 (by kernel_rfl) (by kernel_rfl) fun w6 hs6 => ?_
              simp only [List.take_succ_cons, List.take_zero, List.drop_succ_cons, List.drop_zero]
              have S6 := Lib.hid (show RSAt 5 w (.slice (some ⟨g, 0, none⟩) n cap) PA hb g (rmid K.size A n i) w6 from ⟨HR.out.below.trans (hs6.below _), BRow.below HR.out.row (hs6.below _) (Nat.le_refl _), HR.out.words.same hs6, HR.out.l, HR.out.ne⟩)
              obtain ⟨J, hJ⟩ : ∃ J, J = I + 64 := ⟨_, rfl⟩
              have HJ := Lib.hid hJ
              have j1 : IntKind.i64.wrap ((I : Int) + 64) = (J : Int) := by rw [IntWalk.i64_in _ (by omega)]; omega
              clear hs6 hJ HR
              refine stl_load (.tmp 8) hb 0 8 8 (cw .u64 (rmid K.size A n i)) rfl rfl rfl (agg_q8 _) (size_q8 _) S6.out.words.cells (by omega) ?_
              repeat still_step
              refine stl_slice_of (.tmp 73) (.tmp 74) (.tmp 76) g n cap I J rfl rfl rfl rfl rfl (under_bytes _) (size_byte _) (by have := HJ.out; omega) (by have := HJ.out; have := HLE.out; have := S6.out.row.cap; omega) (by have := HLE.out; have := S6.out.row.cap; omega) ?_
              repeat still_step
              refine wpStill_nil ?_
              have e64 : J - I = 64 := by have := HJ.out; omega
              have n1 : IntKind.u64.wrap (J : Int) = (J : Int) := by have := HS.out; have := HJ.out; rw [IntKind.wrap_u64]; omega
              rw [e64]
              have CALL := rbl_any (rmid K.size A n i) (fun j => sb PA (I + j)) (fun j => sb_lt _ _) g I (cap - I) J (by have := HS.out; have := HJ.out; omega) false w6 (S6.out.row.bytes HLE.out)
              rw [show ((J : Nat) : Int) = (I : Int) + 64 from by have := HJ.out; omega] at CALL
              have CALL := Lib.hid CALL
              clear j1 e64
              go_wp2_with (first
                | (go_at_call 123; refine CALL.out.mono ?_; rintro e w7 ⟨rfl, hb7⟩)
                | with_reducible refine hold_store (.tmp 8) (.tmp 80) rfl ?_)
              have ST := fun (w8 : World) h8 => RSAt.store (w8 := w8) (f := rmid K.size A n i) (h' := comp (rmid K.size A n i) (fun j => sb PA (I + j)) J false) rfl S6.out hb7 h8
              refine wpl_store (.tmp 8) (.tmp 80) hb 0 8 8 (cw .u64 (rmid K.size A n i)) (cw .u64 (comp (rmid K.size A n i) (fun j => sb PA (I + j)) J false)) rfl rfl rfl rfl (size_q8 _) (S6.out.words.below hb7 S6.out.words.lt) (by omega) (fun _ _ => rfl) ?_
              intro w8 h8
              have S8 := ST w8 h8
              clear ST h8
              have EQ : comp (rmid K.size A n i) (fun j => sb PA (I + j)) J false = rmid K.size A n (i + 1) := by
                have hl := HLAST.out
                have hI := HI.out
                have hJ := HJ.out
                have h0 := HLE.out
                unfold rmid
                rw [if_neg (by omega), if_neg (by omega)]
                show _ = comp (rwords K.size (sb A) i) (rblk (sb A) i) (64 * (i + 1)) false
                rw [show J = 64 * (i + 1) by omega]
                refine comp_congr _ _ _ _ _ fun j _ => ?_
                rw [HPA.out, sb_pad, hI]; rfl
              rw [EQ] at S8
              clear EQ
              have HIS := Lib.hid (show J = 64 * (i + 1) by have := HJ.out; have := HI.out; omega)
              go_wp2_with fail
              refine ⟨⟨i + 1, by have := HLE.out; have := HI.out; omega, congrArg (Value.int .i64) (by have := HI.out; omega), S8⟩, ?_⟩
              have := HLE.out
              simp [intOf]; omega
          · have hin : I = n := by omega
            have W0 := Lib.hid (show RSAt 5 w (.slice (some ⟨g, 0, none⟩) n cap) PA hb g (rdone K.size A) wr by have := hr; unfold rmid at this; rwa [if_pos (by omega)] at this)
            have hge : ¬ (I : Int) < (n : Int) := by omega
            clear hI hr hi hin hlt
            go_wp2_with fail
            refine abs_wp (fun w' => Below w.heap.size w w' ∧ Blk w' hb 8 (cw .u64 (rdone K.size A))) ⟨W0.out.below, W0.out.words⟩ ?_
            have LHB := Lib.hid W0.out.l
            clear W0
            intro w9 h9
            go_loopw [12, 13] (fun o v wr => ∃ k : Nat, k ≤ 8 ∧ v = .int .i64 (k : Int) ∧ o = .string ⟨((outL (rdone K.size A)).take (4 * k)).toArray⟩ ∧ Below w.heap.size w wr ∧ Blk wr hb 8 (cw .u64 (rdone K.size A))) (fun _ v _ => 8 - (intOf v).toNat)
            case atStart => exact ⟨0, by omega, rfl, rfl, h9.1, h9.2⟩
            case round =>
              clear h9
              clear w9
              obtain ⟨k, hk, rfl, rfl, hb1, hbk⟩ := hrel
              by_cases hk8 : k < 8
              · have hk8' : (k : Int) < 8 := by omega
                have hk0 : (0 : Int) ≤ (k : Int) := by omega
                go_wp2_with fail
                refine order_abs [0] [1, 2, 3, 4, 5, 6, 7, 8, 9, 10, 11, 12, 13, 14, 15, 16, 17, 18, 19, 20, 21, 22] 23 [24, 25, 26] (by kernel_rfl) (by kernel_rfl) (fun _ _ d _ _ h => by cases d <;> exact h) fun w6 hs6 => ?_
                simp only [pick, List.filterMap, List.getElem?_toArray, List.getElem?_cons_zero, List.getElem?_cons_succ]
                refine ⟨_, Or.inl ⟨by rfl, fun _ => rfl⟩, ?_⟩
                have c6 : w6.cell? ⟨hb, k, none⟩ = some (.int .u64 ((rdone K.size A k).toNat : Int)) := (hbk.same hs6).get k hk8
                repeat still_step
                refine wpStill_nil ?_
                clear c6
                have hcv := conv4 (P := Tryz.prog) w6 99 9 5 (by kernel_rfl) (by kernel_rfl) (by kernel_rfl) (((rdone K.size A k).toNat : Int) % 256) (((rdone K.size A k).toNat : Int) / 256 % 256) (((rdone K.size A k).toNat : Int) / 65536 % 256) (((rdone K.size A k).toNat : Int) / 16777216)
                rw [quad_nums] at hcv
                go_wp2_with fail
                · rename_i hbig
                  have h1 := outL_len (rdone K.size A)
                  have h2 : (quad (rdone K.size A k)).size = 4 := rfl
                  omega
                · refine ⟨⟨k + 1, by omega, by go_num, quad_snoc _ _ hk8, hb1.trans ((hs6.below _).trans ((Below.refl _ _).alloc (by have := hb1.size; rw [hs6.heap]; exact this) _)), (hbk.same hs6).alloc _⟩, ?_⟩
                  simp [intOf]; omega
              · obtain rfl : k = 8 := by omega
                go_wp2_with fail
                go_ret
                refine ⟨?_, hb1⟩
                show Ending.returned (.string ⟨((outL (rdone K.size A)).take (4 * 8)).toArray⟩) = _
                rw [out_take8, HA.out]
      · have t2 : ((n : Int) % 64 != 0) = true := by rw [bne_iff_ne]; omega
        have H64 := Lib.hid h64
        clear h0 h64
        go_wp2_with (with_reducible refine hold_append rfl ?_)
        obtain ⟨ti, i1, i2, i3, i4⟩ := info_byte
        have bal : Below wr.heap.size wr (wr.alloc (.cells #[.int .u8 0] 5)) := (Below.refl _ _).alloc (Nat.le_refl _) _
        have hzs := hbr.size
        refine wpl_append0 rfl (.tmp 42) (.tmp 43) 99 rfl ti (by kernel_rfl) i1 i2 i3 i4 rfl (A := A ++ List.replicate k 0) (base := w.heap.size) (BRow.below (by rw [HN.out]; exact hrow0.out) bal (Nat.le_refl _)) (by rw [World.size_alloc]; omega) ⟨wr.heap.size, 0, none⟩ 1 rfl (cell_new1 _ _ _) (by rw [← HN.out, HN2.out, HAL.out]; have := padn_le _ _ HK.out; have := HS.out; omega) ?_
        intro v' w5 hrow5 hb5
        go_wp2_with fail
        rw [rep_succ] at hrow5
        refine ⟨⟨k + 1, pad_more _ _ HK.out (Or.inr (by rw [← HN2.out]; exact H64.out)), (hbr.trans (bal.mono hzs)).trans hb5, hrow5⟩, ?_⟩
        have hlv := hrow5.len
        show 2000000 - lenV v' < 2000000 - n
        rw [hlv, HN2.out]
        have := padn_le _ _ HK.out
        have := HS.out
        have := HAL.out
        simp only [List.length_append, List.length_replicate]
        omega
end Go.Proofs.YthajnkcipifhcaaGreatDoor
