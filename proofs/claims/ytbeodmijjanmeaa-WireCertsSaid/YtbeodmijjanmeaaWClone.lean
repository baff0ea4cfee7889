/-
  The walks of strings.Clone and of the closure that cuts bytes off.
-/
import Derived.Test.YtbeodmijjanmeaaWMem
import Derived.Test.YtbeodmijjanmeaaWText
import Derived.Lib.UnsafeStr
import Derived.Lib.Buffer
open Go Go.RowKit
namespace WW
open BB
theorem nil_size (s : ByteArray) (h : s.size = 0) : s = ⟨#[]⟩ := by
  cases s with
  | mk d =>
    have : d.size = 0 := h
    rw [Array.size_eq_zero_iff.1 this]
section
variable {P : Program} {ops : Array Oper} {Q : Exit → Act → World → Prop} {a : Act} {w : World} {rest : List Oper} {o : Oper}
theorem hold_ustr {x y : Operand} {tys : Array TypeId} (_ho : o.op = .call { callee := .builtin .unsafeString, args := #[x, y], argTypes := tys }) (h : Held (wpList P ops Q (o :: rest) a w)) : wpList P ops Q (o :: rest) a w := h
theorem wpl_ustr {x y : Operand} {pt it e : TypeId} (g n : Nat) (s : ByteArray) (hg : o.guard = none) (ho : o.op = .call { callee := .builtin .unsafeString, args := #[x, y], argTypes := #[pt, it] })
    (hx : a.eval x = .pointer (some ⟨g, 0, none⟩)) (hy : a.eval y = .int .i64 (n : Int)) (hp : P.underlying pt = some (.pointer e)) (hc : P.cellsOf e = 1) (hn : n = s.size) (h0 : 0 < n) (hn63 : n ≤ 9223372036854775807)
    (hb : TBlk e w g n (cb (sb s.data.toList)))
    (hK : ∀ w', (∀ B, B ≤ g → Below B w w') → wpList P ops Q rest (a.put o.dst (.string s)) w') : wpList P ops Q (o :: rest) a w := by
  unfold TBlk at hb
  have hl : s.data.toList.length = n := by rw [Array.length_toList]; exact hn.symm
  have h := Lib.run_unsafeString_row (P := P) w pt it o.type e hp hc g n (by unfold World.shape?; rw [hb]; simp [row_size]) s.data.toList (by intro h; rw [h] at hl; simp at hl; omega) (by omega) (by omega) (fun j x hx => by
    have hj : j < n := by
      rcases Nat.lt_or_ge j s.data.toList.length with h | h
      · omega
      · rw [List.getElem?_eq_none h] at hx; cases hx
    have : (⟨g, 0, none⟩ : Addr).add j = ⟨g, j, none⟩ := by unfold Addr.add; split <;> simp [*]
    rw [this]
    unfold World.cell?
    rw [hb]
    have hx' : s.data[j]? = some x := by simpa using hx
    simp [row_get _ _ _ hj, cb, sb, List.getD, hx'])
  rw [hl] at h
  refine wpl_value hg ?_ (hK _ fun B hB => Lib.below_freeze (Below.refl _ _) (p := ⟨g, 0, none⟩) hB n)
  simp [execOp, ho, resolve, invoke, hx, hy, builtin, h, Result.andThen]
end
end WW
namespace Go.Proofs.Ytbeodmijjanmeaa
open WW BB
theorem info_byte : (Try.prog.info? 5).map (fun i => (i.zero, i.size, i.bytes)) = some (some (.int .u8 0), 1, 1) := by kernel_rfl
theorem under_bytes (w : World) : (underlying 59).run Try.prog w = .ok (.slice 5) w := by kernel_rfl
theorem size_byte (w : World) : (Go.sizeOf 5).run Try.prog w = .ok 1 w := by kernel_rfl
set_option maxRecDepth 100000 in
set_option maxHeartbeats 1000000 in
theorem slclone_any (s : ByteArray) (hs : s.size ≤ 1000000) (w : World) :
    Calls Try.prog 102 #[.string s] w fun e w' => e = .returned (.string s) ∧ Below w.heap.size w w' := by
  have HS := Lib.hid hs
  by_cases h0 : s.size = 0
  · obtain rfl := nil_size s h0
    clear hs
    go_enter Try.func102, Try.ntmps102
    go_wp2_with fail
    go_ret
    exact ⟨rfl, Below.refl _ _⟩
  · have t0 : ((s.size : Int) == 0) = false := by rw [beq_eq_false_iff_ne]; omega
    have H0 := Lib.hid h0
    clear hs h0
    go_enter Try.func102, Try.ntmps102
    go_wp2_with (with_reducible refine hold_make rfl ?_)
    refine wpl_make (.tmp 8) (.tmp 8) 59 5 (.int .u8 0) 1 s.size rfl rfl (by rfl) (by rfl) (by kernel_rfl) info_byte (by rfl) (by have := HS.out; omega) (by have := HS.out; omega) ?_
    refine abs_list (fun w' => Below w.heap.size w w' ∧ TBlk 5 w' w.heap.size s.size (fun _ => .int .u8 0)) ⟨(Below.refl _ _).alloc (Nat.le_refl _) _, TBlk.new' _ _ _ _ _ _ rfl (made_row _ _)⟩ ?_
    rintro w1 ⟨b1, k1⟩
    go_wp2_with (with_reducible refine hold_copy rfl ?_)
    refine wpl_copy_str_t (.tmp 10) (.tmp 11) w.heap.size 0 s.size s.size s.size s.size (fun _ => .int .u8 0) s rfl rfl (by rfl) (by rfl) (under_bytes _) (size_byte _) k1 (by omega) (by omega) ?_
    rintro w2 ⟨k2, u2⟩
    have b2 := b1.trans (u2.below (Nat.le_refl _))
    have k3 : TBlk 5 w2 w.heap.size s.size (cb (sb s.data.toList)) := by
      unfold TBlk at k2 ⊢
      rw [k2, row_congr _ _ (cb (sb s.data.toList)) fun i hi => by rw [if_pos (by omega)]; rfl]
    have H1 := Lib.hid k3
    clear k1 b1 k2 k3 u2
    have i0 : (0 : Int) < (s.size : Int) := by have := H0.out; omega
    go_wp2_with (with_reducible refine hold_ustr rfl ?_)
    refine wpl_ustr w.heap.size s.size s rfl rfl (by rfl) (by rfl) (by kernel_rfl) (by kernel_rfl) rfl (by have := H0.out; omega) (by have := HS.out; omega) H1.out ?_
    intro w3 h3
    have b3 := b2.trans (h3 _ (Nat.le_refl _))
    clear h3
    go_wp2_with fail
    go_ret
    exact ⟨rfl, b3⟩
set_option maxRecDepth 100000 in
theorem clone_any (s : ByteArray) (hs : s.size ≤ 1000000) (w : World) :
    Calls Try.prog 90 #[.string s] w fun e w' => e = .returned (.string s) ∧ Below w.heap.size w w' := by
  go_enter Try.func90, Try.ntmps90
  go_wp2_with fail
  refine (slclone_any s hs _).mono ?_
  rintro e w1 ⟨rfl, hb1⟩
  go_wp2_with fail
  go_ret
  exact ⟨rfl, hb1⟩
end Go.Proofs.Ytbeodmijjanmeaa
