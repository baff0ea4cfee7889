/-
  A region that draws its order: '*to = append(*to, x)' through a pointer. No program is named here.
-/
import Derived.Test.YtigoaokpodggcaaDoorKWNumCut
import Derived.Deep.RegionHeld3
import Derived.Test.YtigoaokpodggcaaDoorKLOpen
import Derived.OrdersHeld
import Derived.Maps.AppendAt
section
open Go Go.RowKit
namespace WW
open BB
/-- what a cut with the answer x leaves -/
def Eff (t n : Nat) (f : Nat → Value) (w : World) {δ : Type} (eff : δ → (Nat → Value) → Nat → Value) (x : Option (ByteArray × δ)) (ok : Bool) (r : ByteArray) (w' : World) : Prop :=
  match x with
  | none => ok = false ∧ ∃ f', Cell1 t n f' w w'
  | some (r', d) => ok = true ∧ r = r' ∧ Cell1 t n (eff d f) w w'
/-- v cuts off what Sp says, and puts it into block t -/
def CutTo (P : Program) (t n : Nat) (v : Value) (W : World) {δ : Type} (Sp : ByteArray → Option (ByteArray × δ)) (eff : δ → (Nat → Value) → Nat → Value) : Prop :=
  ∀ f b w, b.size ≤ 1000000 → Keep t W w → Blk w t n f → Cut P v b w (Eff t n f w eff (Sp b))
theorem CutTo.later {P : Program} {t n : Nat} {v : Value} {W W' : World} {δ : Type} {Sp : ByteArray → Option (ByteArray × δ)} {eff : δ → (Nat → Value) → Nat → Value} (h : CutTo P t n v W Sp eff) (hk : Keep t W W') : CutTo P t n v W' Sp eff :=
  fun f b w hb hw ht => h f b w hb (hk.trans hw) ht
theorem keep_cell2 {t p : Nat} {v : Value} {w1 w2 : World} (h : w1.cell? ⟨p, 0, none⟩ = some v) (hp : p ≠ t) (hk : Keep t w1 w2) : w2.cell? ⟨p, 0, none⟩ = some v :=
  (World.cell?_of_block (w := w1) (hk.block p (World.block_lt_of_cell? w1 _ h) hp)).trans h
/-- a number put into cell o -/
def putN (o : Nat) (d : Nat) (f : Nat → Value) : Nat → Value := put f o (.int .i64 (d : Int))
/-- a text put into cell o -/
def putS (o : Nat) (d : ByteArray) (f : Nat → Value) : Nat → Value := put f o (.string d)
/-- so many bytes -/
def bytesSp (N : Nat) (b : ByteArray) : Option (ByteArray × ByteArray) := if b.size < N then none else some (b.extract N b.size, b.extract 0 N)
/-- a text whose length fits -/
def textSp (fits : Nat → Bool) (b : ByteArray) : Option (ByteArray × ByteArray) :=
  match numSp 0 2147483647 b with
  | none => none
  | some (r, N) => if fits N then bytesSp N r else none
theorem cell_at (w : World) (u : Value) (t : TypeId) (b : Nat) (hb : b = w.heap.size) : (w.alloc (.cells #[u] t)).cell? ⟨b, 0, none⟩ = some u := by
  subst hb
  have : (w.alloc (.cells #[u] t)).heap[w.heap.size]? = some (.cells #[u] t) := by show (w.heap.push _)[w.heap.size]? = _; simp
  unfold World.cell?; rw [this]; simp
theorem cell_old {w : World} {p : Nat} {v : Value} {o : Obj} (h : w.cell? ⟨p, 0, none⟩ = some v) : (w.alloc o).cell? ⟨p, 0, none⟩ = some v :=
  keep_cell h ((Below.refl _ _).alloc (Nat.le_refl _) _)
theorem Blk.cell1 (w : World) (u : Value) (t : TypeId) : Blk (w.alloc (.cells #[u] t)) w.heap.size 1 (fun _ => u) := Blk.new' rfl (by rfl)
theorem textSp_none (fits : Nat → Bool) (b : ByteArray) (h : numSp 0 2147483647 b = none) : textSp fits b = none := by unfold textSp; rw [h]
theorem textSp_some (fits : Nat → Bool) (b : ByteArray) {r : ByteArray} {d : Nat} (h : numSp 0 2147483647 b = some (r, d)) : textSp fits b = if fits d = true then bytesSp d r else none := by unfold textSp; rw [h]
/-- a closure is made that cuts off what Sp says -/
def Makes (P : Program) (t n : Nat) (w : World) {δ : Type} (Sp : ByteArray → Option (ByteArray × δ)) (eff : δ → (Nat → Value) → Nat → Value) (e : Ending) (w' : World) : Prop :=
  ∃ k env, e = .returned (.func (.func k) #[] env) ∧ Below w.heap.size w w' ∧ CutTo P t n (.func (.func k) #[] env) w' Sp eff
/-- fv tells whether a length fits -/
def FitsV (P : Program) (t : Nat) (fv : Value) (W : World) (fits : Nat → Bool) : Prop :=
  ∀ (d : Nat) w, Keep t W w → CallsV P fv #[.int .i64 (d : Int)] w fun e w' => e = .returned (.bool (fits d)) ∧ Below w.heap.size w w'
end WW
namespace Go.Proofs.YtigoaokpodggcaaDoor
open WW BB
theorem own_num : Own Tryd.prog 96 := ⟨_, Tryd.func96, by kernel_rfl, by kernel_rfl⟩
theorem own_bytes : Own Tryd.prog 97 := ⟨_, Tryd.func97, by kernel_rfl, by kernel_rfl⟩
/-- the closure that cuts a number off into cell o of block t -/
theorem num_to (t n o p q r : Nat) (lo hi : Int) (ho : o < n) (W : World) (hp : W.cell? ⟨p, 0, none⟩ = some (.int .i64 lo)) (hq : W.cell? ⟨q, 0, none⟩ = some (.int .i64 hi)) (hr : W.cell? ⟨r, 0, none⟩ = some (.pointer (some ⟨t, o, none⟩)))
    (p1 : p ≠ t) (q1 : q ≠ t) (r1 : r ≠ t) :
    CutTo Tryd.prog t n (.func (.func 96) #[] #[.pointer (some ⟨p, 0, none⟩), .pointer (some ⟨q, 0, none⟩), .pointer (some ⟨r, 0, none⟩)]) W (numSp lo hi) (putN o) := by
  intro f b w hb hk ht
  refine ⟨_, _, rfl, own_num, ?_⟩
  have hp := keep_cell2 hp p1 hk
  have hq := keep_cell2 hq q1 hk
  have hr := keep_cell2 hr r1 hk
  unfold numSp
  by_cases h4 : b.size < 4
  · rw [if_pos h4]
    refine (numc_short b _ _ _ w h4).mono ?_
    rintro e w' ⟨rfl, rfl⟩
    exact ⟨false, _, rfl, rfl, f, Keep.refl _ _, ht⟩
  · rw [if_neg h4]
    by_cases hr2 : (rd4 b : Int) < lo ∨ hi < (rd4 b : Int)
    · rw [if_pos hr2]
      refine (numc_out b p q lo hi w (by omega) (by omega) hp hq _).mono ?_
      rintro e w' ⟨rfl, hs⟩
      exact ⟨false, _, rfl, rfl, f, (hs.upd t).keep, ht.same hs⟩
    · rw [if_neg hr2]
      refine (numc_yes b p q r t o n lo hi f w (by omega) (by omega) (by omega) hp hq hr ht ho).mono ?_
      rintro e w' ⟨rfl, hm⟩
      exact ⟨true, _, rfl, rfl, rfl, hm.2.keep, hm.1⟩
theorem bytes_to (t n o p q N : Nat) (ho : o < n) (W : World) (hp : W.cell? ⟨p, 0, none⟩ = some (.int .i64 N)) (hq : W.cell? ⟨q, 0, none⟩ = some (.pointer (some ⟨t, o, none⟩))) (p1 : p ≠ t) (q1 : q ≠ t) :
    CutTo Tryd.prog t n (.func (.func 97) #[] #[.pointer (some ⟨p, 0, none⟩), .pointer (some ⟨q, 0, none⟩)]) W (bytesSp N) (putS o) := by
  intro f b w hb hk ht
  refine ⟨_, _, rfl, own_bytes, ?_⟩
  have hp := keep_cell2 hp p1 hk
  have hq := keep_cell2 hq q1 hk
  unfold bytesSp
  by_cases h : b.size < N
  · rw [if_pos h]
    refine (bytesc_short b p N _ w h hp).mono ?_
    rintro e w' ⟨rfl, rfl⟩
    exact ⟨false, _, rfl, rfl, f, Keep.refl _ _, ht⟩
  · rw [if_neg h]
    refine (bytesc_yes b p q t o n N f w hb (by omega) p1 q1 hp hq ht ho).mono ?_
    rintro e w' ⟨rfl, hc⟩
    exact ⟨true, _, rfl, rfl, rfl, hc⟩
set_option maxRecDepth 100000 in
/-- cutNumber -/
theorem mk_num (t o n : Nat) (lo hi : Int) (w : World) (ho : o < n) (ht : t < w.heap.size) :
    Calls Tryd.prog 78 #[.pointer (some ⟨t, o, none⟩), .int .i64 lo, .int .i64 hi] w (Makes Tryd.prog t n w (numSp lo hi) (putN o)) := by
  have HO := Lib.hid ho
  have HT := Lib.hid ht
  clear ho ht
  go_enter Tryd.func78, Tryd.ntmps78
  go_wp2_with fail
  go_ret
  have b1 := (Below.refl w.heap.size w).alloc (Nat.le_refl _) (.cells #[.pointer (some ⟨t, o, none⟩)] 101)
  have b2 := b1.alloc b1.size (.cells #[.int .i64 lo] 3)
  have b3 := b2.alloc b2.size (.cells #[.int .i64 hi] 3)
  have := HT.out
  exact ⟨_, _, rfl, b3, num_to t n o (w.heap.size + 1) (w.heap.size + 2) w.heap.size lo hi HO.out _ (cell_old (cell_at _ _ _ _ (by simp))) (cell_at _ _ _ _ (by simp)) (cell_old (cell_old (cell_at _ _ _ _ rfl))) (by omega) (by omega) (by omega)⟩
set_option maxRecDepth 100000 in
/-- cutBytes -/
theorem mk_bytes (t o n N : Nat) (w : World) (ho : o < n) (ht : t < w.heap.size) :
    Calls Tryd.prog 79 #[.pointer (some ⟨t, o, none⟩), .int .i64 N] w (Makes Tryd.prog t n w (bytesSp N) (putS o)) := by
  have HO := Lib.hid ho
  have HT := Lib.hid ht
  clear ho ht
  go_enter Tryd.func79, Tryd.ntmps79
  go_wp2_with fail
  go_ret
  have b1 := (Below.refl w.heap.size w).alloc (Nat.le_refl _) (.cells #[.pointer (some ⟨t, o, none⟩)] 103)
  have b2 := b1.alloc b1.size (.cells #[.int .i64 (N : Int)] 3)
  have := HT.out
  exact ⟨_, _, rfl, b2, bytes_to t n o (w.heap.size + 1) w.heap.size N HO.out _ (cell_at _ _ _ _ (by simp)) (cell_old (cell_at _ _ _ _ rfl)) (by omega) (by omega)⟩
end Go.Proofs.YtigoaokpodggcaaDoor
end
section
open Go Go.RowKit
namespace WW
open BB
theorem order_cons {P : Program} {E : World → Prop} {Q : Bool → ByteArray → World → Prop} {v : Value} {vs : List Value} {t n : Nat} {W w : World} {δ : Type} {Sp : ByteArray → Option (ByteArray × δ)} {eff : δ → (Nat → Value) → Nat → Value} {f : Nat → Value} {b : ByteArray}
    (h : CutTo P t n v W Sp eff) (hb : b.size ≤ 1000000) (hk : Keep t W w) (ht : Blk w t n f) (hE : ∀ w', Keep t w w' → E w')
    (hno : Sp b = none → ∀ f' w', Cell1 t n f' w w' → Q false ⟨#[]⟩ w') (hyes : ∀ r d, Sp b = some (r, d) → ∀ w', Cell1 t n (eff d f) w w' → OrderWp P E Q vs r w') : OrderWp P E Q (v :: vs) b w := by
  refine (h f b w hb hk ht).mono fun ok r w' he => ?_
  unfold Eff at he
  rcases hs : Sp b with _ | ⟨r', d⟩
  · rw [hs] at he
    obtain ⟨rfl, f', hc⟩ := he
    exact ⟨hE w' hc.1, hno hs f' w' hc⟩
  · rw [hs] at he
    obtain ⟨rfl, rfl, hc⟩ := he
    exact ⟨hE w' hc.1, hyes _ d hs w' hc⟩
theorem numSp_size {lo hi : Int} {b r : ByteArray} {d : Nat} (h : numSp lo hi b = some (r, d)) : r.size ≤ b.size := by
  unfold numSp at h
  split at h
  · cases h
  · split at h
    · cases h
    · injection h with h; injection h with h1 h2; rw [← h1]; simp
theorem bytesSp_size {N : Nat} {b r d : ByteArray} (h : bytesSp N b = some (r, d)) : r.size ≤ b.size := by
  unfold bytesSp at h
  split at h
  · cases h
  · injection h with h; injection h with h1 h2; rw [← h1]; simp
theorem textSp_size {fits : Nat → Bool} {b r d : ByteArray} (h : textSp fits b = some (r, d)) : r.size ≤ b.size := by
  unfold textSp at h
  rcases hn : numSp 0 2147483647 b with _ | ⟨r1, N⟩
  · rw [hn] at h; cases h
  · rw [hn] at h
    dsimp only at h
    split at h
    · exact Nat.le_trans (bytesSp_size h) (numSp_size hn)
    · cases h
/-- a request -/
def reqSp (b : ByteArray) : Option (ByteArray × (Nat × Nat × ByteArray)) :=
  match numSp 0 3 b with
  | none => none
  | some (r1, c) =>
    match numSp 1 2147483647 r1 with
    | none => none
    | some (r2, q) =>
      match textSp (fun d => decide (d ≤ 40)) r2 with
      | none => none
      | some (r3, s) => some (r3, (c, q, s))
def putReq (o : Nat) (d : Nat × Nat × ByteArray) (f : Nat → Value) : Nat → Value := putS (o + 2) d.2.2 (putN (o + 1) d.2.1 (putN o d.1 f))
theorem InRow_keep {w w' : World} {t gc : Nat} {l : List Value} (h : ∀ i, i < l.length → w.cell? ⟨gc, i, none⟩ = some (l.getD i .nilFunc)) (hg : gc ≠ t) (hl : gc < w.heap.size) (hk : Keep t w w') : ∀ i, i < l.length → w'.cell? ⟨gc, i, none⟩ = some (l.getD i .nilFunc) :=
  fun i hi => (World.cell?_of_block (w := w) (hk.block gc hl hg)).trans (h i hi)
end WW
namespace Go.Proofs.YtigoaokpodggcaaDoor
open WW BB
theorem own_order : Own Tryd.prog 95 := ⟨_, Tryd.func95, by kernel_rfl, by kernel_rfl⟩
/-- a closure that tells whether a length fits is made -/
def MakesFit (P : Program) (t : Nat) (w : World) (fits : Nat → Bool) (e : Ending) (w' : World) : Prop := ∃ k env, e = .returned (.func (.func k) #[] env) ∧ Below w.heap.size w w' ∧ FitsV P t (.func (.func k) #[] env) w' fits
set_option maxRecDepth 100000 in
theorem mk_order (gc len cap : Nat) (w : World) :
    Calls Tryd.prog 77 #[.slice (some ⟨gc, 0, none⟩) len cap] w fun e w' => e = .returned (.func (.func 95) #[] #[.pointer (some ⟨w.heap.size, 0, none⟩)]) ∧ Below w.heap.size w w' ∧ w'.cell? ⟨w.heap.size, 0, none⟩ = some (.slice (some ⟨gc, 0, none⟩) len cap) := by
  go_enter Tryd.func77, Tryd.ntmps77
  go_wp2_with fail
  go_ret
  exact ⟨rfl, (Below.refl w.heap.size w).alloc (Nat.le_refl _) _, cell_at _ _ _ _ rfl⟩
theorem req_to (t o n gc bx cap : Nat) (W : World) {v1 v2 v3 : Value} (h1 : CutTo Tryd.prog t n v1 W (numSp 0 3) (putN o)) (h2 : CutTo Tryd.prog t n v2 W (numSp 1 2147483647) (putN (o + 1)))
    (h3 : CutTo Tryd.prog t n v3 W (textSp fun d => decide (d ≤ 40)) (putS (o + 2))) (hE : InRow gc [v1, v2, v3] W) (hb : W.cell? ⟨bx, 0, none⟩ = some (.slice (some ⟨gc, 0, none⟩) 3 cap)) (gt : gc ≠ t) (gl : gc < W.heap.size) (bt : bx ≠ t) :
    CutTo Tryd.prog t n (.func (.func 95) #[] #[.pointer (some ⟨bx, 0, none⟩)]) W reqSp (putReq o) := by
  intro f b w hs hk ht
  refine ⟨_, _, rfl, own_order, ?_⟩
  refine order_any [v1, v2, v3] bx gc cap _ b w (by simp) (keep_cell2 hb bt hk) (InRow_keep hE gt gl hk) ?_
  have hEk : ∀ w1, Keep t w w1 → InRow gc [v1, v2, v3] w1 := fun w1 h1 => InRow_keep hE gt gl (hk.trans h1)
  unfold reqSp
  refine order_cons h1 hs hk ht hEk (fun hno f' w1 c1 => ?_) (fun r1 d1 hy1 w1 c1 => ?_)
  · rw [hno]; exact ⟨rfl, f', c1⟩
  rw [hy1]
  have s1 := numSp_size hy1
  refine order_cons h2 (by omega) (hk.trans c1.1) c1.2 (fun w2 h2 => hEk w2 (c1.1.trans h2)) (fun hno f' w2 c2 => ?_) (fun r2 d2 hy2 w2 c2 => ?_)
  · dsimp only; rw [hno]; exact ⟨rfl, f', c1.1.trans c2.1, c2.2⟩
  dsimp only
  rw [hy2]
  have s2 := numSp_size hy2
  refine order_cons h3 (by omega) (hk.trans (c1.1.trans c2.1)) c2.2 (fun w3 h3 => hEk w3 ((c1.1.trans c2.1).trans h3)) (fun hno f' w3 c3 => ?_) (fun r3 d3 hy3 w3 c3 => ?_)
  · dsimp only; rw [hno]; exact ⟨rfl, f', (c1.1.trans c2.1).trans c3.1, c3.2⟩
  dsimp only
  rw [hy3]
  exact ⟨rfl, rfl, (c1.1.trans c2.1).trans c3.1, c3.2⟩
end Go.Proofs.YtigoaokpodggcaaDoor
end
section
open Go Go.RowKit
namespace WW
open BB
/-- what is read -/
def reqRd (b : ByteArray) : Option (Nat × Nat × ByteArray) :=
  match reqSp b with
  | none => none
  | some (r, d) => if r.size = 0 then some d else none
def reqAns : Option (Nat × Nat × ByteArray) → Value
  | none => .tuple #[.agg #[.int .i64 0, .int .i64 0, .string ⟨#[]⟩], .int .i64 2]
  | some d => .tuple #[.agg #[.int .i64 (d.1 : Int), .int .i64 (d.2.1 : Int), .string d.2.2], .int .i64 0]
/-- a zero request's cells -/
def rz : Nat → Value := fun i => if i < 2 then .int .i64 0 else .string ⟨#[]⟩
theorem rz_row : #[Value.int .i64 0, .int .i64 0, .string ⟨#[]⟩] = row 3 rz := by rfl
/-- three requests beside each other -/
structure Three (w0 : World) (a : Nat) (w : World) : Prop where
  below : Below w0.heap.size w0 w
  ra : Blk w a 3 rz
  rx : Blk w (a + 1) 3 rz
  rn : Blk w (a + 1 + 1) 3 rz
theorem three_mk (w : World) (a : Nat) (ha : w.heap.size = a) (t : TypeId) : Three w a (((w.alloc (.cells #[.int .i64 0, .int .i64 0, .string ⟨#[]⟩] t)).alloc (.cells #[.int .i64 0, .int .i64 0, .string ⟨#[]⟩] t)).alloc (.cells #[.int .i64 0, .int .i64 0, .string ⟨#[]⟩] t)) := by
  have b1 := (Below.refl w.heap.size w).alloc (Nat.le_refl _) (.cells #[.int .i64 0, .int .i64 0, .string ⟨#[]⟩] t)
  have b2 := b1.alloc b1.size (.cells #[.int .i64 0, .int .i64 0, .string ⟨#[]⟩] t)
  exact ⟨b2.alloc b2.size _, ((Blk.new' (by omega) rz_row).alloc _).alloc _, (Blk.new' (by simp; omega) rz_row).alloc _, Blk.new' (by simp; omega) rz_row⟩
theorem set3 {w : World} {a : Nat} {f : Nat → Value} (h : Blk w a 3 f) (u0 u1 u2 : Value) :
    (((w.setCell ⟨a, 0, none⟩ u0).setCell ⟨a, 1, none⟩ u1).setCell ⟨a, 2, none⟩ u2).cell? ⟨a, 0, none⟩ = some u0 ∧
    (((w.setCell ⟨a, 0, none⟩ u0).setCell ⟨a, 1, none⟩ u1).setCell ⟨a, 2, none⟩ u2).cell? ⟨a, 1, none⟩ = some u1 ∧
    (((w.setCell ⟨a, 0, none⟩ u0).setCell ⟨a, 1, none⟩ u1).setCell ⟨a, 2, none⟩ u2).cell? ⟨a, 2, none⟩ = some u2 := by
  have k := ((h.set 0 u0).set 1 u1).set 2 u2
  exact ⟨k.get 0 (by omega), k.get 1 (by omega), k.get 2 (by omega)⟩
theorem Three.on {w0 w w' : World} {a : Nat} (h : Three w0 a w) (hb : Below w.heap.size w w') : Three w0 a w' :=
  ⟨h.below.trans (hb.mono h.below.size), h.ra.below hb h.ra.lt, h.rx.below hb h.rx.lt, h.rn.below hb h.rn.lt⟩
end WW
namespace Go.Proofs.YtigoaokpodggcaaDoor
open WW BB
end Go.Proofs.YtigoaokpodggcaaDoor
end
section
open Go Go.RowKit
namespace WW
open BB
theorem ba_ext {a b : ByteArray} (h : a.data.toList = b.data.toList) : a = b := ByteArray.ext (Array.toList_inj.1 h)
theorem ba_list (a : ByteArray) : a.data.toList.length = a.size := by rw [Array.length_toList]; rfl
theorem be4_list (n : Nat) : (be4 n).data.toList = [UInt8.ofNat (n / 16777216), UInt8.ofNat (n / 65536), UInt8.ofNat (n / 256), UInt8.ofNat n] := rfl
theorem rd4_be4 (n : Nat) (h : n < 4294967296) (r : ByteArray) : rd4 (be4 n ++ r) = n := by
  unfold rd4
  rw [ByteArray.data_append, Array.toList_append, be4_list]
  simp only [List.cons_append, List.nil_append, List.getD_cons_zero, List.getD_cons_succ, UInt8.toNat_ofNat']
  have d1 : n / 65536 / 256 = n / 16777216 := Nat.div_div_eq_div_mul n 65536 256
  have d2 : n / 256 / 256 = n / 65536 := Nat.div_div_eq_div_mul n 256 256
  omega
theorem drop_be4 (n : Nat) (r : ByteArray) : (be4 n ++ r).extract 4 (be4 n ++ r).size = r := by
  apply ba_ext
  have hr := ba_list r
  have hs : (be4 n ++ r).size = 4 + r.size := by rw [ByteArray.size_append]; rfl
  rw [hs, ByteArray.data_extract, Array.toList_extract, ByteArray.data_append, Array.toList_append, be4_list, List.extract_eq_take_drop]
  show List.take (4 + r.size - 4) r.data.toList = r.data.toList
  exact List.take_of_length_le (by omega)
theorem numSp_put (lo hi : Int) (n : Nat) (h : n < 4294967296) (r : ByteArray) : numSp lo hi (be4 n ++ r) = if (n : Int) < lo ∨ hi < (n : Int) then none else some (r, n) := by
  unfold numSp
  rw [if_neg (by rw [ByteArray.size_append]; show ¬ 4 + r.size < 4; omega), rd4_be4 n h, drop_be4]
theorem list4 (l : List UInt8) (h : 4 ≤ l.length) : ∃ a b c d r, l = a :: b :: c :: d :: r := by
  match l, h with
  | a :: b :: c :: d :: r, _ => exact ⟨a, b, c, d, r, rfl⟩
theorem u8_of (x : UInt8) (n : Nat) (h : n % 256 = x.toNat) : UInt8.ofNat n = x := by
  apply UInt8.toNat_inj.1; simp [h]
theorem numSp_sound {lo hi : Int} {b r : ByteArray} {N : Nat} (h : numSp lo hi b = some (r, N)) : b = be4 N ++ r ∧ lo ≤ (N : Int) ∧ (N : Int) ≤ hi := by
  unfold numSp at h
  split at h
  · cases h
  · split at h
    · cases h
    · rename_i h4 hr
      injection h with h; injection h with h1 h2
      refine ⟨?_, by omega, by omega⟩
      apply ba_ext
      have hl := ba_list b
      obtain ⟨x0, x1, x2, x3, t, ht⟩ := list4 b.data.toList (by omega)
      have hN : N = x0.toNat * 16777216 + x1.toNat * 65536 + x2.toNat * 256 + x3.toNat := by
        rw [← h2]; unfold rd4; rw [ht]; rfl
      have l0 := UInt8.toNat_lt x0
      have l1 := UInt8.toNat_lt x1
      have l2 := UInt8.toNat_lt x2
      have l3 := UInt8.toNat_lt x3
      have e0 : UInt8.ofNat (N / 16777216) = x0 := u8_of _ _ (by omega)
      have e1 : UInt8.ofNat (N / 65536) = x1 := u8_of _ _ (by omega)
      have e2 : UInt8.ofNat (N / 256) = x2 := u8_of _ _ (by omega)
      have e3 : UInt8.ofNat N = x3 := u8_of _ _ (by omega)
      rw [ByteArray.data_append, Array.toList_append, be4_list, e0, e1, e2, e3, ← h1, ByteArray.data_extract, Array.toList_extract, ht, List.extract_eq_take_drop]
      have hs : b.size = t.length + 4 := by rw [← hl, ht]; simp
      simp [hs]
theorem bytesSp_put (s r : ByteArray) : bytesSp s.size (s ++ r) = some (r, s) := by
  unfold bytesSp
  rw [if_neg (by rw [ByteArray.size_append]; omega)]
  congr 2
  · apply ba_ext
    have hr := ba_list r
    have hs := ba_list s
    rw [ByteArray.data_extract, Array.toList_extract, ByteArray.data_append, Array.toList_append, ByteArray.size_append, List.extract_eq_take_drop, List.drop_left' hs]
    exact List.take_of_length_le (by omega)
  · apply ba_ext
    have hs := ba_list s
    rw [ByteArray.data_extract, Array.toList_extract, ByteArray.data_append, Array.toList_append, List.extract_eq_take_drop, List.drop_zero, Nat.sub_zero, List.take_left' hs]
theorem bytesSp_sound {N : Nat} {b r s : ByteArray} (h : bytesSp N b = some (r, s)) : b = s ++ r ∧ s.size = N := by
  unfold bytesSp at h
  split at h
  · cases h
  · injection h with h; injection h with h1 h2
    constructor
    · apply ba_ext
      rw [← h1, ← h2, ByteArray.data_append, Array.toList_append, ByteArray.data_extract, ByteArray.data_extract, Array.toList_extract, Array.toList_extract, List.extract_eq_take_drop, List.extract_eq_take_drop]
      have := ba_list b
      rw [List.drop_zero, Nat.sub_zero, List.take_of_length_le (l := b.data.toList.drop N) (by simp), List.take_append_drop]
    · rw [← h2]; simp; omega
end WW
end
section
open Go Go.RowKit
namespace WW
open BB
theorem num_nat (n : Nat) (h : n ≤ 2147483647) : num (n : Int) = be4 n := by
  unfold num; rw [if_neg (by omega)]; rfl
/-- a text, its length below a bound -/
def textG (hi : Int) (fits : Nat → Bool) (b : ByteArray) : Option (ByteArray × ByteArray) :=
  match numSp 0 hi b with
  | none => none
  | some (r, N) => if fits N then bytesSp N r else none
theorem textG_some (hi : Int) (fits : Nat → Bool) (b : ByteArray) {r : ByteArray} {N : Nat} (h : numSp 0 hi b = some (r, N)) : textG hi fits b = if fits N = true then bytesSp N r else none := by unfold textG; rw [h]
theorem textSp_G (fits : Nat → Bool) (b : ByteArray) : textSp fits b = textG 2147483647 fits b := rfl
theorem textG_put (hi : Int) (fits : Nat → Bool) (s r : ByteArray) (hs : (s.size : Int) ≤ hi) (h32 : s.size < 4294967296) (hn : num (s.size : Int) = be4 s.size) : textG hi fits (txt s ++ r) = if fits s.size = true then some (r, s) else none := by
  have h1 : numSp 0 hi (be4 s.size ++ (s ++ r)) = some (s ++ r, s.size) := by rw [numSp_put _ _ _ h32, if_neg (by omega)]
  have e : txt s ++ r = be4 s.size ++ (s ++ r) := by unfold txt; rw [hn, ByteArray.append_assoc]
  rw [e, textG_some hi fits _ h1, bytesSp_put]
theorem textG_sound {hi : Int} {fits : Nat → Bool} {b r s : ByteArray} (h : textG hi fits b = some (r, s)) : b = be4 s.size ++ s ++ r ∧ fits s.size = true ∧ (s.size : Int) ≤ hi := by
  unfold textG at h
  rcases hn : numSp 0 hi b with _ | ⟨r1, N⟩
  · rw [hn] at h; cases h
  · rw [hn] at h
    dsimp only at h
    split at h
    · rename_i hf
      obtain ⟨e1, e2⟩ := bytesSp_sound h
      obtain ⟨f1, f2, f3⟩ := numSp_sound hn
      subst e2
      exact ⟨by rw [f1, e1, ByteArray.append_assoc], hf, f3⟩
    · cases h
theorem textSp_put (fits : Nat → Bool) (s r : ByteArray) (hs : s.size ≤ 2147483647) : textSp fits (txt s ++ r) = if fits s.size = true then some (r, s) else none := by
  rw [textSp_G]; exact textG_put _ fits s r (by omega) (by omega) (num_nat _ hs)
theorem textSp_sound {fits : Nat → Bool} {b r s : ByteArray} (h : textSp fits b = some (r, s)) : b = txt s ++ r ∧ fits s.size = true ∧ s.size ≤ 2147483647 := by
  rw [textSp_G] at h
  obtain ⟨h1, h2, h3⟩ := textG_sound h
  have h4 : s.size ≤ 2147483647 := by omega
  exact ⟨by rw [h1, txt, num_nat _ h4], h2, h4⟩
/-- a right request -/
def rightR (c q : Int) (s : ByteArray) : Prop := 0 ≤ c ∧ c < 4 ∧ 1 ≤ q ∧ q ≤ 2147483647 ∧ s.size ≤ 40
/-- a request, its number below a bound -/
def reqG (hi : Int) (tx : ByteArray → Option (ByteArray × ByteArray)) (b : ByteArray) : Option (ByteArray × (Nat × Nat × ByteArray)) :=
  match numSp 0 3 b with
  | none => none
  | some (r1, c) =>
    match numSp 1 hi r1 with
    | none => none
    | some (r2, q) =>
      match tx r2 with
      | none => none
      | some (r3, s) => some (r3, (c, q, s))
theorem reqG_some (hi : Int) (tx : ByteArray → Option (ByteArray × ByteArray)) (b r1 r2 r3 s : ByteArray) (c q : Nat) (h1 : numSp 0 3 b = some (r1, c)) (h2 : numSp 1 hi r1 = some (r2, q)) (h3 : tx r2 = some (r3, s)) : reqG hi tx b = some (r3, (c, q, s)) := by
  unfold reqG
  rw [h1]
  dsimp only
  rw [h2]
  dsimp only
  rw [h3]
theorem reqSp_G (b : ByteArray) : reqSp b = reqG 2147483647 (textSp fun d => decide (d ≤ 40)) b := rfl
theorem reqG_put (hi : Int) (tx : ByteArray → Option (ByteArray × ByteArray)) (c q : Nat) (x s r : ByteArray) (h1 : c ≤ 3) (h2 : 1 ≤ q) (h3 : (q : Int) ≤ hi) (h4 : q < 4294967296) (h5 : tx (x ++ r) = some (r, s)) : reqG hi tx (be4 c ++ (be4 q ++ (x ++ r))) = some (r, (c, q, s)) := by
  have e1 : numSp 0 3 (be4 c ++ (be4 q ++ (x ++ r))) = some (be4 q ++ (x ++ r), c) := by rw [numSp_put _ _ _ (by omega), if_neg (by omega)]
  have e2 : numSp 1 hi (be4 q ++ (x ++ r)) = some (x ++ r, q) := by rw [numSp_put _ _ _ h4, if_neg (by omega)]
  exact reqG_some hi tx _ _ _ _ _ _ _ e1 e2 h5
theorem reqG_sound {hi : Int} {tx : ByteArray → Option (ByteArray × ByteArray)} {b r : ByteArray} {c q : Nat} {s : ByteArray} (h : reqG hi tx b = some (r, (c, q, s))) : ∃ r2, b = be4 c ++ (be4 q ++ r2) ∧ c ≤ 3 ∧ 1 ≤ q ∧ (q : Int) ≤ hi ∧ tx r2 = some (r, s) := by
  unfold reqG at h
  rcases h1 : numSp 0 3 b with _ | ⟨r1, c1⟩
  · rw [h1] at h; cases h
  rw [h1] at h
  dsimp only at h
  rcases h2 : numSp 1 hi r1 with _ | ⟨r2, q2⟩
  · rw [h2] at h; cases h
  rw [h2] at h
  dsimp only at h
  rcases h3 : tx r2 with _ | ⟨r3, s3⟩
  · rw [h3] at h; cases h
  rw [h3] at h
  simp only [Option.some.injEq, Prod.mk.injEq] at h
  obtain ⟨rfl, rfl, rfl, rfl⟩ := h
  obtain ⟨a1, a2, a3⟩ := numSp_sound h1
  obtain ⟨b1, b2, b3⟩ := numSp_sound h2
  exact ⟨r2, by rw [a1, b1], by omega, by omega, b3, h3⟩
theorem reqSp_put (c q : Nat) (s r : ByteArray) (h : rightR c q s) : reqSp (reqB c q s ++ r) = some (r, (c, q, s)) := by
  obtain ⟨h1, h2, h3, h4, h5⟩ := h
  have e : reqB (c : Int) q s ++ r = be4 c ++ (be4 q ++ (txt s ++ r)) := by
    unfold reqB; rw [num_nat c (by omega), num_nat q (by omega), ByteArray.append_assoc, ByteArray.append_assoc]
  have t1 : textSp (fun d => decide (d ≤ 40)) (txt s ++ r) = some (r, s) := (textSp_put (fun d => decide (d ≤ 40)) s r (by omega)).trans (if_pos (by simpa using h5))
  rw [e]
  exact (reqSp_G _).trans (reqG_put 2147483647 (textSp fun d => decide (d ≤ 40)) c q (txt s) s r (by omega) (by omega) h4 (by omega) t1)
theorem reqSp_sound {b r : ByteArray} {c q : Nat} {s : ByteArray} (h : reqSp b = some (r, (c, q, s))) : b = reqB c q s ++ r ∧ rightR c q s := by
  rw [reqSp_G] at h
  obtain ⟨r2, e1, h1, h2, h3, h4⟩ := reqG_sound h
  obtain ⟨d1, d2, d3⟩ := textSp_sound h4
  have d2 : s.size ≤ 40 := by simpa using d2
  refine ⟨?_, by omega, by omega, by omega, h3, d2⟩
  rw [e1, d1, reqB, num_nat c (by omega), num_nat q (by omega), ByteArray.append_assoc, ByteArray.append_assoc]
theorem reqRd_some {b r : ByteArray} {d : Nat × Nat × ByteArray} (h : reqSp b = some (r, d)) (h0 : r.size = 0) : reqRd b = some d := by unfold reqRd; rw [h]; exact if_pos h0
theorem reqRd_put (c q : Nat) (s : ByteArray) (h : rightR c q s) : reqRd (reqB c q s) = some (c, q, s) := by
  have := reqSp_put c q s ⟨#[]⟩ h
  rw [show reqB (c : Int) q s ++ ⟨#[]⟩ = reqB c q s from ba_ext (by simp)] at this
  exact reqRd_some this rfl
theorem reqRd_sound {b : ByteArray} {c q : Nat} {s : ByteArray} (h : reqRd b = some (c, q, s)) : b = reqB c q s ∧ rightR c q s := by
  unfold reqRd at h
  rcases h1 : reqSp b with _ | ⟨r, d⟩
  · rw [h1] at h; cases h
  rw [h1] at h
  dsimp only at h
  split at h
  · rename_i h0
    injection h with h
    subst h
    obtain ⟨e1, e2⟩ := reqSp_sound h1
    refine ⟨?_, e2⟩
    rw [e1, nil_size r h0]
    exact ba_ext (by simp)
  · cases h
end WW
end
section
open Go Go.RowKit
namespace WW
open BB
/-- a signature of a size that is looked at -/
def fewSig (ts : List ByteArray) : Bool := (ts.take 20).all (fun t => decide (t.size ≤ 30)) && decide (ts.length ≤ 10)
theorem all_take_snoc {α : Type} (p : α → Bool) (l : List α) (d : α) (i : Nat) (h : i < l.length) : (l.take (i + 1)).all p = ((l.take i).all p && p (l.getD i d)) := by
  rw [List.take_succ_eq_append_getElem h, List.all_append]
  simp [List.getD, List.getElem?_eq_getElem h]
theorem all_take_mono {α : Type} (p : α → Bool) (l : List α) (i j : Nat) (h : i ≤ j) (hf : (l.take i).all p = false) : (l.take j).all p = false := by
  rw [show i = min i j by omega, ← List.take_take] at hf
  rw [List.all_eq_false] at hf ⊢
  obtain ⟨x, hx, hp⟩ := hf
  exact ⟨x, List.mem_of_mem_take hx, hp⟩
end WW
namespace Go.Proofs.YtigoaokpodggcaaDoor
open WW BB
set_option maxRecDepth 100000 in
set_option maxHeartbeats 2000000 in
theorem fewsig_any (f : Int) (tv : Value) (ts : List ByteArray) (w : World) (hv : StrsAt w tv ts) (hn : ts.length ≤ 9223372036854775807) :
    Calls Tryd.prog 14 #[.agg #[.int .i64 f, tv]] w fun e w' => e = .returned (.bool (fewSig ts)) ∧ Below w.heap.size w w' := by
  obtain ⟨X, hX⟩ : ∃ X, fewSig ts = X := ⟨_, rfl⟩
  rw [hX]
  have HX := Lib.hid hX
  have HV := Lib.hid hv
  have HN := Lib.hid hn
  obtain ⟨a0, cap, rfl, hx⟩ := hv
  clear hn hx hX
  go_enter Tryd.func14, Tryd.ntmps14
  go_wp2_with fail
  have c1 := cell_new w #[.int .i64 f, .slice a0 ts.length cap] 35 1 _ rfl
  have b0 : Below w.heap.size w (w.alloc (.cells #[.int .i64 f, .slice a0 ts.length cap] 35)) := (Below.refl _ _).alloc (Nat.le_refl _) _
  generalize w.alloc (.cells #[.int .i64 f, .slice a0 ts.length cap] 35) = w0 at *
  have B0 := Lib.hid b0
  obtain ⟨g, hg⟩ : ∃ g, w.heap.size = g := ⟨_, rfl⟩
  rw [hg] at c1 ⊢
  clear b0 hg
  go_loop [3] (fun v => ∃ i : Nat, i ≤ ts.length ∧ i ≤ 20 ∧ v = .int .i64 (i : Int) ∧ (ts.take i).all (fun t => decide (t.size ≤ 30)) = true) (fun v => ts.length - (intOf v).toNat)
  case atStart => exact ⟨0, Nat.zero_le _, by omega, rfl, rfl⟩
  case round =>
    obtain ⟨i, hi, h20, rfl, hall⟩ := hrel
    have HALL := Lib.hid hall
    have i0 : (0 : Int) ≤ (i : Int) := by omega
    have ib : (i : Int) ≤ 20 := by omega
    clear hall
    by_cases hlt : i < ts.length
    · have hlt' : (i : Int) < (ts.length : Int) := by omega
      by_cases h2 : i < 20
      · have h2' : (i : Int) < 20 := by omega
        obtain ⟨a1, cap1, he, hv | ⟨gb, off, rfl, hbw, hcell⟩⟩ := HV.out
        · rw [hv] at hlt; simp at hlt
        injection he with e1 _ e3
        subst e1 e3
        have hcl := (B0.out.cell (p := ⟨gb, off + i, none⟩) hbw).trans (hcell i hlt)
        have HSN := Lib.hid (all_take_snoc (fun t : ByteArray => decide (t.size ≤ 30)) ts ⟨#[]⟩ i hlt)
        obtain ⟨s, hs⟩ : ∃ s, ts.getD i ⟨#[]⟩ = s := ⟨_, rfl⟩
        rw [hs] at hcl HSN
        have HLT := Lib.hid hlt
        have H2 := Lib.hid h2
        clear hs hlt h2 hi h20 hcell hbw
        by_cases h30 : s.size ≤ 30
        · have t1 : ¬ (30 : Int) < (s.size : Int) := by omega
          have H30 := Lib.hid h30
          clear h30
          go_wp2_with fail
          go_round
          case rel => exact ⟨i + 1, by have := HLT.out; omega, by have := H2.out; omega, by go_num, by rw [HSN.out, HALL.out]; simpa using H30.out⟩
          case measure => have := HLT.out; simp [intOf]; omega
        · have t1 : (30 : Int) < (s.size : Int) := by omega
          have H30 := Lib.hid h30
          clear h30
          go_wp2_with fail
          go_ret
          refine ⟨?_, B0.out⟩
          rw [← HX.out]
          have h1 := HSN.out
          rw [show decide (s.size ≤ 30) = false by simpa using H30.out, Bool.and_false] at h1
          have h2 := all_take_mono _ ts (i + 1) 20 (by have := H2.out; omega) h1
          unfold fewSig
          rw [h2]; rfl
      · obtain rfl : i = 20 := by omega
        have h2' : ¬ ((20 : Nat) : Int) < 20 := by omega
        have H20 := Lib.hid hlt
        clear h2 hi h20 hlt
        have hl10 : ¬ (ts.length : Int) ≤ 10 := by have := H20.out; omega
        go_wp2_with fail
        go_ret
        refine ⟨?_, B0.out⟩
        rw [← HX.out]
        unfold fewSig
        rw [show decide (ts.length ≤ 10) = false by have := H20.out; simp; omega, Bool.and_false]
        rfl
    · obtain rfl : i = ts.length := by omega
      have hlt' : ¬ (ts.length : Int) < (ts.length : Int) := by omega
      rw [List.take_length] at HALL
      by_cases h10 : ts.length ≤ 10
      · have t1 : (ts.length : Int) ≤ 10 := by omega
        have H10 := Lib.hid h10
        clear hlt hi h20 h10
        go_wp2_with fail
        go_ret
        refine ⟨?_, B0.out⟩
        rw [← HX.out]
        unfold fewSig
        rw [List.take_of_length_le (by have := H10.out; omega), HALL.out, show decide (ts.length ≤ 10) = true by simpa using H10.out]
        rfl
      · have t1 : ¬ (ts.length : Int) ≤ 10 := by omega
        have H10 := Lib.hid h10
        clear hlt hi h20 h10
        go_wp2_with fail
        go_ret
        refine ⟨?_, B0.out⟩
        rw [← HX.out]
        unfold fewSig
        rw [show decide (ts.length ≤ 10) = false by simpa using H10.out, Bool.and_false]
        rfl
end Go.Proofs.YtigoaokpodggcaaDoor
end
section
open Go Go.RowKit
namespace WW
open BB
/-- a request that isn't right, by the first thing that is wrong -/
def WrongR (c q : Int) (s : ByteArray) : Prop := c < 0 ∨ 0 ≤ c ∧ (4 ≤ c ∨ c < 4 ∧ (q < 1 ∨ 1 ≤ q ∧ (2147483647 < q ∨ q ≤ 2147483647 ∧ (40 : Int) < (s.size : Int))))
theorem wrong_of {c q : Int} {s : ByteArray} (h : ¬ rightR c q s) : WrongR c q s := by unfold rightR at h; unfold WrongR; omega
/-- a request in block g, and what was as it was -/
structure Req1 (w0 : World) (g : Nat) (c q : Int) (s : ByteArray) (w : World) : Prop where
  below : Below w0.heap.size w0 w
  lt : g < w.heap.size
  cells : w.cell? ⟨g, 0, none⟩ = some (.int .i64 c) ∧ w.cell? ⟨g, 1, none⟩ = some (.int .i64 q) ∧ w.cell? ⟨g, 2, none⟩ = some (.string s)
theorem req1_mk (w : World) (c q : Int) (s : ByteArray) (t : TypeId) : Req1 w w.heap.size c q s (w.alloc (.cells #[.int .i64 c, .int .i64 q, .string s] t)) :=
  ⟨(Below.refl _ _).alloc (Nat.le_refl _) _, by simp, cell_new _ _ _ _ _ rfl, cell_new _ _ _ _ _ rfl, cell_new _ _ _ _ _ rfl⟩
theorem Req1.on {w0 w w' : World} {g : Nat} {c q : Int} {s : ByteArray} (h : Req1 w0 g c q s w) (hb : Below w.heap.size w w') : Req1 w0 g c q s w' :=
  ⟨h.below.trans (hb.mono h.below.size), Nat.lt_of_lt_of_le h.lt hb.size, (hb.cell (p := ⟨g, 0, none⟩) h.lt).trans h.cells.1, (hb.cell (p := ⟨g, 1, none⟩) h.lt).trans h.cells.2.1, (hb.cell (p := ⟨g, 2, none⟩) h.lt).trans h.cells.2.2⟩
end WW
namespace Go.Proofs.YtigoaokpodggcaaDoor
open WW BB
end Go.Proofs.YtigoaokpodggcaaDoor
end
section
open Go Go.RowKit
namespace BB
section
variable {P : Program} {ops : Array Oper} {md : Region.Mode} {w : World} {S : World → Prop} {Q : Exit → Act → World → Prop}
/-- these operations, one behind the other, in every world that meets S -/
def wpHeldG (P : Program) (ops : Array Oper) (S : World → Prop) (K : Act → Prop) : List Oper → Act → Prop
  | [], a => K a
  | o :: r, a => ∃ v, YieldsIf P ops S o v a ∧ wpHeldG P ops S K r (a.put o.dst v)
theorem heldg_run {K : Act → Prop} {o : Oper} {rest : List Oper} {a : Act} (v : Value) (hg : Region.wanted o (yielded ops a.tmps) = true) (h : ∀ w, S w → (execOp a.eval o).run P w = .ok (.value v) w)
    (hK : wpHeldG P ops S K rest (a.put o.dst v)) : wpHeldG P ops S K (o :: rest) a := ⟨v, .inl ⟨hg, h⟩, hK⟩
theorem heldg_skip {K : Act → Prop} {o : Oper} {rest : List Oper} {a : Act} (hg : Region.wanted o (yielded ops a.tmps) = false)
    (hK : wpHeldG P ops S K rest (a.put o.dst undef)) : wpHeldG P ops S K (o :: rest) a := ⟨undef, .inr ⟨hg, rfl⟩, hK⟩
theorem heldg_nil {K : Act → Prop} {a : Act} (h : K a) : wpHeldG P ops S K [] a := h
theorem wpAnyH_of_heldg {K : Act → Prop} {k : Array Bool → Bool} {g : Nat} (hsel : Region.noSelect ops = true) (hQ : ∀ c a d v w, Q (.panic c) (Act.put a d v) w → Q (.panic c) a w) (hS : S w)
    (hK : ∀ listed a, k listed = true → K a → wpAnyH P md ops Q S g listed a w) : ∀ (l : List Nat) (listed : Array Bool) (a : Act), preB md ops k l listed = true → wpHeldG P ops S K (pick ops l) a →
    wpAnyH P md ops Q S (l.length + g) listed a w
  | [], listed, a, hB, h => by simpa using hK listed a hB h
  | i :: l, listed, a, hB, h => by
    simp only [preB, Bool.and_eq_true] at hB
    obtain ⟨⟨hr, hf⟩, hB'⟩ := hB
    obtain ⟨_, o, h0, _⟩ := mem_ready.1 (show i ∈ Region.ready md ops listed by simpa using hr)
    rw [pick_cons h0] at h
    obtain ⟨v, hy, h⟩ := h
    rw [show (i :: l).length + g = (l.length + g) + 1 by simp; omega]
    exact wpAnyH_take h0 hsel hf hr (fun c a w => hQ c a _ _ w) hy hS (wpAnyH_of_heldg hsel hQ hS hK l _ _ hB' h)
/-- c alone may come up, then tl, one behind the other -/
def oneB (md : Region.Mode) (ops : Array Oper) (c : Nat) (tl : List Nat) (listed : Array Bool) : Bool :=
  decide (Region.ready md ops listed = [c]) && preB md ops (fun li => decide (Region.ready md ops li = [])) tl (listed.setIfInBounds c true)
theorem one_call {id : Nat} {a a1 : Act} {l : List Oper} (hd tl : List Nat) (c : Nat) (oc : Oper) (dc : Nat) (f : Nat) (args : Array Value) (v : Value) (S : World → Prop) (hm : P.follows .mixedOrders = true)
    (hB : (Region.noSelect l.toArray && preB .any l.toArray (oneB .any l.toArray c tl) hd (Array.replicate l.toArray.size false) && decide (hd.length + (tl.length + 1) = l.toArray.size)) = true)
    (hQ : ∀ c a d v w, Q (.panic c) (Act.put a d v) w → Q (.panic c) a w) (hoc : l.toArray[c]? = some oc) (hgc : oc.guard = none) (hdc : oc.dst = some dc) (hS : S { w with drawn := w.drawn + 1 })
    (hread : wpHeldG P l.toArray S (fun a' => a' = a1) (pick l.toArray hd) a)
    (henter : ∀ w', (execOp a1.eval oc).run P w' = .ok (.enter f args) w')
    (hcall : ∀ w', S w' → Calls P f args w' fun e w'' => e = .returned v ∧ S w'')
    (htail : wpHeldG P l.toArray S (fun a' => ∀ w', S w' → Q .normal a' w') (pick l.toArray tl) (a1.put (some dc) v)) :
    (Code.region id l.toArray true).wp P Q a w := by
  simp only [Bool.and_eq_true, decide_eq_true_eq] at hB
  obtain ⟨⟨hsel, hp⟩, hsz⟩ := hB
  refine wp_region_held (S := S) hm ?_
  have key := wpAnyH_of_heldg (Q := Q) (S := S) (w := { w with drawn := w.drawn + 1 }) (k := oneB .any l.toArray c tl) (K := fun a' => a' = a1) (g := tl.length + 1) hsel hQ hS
    (fun listed a' hk ha' => ?_) hd (Array.replicate l.toArray.size false) a hp hread
  · rw [hsz] at key; exact key
  subst ha'
  simp only [oneB, Bool.and_eq_true, decide_eq_true_eq] at hk
  obtain ⟨r0, r1⟩ := hk
  refine wpAnyH_all r0 (by simp) fun i hi => ?_
  obtain rfl : i = c := by simpa using hi
  unfold wpOp
  simp only [hoc, Region.wanted, hgc, if_true]
  left
  unfold Oper.wp
  rw [henter]
  refine (hcall _ hS).mono fun e w' ⟨he, hS'⟩ => ?_
  subst he
  refine ⟨hS', ?_⟩
  rw [hdc]
  have tail := wpAnyH_of_heldg (Q := Q) (S := S) (w := w') (k := fun li => decide (Region.ready .any l.toArray li = [])) (K := fun a' => ∀ w', S w' → Q .normal a' w') (g := 0) hsel hQ hS'
    (fun listed a' hk ha' => wpAnyH_done (by simpa using hk) (ha' _ hS') _) tl _ _ r1 htail
  simpa using tail
end
end BB
end
section
open Go Go.RowKit
namespace BB
section
variable {P : Program} {ops : Array Oper} {md : Region.Mode} {w : World} {S : World → Prop} {Q : Exit → Act → World → Prop}
def wpHeld (P : Program) (ops : Array Oper) (S : World → Prop) (K : Act → Prop) : List Oper → Act → Prop
  | [], a => K a
  | o :: r, a => ∃ v, YieldsIf P ops S o v a ∧ wpHeld P ops S K r (a.put o.dst v)
theorem held_step {K : Act → Prop} {o : Oper} {rest : List Oper} {a : Act} (v : Value) (hg : o.guard = none) (h : ∀ w, S w → (execOp a.eval o).run P w = .ok (.value v) w)
    (hK : wpHeld P ops S K rest (a.put o.dst v)) : wpHeld P ops S K (o :: rest) a := ⟨v, .inl ⟨by simp [Region.wanted, hg], h⟩, hK⟩
theorem wpAnyH_of_held {K : Act → Prop} {k : Array Bool → Bool} {g : Nat} (hsel : Region.noSelect ops = true) (hQ : ∀ c a d v w, Q (.panic c) (Act.put a d v) w → Q (.panic c) a w) (hS : S w)
    (hK : ∀ listed a, k listed = true → K a → wpAnyH P md ops Q S g listed a w) : ∀ (l : List Nat) (listed : Array Bool) (a : Act), preB md ops k l listed = true → wpHeld P ops S K (pick ops l) a →
    wpAnyH P md ops Q S (l.length + g) listed a w
  | [], listed, a, hB, h => by simpa using hK listed a hB h
  | i :: l, listed, a, hB, h => by
    simp only [preB, Bool.and_eq_true] at hB
    obtain ⟨⟨hr, hf⟩, hB'⟩ := hB
    obtain ⟨_, o, h0, _⟩ := mem_ready.1 (show i ∈ Region.ready md ops listed by simpa using hr)
    rw [pick_cons h0] at h
    obtain ⟨v, hy, h⟩ := h
    rw [show (i :: l).length + g = (l.length + g) + 1 by simp; omega]
    exact wpAnyH_take h0 hsel hf hr (fun c a w => hQ c a _ _ w) hy hS (wpAnyH_of_held hsel hQ hS hK l _ _ hB' h)
/-- the tail's orders: c or n first, the other one, then t -/
def twoB (md : Region.Mode) (ops : Array Oper) (c n t : Nat) (listed : Array Bool) : Bool :=
  decide (Region.ready md ops listed = [c, n]) && decide (Region.ready md ops (listed.setIfInBounds c true) = [n]) && decide (Region.ready md ops (listed.setIfInBounds n true) = [c]) &&
  decide (Region.ready md ops ((listed.setIfInBounds c true).setIfInBounds n true) = [t]) && decide (Region.ready md ops ((listed.setIfInBounds n true).setIfInBounds c true) = [t]) &&
  decide (Region.ready md ops (((listed.setIfInBounds c true).setIfInBounds n true).setIfInBounds t true) = []) && decide (Region.ready md ops (((listed.setIfInBounds n true).setIfInBounds c true).setIfInBounds t true) = [])
theorem op_value {i : Nat} {o : Oper} {v : Value} {a : Act} {w w' : World} {K : Act → World → Prop} (ho : ops[i]? = some o) (hg : o.guard = none) (h : (execOp a.eval o).run P w = .ok (.value v) w') (hK : K (a.put o.dst v) w') : wpOp P ops Q i K a w := by
  unfold wpOp; simp only [ho, Region.wanted, hg, if_true]
  left; unfold Oper.wp; rw [h]; exact hK
theorem op_skip {i : Nat} {o : Oper} {a : Act} {w w' : World} {K : Act → World → Prop} (ho : ops[i]? = some o) (hg : o.guard = none) (h : (execOp a.eval o).run P w = .ok .skip w') (hK : K (a.put o.dst undef) w') : wpOp P ops Q i K a w := by
  unfold wpOp; simp only [ho, Region.wanted, hg, if_true]
  left; unfold Oper.wp; rw [h]; exact hK
theorem op_call {i f : Nat} {args : Array Value} {o : Oper} {v : Value} {a : Act} {w : World} {K : Act → World → Prop} {R : World → Prop} (ho : ops[i]? = some o) (hg : o.guard = none) (h : (execOp a.eval o).run P w = .ok (.enter f args) w)
    (hc : Calls P f args w fun e w' => e = .returned v ∧ R w') (hK : ∀ w', R w' → K (a.put o.dst v) w') : wpOp P ops Q i K a w := by
  unfold wpOp; simp only [ho, Region.wanted, hg, if_true]
  left; unfold Oper.wp; rw [h]
  exact hc.mono fun e w' ⟨he, hR⟩ => by subst he; exact hK w' hR
theorem call_alloc {id : Nat} {a a1 : Act} {l : List Oper} (hd : List Nat) (c n t : Nat) (oc on ot : Oper) (f m : Nat) (args : Array Value) (g : Nat → Value) (z : Array Value) (T TA dc dn : Nat) (hm : P.follows .mixedOrders = true)
    (hB : (Region.noSelect l.toArray && preB .any l.toArray (twoB .any l.toArray c n t) hd (Array.replicate l.toArray.size false) && decide (hd.length + 3 = l.toArray.size)) = true)
    (hQ : ∀ c a d v w, Q (.panic c) (Act.put a d v) w → Q (.panic c) a w)
    (hoc : l.toArray[c]? = some oc) (hon : l.toArray[n]? = some on) (hot : l.toArray[t]? = some ot) (hgc : oc.guard = none) (hgn : on.guard = none) (hgt : ot.guard = none)
    (hdc : oc.dst = some dc) (hdn : on.dst = some dn) (hdt : ot.dst = none) (hne : dc ≠ dn)
    (hread : ∀ w2, Same w w2 → wpHeld P l.toArray (fun w' => Below w2.heap.size w2 w') (fun a' => a' = a1) (pick l.toArray hd) a)
    (hc1 : ∀ w', (execOp a1.eval oc).run P w' = .ok (.enter f args) w') (hc2 : ∀ p w', (execOp (a1.put (some dn) p).eval oc).run P w' = .ok (.enter f args) w')
    (hcall : ∀ w2 w', Same w w2 → Below w2.heap.size w2 w' → Calls P f args w' fun e w'' => e = .returned (.agg (row m g)) ∧ Below w'.heap.size w' w'')
    (hno : on.op = .alloc TA) (hal : ∀ w' : World, (Instr.alloc TA true (.tuple #[])).run P w' = .ok (.pointer (some ⟨w'.heap.size, 0, none⟩)) (w'.alloc (.cells z T))) (hz : ∃ z', z = row m z')
    (ht : ∀ (p : Nat), ((a1.put (some dc) (.agg (row m g))).put (some dn) (.pointer (some ⟨p, 0, none⟩))).eval (.tmp dn) = .pointer (some ⟨p, 0, none⟩) ∧ ((a1.put (some dc) (.agg (row m g))).put (some dn) (.pointer (some ⟨p, 0, none⟩))).eval (.tmp dc) = .agg (row m g))
    (hto : ot.op = .store T (.tmp dn) (.tmp dc)) (hST : ∀ w', (Go.sizeOf T).run P w' = .ok m w') (hg1 : ∀ i, i < m → (g i).oneCell' = true)
    (hK : ∀ (p : Nat) (w' : World), Below w.heap.size w w' → w.heap.size ≤ p → Blk w' p m g → Q .normal ((a1.put (some dc) (.agg (row m g))).put (some dn) (.pointer (some ⟨p, 0, none⟩))) w') :
    (Code.region id l.toArray true).wp P Q a w := by
  simp only [Bool.and_eq_true, decide_eq_true_eq] at hB
  obtain ⟨⟨hsel, hp⟩, hsz⟩ := hB
  obtain ⟨z', rfl⟩ := hz
  have hn : ∀ (a : Act) (w' : World), (execOp a.eval on).run P w' = .ok (.value (.pointer (some ⟨w'.heap.size, 0, none⟩))) (w'.alloc (.cells (row m z') T)) := fun a w' => by
    unfold execOp; simp only [hno, Sem.run_bind, hal, Result.andThen_ok, Sem.run_pure]
  have w2s : Same w { w with drawn := w.drawn + 1 } := ⟨rfl, rfl, rfl, rfl⟩
  refine wp_region_held (S := fun w' => Below w.heap.size { w with drawn := w.drawn + 1 } w') hm ?_
  have fin : ∀ (p : Nat) (w' : World) (listed : Array Bool), Below w.heap.size { w with drawn := w.drawn + 1 } w' → w.heap.size ≤ p → Blk w' p m z' → Region.ready .any l.toArray listed = [t] → Region.ready .any l.toArray (listed.setIfInBounds t true) = [] →
      wpAnyH P .any l.toArray Q (fun w' => Below w.heap.size { w with drawn := w.drawn + 1 } w') 1 listed ((a1.put (some dc) (.agg (row m g))).put (some dn) (.pointer (some ⟨p, 0, none⟩))) w' := by
    intro p w' listed hb hpb hblk hr hr'
    refine wpAnyH_all hr (by simp) fun i hi => ?_
    obtain rfl : i = t := by simpa using hi
    obtain ⟨w3, hrun, hms⟩ := run_op_store (a := (a1.put (some dc) (.agg (row m g))).put (some dn) (.pointer (some ⟨p, 0, none⟩))) (o := ot) (P := P) (w := w') hto (ht p).1 (ht p).2 (hST _) hblk (by omega) hg1
    refine op_skip hot hgt hrun ?_
    have hb3 : Below w.heap.size { w with drawn := w.drawn + 1 } w3 := hb.trans (hms.2.below hpb)
    refine ⟨hb3, wpAnyH_done hr' ?_ _⟩
    rw [hdt]
    exact hK p w3 ((w2s.below _).trans hb3) hpb (hms.1.congr _ fun i hi => by simp [hi])
  have key := wpAnyH_of_held (Q := Q) (S := fun w' => Below w.heap.size { w with drawn := w.drawn + 1 } w') (w := { w with drawn := w.drawn + 1 }) (k := twoB .any l.toArray c n t) (K := fun a' => a' = a1) (g := 3) hsel hQ (Below.refl _ _)
    (fun listed a' hk ha' => ?_) hd (Array.replicate l.toArray.size false) a hp (hread _ w2s)
  · rw [hsz] at key; exact key
  subst ha'
  simp only [twoB, Bool.and_eq_true, decide_eq_true_eq] at hk
  obtain ⟨⟨⟨⟨⟨⟨r0, r1⟩, r2⟩, r3⟩, r4⟩, r5⟩, r6⟩ := hk
  refine wpAnyH_all r0 (by simp) fun i hi => ?_
  rcases List.mem_cons.1 hi with rfl | hi
  · refine op_call hoc hgc (hc1 _) (hcall _ _ w2s (Below.refl _ _)) fun w3 hb3 => ?_
    have hb3' : Below w.heap.size { w with drawn := w.drawn + 1 } w3 := hb3
    refine ⟨hb3', wpAnyH_all r1 (by simp) fun j hj => ?_⟩
    obtain rfl : j = n := by simpa using hj
    refine op_value hon hgn (hn _ _) ?_
    have hb4 : Below w.heap.size { w with drawn := w.drawn + 1 } (w3.alloc (.cells (row m z') T)) := hb3'.alloc hb3'.size _
    refine ⟨hb4, ?_⟩
    rw [hdc, hdn]
    exact fin _ _ _ hb4 hb3'.size (Blk.new _ _ _ _ _ rfl) r3 r5
  · obtain rfl : i = n := by simpa using hi
    refine op_value hon hgn (hn _ _) ?_
    have hb3 : Below w.heap.size { w with drawn := w.drawn + 1 } (({ w with drawn := w.drawn + 1 } : World).alloc (.cells (row m z') T)) := (Below.refl w.heap.size { w with drawn := w.drawn + 1 }).alloc (Nat.le_refl w.heap.size) _
    refine ⟨hb3, wpAnyH_all r2 (by simp) fun j hj => ?_⟩
    obtain rfl : j = c := by simpa using hj
    rw [hdn]
    refine op_call hoc hgc (hc2 _ _) (hcall _ _ w2s hb3) fun w4 hb4 => ?_
    have hb4' : Below w.heap.size { w with drawn := w.drawn + 1 } w4 := hb3.trans (hb4.mono (by simp))
    refine ⟨hb4', ?_⟩
    rw [hdc, Act.put_comm _ _ _ (by simpa using hne)]
    refine fin _ _ _ hb4' (Nat.le_refl _) ?_ r4 r6
    have hnew : Blk (({ w with drawn := w.drawn + 1 } : World).alloc (.cells (row m z') T)) w.heap.size m z' := Blk.new { w with drawn := w.drawn + 1 } _ _ _ _ rfl
    exact hnew.below hb4 (by simp)
end
end BB
end
section
open Go Go.RowKit
namespace BB
section
variable {P : Program} {ops : Array Oper} {md : Region.Mode} {w : World} {Q : Exit → Act → World → Prop}
/-- c3 and c5 in either order, then c6, c7, c8 -/
def appN (md : Region.Mode) (ops : Array Oper) (c3 c5 c6 c7 c8 : Nat) (li : Array Bool) : Bool :=
  let a := li.setIfInBounds c3 true
  let b := li.setIfInBounds c5 true
  let ab := a.setIfInBounds c5 true
  let ba := b.setIfInBounds c3 true
  decide (Region.ready md ops li = [c3, c5]) && decide (Region.ready md ops a = [c5]) && decide (Region.ready md ops b = [c3]) &&
  decide (Region.ready md ops ab = [c6]) && decide (Region.ready md ops ba = [c6]) &&
  decide (Region.ready md ops (ab.setIfInBounds c6 true) = [c7]) && decide (Region.ready md ops (ba.setIfInBounds c6 true) = [c7]) &&
  decide (Region.ready md ops ((ab.setIfInBounds c6 true).setIfInBounds c7 true) = [c8]) && decide (Region.ready md ops ((ba.setIfInBounds c6 true).setIfInBounds c7 true) = [c8]) &&
  decide (Region.ready md ops (((ab.setIfInBounds c6 true).setIfInBounds c7 true).setIfInBounds c8 true) = []) && decide (Region.ready md ops (((ba.setIfInBounds c6 true).setIfInBounds c7 true).setIfInBounds c8 true) = [])
theorem app_region {id : Nat} {a a1 : Act} {l : List Oper} (hd : List Nat) (c3 c5 c6 c7 c8 : Nat) (o3 o5 o6 o7 o8 : Oper) (d3 d5 d6 d7 : Nat) (S : World → Prop) (sv v5 v7 : Value) (ob : Obj) (hm : P.follows .mixedOrders = true)
    (hB : (Region.noSelect l.toArray && preB .any l.toArray (appN .any l.toArray c3 c5 c6 c7 c8) hd (Array.replicate l.toArray.size false) && decide (hd.length + 5 = l.toArray.size)) = true)
    (hQ : ∀ c a d v w, Q (.panic c) (Act.put a d v) w → Q (.panic c) a w)
    (ho3 : l.toArray[c3]? = some o3) (ho5 : l.toArray[c5]? = some o5) (ho6 : l.toArray[c6]? = some o6) (ho7 : l.toArray[c7]? = some o7) (ho8 : l.toArray[c8]? = some o8)
    (hg : o3.guard = none ∧ o5.guard = none ∧ o6.guard = none ∧ o7.guard = none ∧ o8.guard = none) (hd3 : o3.dst = some d3) (hd5 : o5.dst = some d5) (hd6 : o6.dst = some d6) (hd7 : o7.dst = some d7) (hd8 : o8.dst = none) (hne : d3 ≠ d5)
    (hS0 : S { w with drawn := w.drawn + 1 }) (hS5 : S (({ w with drawn := w.drawn + 1 } : World).alloc ob))
    (hread : wpHeldG P l.toArray S (fun a' => a' = a1) (pick l.toArray hd) a)
    (h3 : ∀ a', a' = a1 ∨ a' = a1.put (some d5) v5 → ∀ w', w' = { w with drawn := w.drawn + 1 } ∨ w' = ({ w with drawn := w.drawn + 1 } : World).alloc ob → (execOp a'.eval o3).run P w' = .ok (.value sv) w')
    (h5 : ∀ a', a' = a1 ∨ a' = a1.put (some d3) sv → (execOp a'.eval o5).run P { w with drawn := w.drawn + 1 } = .ok (.value v5) (({ w with drawn := w.drawn + 1 } : World).alloc ob))
    (h6 : ∃ v6 w6, (execOp ((a1.put (some d3) sv).put (some d5) v5).eval o6).run P (({ w with drawn := w.drawn + 1 } : World).alloc ob) = .ok (.value v6) w6 ∧ S w6 ∧
      (execOp (((a1.put (some d3) sv).put (some d5) v5).put (some d6) v6).eval o7).run P w6 = .ok (.value v7) w6 ∧
      ∃ w8, (execOp ((((a1.put (some d3) sv).put (some d5) v5).put (some d6) v6).put (some d7) v7).eval o8).run P w6 = .ok .skip w8 ∧ S w8 ∧ Q .normal ((((a1.put (some d3) sv).put (some d5) v5).put (some d6) v6).put (some d7) v7) w8) :
    (Code.region id l.toArray true).wp P Q a w := by
  simp only [Bool.and_eq_true, decide_eq_true_eq] at hB
  obtain ⟨⟨hsel, hp⟩, hsz⟩ := hB
  obtain ⟨hg3, hg5, hg6, hg7, hg8⟩ := hg
  obtain ⟨v6, w6, hr6, hs6, hr7, w8, hr8, hs8, hK⟩ := h6
  refine wp_region_held (S := S) hm ?_
  have fin : ∀ (li : Array Bool), Region.ready .any l.toArray li = [c6] → Region.ready .any l.toArray (li.setIfInBounds c6 true) = [c7] → Region.ready .any l.toArray ((li.setIfInBounds c6 true).setIfInBounds c7 true) = [c8] → Region.ready .any l.toArray (((li.setIfInBounds c6 true).setIfInBounds c7 true).setIfInBounds c8 true) = [] →
      wpAnyH P .any l.toArray Q S 3 li ((a1.put (some d3) sv).put (some d5) v5) (({ w with drawn := w.drawn + 1 } : World).alloc ob) := by
    intro li r0 r1 r2 r3
    refine wpAnyH_all r0 (by simp) fun i hi => ?_
    obtain rfl : i = c6 := by simpa using hi
    refine op_value ho6 hg6 hr6 ⟨hs6, ?_⟩
    rw [hd6]
    refine wpAnyH_all r1 (by simp) fun i hi => ?_
    obtain rfl : i = c7 := by simpa using hi
    refine op_value ho7 hg7 hr7 ⟨hs6, ?_⟩
    rw [hd7]
    refine wpAnyH_all r2 (by simp) fun i hi => ?_
    obtain rfl : i = c8 := by simpa using hi
    refine op_skip ho8 hg8 hr8 ⟨hs8, wpAnyH_done r3 ?_ _⟩
    rw [hd8]
    exact hK
  have key := wpAnyH_of_heldg (Q := Q) (S := S) (w := { w with drawn := w.drawn + 1 }) (k := appN .any l.toArray c3 c5 c6 c7 c8) (K := fun a' => a' = a1) (g := 5) hsel hQ hS0
    (fun li a' hk ha' => ?_) hd (Array.replicate l.toArray.size false) a hp hread
  · rw [hsz] at key; exact key
  subst ha'
  simp only [appN, Bool.and_eq_true, decide_eq_true_eq] at hk
  obtain ⟨⟨⟨⟨⟨⟨⟨⟨⟨⟨r0, r1⟩, r2⟩, r3⟩, r4⟩, r5⟩, r6⟩, r7⟩, r8⟩, r9⟩, r10⟩ := hk
  refine wpAnyH_all r0 (by simp) fun i hi => ?_
  rcases List.mem_cons.1 hi with rfl | hi
  · refine op_value ho3 hg3 (h3 _ (Or.inl rfl) _ (Or.inl rfl)) ⟨hS0, wpAnyH_all r1 (by simp) fun j hj => ?_⟩
    obtain rfl : j = c5 := by simpa using hj
    rw [hd3]
    refine op_value ho5 hg5 (h5 _ (Or.inr rfl)) ⟨hS5, ?_⟩
    rw [hd5]
    exact fin _ r3 r5 r7 r9
  · obtain rfl : i = c5 := by simpa using hi
    refine op_value ho5 hg5 (h5 _ (Or.inl rfl)) ⟨hS5, wpAnyH_all r2 (by simp) fun j hj => ?_⟩
    obtain rfl : j = c3 := by simpa using hj
    rw [hd5]
    refine op_value ho3 hg3 (h3 _ (Or.inr rfl) _ (Or.inr rfl)) ⟨hS5, ?_⟩
    rw [hd3, Act.put_comm _ _ _ (by simpa using hne)]
    exact fin _ r4 r6 r8 r10
theorem run_op_append {o : Oper} {a : Act} (s x : Operand) (t : TypeId)
    (ho : o.op = .call { callee := .builtin .append, args := #[s, x], argTypes := #[t, t] })
    (base : Nat) (e : TypeId) (i : TypeInfo) (z : Value) (size bytes : Nat) (ht : P.underlying t = some (.slice e)) (hi : P.info? e = some i) (hz : i.zero = some z)
    (hsize : i.size = size) (hby : i.bytes = bytes) (hzs : z.cells.size = size) (hsz : 0 < size)
    (v : Value) (n : Nat) (xs : List Value) (hs : a.eval s = v) (hown : w.ownsRow base e size v n xs)
    (ad : Addr) (m c : Nat) (news : List Value) (hx : a.eval x = .slice (some ad) m c) (hl : news.length = m * size) (hnews : ∀ j u, news[j]? = some u → w.cell? (ad.add j) = some u) (h1 : ∀ u ∈ news, u.oneCell' = true)
    (h63 : n + m ≤ maxLen) (hbytes : (n + m) * bytes ≤ 140737488355328) (hbase : base ≤ w.heap.size) :
    ∃ v' w', (execOp a.eval o).run P w = .ok (.value v') w' ∧ w'.ownsRow base e size v' (n + m) (xs ++ news) ∧ w.grownBy w' v.ownBlock ∧ (v'.ownBlock = v.ownBlock ∨ v'.ownBlock = some w.heap.size) := by
  obtain ⟨v', w', hr, h2, h3, h4, h5⟩ := run_append_own_at (P := P) w base t o.type e i z size bytes ht hi hz hsize hby hzs hsz v n xs hown ad m c news hl hnews h1 h63 hbytes hbase
  refine ⟨v', w', ?_, h2, h3, h5⟩
  unfold execOp
  simp only [ho, resolve, invoke, builtin, Sem.run_bind, Sem.run_pure, Result.andThen_ok, List.map_toArray, List.map_cons, List.map_nil, hs, hx, hr]
theorem app_mk {K : Value → World → Prop} {o : Oper} {a : Act} (s x : Operand) (t : TypeId)
    (ho : o.op = .call { callee := .builtin .append, args := #[s, x], argTypes := #[t, t] })
    (base : Nat) (e : TypeId) (i : TypeInfo) (z : Value) (size bytes : Nat) (ht : P.underlying t = some (.slice e)) (hi : P.info? e = some i) (hz : i.zero = some z)
    (hsize : i.size = size) (hby : i.bytes = bytes) (hzs : z.cells.size = size) (hsz : 0 < size)
    (v : Value) (n : Nat) (xs : List Value) (hs : a.eval s = v) (hown : w.ownsRow base e size v n xs)
    (ad : Addr) (m c : Nat) (news : List Value) (hx : a.eval x = .slice (some ad) m c) (hl : news.length = m * size) (hnews : ∀ j u, news[j]? = some u → w.cell? (ad.add j) = some u) (h1 : ∀ u ∈ news, u.oneCell' = true)
    (h63 : n + m ≤ maxLen) (hbytes : (n + m) * bytes ≤ 140737488355328) (hbase : base ≤ w.heap.size)
    (hK : ∀ v' w', w'.ownsRow base e size v' (n + m) (xs ++ news) → w.grownBy w' v.ownBlock → (v'.ownBlock = v.ownBlock ∨ v'.ownBlock = some w.heap.size) → K v' w') :
    ∃ v' w', (execOp a.eval o).run P w = .ok (.value v') w' ∧ K v' w' := by
  obtain ⟨v', w', h1, h2, h3, h4⟩ := run_op_append (P := P) s x t ho base e i z size bytes ht hi hz hsize hby hzs hsz v n xs hs hown ad m c news hx hl hnews h1 h63 hbytes hbase
  exact ⟨v', w', h1, hK v' w' h2 h3 h4⟩
end
end BB
end
