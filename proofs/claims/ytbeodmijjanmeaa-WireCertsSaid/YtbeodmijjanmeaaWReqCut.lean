/-
  The cut of a request; what reads one.
-/
import Derived.Test.YtbeodmijjanmeaaWTextCut
open Go Go.RowKit
namespace WW
open BB
theorem order_cons {P : Program} {E : World → Prop} {Q : Bool → ByteArray → World → Prop} {v : Value} {vs : List Value} {t n : Nat} {W w : World} {δ : Type} {Sp : ByteArray → Option (ByteArray × δ)} {eff : δ → (Nat → Value) → Nat → Value} {f : Nat → Value} {b : ByteArray}
    (h : CutTo P t n v W Sp eff) (hb : b.size ≤ 1000000) (hk : Keep t W w) (ht : Blk w t n f) (hE : ∀ w', Keep t w w' → E w')
    (hno : Sp b = none → ∀ f' w', Cell1 t n f' w w' → Q false ⟨#[]⟩ w') (hyes : ∀ r d, Sp b = some (r, d) → ∀ w', Cell1 t n (eff d f) w w' → OrderWp P E Q vs r w') : OrderWp P E Q (v :: vs) b w := by
  refine (h f b w hb hk ht).mono fun ok r w' he => ?_
  unfold Eff at he
  rcases hs : Sp b with _ | ⟨r', d⟩
  · rw [hs] at he
    obtain ⟨rfl, f', hc⟩ := he
    exact ⟨hE w' hc.1, hno hs f' w' hc⟩
  · rw [hs] at he
    obtain ⟨rfl, rfl, hc⟩ := he
    exact ⟨hE w' hc.1, hyes _ d hs w' hc⟩
theorem numSp_size {lo hi : Int} {b r : ByteArray} {d : Nat} (h : numSp lo hi b = some (r, d)) : r.size ≤ b.size := by
  unfold numSp at h
  split at h
  · cases h
  · split at h
    · cases h
    · injection h with h; injection h with h1 h2; rw [← h1]; simp
theorem bytesSp_size {N : Nat} {b r d : ByteArray} (h : bytesSp N b = some (r, d)) : r.size ≤ b.size := by
  unfold bytesSp at h
  split at h
  · cases h
  · injection h with h; injection h with h1 h2; rw [← h1]; simp
theorem textSp_size {fits : Nat → Bool} {b r d : ByteArray} (h : textSp fits b = some (r, d)) : r.size ≤ b.size := by
  unfold textSp at h
  rcases hn : numSp 0 2147483647 b with _ | ⟨r1, N⟩
  · rw [hn] at h; cases h
  · rw [hn] at h
    dsimp only at h
    split at h
    · exact Nat.le_trans (bytesSp_size h) (numSp_size hn)
    · cases h
/-- a request -/
def reqSp (b : ByteArray) : Option (ByteArray × (Nat × Nat × ByteArray)) :=
  match numSp 0 3 b with
  | none => none
  | some (r1, c) =>
    match numSp 1 2147483647 r1 with
    | none => none
    | some (r2, q) =>
      match textSp (fun d => decide (d ≤ 40)) r2 with
      | none => none
      | some (r3, s) => some (r3, (c, q, s))
def putReq (o : Nat) (d : Nat × Nat × ByteArray) (f : Nat → Value) : Nat → Value := putS (o + 2) d.2.2 (putN (o + 1) d.2.1 (putN o d.1 f))
theorem InRow_keep {w w' : World} {t gc : Nat} {l : List Value} (h : ∀ i, i < l.length → w.cell? ⟨gc, i, none⟩ = some (l.getD i .nilFunc)) (hg : gc ≠ t) (hl : gc < w.heap.size) (hk : Keep t w w') : ∀ i, i < l.length → w'.cell? ⟨gc, i, none⟩ = some (l.getD i .nilFunc) :=
  fun i hi => (World.cell?_of_block (w := w) (hk.block gc hl hg)).trans (h i hi)
end WW
namespace Go.Proofs.Ytbeodmijjanmeaa
open WW BB
theorem own_order : Own Try.prog 85 := ⟨_, Try.func85, by kernel_rfl, by kernel_rfl⟩
theorem own_atmost : Own Try.prog 88 := ⟨_, Try.func88, by kernel_rfl, by kernel_rfl⟩
set_option maxRecDepth 100000 in
theorem mk_text (t o n : Nat) (k : Nat) (env : Array Value) (fits : Nat → Bool) (w : World) (ho : o < n) (ht : t < w.heap.size) (hf : FitsV Try.prog t (.func (.func k) #[] env) w fits) :
    Calls Try.prog 67 #[.pointer (some ⟨t, o, none⟩), .func (.func k) #[] env] w (Makes Try.prog t n w (textSp fits) (putS o)) := by
  have HO := Lib.hid ho
  have HT := Lib.hid ht
  have HF := Lib.hid hf
  clear ho ht hf
  go_enter Try.func67, Try.ntmps67
  go_wp2_with fail
  go_ret
  have b1 := (Below.refl w.heap.size w).alloc (Nat.le_refl _) (.cells #[.pointer (some ⟨t, o, none⟩)] 94)
  have b2 := b1.alloc b1.size (.cells #[.func (.func k) #[] env] 95)
  have := HT.out
  refine ⟨_, _, rfl, b2, fun f b wx hb hk hx => ⟨_, _, rfl, own_text, ?_⟩⟩
  refine text_walk t n o (w.heap.size + 1) w.heap.size _ fits w f b wx HO.out hb ((keep_of_below b2 (Nat.le_refl _) t).trans hk) hx HF.out ?_ ?_
  · exact keep_cell2 (cell_at _ _ _ _ (by simp)) (by omega) hk
  · exact keep_cell2 (cell_old (cell_at _ _ _ _ rfl)) (by omega) hk
set_option maxRecDepth 100000 in
theorem atmost_call (d : Nat) (p : Nat) (m : Int) (w : World) (hp : w.cell? ⟨p, 0, none⟩ = some (.int .i64 m)) :
    Calls Try.prog 88 #[.int .i64 (d : Int), .pointer (some ⟨p, 0, none⟩)] w fun e w' => e = .returned (.bool (decide ((d : Int) ≤ m))) ∧ w = w' := by
  go_enter Try.func88, Try.ntmps88
  go_wp2_with fail
  go_ret
  exact ⟨rfl, rfl⟩
/-- a closure that tells whether a length fits is made -/
def MakesFit (P : Program) (t : Nat) (w : World) (fits : Nat → Bool) (e : Ending) (w' : World) : Prop := ∃ k env, e = .returned (.func (.func k) #[] env) ∧ Below w.heap.size w w' ∧ FitsV P t (.func (.func k) #[] env) w' fits
set_option maxRecDepth 100000 in
theorem mk_atmost (t m : Nat) (w : World) (ht : t < w.heap.size) :
    Calls Try.prog 68 #[.int .i64 (m : Int)] w (MakesFit Try.prog t w fun d => decide (d ≤ m)) := by
  have HT := Lib.hid ht
  clear ht
  go_enter Try.func68, Try.ntmps68
  go_wp2_with fail
  go_ret
  have b1 := (Below.refl w.heap.size w).alloc (Nat.le_refl _) (.cells #[.int .i64 (m : Int)] 3)
  have := HT.out
  refine ⟨_, _, rfl, b1, fun d wx hk => ⟨_, _, rfl, own_atmost, ?_⟩⟩
  refine (atmost_call d w.heap.size m wx (keep_cell2 (cell_at _ _ _ _ rfl) (by omega) hk)).mono ?_
  rintro e w' ⟨rfl, rfl⟩
  exact ⟨by rw [show decide ((d : Int) ≤ (m : Int)) = decide (d ≤ m) by rw [decide_eq_decide]; omega], Below.refl _ _⟩
set_option maxRecDepth 100000 in
theorem mk_order (gc len cap : Nat) (w : World) :
    Calls Try.prog 65 #[.slice (some ⟨gc, 0, none⟩) len cap] w fun e w' => e = .returned (.func (.func 85) #[] #[.pointer (some ⟨w.heap.size, 0, none⟩)]) ∧ Below w.heap.size w w' ∧ w'.cell? ⟨w.heap.size, 0, none⟩ = some (.slice (some ⟨gc, 0, none⟩) len cap) := by
  go_enter Try.func65, Try.ntmps65
  go_wp2_with fail
  go_ret
  exact ⟨rfl, (Below.refl w.heap.size w).alloc (Nat.le_refl _) _, cell_at _ _ _ _ rfl⟩
theorem req_to (t o n gc bx cap : Nat) (W : World) {v1 v2 v3 : Value} (h1 : CutTo Try.prog t n v1 W (numSp 0 3) (putN o)) (h2 : CutTo Try.prog t n v2 W (numSp 1 2147483647) (putN (o + 1)))
    (h3 : CutTo Try.prog t n v3 W (textSp fun d => decide (d ≤ 40)) (putS (o + 2))) (hE : InRow gc [v1, v2, v3] W) (hb : W.cell? ⟨bx, 0, none⟩ = some (.slice (some ⟨gc, 0, none⟩) 3 cap)) (gt : gc ≠ t) (gl : gc < W.heap.size) (bt : bx ≠ t) :
    CutTo Try.prog t n (.func (.func 85) #[] #[.pointer (some ⟨bx, 0, none⟩)]) W reqSp (putReq o) := by
  intro f b w hs hk ht
  refine ⟨_, _, rfl, own_order, ?_⟩
  refine order_any [v1, v2, v3] bx gc cap _ b w (by simp) (keep_cell2 hb bt hk) (InRow_keep hE gt gl hk) ?_
  have hEk : ∀ w1, Keep t w w1 → InRow gc [v1, v2, v3] w1 := fun w1 h1 => InRow_keep hE gt gl (hk.trans h1)
  unfold reqSp
  refine order_cons h1 hs hk ht hEk (fun hno f' w1 c1 => ?_) (fun r1 d1 hy1 w1 c1 => ?_)
  · rw [hno]; exact ⟨rfl, f', c1⟩
  rw [hy1]
  have s1 := numSp_size hy1
  refine order_cons h2 (by omega) (hk.trans c1.1) c1.2 (fun w2 h2 => hEk w2 (c1.1.trans h2)) (fun hno f' w2 c2 => ?_) (fun r2 d2 hy2 w2 c2 => ?_)
  · dsimp only; rw [hno]; exact ⟨rfl, f', c1.1.trans c2.1, c2.2⟩
  dsimp only
  rw [hy2]
  have s2 := numSp_size hy2
  refine order_cons h3 (by omega) (hk.trans (c1.1.trans c2.1)) c2.2 (fun w3 h3 => hEk w3 ((c1.1.trans c2.1).trans h3)) (fun hno f' w3 c3 => ?_) (fun r3 d3 hy3 w3 c3 => ?_)
  · dsimp only; rw [hno]; exact ⟨rfl, f', (c1.1.trans c2.1).trans c3.1, c3.2⟩
  dsimp only
  rw [hy3]
  exact ⟨rfl, rfl, (c1.1.trans c2.1).trans c3.1, c3.2⟩
set_option maxRecDepth 100000 in
set_option maxHeartbeats 2000000 in
theorem mk_request (t o n : Nat) (w : World) (ho : o + 2 < n) (ht : t < w.heap.size) :
    Calls Try.prog 40 #[.pointer (some ⟨t, o, none⟩)] w (Makes Try.prog t n w reqSp (putReq o)) := by
  have HO := Lib.hid ho
  have HT := Lib.hid ht
  clear ho ht
  go_enter Try.func40, Try.ntmps40
  go_wp2_with fail
  have z0 : t < w.drew.heap.size := HT.out
  go_region_held3 (fun w' => t < w'.heap.size) (first | assumption | exact hk | (simp; omega))
    (first
      | (go_at_call 66; (fail_if_success have hx := HV1); refine (mk_num t _ n _ _ _ (by have := HO.out; omega) (by assumption)).mono ?_; rintro e w1 ⟨k1, env1, rfl, hb1, hv1⟩; have hk := Nat.lt_of_lt_of_le (by assumption : t < _) hb1.size; have HB1 := Lib.hid hb1; have HV1 := Lib.hid hv1; clear hb1 hv1)
      | (go_at_call 66; refine (mk_num t _ n _ _ _ (by have := HO.out; omega) (by assumption)).mono ?_; rintro e w2 ⟨k2, env2, rfl, hb2, hv2⟩; have hk := Nat.lt_of_lt_of_le (by assumption : t < _) hb2.size; have HB2 := Lib.hid hb2; have HV2 := Lib.hid hv2; clear hb2 hv2)
      | (go_at_call 68; refine (mk_atmost t 40 _ (by assumption)).mono ?_; rintro e w3 ⟨k3, env3, rfl, hb3, hv3⟩; have hk := Nat.lt_of_lt_of_le (by assumption : t < _) hb3.size; have HB3 := Lib.hid hb3; have HV3 := Lib.hid hv3; clear hb3 hv3)
      | (go_at_call 67; refine (mk_text t _ n _ _ _ _ (by have := HO.out; omega) (by assumption) HV3.out).mono ?_; rintro e w4 ⟨k4, env4, rfl, hb4, hv4⟩; have hk := Nat.lt_of_lt_of_le (by assumption : t < _) hb4.size; have HB4 := Lib.hid hb4; have HV4 := Lib.hid hv4; clear hb4 hv4)
      | (go_at_call 65; refine (mk_order _ _ _ _).mono ?_; rintro e w5 ⟨rfl, hb5, hv5⟩; have hk := Nat.lt_of_lt_of_le (by assumption : t < _) hb5.size; have HB5 := Lib.hid hb5; have HV5 := Lib.hid hv5; clear hb5 hv5))
  have B4 := HB4.out
  obtain ⟨W4, hW4⟩ : ∃ W4, W4 = w4.alloc (.cells #[.func (.func k1) #[] env1, .func (.func k2) #[] env2, .func (.func k4) #[] env4] 88) := ⟨_, rfl⟩
  rw [← hW4] at HB5 HV5
  have z4 : W4.heap.size = w4.heap.size + 1 := by rw [hW4]; simp
  have b4 : Below w4.heap.size w4 W4 := by rw [hW4]; exact (Below.refl _ _).alloc (Nat.le_refl _) _
  have hrow : InRow w4.heap.size [.func (.func k1) #[] env1, .func (.func k2) #[] env2, .func (.func k4) #[] env4] W4 := by
    rw [hW4]
    intro i hi
    match i, hi with
    | 0, _ => exact cell_new _ _ _ _ _ rfl
    | 1, _ => exact cell_new _ _ _ _ _ rfl
    | 2, _ => exact cell_new _ _ _ _ _ rfl
  have t4 : t < w4.heap.size := Nat.lt_of_lt_of_le HT.out (Nat.le_trans HB1.out.size (Nat.le_trans HB2.out.size (Nat.le_trans HB3.out.size HB4.out.size)))
  have k5 : Keep t W4 w5 := keep_of_below HB5.out (Nat.le_refl _) t
  have k4' : Keep t w4 w5 := (keep_of_below b4 (Nat.le_refl _) t).trans k5
  have k3' : Keep t w3 w5 := (keep_of_below HB4.out (Nat.le_refl _) t).trans k4'
  have k2' : Keep t w2 w5 := (keep_of_below HB3.out (Nat.le_refl _) t).trans k3'
  have k1' : Keep t w1 w5 := (keep_of_below HB2.out (Nat.le_refl _) t).trans k2'
  have hto := Lib.hid (req_to t o n w4.heap.size W4.heap.size 3 w5 (HV1.out.later k1') (HV2.out.later k2') (HV4.out.later k4') (InRow_keep hrow (by omega) (by omega) k5) HV5.out (by omega) (by have := HB5.out.size; omega) (by omega))
  have hbel : Hid (Below w.heap.size w w5) := by
    have e0 : Below w.heap.size w w.drew := (Below.refl _ _).drew
    have e1 := e0.trans HB1.out
    have e2 := e1.trans (HB2.out.mono e1.size)
    have e3 := e2.trans (HB3.out.mono e2.size)
    have e4 := e3.trans (HB4.out.mono e3.size)
    have e5 := e4.trans (b4.mono e4.size)
    exact e5.trans (HB5.out.mono e5.size)
  rw [z4] at hto
  clear hrow k5 k4' k3' k2' k1' hW4 b4 B4
  go_wp2_with fail
  go_ret
  exact ⟨_, _, rfl, hbel.out, hto.out⟩
end Go.Proofs.Ytbeodmijjanmeaa
