/-
  The walk of the reference's RightBlock.
-/
import Derived.Test.YtigoaokpodggcaaDoorKWReqMath
import Derived.Test.YtigoaokpodggcaaDoorKWList
import Derived.Deep.RegionHeld3
import Derived.Test.YtigoaokpodggcaaDoorKLOpen
import Derived.OrdersHeld
section
open Go Go.RowKit
namespace WW
open BB
theorem num_nat (n : Nat) (h : n ≤ 2147483647) : num (n : Int) = be4 n := by
  unfold num; rw [if_neg (by omega)]; rfl
/-- a text, its length below a bound -/
def textG (hi : Int) (fits : Nat → Bool) (b : ByteArray) : Option (ByteArray × ByteArray) :=
  match numSp 0 hi b with
  | none => none
  | some (r, N) => if fits N then bytesSp N r else none
theorem textG_some (hi : Int) (fits : Nat → Bool) (b : ByteArray) {r : ByteArray} {N : Nat} (h : numSp 0 hi b = some (r, N)) : textG hi fits b = if fits N = true then bytesSp N r else none := by unfold textG; rw [h]
theorem textSp_G (fits : Nat → Bool) (b : ByteArray) : textSp fits b = textG 2147483647 fits b := rfl
theorem textG_put (hi : Int) (fits : Nat → Bool) (s r : ByteArray) (hs : (s.size : Int) ≤ hi) (h32 : s.size < 4294967296) (hn : num (s.size : Int) = be4 s.size) : textG hi fits (txt s ++ r) = if fits s.size = true then some (r, s) else none := by
  have h1 : numSp 0 hi (be4 s.size ++ (s ++ r)) = some (s ++ r, s.size) := by rw [numSp_put _ _ _ h32, if_neg (by omega)]
  have e : txt s ++ r = be4 s.size ++ (s ++ r) := by unfold txt; rw [hn, ByteArray.append_assoc]
  rw [e, textG_some hi fits _ h1, bytesSp_put]
theorem textG_sound {hi : Int} {fits : Nat → Bool} {b r s : ByteArray} (h : textG hi fits b = some (r, s)) : b = be4 s.size ++ s ++ r ∧ fits s.size = true ∧ (s.size : Int) ≤ hi := by
  unfold textG at h
  rcases hn : numSp 0 hi b with _ | ⟨r1, N⟩
  · rw [hn] at h; cases h
  · rw [hn] at h
    dsimp only at h
    split at h
    · rename_i hf
      obtain ⟨e1, e2⟩ := bytesSp_sound h
      obtain ⟨f1, f2, f3⟩ := numSp_sound hn
      subst e2
      exact ⟨by rw [f1, e1, ByteArray.append_assoc], hf, f3⟩
    · cases h
theorem textSp_put (fits : Nat → Bool) (s r : ByteArray) (hs : s.size ≤ 2147483647) : textSp fits (txt s ++ r) = if fits s.size = true then some (r, s) else none := by
  rw [textSp_G]; exact textG_put _ fits s r (by omega) (by omega) (num_nat _ hs)
theorem textSp_sound {fits : Nat → Bool} {b r s : ByteArray} (h : textSp fits b = some (r, s)) : b = txt s ++ r ∧ fits s.size = true ∧ s.size ≤ 2147483647 := by
  rw [textSp_G] at h
  obtain ⟨h1, h2, h3⟩ := textG_sound h
  have h4 : s.size ≤ 2147483647 := by omega
  exact ⟨by rw [h1, txt, num_nat _ h4], h2, h4⟩
/-- a right request -/
def rightR (c q : Int) (s : ByteArray) : Prop := 0 ≤ c ∧ c < 4 ∧ 1 ≤ q ∧ q ≤ 2147483647 ∧ s.size ≤ 40
/-- a request, its number below a bound -/
def reqG (hi : Int) (tx : ByteArray → Option (ByteArray × ByteArray)) (b : ByteArray) : Option (ByteArray × (Nat × Nat × ByteArray)) :=
  match numSp 0 3 b with
  | none => none
  | some (r1, c) =>
    match numSp 1 hi r1 with
    | none => none
    | some (r2, q) =>
      match tx r2 with
      | none => none
      | some (r3, s) => some (r3, (c, q, s))
theorem reqG_some (hi : Int) (tx : ByteArray → Option (ByteArray × ByteArray)) (b r1 r2 r3 s : ByteArray) (c q : Nat) (h1 : numSp 0 3 b = some (r1, c)) (h2 : numSp 1 hi r1 = some (r2, q)) (h3 : tx r2 = some (r3, s)) : reqG hi tx b = some (r3, (c, q, s)) := by
  unfold reqG
  rw [h1]
  dsimp only
  rw [h2]
  dsimp only
  rw [h3]
theorem reqSp_G (b : ByteArray) : reqSp b = reqG 2147483647 (textSp fun d => decide (d ≤ 40)) b := rfl
theorem reqG_put (hi : Int) (tx : ByteArray → Option (ByteArray × ByteArray)) (c q : Nat) (x s r : ByteArray) (h1 : c ≤ 3) (h2 : 1 ≤ q) (h3 : (q : Int) ≤ hi) (h4 : q < 4294967296) (h5 : tx (x ++ r) = some (r, s)) : reqG hi tx (be4 c ++ (be4 q ++ (x ++ r))) = some (r, (c, q, s)) := by
  have e1 : numSp 0 3 (be4 c ++ (be4 q ++ (x ++ r))) = some (be4 q ++ (x ++ r), c) := by rw [numSp_put _ _ _ (by omega), if_neg (by omega)]
  have e2 : numSp 1 hi (be4 q ++ (x ++ r)) = some (x ++ r, q) := by rw [numSp_put _ _ _ h4, if_neg (by omega)]
  exact reqG_some hi tx _ _ _ _ _ _ _ e1 e2 h5
theorem reqG_sound {hi : Int} {tx : ByteArray → Option (ByteArray × ByteArray)} {b r : ByteArray} {c q : Nat} {s : ByteArray} (h : reqG hi tx b = some (r, (c, q, s))) : ∃ r2, b = be4 c ++ (be4 q ++ r2) ∧ c ≤ 3 ∧ 1 ≤ q ∧ (q : Int) ≤ hi ∧ tx r2 = some (r, s) := by
  unfold reqG at h
  rcases h1 : numSp 0 3 b with _ | ⟨r1, c1⟩
  · rw [h1] at h; cases h
  rw [h1] at h
  dsimp only at h
  rcases h2 : numSp 1 hi r1 with _ | ⟨r2, q2⟩
  · rw [h2] at h; cases h
  rw [h2] at h
  dsimp only at h
  rcases h3 : tx r2 with _ | ⟨r3, s3⟩
  · rw [h3] at h; cases h
  rw [h3] at h
  simp only [Option.some.injEq, Prod.mk.injEq] at h
  obtain ⟨rfl, rfl, rfl, rfl⟩ := h
  obtain ⟨a1, a2, a3⟩ := numSp_sound h1
  obtain ⟨b1, b2, b3⟩ := numSp_sound h2
  exact ⟨r2, by rw [a1, b1], by omega, by omega, b3, h3⟩
theorem reqSp_put (c q : Nat) (s r : ByteArray) (h : rightR c q s) : reqSp (reqB c q s ++ r) = some (r, (c, q, s)) := by
  obtain ⟨h1, h2, h3, h4, h5⟩ := h
  have e : reqB (c : Int) q s ++ r = be4 c ++ (be4 q ++ (txt s ++ r)) := by
    unfold reqB; rw [num_nat c (by omega), num_nat q (by omega), ByteArray.append_assoc, ByteArray.append_assoc]
  have t1 : textSp (fun d => decide (d ≤ 40)) (txt s ++ r) = some (r, s) := (textSp_put (fun d => decide (d ≤ 40)) s r (by omega)).trans (if_pos (by simpa using h5))
  rw [e]
  exact (reqSp_G _).trans (reqG_put 2147483647 (textSp fun d => decide (d ≤ 40)) c q (txt s) s r (by omega) (by omega) h4 (by omega) t1)
theorem reqSp_sound {b r : ByteArray} {c q : Nat} {s : ByteArray} (h : reqSp b = some (r, (c, q, s))) : b = reqB c q s ++ r ∧ rightR c q s := by
  rw [reqSp_G] at h
  obtain ⟨r2, e1, h1, h2, h3, h4⟩ := reqG_sound h
  obtain ⟨d1, d2, d3⟩ := textSp_sound h4
  have d2 : s.size ≤ 40 := by simpa using d2
  refine ⟨?_, by omega, by omega, by omega, h3, d2⟩
  rw [e1, d1, reqB, num_nat c (by omega), num_nat q (by omega), ByteArray.append_assoc, ByteArray.append_assoc]
theorem reqRd_some {b r : ByteArray} {d : Nat × Nat × ByteArray} (h : reqSp b = some (r, d)) (h0 : r.size = 0) : reqRd b = some d := by unfold reqRd; rw [h]; exact if_pos h0
theorem reqRd_put (c q : Nat) (s : ByteArray) (h : rightR c q s) : reqRd (reqB c q s) = some (c, q, s) := by
  have := reqSp_put c q s ⟨#[]⟩ h
  rw [show reqB (c : Int) q s ++ ⟨#[]⟩ = reqB c q s from ba_ext (by simp)] at this
  exact reqRd_some this rfl
theorem reqRd_sound {b : ByteArray} {c q : Nat} {s : ByteArray} (h : reqRd b = some (c, q, s)) : b = reqB c q s ∧ rightR c q s := by
  unfold reqRd at h
  rcases h1 : reqSp b with _ | ⟨r, d⟩
  · rw [h1] at h; cases h
  rw [h1] at h
  dsimp only at h
  split at h
  · rename_i h0
    injection h with h
    subst h
    obtain ⟨e1, e2⟩ := reqSp_sound h1
    refine ⟨?_, e2⟩
    rw [e1, nil_size r h0]
    exact ba_ext (by simp)
  · cases h
end WW
end
section
open Go Go.RowKit
namespace WW
open BB
/-- v is a slice of requests -/
def ReqsAt (w : World) (v : Value) (l : List (Int × Int × ByteArray)) : Prop :=
  ∃ a0 cap, v = .slice a0 l.length cap ∧ (l = [] ∨ ∃ b off, a0 = some ⟨b, off, none⟩ ∧ b < w.heap.size ∧
    ∀ i, i < l.length → w.cell? ⟨b, off + i * 3, none⟩ = some (.int .i64 (l.getD i (0, 0, ⟨#[]⟩)).1) ∧ w.cell? ⟨b, off + i * 3 + 1, none⟩ = some (.int .i64 (l.getD i (0, 0, ⟨#[]⟩)).2.1) ∧ w.cell? ⟨b, off + i * 3 + 2, none⟩ = some (.string (l.getD i (0, 0, ⟨#[]⟩)).2.2))
theorem ReqsAt.later {w w' : World} {v : Value} {l : List (Int × Int × ByteArray)} (h : ReqsAt w v l) (hb : Below w.heap.size w w') : ReqsAt w' v l := by
  obtain ⟨a0, cap, rfl, h | ⟨b, off, rfl, hl, hc⟩⟩ := h
  · exact ⟨a0, cap, rfl, Or.inl h⟩
  · refine ⟨_, cap, rfl, Or.inr ⟨b, off, rfl, Nat.lt_of_lt_of_le hl hb.size, fun i hi => ?_⟩⟩
    obtain ⟨h1, h2, h3⟩ := hc i hi
    exact ⟨(hb.cell (p := ⟨b, off + i * 3, none⟩) hl).trans h1, (hb.cell (p := ⟨b, off + i * 3 + 1, none⟩) hl).trans h2, (hb.cell (p := ⟨b, off + i * 3 + 2, none⟩) hl).trans h3⟩
/-- the requests' bytes -/
def reqsB (l : List (Int × Int × ByteArray)) : List ByteArray := l.map fun p => reqB p.1 p.2.1 p.2.2
end WW
namespace Go.Proofs.YtigoaokpodggcaaDoor
open WW BB
end Go.Proofs.YtigoaokpodggcaaDoor
end
section
open Go Go.RowKit
namespace WW
open BB
/-- a certificate's bytes -/
def certB (v : Int) (k : ByteArray) (l : List (Int × List ByteArray)) : ByteArray := num v ++ k ++ listB (sigsB l)
/-- a block's bytes -/
def blockB (v p cv : Int) (k : ByteArray) (l : List (Int × List ByteArray)) (m : List (Int × Int × ByteArray)) : ByteArray := num v ++ num p ++ certB cv k l ++ listB (reqsB m)
/-- signatures of a size that is looked at -/
def SmallS (l : List (Int × List ByteArray)) : Prop := l.length ≤ 1000 ∧ (flat (sigsB l)).length ≤ 500000 ∧ ∀ i, i < l.length → (flat (l.getD i (0, [])).2).length ≤ 500000 ∧ (l.getD i (0, [])).2.length ≤ 1000
def SmallR (l : List (Int × Int × ByteArray)) : Prop := l.length ≤ 1000 ∧ (flat (reqsB l)).length ≤ 500000 ∧ ∀ i, i < l.length → (l.getD i (0, 0, ⟨#[]⟩)).2.2.size ≤ 500000
theorem certB_size (v : Int) (k : ByteArray) (l : List (Int × List ByteArray)) : (certB v k l).size = 8 + k.size + (flat (sigsB l)).length := by
  simp only [certB, ByteArray.size_append, num_size, flat_size]; omega
theorem keep6 {w W w1 : World} {g : Nat} {v0 v1 v2 v3 v4 v5 : Value} {B : Nat} (h : W.cell? ⟨g, 0, none⟩ = some v0 ∧ W.cell? ⟨g, 1, none⟩ = some v1 ∧ W.cell? ⟨g, 2, none⟩ = some v2 ∧ W.cell? ⟨g, 3, none⟩ = some v3 ∧ W.cell? ⟨g, 4, none⟩ = some v4 ∧ W.cell? ⟨g, 5, none⟩ = some v5 ∧ Below B w W ∧ B ≤ W.heap.size) (hb : Below W.heap.size W w1) :
    w1.cell? ⟨g, 0, none⟩ = some v0 ∧ w1.cell? ⟨g, 1, none⟩ = some v1 ∧ w1.cell? ⟨g, 2, none⟩ = some v2 ∧ w1.cell? ⟨g, 3, none⟩ = some v3 ∧ w1.cell? ⟨g, 4, none⟩ = some v4 ∧ w1.cell? ⟨g, 5, none⟩ = some v5 ∧ Below B w w1 ∧ B ≤ w1.heap.size := by
  obtain ⟨h0, h1, h2, h3, h4, h5, h6, h7⟩ := h
  have hl := World.block_lt_of_cell? W _ h0
  exact ⟨(hb.cell (p := ⟨g, 0, none⟩) hl).trans h0, (hb.cell (p := ⟨g, 1, none⟩) hl).trans h1, (hb.cell (p := ⟨g, 2, none⟩) hl).trans h2, (hb.cell (p := ⟨g, 3, none⟩) hl).trans h3, (hb.cell (p := ⟨g, 4, none⟩) hl).trans h4, (hb.cell (p := ⟨g, 5, none⟩) hl).trans h5, h6.trans (hb.mono h7), Nat.le_trans h7 hb.size⟩
end WW
namespace Go.Proofs.YtigoaokpodggcaaDoor
open WW BB
set_option maxRecDepth 100000 in
set_option maxHeartbeats 2000000 in
theorem cert_any (v : Int) (k : ByteArray) (sv : Value) (l : List (Int × List ByteArray)) (w : World) (hv : SigsAt w sv l) (hk : k.size ≤ 1000000) (hs : SmallS l) :
    Calls Tryd.prog 47 #[.agg #[.int .i64 v, .string k, sv]] w fun e w' => e = .returned (.string (certB v k l)) ∧ Below w.heap.size w w' := by
  have h1 : ¬ 9223372036854775807 < (num v).size + k.size := by rw [num_size]; omega
  have h2 : ¬ 9223372036854775807 < (num v).size + k.size + (listB (sigsB l)).size := by rw [num_size, flat_size]; have := hs.2.1; omega
  have HV := Lib.hid hv
  have HS := Lib.hid hs
  obtain ⟨a0, cap, rfl, hx⟩ := hv
  clear hs hx hk
  go_enter Tryd.func47, Tryd.ntmps47
  go_wp2_with fail
  have c0 := cell_new w #[.int .i64 v, .string k, .slice a0 l.length cap] 24 0 _ rfl
  have c1 := cell_new w #[.int .i64 v, .string k, .slice a0 l.length cap] 24 1 _ rfl
  have c2 := cell_new w #[.int .i64 v, .string k, .slice a0 l.length cap] 24 2 _ rfl
  have b0 : Below w.heap.size w (w.alloc (.cells #[.int .i64 v, .string k, .slice a0 l.length cap] 24)) := (Below.refl _ _).alloc (Nat.le_refl _) _
  generalize w.alloc (.cells #[.int .i64 v, .string k, .slice a0 l.length cap] 24) = w0 at *
  have z0 := b0.size
  obtain ⟨g, hg⟩ : ∃ g, w.heap.size = g := ⟨_, rfl⟩
  rw [hg] at c0 c1 c2 b0 z0 ⊢
  have HG := Lib.hid hg
  clear hg
  have hst := start3 c0 c1 c2 b0 z0
  go_region_held3 (fun w' => w'.cell? ⟨g, 0, none⟩ = some (.int .i64 v) ∧ w'.cell? ⟨g, 1, none⟩ = some (.string k) ∧ w'.cell? ⟨g, 2, none⟩ = some (.slice a0 l.length cap) ∧ Below g w w' ∧ g ≤ w'.heap.size)
    (first | exact hst | exact hk)
    (first
      | (go_at_call 44; refine (number_any _ _).mono ?_; rintro e w1 ⟨rfl, hb1⟩; have hk := keep3 (w := w) (g := g) (v0 := .int .i64 v) (v1 := .string k) (v2 := .slice a0 l.length cap) (B := g) (by assumption) hb1; have HK := Lib.hid hk.2.2.2.1)
      | (go_at_call 64; refine (listsig_any l _ _ (HV.out.later (by rw [HG.out]; exact HK.out)) HS.out.2.1 HS.out.1 HS.out.2.2).mono ?_; rintro e w1 ⟨rfl, hb1⟩; have hk := keep3 (w := w) (g := g) (v0 := .int .i64 v) (v1 := .string k) (v2 := .slice a0 l.length cap) (B := g) (by assumption) hb1))
  go_wp2_with fail
  go_ret
  exact ⟨rfl, by rw [HG.out]; exact hk.2.2.2.1⟩
end Go.Proofs.YtigoaokpodggcaaDoor
end
section
open Go Go.RowKit
namespace WW
open BB
/-- a signature of a size that is looked at -/
def fewSig (ts : List ByteArray) : Bool := (ts.take 20).all (fun t => decide (t.size ≤ 30)) && decide (ts.length ≤ 10)
theorem all_take_snoc {α : Type} (p : α → Bool) (l : List α) (d : α) (i : Nat) (h : i < l.length) : (l.take (i + 1)).all p = ((l.take i).all p && p (l.getD i d)) := by
  rw [List.take_succ_eq_append_getElem h, List.all_append]
  simp [List.getD, List.getElem?_eq_getElem h]
theorem all_take_mono {α : Type} (p : α → Bool) (l : List α) (i j : Nat) (h : i ≤ j) (hf : (l.take i).all p = false) : (l.take j).all p = false := by
  rw [show i = min i j by omega, ← List.take_take] at hf
  rw [List.all_eq_false] at hf ⊢
  obtain ⟨x, hx, hp⟩ := hf
  exact ⟨x, List.mem_of_mem_take hx, hp⟩
end WW
namespace Go.Proofs.YtigoaokpodggcaaDoor
open WW BB
set_option maxRecDepth 100000 in
set_option maxHeartbeats 2000000 in
theorem fewsig_any (f : Int) (tv : Value) (ts : List ByteArray) (w : World) (hv : StrsAt w tv ts) (hn : ts.length ≤ 9223372036854775807) :
    Calls Tryd.prog 14 #[.agg #[.int .i64 f, tv]] w fun e w' => e = .returned (.bool (fewSig ts)) ∧ Below w.heap.size w w' := by
  obtain ⟨X, hX⟩ : ∃ X, fewSig ts = X := ⟨_, rfl⟩
  rw [hX]
  have HX := Lib.hid hX
  have HV := Lib.hid hv
  have HN := Lib.hid hn
  obtain ⟨a0, cap, rfl, hx⟩ := hv
  clear hn hx hX
  go_enter Tryd.func14, Tryd.ntmps14
  go_wp2_with fail
  have c1 := cell_new w #[.int .i64 f, .slice a0 ts.length cap] 35 1 _ rfl
  have b0 : Below w.heap.size w (w.alloc (.cells #[.int .i64 f, .slice a0 ts.length cap] 35)) := (Below.refl _ _).alloc (Nat.le_refl _) _
  generalize w.alloc (.cells #[.int .i64 f, .slice a0 ts.length cap] 35) = w0 at *
  have B0 := Lib.hid b0
  obtain ⟨g, hg⟩ : ∃ g, w.heap.size = g := ⟨_, rfl⟩
  rw [hg] at c1 ⊢
  clear b0 hg
  go_loop [3] (fun v => ∃ i : Nat, i ≤ ts.length ∧ i ≤ 20 ∧ v = .int .i64 (i : Int) ∧ (ts.take i).all (fun t => decide (t.size ≤ 30)) = true) (fun v => ts.length - (intOf v).toNat)
  case atStart => exact ⟨0, Nat.zero_le _, by omega, rfl, rfl⟩
  case round =>
    obtain ⟨i, hi, h20, rfl, hall⟩ := hrel
    have HALL := Lib.hid hall
    have i0 : (0 : Int) ≤ (i : Int) := by omega
    have ib : (i : Int) ≤ 20 := by omega
    clear hall
    by_cases hlt : i < ts.length
    · have hlt' : (i : Int) < (ts.length : Int) := by omega
      by_cases h2 : i < 20
      · have h2' : (i : Int) < 20 := by omega
        obtain ⟨a1, cap1, he, hv | ⟨gb, off, rfl, hbw, hcell⟩⟩ := HV.out
        · rw [hv] at hlt; simp at hlt
        injection he with e1 _ e3
        subst e1 e3
        have hcl := (B0.out.cell (p := ⟨gb, off + i, none⟩) hbw).trans (hcell i hlt)
        have HSN := Lib.hid (all_take_snoc (fun t : ByteArray => decide (t.size ≤ 30)) ts ⟨#[]⟩ i hlt)
        obtain ⟨s, hs⟩ : ∃ s, ts.getD i ⟨#[]⟩ = s := ⟨_, rfl⟩
        rw [hs] at hcl HSN
        have HLT := Lib.hid hlt
        have H2 := Lib.hid h2
        clear hs hlt h2 hi h20 hcell hbw
        by_cases h30 : s.size ≤ 30
        · have t1 : ¬ (30 : Int) < (s.size : Int) := by omega
          have H30 := Lib.hid h30
          clear h30
          go_wp2_with fail
          go_round
          case rel => exact ⟨i + 1, by have := HLT.out; omega, by have := H2.out; omega, by go_num, by rw [HSN.out, HALL.out]; simpa using H30.out⟩
          case measure => have := HLT.out; simp [intOf]; omega
        · have t1 : (30 : Int) < (s.size : Int) := by omega
          have H30 := Lib.hid h30
          clear h30
          go_wp2_with fail
          go_ret
          refine ⟨?_, B0.out⟩
          rw [← HX.out]
          have h1 := HSN.out
          rw [show decide (s.size ≤ 30) = false by simpa using H30.out, Bool.and_false] at h1
          have h2 := all_take_mono _ ts (i + 1) 20 (by have := H2.out; omega) h1
          unfold fewSig
          rw [h2]; rfl
      · obtain rfl : i = 20 := by omega
        have h2' : ¬ ((20 : Nat) : Int) < 20 := by omega
        have H20 := Lib.hid hlt
        clear h2 hi h20 hlt
        have hl10 : ¬ (ts.length : Int) ≤ 10 := by have := H20.out; omega
        go_wp2_with fail
        go_ret
        refine ⟨?_, B0.out⟩
        rw [← HX.out]
        unfold fewSig
        rw [show decide (ts.length ≤ 10) = false by have := H20.out; simp; omega, Bool.and_false]
        rfl
    · obtain rfl : i = ts.length := by omega
      have hlt' : ¬ (ts.length : Int) < (ts.length : Int) := by omega
      rw [List.take_length] at HALL
      by_cases h10 : ts.length ≤ 10
      · have t1 : (ts.length : Int) ≤ 10 := by omega
        have H10 := Lib.hid h10
        clear hlt hi h20 h10
        go_wp2_with fail
        go_ret
        refine ⟨?_, B0.out⟩
        rw [← HX.out]
        unfold fewSig
        rw [List.take_of_length_le (by have := H10.out; omega), HALL.out, show decide (ts.length ≤ 10) = true by simpa using H10.out]
        rfl
      · have t1 : ¬ (ts.length : Int) ≤ 10 := by omega
        have H10 := Lib.hid h10
        clear hlt hi h20 h10
        go_wp2_with fail
        go_ret
        refine ⟨?_, B0.out⟩
        rw [← HX.out]
        unfold fewSig
        rw [show decide (ts.length ≤ 10) = false by simpa using H10.out, Bool.and_false]
        rfl
end Go.Proofs.YtigoaokpodggcaaDoor
end
section
open Go Go.RowKit
namespace WW
open BB
/-- a certificate of a size that is looked at -/
def fewCert (k : ByteArray) (l : List (Int × List ByteArray)) : Bool := (l.take 20).all (fun p => fewSig p.2) && (decide (l.length ≤ 10) && decide (k.size ≤ 50))
/-- a block of a size that is looked at -/
def fewBlock (k : ByteArray) (l : List (Int × List ByteArray)) (m : List (Int × Int × ByteArray)) : Bool := (m.take 20).all (fun p => decide (p.2.2.size ≤ 60)) && (decide (m.length ≤ 6) && fewCert k l)
/-- the tags of each signature are no more than fit into memory -/
def MemS (l : List (Int × List ByteArray)) : Prop := l.length ≤ 9223372036854775807 ∧ ∀ i, i < l.length → (l.getD i (0, [])).2.length ≤ 9223372036854775807
end WW
namespace Go.Proofs.YtigoaokpodggcaaDoor
open WW BB
set_option maxRecDepth 100000 in
set_option maxHeartbeats 4000000 in
theorem fewcert_any (v : Int) (k : ByteArray) (sv : Value) (l : List (Int × List ByteArray)) (w : World) (hv : SigsAt w sv l) (hn : MemS l) (hk : k.size ≤ 9223372036854775807) :
    Calls Tryd.prog 9 #[.agg #[.int .i64 v, .string k, sv]] w fun e w' => e = .returned (.bool (fewCert k l)) ∧ Below w.heap.size w w' := by
  obtain ⟨X, hX⟩ : ∃ X, fewCert k l = X := ⟨_, rfl⟩
  rw [hX]
  have HX := Lib.hid hX
  have HV := Lib.hid hv
  have HN := Lib.hid hn
  have HK := Lib.hid hk
  obtain ⟨a0, cap, rfl, hx⟩ := hv
  clear hn hx hX hk
  go_enter Tryd.func9, Tryd.ntmps9
  go_wp2_with fail
  have B0 := box_mk w [.int .i64 v, .string k, .slice a0 l.length cap] 24
  rw [show [Value.int .i64 v, .string k, .slice a0 l.length cap].toArray = #[.int .i64 v, .string k, .slice a0 l.length cap] from rfl] at B0
  obtain ⟨g, hg⟩ : ∃ g, w.heap.size = g := ⟨_, rfl⟩
  rw [hg] at B0 ⊢
  clear hg
  generalize w.alloc (.cells #[.int .i64 v, .string k, .slice a0 l.length cap] 24) = w0 at *
  go_loopw [3] (fun x wr => ∃ i : Nat, i ≤ l.length ∧ i ≤ 20 ∧ x = .int .i64 (i : Int) ∧ (l.take i).all (fun p => fewSig p.2) = true ∧ BoxAt w g [.int .i64 v, .string k, .slice a0 l.length cap] wr) (fun x _ => l.length - (intOf x).toNat)
  case atStart => exact ⟨0, Nat.zero_le _, by omega, rfl, rfl, B0⟩
  case round =>
    clear B0
    clear w0
    obtain ⟨i, hi, h20, rfl, hall, hbox⟩ := hrel
    have HALL := Lib.hid hall
    have HBX := Lib.hid hbox
    have i0 : (0 : Int) ≤ (i : Int) := by omega
    have ib : (i : Int) ≤ 20 := by omega
    have c1 := hbox.cell 1 _ rfl
    have c2 := hbox.cell 2 _ rfl
    clear hall hbox
    by_cases hlt : i < l.length
    · have hlt' : (i : Int) < (l.length : Int) := by omega
      by_cases h2 : i < 20
      · have h2' : (i : Int) < 20 := by omega
        obtain ⟨a1, cap1, he, hv | ⟨gb, off, rfl, hbw, hcell⟩⟩ := HV.out
        · rw [hv] at hlt; simp at hlt
        injection he with e1 _ e3
        subst e1 e3
        obtain ⟨tv, hc0, hc1, hts⟩ := hcell i hlt
        have hcl0 := (HBX.out.below.cell (p := ⟨gb, off + i * 2, none⟩) hbw).trans hc0
        have hcl1 := (HBX.out.below.cell (p := ⟨gb, off + i * 2 + 1, none⟩) hbw).trans hc1
        have HTS := Lib.hid (hts.later HBX.out.below)
        have HSN := Lib.hid (all_take_snoc (fun p : Int × List ByteArray => fewSig p.2) l (0, []) i hlt)
        have HMi := Lib.hid (HN.out.2 i hlt)
        obtain ⟨f, hf⟩ : ∃ f, (l.getD i (0, [])).1 = f := ⟨_, rfl⟩
        obtain ⟨ts, ht⟩ : ∃ ts, (l.getD i (0, [])).2 = ts := ⟨_, rfl⟩
        rw [hf] at hcl0
        rw [ht] at HTS HMi HSN
        have HLT := Lib.hid hlt
        have H2 := Lib.hid h2
        obtain ⟨ta, tcap, htv, _⟩ := HTS.out
        subst htv
        clear hf ht hlt h2 hi h20 hcell hbw hc0 hc1 hts
        go_wp2_with fail
        refine (fewsig_any f _ ts wr HTS.out HMi.out).mono ?_
        rintro e w4 ⟨rfl, hb4⟩
        have HB4 := Lib.hid (HBX.out.on hb4)
        clear hb4 HBX
        rcases hfs : fewSig ts with _ | _
        · have HF := Lib.hid hfs
          clear hfs
          go_wp2_with fail
          go_ret
          refine ⟨?_, HB4.out.below⟩
          rw [← HX.out]
          have h1 := HSN.out
          rw [HF.out, Bool.and_false] at h1
          have h2 := all_take_mono _ l (i + 1) 20 (by have := H2.out; omega) h1
          unfold fewCert
          rw [h2]; rfl
        · have HF := Lib.hid hfs
          clear hfs
          go_wp2_with fail
          go_roundw
          case rel => exact ⟨i + 1, by have := HLT.out; omega, by have := H2.out; omega, by go_num, by rw [HSN.out, HALL.out, HF.out]; rfl, HB4.out⟩
          case measure => have := HLT.out; simp [intOf]; omega
      · obtain rfl : i = 20 := by omega
        have h2' : ¬ ((20 : Nat) : Int) < 20 := by omega
        have H20 := Lib.hid hlt
        clear h2 hi h20 hlt
        have hl10 : ¬ (l.length : Int) ≤ 10 := by have := H20.out; omega
        go_wp2_with fail
        go_ret
        refine ⟨?_, HBX.out.below⟩
        rw [← HX.out]
        unfold fewCert
        rw [show decide (l.length ≤ 10) = false by have := H20.out; simp; omega, Bool.false_and, Bool.and_false]
        rfl
    · obtain rfl : i = l.length := by omega
      have hlt' : ¬ (l.length : Int) < (l.length : Int) := by omega
      rw [List.take_length] at HALL
      by_cases h10 : l.length ≤ 10
      · have t1 : (l.length : Int) ≤ 10 := by omega
        have H10 := Lib.hid h10
        clear hlt hi h20 h10
        by_cases hk50 : k.size ≤ 50
        · have t2 : (k.size : Int) ≤ 50 := by omega
          have HK50 := Lib.hid hk50
          clear hk50
          go_wp2_with fail
          go_ret
          refine ⟨?_, HBX.out.below⟩
          rw [← HX.out]
          unfold fewCert
          rw [List.take_of_length_le (by have := H10.out; omega), HALL.out, show decide (l.length ≤ 10) = true by simpa using H10.out, show decide (k.size ≤ 50) = true by simpa using HK50.out]
          rfl
        · have t2 : ¬ (k.size : Int) ≤ 50 := by omega
          have HK50 := Lib.hid hk50
          clear hk50
          go_wp2_with fail
          go_ret
          refine ⟨?_, HBX.out.below⟩
          rw [← HX.out]
          unfold fewCert
          rw [show decide (k.size ≤ 50) = false by simpa using HK50.out, Bool.and_false, Bool.and_false]
          rfl
      · have t1 : ¬ (l.length : Int) ≤ 10 := by omega
        have H10 := Lib.hid h10
        clear hlt hi h20 h10
        go_wp2_with fail
        go_ret
        refine ⟨?_, HBX.out.below⟩
        rw [← HX.out]
        unfold fewCert
        rw [show decide (l.length ≤ 10) = false by simpa using H10.out, Bool.false_and, Bool.and_false]
        rfl
end Go.Proofs.YtigoaokpodggcaaDoor
end
section
open Go Go.RowKit
namespace WW
open BB
/-- a request that isn't right, by the first thing that is wrong -/
def WrongR (c q : Int) (s : ByteArray) : Prop := c < 0 ∨ 0 ≤ c ∧ (4 ≤ c ∨ c < 4 ∧ (q < 1 ∨ 1 ≤ q ∧ (2147483647 < q ∨ q ≤ 2147483647 ∧ (40 : Int) < (s.size : Int))))
theorem wrong_of {c q : Int} {s : ByteArray} (h : ¬ rightR c q s) : WrongR c q s := by unfold rightR at h; unfold WrongR; omega
/-- a request in block g, and what was as it was -/
structure Req1 (w0 : World) (g : Nat) (c q : Int) (s : ByteArray) (w : World) : Prop where
  below : Below w0.heap.size w0 w
  lt : g < w.heap.size
  cells : w.cell? ⟨g, 0, none⟩ = some (.int .i64 c) ∧ w.cell? ⟨g, 1, none⟩ = some (.int .i64 q) ∧ w.cell? ⟨g, 2, none⟩ = some (.string s)
theorem req1_mk (w : World) (c q : Int) (s : ByteArray) (t : TypeId) : Req1 w w.heap.size c q s (w.alloc (.cells #[.int .i64 c, .int .i64 q, .string s] t)) :=
  ⟨(Below.refl _ _).alloc (Nat.le_refl _) _, by simp, cell_new _ _ _ _ _ rfl, cell_new _ _ _ _ _ rfl, cell_new _ _ _ _ _ rfl⟩
theorem Req1.on {w0 w w' : World} {g : Nat} {c q : Int} {s : ByteArray} (h : Req1 w0 g c q s w) (hb : Below w.heap.size w w') : Req1 w0 g c q s w' :=
  ⟨h.below.trans (hb.mono h.below.size), Nat.lt_of_lt_of_le h.lt hb.size, (hb.cell (p := ⟨g, 0, none⟩) h.lt).trans h.cells.1, (hb.cell (p := ⟨g, 1, none⟩) h.lt).trans h.cells.2.1, (hb.cell (p := ⟨g, 2, none⟩) h.lt).trans h.cells.2.2⟩
end WW
namespace Go.Proofs.YtigoaokpodggcaaDoor
open WW BB
end Go.Proofs.YtigoaokpodggcaaDoor
end
section
open Go Go.RowKit
namespace WW
open BB
/-- a right signature -/
def rightSig (f : Int) (ts : List ByteArray) : Bool := (ts.take 10).all (fun t => decide (t.size = 16)) && (decide (0 ≤ f) && decide (f < 7) && decide (ts.length ≤ 7))
end WW
namespace Go.Proofs.YtigoaokpodggcaaDoor
open WW BB
set_option maxRecDepth 100000 in
set_option maxHeartbeats 2000000 in
theorem rightsig_any (f : Int) (tv : Value) (ts : List ByteArray) (w : World) (hv : StrsAt w tv ts) (hn : ts.length ≤ 9223372036854775807) :
    Calls Tryd.prog 51 #[.agg #[.int .i64 f, tv]] w fun e w' => e = .returned (.bool (rightSig f ts)) ∧ Below w.heap.size w w' := by
  obtain ⟨X, hX⟩ : ∃ X, rightSig f ts = X := ⟨_, rfl⟩
  rw [hX]
  have HX := Lib.hid hX
  have HV := Lib.hid hv
  have HN := Lib.hid hn
  obtain ⟨a0, cap, rfl, hx⟩ := hv
  clear hn hx hX
  go_enter Tryd.func51, Tryd.ntmps51
  go_wp2_with fail
  have c0 := cell_new w #[.int .i64 f, .slice a0 ts.length cap] 35 0 _ rfl
  have c1 := cell_new w #[.int .i64 f, .slice a0 ts.length cap] 35 1 _ rfl
  have b0 : Below w.heap.size w (w.alloc (.cells #[.int .i64 f, .slice a0 ts.length cap] 35)) := (Below.refl _ _).alloc (Nat.le_refl _) _
  generalize w.alloc (.cells #[.int .i64 f, .slice a0 ts.length cap] 35) = w0 at *
  have B0 := Lib.hid b0
  obtain ⟨g, hg⟩ : ∃ g, w.heap.size = g := ⟨_, rfl⟩
  rw [hg] at c0 c1 ⊢
  clear b0 hg
  go_loop [3] (fun v => ∃ i : Nat, i ≤ ts.length ∧ i ≤ 10 ∧ v = .int .i64 (i : Int) ∧ (ts.take i).all (fun t => decide (t.size = 16)) = true) (fun v => ts.length - (intOf v).toNat)
  case atStart => exact ⟨0, Nat.zero_le _, by omega, rfl, rfl⟩
  case round =>
    obtain ⟨i, hi, h20, rfl, hall⟩ := hrel
    have HALL := Lib.hid hall
    have i0 : (0 : Int) ≤ (i : Int) := by omega
    have ib : (i : Int) ≤ 10 := by omega
    clear hall
    by_cases hlt : i < ts.length
    · have hlt' : (i : Int) < (ts.length : Int) := by omega
      by_cases h2 : i < 10
      · have h2' : (i : Int) < 10 := by omega
        obtain ⟨a1, cap1, he, hv | ⟨gb, off, rfl, hbw, hcell⟩⟩ := HV.out
        · rw [hv] at hlt; simp at hlt
        injection he with e1 _ e3
        subst e1 e3
        have hcl := (B0.out.cell (p := ⟨gb, off + i, none⟩) hbw).trans (hcell i hlt)
        have HSN := Lib.hid (all_take_snoc (fun t : ByteArray => decide (t.size = 16)) ts ⟨#[]⟩ i hlt)
        obtain ⟨s, hs⟩ : ∃ s, ts.getD i ⟨#[]⟩ = s := ⟨_, rfl⟩
        rw [hs] at hcl HSN
        have HLT := Lib.hid hlt
        have H2 := Lib.hid h2
        clear hs hlt h2 hi h20 hcell hbw
        by_cases h30 : s.size = 16
        · have t1 : ((s.size : Int) != 16) = false := by rw [h30]; rfl
          have H30 := Lib.hid h30
          clear h30
          go_wp2_with fail
          go_round
          case rel => exact ⟨i + 1, by have := HLT.out; omega, by have := H2.out; omega, by go_num, by rw [HSN.out, HALL.out]; simpa using H30.out⟩
          case measure => have := HLT.out; simp [intOf]; omega
        · have t1 : ((s.size : Int) != 16) = true := by rw [bne_iff_ne]; omega
          have H30 := Lib.hid h30
          clear h30
          go_wp2_with fail
          go_ret
          refine ⟨?_, B0.out⟩
          rw [← HX.out]
          have h1 := HSN.out
          rw [show decide (s.size = 16) = false by simpa using H30.out, Bool.and_false] at h1
          have h2 := all_take_mono _ ts (i + 1) 10 (by have := H2.out; omega) h1
          unfold rightSig
          rw [h2]; rfl
      · obtain rfl : i = 10 := by omega
        have h2' : ¬ ((10 : Nat) : Int) < 10 := by omega
        have H20 := Lib.hid hlt
        clear h2 hi h20 hlt
        have hl10 : ¬ (ts.length : Int) ≤ 7 := by have := H20.out; omega
        have hfin : X = false := by
          rw [← HX.out]
          unfold rightSig
          rw [show decide (ts.length ≤ 7) = false by have := H20.out; simp; omega, Bool.and_false, Bool.and_false]
        have HFIN := Lib.hid hfin
        clear hfin
        by_cases f0 : f < 0
        · go_wp2_with fail
          go_ret
          exact ⟨by rw [HFIN.out]; rfl, B0.out⟩
        · by_cases f7 : f < 7
          · go_wp2_with fail
            go_ret
            exact ⟨by rw [HFIN.out]; rfl, B0.out⟩
          · go_wp2_with fail
            go_ret
            exact ⟨by rw [HFIN.out]; rfl, B0.out⟩
    · obtain rfl : i = ts.length := by omega
      have hlt' : ¬ (ts.length : Int) < (ts.length : Int) := by omega
      rw [List.take_length] at HALL
      have HLE := Lib.hid h20
      clear hlt hi h20
      have hX : X = (decide (0 ≤ f) && decide (f < 7) && decide (ts.length ≤ 7)) := by
        rw [← HX.out]
        unfold rightSig
        rw [List.take_of_length_le (by have := HLE.out; omega), HALL.out, Bool.true_and]
      have HX2 := Lib.hid hX
      clear hX
      by_cases f0 : f < 0
      · have e0 := Lib.hid (show decide (0 ≤ f) = false by simp; omega)
        go_wp2_with fail
        go_ret
        exact ⟨by rw [HX2.out, e0.out]; rfl, B0.out⟩
      · have e0 := Lib.hid (show decide (0 ≤ f) = true by simp; omega)
        by_cases f7 : f < 7
        · have e1 := Lib.hid (show decide (f < 7) = true by simp; omega)
          by_cases l7 : ts.length ≤ 7
          · have t1 : (ts.length : Int) ≤ 7 := by omega
            have e2 := Lib.hid (show decide (ts.length ≤ 7) = true by simpa using l7)
            clear l7
            go_wp2_with fail
            go_ret
            exact ⟨by rw [HX2.out, e0.out, e1.out, e2.out]; rfl, B0.out⟩
          · have t1 : ¬ (ts.length : Int) ≤ 7 := by omega
            have e2 := Lib.hid (show decide (ts.length ≤ 7) = false by simpa using l7)
            clear l7
            go_wp2_with fail
            go_ret
            exact ⟨by rw [HX2.out, e0.out, e1.out, e2.out]; rfl, B0.out⟩
        · have e1 := Lib.hid (show decide (f < 7) = false by simp; omega)
          go_wp2_with fail
          go_ret
          exact ⟨by rw [HX2.out, e0.out, e1.out]; rfl, B0.out⟩
end Go.Proofs.YtigoaokpodggcaaDoor
end
section
open Go Go.RowKit
namespace BB
section
variable {P : Program} {ops : Array Oper} {md : Region.Mode} {w : World} {S : World → Prop} {Q : Exit → Act → World → Prop}
/-- these operations, one behind the other, in every world that meets S -/
def wpHeldG (P : Program) (ops : Array Oper) (S : World → Prop) (K : Act → Prop) : List Oper → Act → Prop
  | [], a => K a
  | o :: r, a => ∃ v, YieldsIf P ops S o v a ∧ wpHeldG P ops S K r (a.put o.dst v)
theorem heldg_run {K : Act → Prop} {o : Oper} {rest : List Oper} {a : Act} (v : Value) (hg : Region.wanted o (yielded ops a.tmps) = true) (h : ∀ w, S w → (execOp a.eval o).run P w = .ok (.value v) w)
    (hK : wpHeldG P ops S K rest (a.put o.dst v)) : wpHeldG P ops S K (o :: rest) a := ⟨v, .inl ⟨hg, h⟩, hK⟩
theorem heldg_skip {K : Act → Prop} {o : Oper} {rest : List Oper} {a : Act} (hg : Region.wanted o (yielded ops a.tmps) = false)
    (hK : wpHeldG P ops S K rest (a.put o.dst undef)) : wpHeldG P ops S K (o :: rest) a := ⟨undef, .inr ⟨hg, rfl⟩, hK⟩
theorem heldg_nil {K : Act → Prop} {a : Act} (h : K a) : wpHeldG P ops S K [] a := h
theorem wpAnyH_of_heldg {K : Act → Prop} {k : Array Bool → Bool} {g : Nat} (hsel : Region.noSelect ops = true) (hQ : ∀ c a d v w, Q (.panic c) (Act.put a d v) w → Q (.panic c) a w) (hS : S w)
    (hK : ∀ listed a, k listed = true → K a → wpAnyH P md ops Q S g listed a w) : ∀ (l : List Nat) (listed : Array Bool) (a : Act), preB md ops k l listed = true → wpHeldG P ops S K (pick ops l) a →
    wpAnyH P md ops Q S (l.length + g) listed a w
  | [], listed, a, hB, h => by simpa using hK listed a hB h
  | i :: l, listed, a, hB, h => by
    simp only [preB, Bool.and_eq_true] at hB
    obtain ⟨⟨hr, hf⟩, hB'⟩ := hB
    obtain ⟨_, o, h0, _⟩ := mem_ready.1 (show i ∈ Region.ready md ops listed by simpa using hr)
    rw [pick_cons h0] at h
    obtain ⟨v, hy, h⟩ := h
    rw [show (i :: l).length + g = (l.length + g) + 1 by simp; omega]
    exact wpAnyH_take h0 hsel hf hr (fun c a w => hQ c a _ _ w) hy hS (wpAnyH_of_heldg hsel hQ hS hK l _ _ hB' h)
/-- c alone may come up, then tl, one behind the other -/
def oneB (md : Region.Mode) (ops : Array Oper) (c : Nat) (tl : List Nat) (listed : Array Bool) : Bool :=
  decide (Region.ready md ops listed = [c]) && preB md ops (fun li => decide (Region.ready md ops li = [])) tl (listed.setIfInBounds c true)
theorem one_call {id : Nat} {a a1 : Act} {l : List Oper} (hd tl : List Nat) (c : Nat) (oc : Oper) (dc : Nat) (f : Nat) (args : Array Value) (v : Value) (S : World → Prop) (hm : P.follows .mixedOrders = true)
    (hB : (Region.noSelect l.toArray && preB .any l.toArray (oneB .any l.toArray c tl) hd (Array.replicate l.toArray.size false) && decide (hd.length + (tl.length + 1) = l.toArray.size)) = true)
    (hQ : ∀ c a d v w, Q (.panic c) (Act.put a d v) w → Q (.panic c) a w) (hoc : l.toArray[c]? = some oc) (hgc : oc.guard = none) (hdc : oc.dst = some dc) (hS : S { w with drawn := w.drawn + 1 })
    (hread : wpHeldG P l.toArray S (fun a' => a' = a1) (pick l.toArray hd) a)
    (henter : ∀ w', (execOp a1.eval oc).run P w' = .ok (.enter f args) w')
    (hcall : ∀ w', S w' → Calls P f args w' fun e w'' => e = .returned v ∧ S w'')
    (htail : wpHeldG P l.toArray S (fun a' => ∀ w', S w' → Q .normal a' w') (pick l.toArray tl) (a1.put (some dc) v)) :
    (Code.region id l.toArray true).wp P Q a w := by
  simp only [Bool.and_eq_true, decide_eq_true_eq] at hB
  obtain ⟨⟨hsel, hp⟩, hsz⟩ := hB
  refine wp_region_held (S := S) hm ?_
  have key := wpAnyH_of_heldg (Q := Q) (S := S) (w := { w with drawn := w.drawn + 1 }) (k := oneB .any l.toArray c tl) (K := fun a' => a' = a1) (g := tl.length + 1) hsel hQ hS
    (fun listed a' hk ha' => ?_) hd (Array.replicate l.toArray.size false) a hp hread
  · rw [hsz] at key; exact key
  subst ha'
  simp only [oneB, Bool.and_eq_true, decide_eq_true_eq] at hk
  obtain ⟨r0, r1⟩ := hk
  refine wpAnyH_all r0 (by simp) fun i hi => ?_
  obtain rfl : i = c := by simpa using hi
  unfold wpOp
  simp only [hoc, Region.wanted, hgc, if_true]
  left
  unfold Oper.wp
  rw [henter]
  refine (hcall _ hS).mono fun e w' ⟨he, hS'⟩ => ?_
  subst he
  refine ⟨hS', ?_⟩
  rw [hdc]
  have tail := wpAnyH_of_heldg (Q := Q) (S := S) (w := w') (k := fun li => decide (Region.ready .any l.toArray li = [])) (K := fun a' => ∀ w', S w' → Q .normal a' w') (g := 0) hsel hQ hS'
    (fun listed a' hk ha' => wpAnyH_done (by simpa using hk) (ha' _ hS') _) tl _ _ r1 htail
  simpa using tail
end
end BB
end
section
open Go Go.RowKit
namespace WW
open BB
/-- the first i signatures are right, and rise -/
def okTo (l : List (Int × List ByteArray)) : Nat → Bool
  | 0 => true
  | i + 1 => okTo l i && (rightSig (l.getD i (0, [])).1 (l.getD i (0, [])).2 && (decide (i = 0) || decide ((l.getD (i - 1) (0, [])).1 < (l.getD i (0, [])).1)))
theorem okTo_mono (l : List (Int × List ByteArray)) (i j : Nat) (h : i ≤ j) (hf : okTo l i = false) : okTo l j = false := by
  induction j with
  | zero => obtain rfl : i = 0 := by omega
            exact hf
  | succ j ih =>
    by_cases e : i = j + 1
    · subst e; exact hf
    · show (okTo l j && _) = false
      rw [ih (by omega), Bool.false_and]
/-- a right certificate -/
def rightCert (v : Int) (k : ByteArray) (l : List (Int × List ByteArray)) : Bool := (decide (0 ≤ v) && decide (v ≤ 1000000) && decide (k.size = 32) && decide (l.length ≤ 7)) && okTo l l.length
/-- the certificate's first fields are wrong, by the first thing that is -/
def BadC (v : Int) (k : ByteArray) (n : Nat) : Prop := v < 0 ∨ 0 ≤ v ∧ ((1000000 : Int) < v ∨ v ≤ 1000000 ∧ (((k.size : Int) != 32) = true ∨ ((k.size : Int) != 32) = false ∧ (7 : Int) < (n : Int)))
theorem cells3 {w w1 : World} {p0 p1 p2 : Nat × Nat} {v0 v1 v2 : Value} (h : w.cell? ⟨p0.1, p0.2, none⟩ = some v0 ∧ w.cell? ⟨p1.1, p1.2, none⟩ = some v1 ∧ w.cell? ⟨p2.1, p2.2, none⟩ = some v2) (hb : Below w.heap.size w w1) :
    w1.cell? ⟨p0.1, p0.2, none⟩ = some v0 ∧ w1.cell? ⟨p1.1, p1.2, none⟩ = some v1 ∧ w1.cell? ⟨p2.1, p2.2, none⟩ = some v2 :=
  ⟨(hb.cell (p := ⟨p0.1, p0.2, none⟩) (World.block_lt_of_cell? w _ h.1)).trans h.1, (hb.cell (p := ⟨p1.1, p1.2, none⟩) (World.block_lt_of_cell? w _ h.2.1)).trans h.2.1, (hb.cell (p := ⟨p2.1, p2.2, none⟩) (World.block_lt_of_cell? w _ h.2.2)).trans h.2.2⟩
end WW
namespace Go.Proofs.YtigoaokpodggcaaDoor
open WW BB
set_option maxRecDepth 100000 in
set_option maxHeartbeats 4000000 in
theorem rightcert_bad (v : Int) (k : ByteArray) (a0 : Option Addr) (n cap : Nat) (w : World) (h : BadC v k n) :
    Calls Tryd.prog 28 #[.agg #[.int .i64 v, .string k, .slice a0 n cap]] w fun e w' => e = .returned (.bool false) ∧ Below w.heap.size w w' := by
  rcases h with h | ⟨h0, h | ⟨h1, h | ⟨h2, h⟩⟩⟩
  all_goals
    go_enter Tryd.func28, Tryd.ntmps28
    go_wp2_with fail
    go_ret
    exact ⟨rfl, (Below.refl _ _).alloc (Nat.le_refl _) _⟩
set_option maxRecDepth 100000 in
set_option maxHeartbeats 8000000 in
theorem rightcert_ok (v : Int) (k : ByteArray) (sv : Value) (l : List (Int × List ByteArray)) (w : World) (hv : SigsAt w sv l) (hn : MemS l) (h0 : 0 ≤ v) (h1 : v ≤ 1000000) (hk : k.size = 32) (h7 : l.length ≤ 7) :
    Calls Tryd.prog 28 #[.agg #[.int .i64 v, .string k, sv]] w fun e w' => e = .returned (.bool (okTo l l.length)) ∧ Below w.heap.size w w' := by
  obtain ⟨X, hX⟩ : ∃ X, okTo l l.length = X := ⟨_, rfl⟩
  rw [hX]
  have HX := Lib.hid hX
  have HV := Lib.hid hv
  have HN := Lib.hid hn
  have H7 := Lib.hid h7
  obtain ⟨a0, cap, rfl, hx⟩ := hv
  have t2 : ((k.size : Int) != 32) = false := by rw [hk]; rfl
  have t3 : (l.length : Int) ≤ 7 := by omega
  clear hn hx hX hk h7
  go_enter Tryd.func28, Tryd.ntmps28
  go_wp2_with fail
  have B0 := box_mk w [.int .i64 v, .string k, .slice a0 l.length cap] 24
  rw [show [Value.int .i64 v, .string k, .slice a0 l.length cap].toArray = #[.int .i64 v, .string k, .slice a0 l.length cap] from rfl] at B0
  obtain ⟨g, hg⟩ : ∃ g, w.heap.size = g := ⟨_, rfl⟩
  rw [hg] at B0 ⊢
  clear hg
  generalize w.alloc (.cells #[.int .i64 v, .string k, .slice a0 l.length cap] 24) = w0 at *
  go_loopw [3] (fun x wr => ∃ i : Nat, i ≤ l.length ∧ x = .int .i64 (i : Int) ∧ okTo l i = true ∧ BoxAt w g [.int .i64 v, .string k, .slice a0 l.length cap] wr) (fun x _ => l.length - (intOf x).toNat)
  case atStart => exact ⟨0, Nat.zero_le _, rfl, rfl, B0⟩
  case round =>
    clear B0
    clear w0
    obtain ⟨i, hi, rfl, hall, hbox⟩ := hrel
    have HALL := Lib.hid hall
    have HBX := Lib.hid hbox
    have i0 : (0 : Int) ≤ (i : Int) := by omega
    have ib : (i : Int) ≤ 7 := by omega
    have c2 := hbox.cell 2 _ rfl
    clear hall hbox
    by_cases hlt : i < l.length
    · have hlt' : (i : Int) < (l.length : Int) := by omega
      obtain ⟨a1, cap1, he, hv | ⟨gb, off, rfl, hbw, hcell⟩⟩ := HV.out
      · rw [hv] at hlt; simp at hlt
      injection he with e1 _ e3
      subst e1 e3
      obtain ⟨tv, hc0, hc1, hts⟩ := hcell i hlt
      have hcl0 := (HBX.out.below.cell (p := ⟨gb, off + i * 2, none⟩) hbw).trans hc0
      have hcl1 := (HBX.out.below.cell (p := ⟨gb, off + i * 2 + 1, none⟩) hbw).trans hc1
      have HTS := Lib.hid (hts.later HBX.out.below)
      have HMi := Lib.hid (HN.out.2 i hlt)
      have hst : okTo l (i + 1) = (okTo l i && (rightSig (l.getD i (0, [])).1 (l.getD i (0, [])).2 && (decide (i = 0) || decide ((l.getD (i - 1) (0, [])).1 < (l.getD i (0, [])).1)))) := rfl
      by_cases hz : i = 0
      · subst hz
        obtain ⟨f, hf⟩ : ∃ f, (l.getD 0 (0, [])).1 = f := ⟨_, rfl⟩
        obtain ⟨ts, ht⟩ : ∃ ts, (l.getD 0 (0, [])).2 = ts := ⟨_, rfl⟩
        rw [hf] at hcl0 hst
        rw [ht] at HTS HMi hst
        have HST := Lib.hid hst
        clear hst
        have HLT := Lib.hid hlt
        obtain ⟨ta, tcap, htv, _⟩ := HTS.out
        subst htv
        rw [show off + 0 * 2 = off by omega] at hcl0 hcl1 hc0 hc1
        rw [hf] at hc0
        rw [ht] at hts
        have HBW := Lib.hid hbw
        have HC0 := Lib.hid hc0
        have HC1 := Lib.hid hc1
        have HTW := Lib.hid hts
        clear hf ht hlt hi hcell hbw hc0 hc1 hts
        have TD := Lib.hid (HTS.out.later (Below.refl wr.heap.size wr).drew)
        have hfacts : ∀ w', BoxAt w g [.int .i64 v, .string k, .slice (some ⟨gb, off, none⟩) l.length cap] w' → w'.cell? ⟨g, 2, none⟩ = some (.slice (some ⟨gb, off, none⟩) l.length cap) ∧ w'.cell? ⟨gb, off, none⟩ = some (.int .i64 f) ∧ w'.cell? ⟨gb, off + 1, none⟩ = some (.slice ta ts.length tcap) ∧ StrsAt w' (.slice ta ts.length tcap) ts := fun w' hS => ⟨hS.cell 2 _ rfl, (hS.below.cell (p := ⟨gb, off, none⟩) HBW.out).trans HC0.out, (hS.below.cell (p := ⟨gb, off + 1, none⟩) HBW.out).trans HC1.out, HTW.out.later hS.below⟩
        have HF := Lib.hid hfacts
        have HBD := Lib.hid (HBX.out.on (Below.refl wr.heap.size wr).drew)
        clear hfacts hcl0 hcl1
        obtain ⟨R, hR⟩ : ∃ R, rightSig f ts = R := ⟨_, rfl⟩
        have HR := Lib.hid hR
        clear hR
        go_wp2_with fail
        refine one_call (a1 := ?a1) [0, 1, 2, 3, 4] [6, 7, 8, 9, 10, 11, 12, 13, 14, 15, 16, 17, 18, 19, 20, 21, 22, 23, 24, 25, 26] 5 _ 36 51 #[.agg #[.int .i64 f, .slice ta ts.length tcap]] (.bool R) (fun w' => BoxAt w g [.int .i64 v, .string k, .slice (some ⟨gb, off, none⟩) l.length cap] w') (by kernel_rfl) (by kernel_rfl) (fun _ _ d _ _ h => by cases d <;> exact h) rfl rfl rfl HBD.out ?hread ?henter ?hcall ?htail
        case hread =>
          simp only [pick, List.filterMap, List.getElem?_toArray, List.getElem?_cons_zero, List.getElem?_cons_succ]
          iterate 5 (refine heldg_run ?_ rfl ?_ ?_; rotate_left; (focus (intro w' hS; obtain ⟨s0, s1, s2, _⟩ := HF.out w' hS; go_simp; exact rfl)); simp only [Act.put, List.setIfInBounds_toArray, List.set_cons_zero, List.set_cons_succ])
          exact rfl
        case henter => intro w'; go_simp
        case hcall =>
          intro w' hS
          refine (rightsig_any f _ ts _ (HF.out w' hS).2.2.2 HMi.out).mono ?_
          rintro e w4 ⟨rfl, hb4⟩
          exact ⟨by rw [HR.out], hS.on hb4⟩
        case htail =>
          simp only [pick, List.filterMap, List.getElem?_toArray, List.getElem?_cons_zero, List.getElem?_cons_succ, Act.put, List.setIfInBounds_toArray, List.set_cons_zero, List.set_cons_succ]
          cases R
          · iterate 21 (first | (refine heldg_skip rfl ?_; simp only [Act.put, List.setIfInBounds_toArray, List.set_cons_zero, List.set_cons_succ]) | (refine heldg_run ?_ rfl ?_ ?_; rotate_left; (focus (intro w' hS; obtain ⟨s0, s1, s2, _⟩ := HF.out w' hS; go_simp; exact rfl)); simp only [Act.put, List.setIfInBounds_toArray, List.set_cons_zero, List.set_cons_succ]))
            refine heldg_nil ?_
            intro w' hS
            have HBZ := Lib.hid hS
            clear hS
            go_wp2_with fail
            go_ret
            refine ⟨?_, HBZ.out.below⟩
            rw [← HX.out, okTo_mono l 1 l.length (by have := HLT.out; omega) (by rw [show 1 = 0 + 1 from rfl, HST.out, HR.out]; simp)]
            rfl
          · iterate 21 (first | (refine heldg_skip rfl ?_; simp only [Act.put, List.setIfInBounds_toArray, List.set_cons_zero, List.set_cons_succ]) | (refine heldg_run ?_ rfl ?_ ?_; rotate_left; (focus (intro w' hS; obtain ⟨s0, s1, s2, _⟩ := HF.out w' hS; go_simp; exact rfl)); simp only [Act.put, List.setIfInBounds_toArray, List.set_cons_zero, List.set_cons_succ]))
            refine heldg_nil ?_
            intro w' hS
            have HBZ := Lib.hid hS
            clear hS
            go_wp2_with fail
            go_roundw
            case rel => exact ⟨1, by have := HLT.out; omega, by go_num, by rw [show 1 = 0 + 1 from rfl, HST.out, HALL.out, HR.out]; simp, HBZ.out⟩
            case measure => have := HLT.out; simp [intOf]; omega
      · obtain ⟨m, rfl⟩ : ∃ m, i = m + 1 := ⟨i - 1, by omega⟩
        obtain ⟨pv, pc0, -, -⟩ := hcell m (by omega)
        rw [show m + 1 - 1 = m by omega] at hst
        obtain ⟨f, hf⟩ : ∃ f, (l.getD (m + 1) (0, [])).1 = f := ⟨_, rfl⟩
        obtain ⟨fp, hfp⟩ : ∃ f, (l.getD m (0, [])).1 = f := ⟨_, rfl⟩
        obtain ⟨ts, ht⟩ : ∃ ts, (l.getD (m + 1) (0, [])).2 = ts := ⟨_, rfl⟩
        rw [hf] at hc0 hst
        rw [hfp] at pc0 hst
        rw [ht] at hts HTS HMi hst
        have HST := Lib.hid hst
        have HLT := Lib.hid hlt
        obtain ⟨ta, tcap, htv, _⟩ := HTS.out
        subst htv
        have HBW := Lib.hid hbw
        have HC0 := Lib.hid hc0
        have HC1 := Lib.hid hc1
        have HP0 := Lib.hid pc0
        have HTW := Lib.hid hts
        have m1 : (m : Int) + 1 ≤ 7 := by omega
        have m0 : (0 : Int) ≤ (m : Int) := by omega
        have mlt : (m : Int) + 1 < (l.length : Int) := by omega
        have mlt' : (m : Int) < (l.length : Int) := by omega
        have mnz : (0 : Int) < (m : Int) + 1 := by omega
        have MW := Lib.hid (show IntKind.i64.wrap (m : Int) = (m : Int) by rw [IntKind.wrap_i64]; omega)
        have mnn : (0 : Int) ≤ (m : Int) + 1 := by omega
        clear hf hfp ht hlt hi hcell hbw hc0 hc1 hts hst pc0 hz hcl0 hcl1 i0 ib hlt'
        have TD := Lib.hid (HTS.out.later (Below.refl wr.heap.size wr).drew)
        have hfacts : ∀ w', BoxAt w g [.int .i64 v, .string k, .slice (some ⟨gb, off, none⟩) l.length cap] w' → w'.cell? ⟨g, 2, none⟩ = some (.slice (some ⟨gb, off, none⟩) l.length cap) ∧ w'.cell? ⟨gb, off + (m + 1) * 2, none⟩ = some (.int .i64 f) ∧ w'.cell? ⟨gb, off + (m + 1) * 2 + 1, none⟩ = some (.slice ta ts.length tcap) ∧ w'.cell? ⟨gb, off + m * 2, none⟩ = some (.int .i64 fp) ∧ StrsAt w' (.slice ta ts.length tcap) ts := fun w' hS => ⟨hS.cell 2 _ rfl, (hS.below.cell (p := ⟨gb, off + (m + 1) * 2, none⟩) HBW.out).trans HC0.out, (hS.below.cell (p := ⟨gb, off + (m + 1) * 2 + 1, none⟩) HBW.out).trans HC1.out, (hS.below.cell (p := ⟨gb, off + m * 2, none⟩) HBW.out).trans HP0.out, HTW.out.later hS.below⟩
        have HF := Lib.hid hfacts
        have HBD := Lib.hid (HBX.out.on (Below.refl wr.heap.size wr).drew)
        clear hfacts
        obtain ⟨R, hR⟩ : ∃ R, rightSig f ts = R := ⟨_, rfl⟩
        have HR := Lib.hid hR
        clear hR
        go_wp2_with fail
        refine one_call (a1 := ?a2) [0, 1, 2, 3, 4] [6, 7, 8, 9, 10, 11, 12, 13, 14, 15, 16, 17, 18, 19, 20, 21, 22, 23, 24, 25, 26] 5 _ 36 51 #[.agg #[.int .i64 f, .slice ta ts.length tcap]] (.bool R) (fun w' => BoxAt w g [.int .i64 v, .string k, .slice (some ⟨gb, off, none⟩) l.length cap] w') (by kernel_rfl) (by kernel_rfl) (fun _ _ d _ _ h => by cases d <;> exact h) rfl rfl rfl HBD.out ?hread ?henter ?hcall ?htail
        case hread =>
          simp only [pick, List.filterMap, List.getElem?_toArray, List.getElem?_cons_zero, List.getElem?_cons_succ]
          iterate 5 (refine heldg_run ?_ rfl ?_ ?_; rotate_left; (focus (intro w' hS; obtain ⟨s0, s1, s2, s3, _⟩ := HF.out w' hS; have mw := MW.out; go_simp; exact rfl)); simp only [Act.put, List.setIfInBounds_toArray, List.set_cons_zero, List.set_cons_succ])
          exact rfl
        case henter => intro w'; go_simp
        case hcall =>
          intro w' hS
          refine (rightsig_any f _ ts _ (HF.out w' hS).2.2.2.2 HMi.out).mono ?_
          rintro e w4 ⟨rfl, hb4⟩
          exact ⟨by rw [HR.out], hS.on hb4⟩
        case htail =>
          simp only [pick, List.filterMap, List.getElem?_toArray, List.getElem?_cons_zero, List.getElem?_cons_succ, Act.put, List.setIfInBounds_toArray, List.set_cons_zero, List.set_cons_succ]
          cases R
          · iterate 21 (first | (refine heldg_skip rfl ?_; simp only [Act.put, List.setIfInBounds_toArray, List.set_cons_zero, List.set_cons_succ]) | (refine heldg_run ?_ rfl ?_ ?_; rotate_left; (focus (intro w' hS; obtain ⟨s0, s1, s2, s3, _⟩ := HF.out w' hS; have mw := MW.out; go_simp; exact rfl)); simp only [Act.put, List.setIfInBounds_toArray, List.set_cons_zero, List.set_cons_succ]))
            refine heldg_nil ?_
            intro w' hS
            have HBZ := Lib.hid hS
            clear hS
            go_wp2_with fail
            go_ret
            refine ⟨?_, HBZ.out.below⟩
            rw [← HX.out, okTo_mono l (m + 1 + 1) l.length (by have := HLT.out; omega) (by rw [HST.out, HR.out]; simp)]
            rfl
          · by_cases hff : fp < f
            · have hd : decide (f ≤ fp) = false := by simp; omega
              iterate 21 (first | (refine heldg_skip rfl ?_; simp only [Act.put, List.setIfInBounds_toArray, List.set_cons_zero, List.set_cons_succ]) | (refine heldg_run ?_ rfl ?_ ?_; rotate_left; (focus (intro w' hS; obtain ⟨s0, s1, s2, s3, _⟩ := HF.out w' hS; have mw := MW.out; go_simp; exact rfl)); simp only [Act.put, List.setIfInBounds_toArray, List.set_cons_zero, List.set_cons_succ]))
              refine heldg_nil ?_
              intro w' hS
              have HBZ := Lib.hid hS
              have HFF := Lib.hid hff
              clear hS hff
              go_wp2_with fail
              go_roundw
              case rel => exact ⟨m + 1 + 1, by have := HLT.out; omega, by go_num, by rw [HST.out, HALL.out, HR.out]; simp [HFF.out], HBZ.out⟩
              case measure => have := HLT.out; simp [intOf]; omega
            · have hd : decide (f ≤ fp) = true := by simp; omega
              iterate 21 (first | (refine heldg_skip rfl ?_; simp only [Act.put, List.setIfInBounds_toArray, List.set_cons_zero, List.set_cons_succ]) | (refine heldg_run ?_ rfl ?_ ?_; rotate_left; (focus (intro w' hS; obtain ⟨s0, s1, s2, s3, _⟩ := HF.out w' hS; have mw := MW.out; go_simp; exact rfl)); simp only [Act.put, List.setIfInBounds_toArray, List.set_cons_zero, List.set_cons_succ]))
              refine heldg_nil ?_
              intro w' hS
              have HBZ := Lib.hid hS
              have HFF := Lib.hid hff
              clear hS hff
              go_wp2_with fail
              go_ret
              refine ⟨?_, HBZ.out.below⟩
              rw [← HX.out, okTo_mono l (m + 1 + 1) l.length (by have := HLT.out; omega) (by rw [HST.out, HR.out]; simp [HFF.out])]
              rfl
    · obtain rfl : i = l.length := by omega
      have hlt' : ¬ (l.length : Int) < (l.length : Int) := by omega
      clear hlt hi
      go_wp2_with fail
      go_ret
      exact ⟨by rw [← HX.out, HALL.out]; rfl, HBX.out.below⟩
theorem rightcert_any (v : Int) (k : ByteArray) (sv : Value) (l : List (Int × List ByteArray)) (w : World) (hv : SigsAt w sv l) (hn : MemS l) :
    Calls Tryd.prog 28 #[.agg #[.int .i64 v, .string k, sv]] w fun e w' => e = .returned (.bool (rightCert v k l)) ∧ Below w.heap.size w w' := by
  by_cases hb : BadC v k l.length
  · obtain ⟨a0, cap, rfl, _⟩ := hv
    refine (rightcert_bad v k a0 l.length cap w hb).mono ?_
    rintro e w' ⟨rfl, h⟩
    refine ⟨?_, h⟩
    rw [show rightCert v k l = false from ?_]
    unfold rightCert
    rcases hb with h | ⟨h0, h | ⟨h1, h | ⟨h2, h⟩⟩⟩
    · rw [show decide (0 ≤ v) = false by simp; omega]; simp
    · rw [show decide (v ≤ 1000000) = false by simp; omega]; simp
    · rw [show decide (k.size = 32) = false by rw [bne_iff_ne] at h; simp; omega]; simp
    · rw [show decide (l.length ≤ 7) = false by simp; omega]; simp
  · have h0 : 0 ≤ v := by
      apply Classical.byContradiction; intro h; exact hb (Or.inl (by omega))
    have h1 : v ≤ 1000000 := by
      apply Classical.byContradiction; intro h; exact hb (Or.inr ⟨h0, Or.inl (by omega)⟩)
    have hk : k.size = 32 := by
      apply Classical.byContradiction; intro h; exact hb (Or.inr ⟨h0, Or.inr ⟨h1, Or.inl (by rw [bne_iff_ne]; omega)⟩⟩)
    have h7 : l.length ≤ 7 := by
      apply Classical.byContradiction; intro h; exact hb (Or.inr ⟨h0, Or.inr ⟨h1, Or.inr ⟨by rw [hk]; rfl, by omega⟩⟩⟩)
    refine (rightcert_ok v k sv l w hv hn h0 h1 hk h7).mono ?_
    rintro e w' ⟨rfl, h⟩
    refine ⟨?_, h⟩
    unfold rightCert
    simp [h0, h1, hk, h7]
end Go.Proofs.YtigoaokpodggcaaDoor
end
section
open Go Go.RowKit
namespace WW
open BB
instance (c q : Int) (s : ByteArray) : Decidable (rightR c q s) := by unfold rightR; infer_instance
/-- a right block -/
def rightBlock (v p cv : Int) (k : ByteArray) (l : List (Int × List ByteArray)) (m : List (Int × Int × ByteArray)) : Bool :=
  (decide (1 ≤ v) && (decide (v ≤ 1000000) && (decide (0 ≤ p) && (decide (p ≤ 6) && (rightCert cv k l && (decide (cv < v) && decide (m.length ≤ 3))))))) && m.all (fun r => decide (rightR r.1 r.2.1 r.2.2))
/-- the block's first fields are wrong, by the first thing that is -/
def BadB (v p : Int) : Prop := v < 1 ∨ 1 ≤ v ∧ ((1000000 : Int) < v ∨ v ≤ 1000000 ∧ (p < 0 ∨ 0 ≤ p ∧ 6 < p))
end WW
namespace Go.Proofs.YtigoaokpodggcaaDoor
open WW BB
end Go.Proofs.YtigoaokpodggcaaDoor
end
