/-
  The walk of what tells whether two signatures are the same.
-/
import Derived.Test.YtacbamfhlgchgaaDoorKLOpen
import Derived.BigQuiet
import Derived.WalkSmall
import Derived.Test.YtacbamfhlgchgaaDoorKJBox
section
open Go Go.RowKit
namespace WW
open BB
/-- the faults that are borne -/
def faultsI (n : Int) : Int := if n < 1 then 0 else (n - 1) / 3
/-- those that are from 0 below n, each once, as they come -/
def onceStep (n : Int) (out : List Int) (x : Int) : List Int := if 0 ≤ x ∧ x < n ∧ x ∉ out then out ++ [x] else out
def onceL (l : List Int) (n : Int) : List Int := l.foldl (onceStep n) []
theorem once_snoc (l : List Int) (n : Int) (i : Nat) (h : i < l.length) : onceL (l.take (i + 1)) n = onceStep n (onceL (l.take i) n) (l.getD i 0) := by
  unfold onceL
  rw [List.take_succ_eq_append_getElem h, List.foldl_append]
  simp [List.getD, List.getElem?_eq_getElem h]
theorem step_len (n : Int) (out : List Int) (x : Int) : (onceStep n out x).length ≤ out.length + 1 := by
  unfold onceStep; split <;> simp
theorem once_len (l : List Int) (n : Int) : ∀ i, i ≤ l.length → (onceL (l.take i) n).length ≤ i := by
  intro i
  induction i with
  | zero => intro _; simp [onceL]
  | succ i ih =>
    intro h
    rw [once_snoc l n i (by omega)]
    have := step_len n (onceL (l.take i) n) (l.getD i 0)
    have := ih (by omega)
    omega
theorem ints_own {e : TypeId} {w : World} {base : Nat} {v : Value} {k : Nat} {l : List Int} (h : w.ownsRow base e 1 v k (l.map (Value.int .i64))) : IntsAt w v l := by
  have hk : l.length = k := by have := h.1; simpa using this
  rcases h.2 with ⟨rfl, h0⟩ | ⟨g, cap, cur, rfl, hg, hh, hn, hcm, hsz, htk⟩
  · have : l = [] := List.eq_nil_of_length_eq_zero (by omega)
    subst this
    exact ⟨none, 0, rfl, by simp, Or.inl rfl⟩
  · have hlt : g < w.heap.size := by
      rcases Nat.lt_or_ge g w.heap.size with h | h
      · exact h
      · rw [Array.getElem?_eq_none h] at hh; cases hh
    have hcm' : cap ≤ 9223372036854775807 := hcm
    subst hk
    refine ⟨some ⟨g, 0, none⟩, cap, rfl, by omega, Or.inr ⟨g, 0, rfl, hlt, fun i hi => ?_⟩⟩
    have h6 := congrArg (·[i]?) htk
    simp only [Nat.mul_one, List.getElem?_take, if_pos hi, Array.getElem?_toList] at h6
    unfold World.cell?
    rw [hh, Nat.zero_add]
    show cur[i]? = _
    rw [h6, List.getElem?_map, List.getElem?_eq_getElem hi]
    simp [List.getD, List.getElem?_eq_getElem hi]
theorem row_keep {w w' : World} {e : TypeId} {lo k m : Nat} {sv : Value} {xs : List Value} (h : w.ownsRow lo e k sv m xs) (hk : ∀ c, sv.ownBlock = some c → w'.heap[c]? = w.heap[c]?) : w'.ownsRow lo e k sv m xs := by
  obtain ⟨h1, h2 | ⟨g, cap, cur, hv, hb, hc, rest⟩⟩ := h
  · exact ⟨h1, Or.inl h2⟩
  · subst hv
    exact ⟨h1, Or.inr ⟨g, cap, cur, rfl, hb, (hk g rfl).trans hc, rest⟩⟩
/-- where the loop of Once stands -/
structure OnceAt (w : World) (e : TypeId) (l : List Int) (n : Int) (i : Nat) (v : Value) (wr : World) : Prop where
  below : Below w.heap.size w wr
  own : wr.ownsRow w.heap.size e 1 v (onceL (l.take i) n).length ((onceL (l.take i) n).map (Value.int .i64))
/-- how many are above x, how many are x -/
def aboveI (l : List Int) (x : Int) : Nat := l.countP (fun y => decide (x < y))
def likeI (l : List Int) (x : Int) : Nat := l.countP (fun y => decide (y = x))
/-- is x the k-th greatest? -/
def topOk (l : List Int) (k x : Int) : Bool := decide ((aboveI l x : Int) < k ∧ k ≤ (aboveI l x : Int) + (likeI l x : Int))
def topI (l : List Int) (k : Int) : Int := (l.find? (topOk l k)).getD 0
theorem above_snoc (l : List Int) (x : Int) (j : Nat) (h : j < l.length) : aboveI (l.take (j + 1)) x = aboveI (l.take j) x + if x < l.getD j 0 then 1 else 0 := by
  unfold aboveI
  rw [List.take_succ_eq_append_getElem h, List.countP_append]
  simp [List.getD, List.getElem?_eq_getElem h, List.countP_cons]
theorem like_snoc (l : List Int) (x : Int) (j : Nat) (h : j < l.length) : likeI (l.take (j + 1)) x = likeI (l.take j) x + if l.getD j 0 = x then 1 else 0 := by
  unfold likeI
  rw [List.take_succ_eq_append_getElem h, List.countP_append]
  simp [List.getD, List.getElem?_eq_getElem h, List.countP_cons]
theorem above_le (l : List Int) (x : Int) (j : Nat) : aboveI (l.take j) x ≤ l.length := by
  have := List.countP_le_length (p := fun y => decide (x < y)) (l := l.take j)
  rw [List.length_take] at this
  unfold aboveI; omega
theorem like_le (l : List Int) (x : Int) (j : Nat) : likeI (l.take j) x ≤ l.length := by
  have := List.countP_le_length (p := fun y => decide (y = x)) (l := l.take j)
  rw [List.length_take] at this
  unfold likeI; omega
theorem top_found (l : List Int) (k : Int) (i : Nat) (h : i < l.length) (hno : ∀ y ∈ l.take i, topOk l k y = false) (hy : topOk l k (l.getD i 0) = true) : topI l k = l.getD i 0 := by
  have h1 : l = l.take i ++ l.getD i 0 :: l.drop (i + 1) := by
    rw [List.getD_eq_getElem?_getD, List.getElem?_eq_getElem h]
    simp
  have h2 : List.find? (topOk l k) (l.take i) = none := by
    rw [List.find?_eq_none]; intro x hx; simp [hno x hx]
  have h3 : List.find? (topOk l k) l = some (l.getD i 0) := by
    conv => lhs; rw [h1]
    rw [List.find?_append, ← h1, h2, List.find?_cons_of_pos hy]; rfl
  rw [topI, h3]; rfl
theorem top_none (l : List Int) (k : Int) (hno : ∀ y ∈ l, topOk l k y = false) : topI l k = 0 := by
  have : l.find? (topOk l k) = none := by rw [List.find?_eq_none]; intro x hx; simp [hno x hx]
  rw [topI, this]; rfl
theorem below_drewI {B : Nat} {a w : World} (h : Below B a w) (n : Nat) : Below B a (w.drewN n) := h.trans ⟨rfl, rfl, rfl, Nat.le_refl _, fun _ _ => rfl⟩
end WW
namespace Go.Proofs.YtacbamfhlgchgaaDoor
open WW BB
theorem info_int : (Tryd.prog.info? 3).map (fun i => (i.zero, i.size, i.bytes)) = some (some (.int .i64 0), 1, 8) := by kernel_rfl
end Go.Proofs.YtacbamfhlgchgaaDoor
end
section
open Go Go.RowKit
namespace CC
open WW BB
theorem ba_toList {a b : ByteArray} (h : a.toList = b.toList) : a = b := by
  rw [ByteArray.toList_eq, ByteArray.toList_eq] at h
  cases a; cases b; congr 1; exact Array.toList_inj.1 h
theorem list_ne_at {α : Type} {l m : List α} {d : α} {i : Nat} (h : l.getD i d ≠ m.getD i d) : l ≠ m := by rintro rfl; exact h rfl
theorem list_eq_at {α : Type} {l m : List α} {d : α} (hl : l.length = m.length) (h : ∀ i, i < l.length → l.getD i d = m.getD i d) : l = m := by
  apply List.ext_getElem hl
  intro i h1 h2
  have := h i h1
  simpa [List.getD, List.getElem?_eq_getElem h1, List.getElem?_eq_getElem h2] using this
end CC
namespace Go.Proofs.YtacbamfhlgchgaaDoor
open CC WW BB
set_option maxRecDepth 100000 in
set_option maxHeartbeats 2000000 in
theorem eqstr_any (l m : List ByteArray) (v u : Value) (w : World) (hv : StrsAt w v l) (hu : StrsAt w u m) (hl : l.length ≤ 1000) :
    Calls Tryd.prog 62 #[v, u] w fun e w' => e = .returned (.bool (decide (l = m))) ∧ Below w.heap.size w w' := by
  have HV := Lib.hid hv
  have HU := Lib.hid hu
  have HL := Lib.hid hl
  obtain ⟨a0, cap, rfl, hx⟩ := hv
  obtain ⟨b0, bap, rfl, hy⟩ := hu
  clear hl hx hy
  by_cases hlm : l.length = m.length
  · have HLM := Lib.hid hlm
    have t0 : ((l.length : Int) != (m.length : Int)) = false := by rw [hlm]; simp
    clear hlm
    obtain ⟨X, hX⟩ : ∃ X, decide (l = m) = X := ⟨_, rfl⟩
    have HX := Lib.hid hX
    rw [hX]
    clear hX
    go_enter Tryd.func62, Tryd.ntmps62
    go_wp2_with fail
    clear t0
    go_loopw [13] (fun v wr => ∃ i : Nat, i ≤ l.length ∧ v = .int .i64 (i : Int) ∧ (∀ j, j < i → l.getD j ⟨#[]⟩ = m.getD j ⟨#[]⟩) ∧ Below w.heap.size w wr) (fun v _ => l.length - (intOf v).toNat)
    case atStart => exact ⟨0, Nat.zero_le _, rfl, fun j hj => absurd hj (Nat.not_lt_zero _), Below.refl _ _⟩
    case round =>
      obtain ⟨i, hi, rfl, hal, hb⟩ := hrel
      have HALL := Lib.hid hal
      have HB := Lib.hid hb
      have i0 : (0 : Int) ≤ (i : Int) := by omega
      have ib : (i : Int) ≤ 1000 := by have := HL.out; omega
      clear hal hb
      by_cases hlt : i < l.length
      · have hlt' : (i : Int) < (l.length : Int) := by omega
        have hlt2 : (i : Int) < (m.length : Int) := by rw [← HLM.out]; omega
        obtain ⟨a1, cap1, he, hv | ⟨gb, off, rfl, hbw, hcell⟩⟩ := HV.out
        · rw [hv] at hlt; simp at hlt
        injection he with e1 _ e3
        subst e1 e3
        obtain ⟨a2, cap2, he2, hv2 | ⟨gb2, off2, rfl, hbw2, hcell2⟩⟩ := HU.out
        · rw [hv2] at hlt2; simp at hlt2; omega
        injection he2 with e1 _ e3
        subst e1 e3
        have hcl : wr.cell? ⟨gb, off + i, none⟩ = _ := (HB.out.cell (p := ⟨gb, off + i, none⟩) hbw).trans (hcell i hlt)
        have hcl2 : wr.cell? ⟨gb2, off2 + i, none⟩ = _ := (HB.out.cell (p := ⟨gb2, off2 + i, none⟩) hbw2).trans (hcell2 i (by omega))
        obtain ⟨s, hs⟩ : ∃ s, l.getD i ⟨#[]⟩ = s := ⟨_, rfl⟩
        obtain ⟨t, ht⟩ : ∃ t, m.getD i ⟨#[]⟩ = t := ⟨_, rfl⟩
        rw [hs] at hcl
        rw [ht] at hcl2
        have HST := Lib.hid (And.intro hs ht)
        have HLT := Lib.hid hlt
        clear hs ht hlt hi hcell hbw hcell2 hbw2
        by_cases hst : s = t
        · subst hst
          have HE := Lib.hid (show l.getD i ⟨#[]⟩ = m.getD i ⟨#[]⟩ from HST.out.1.trans HST.out.2.symm)
          have t1 : (s.toList == s.toList) = true := by simp
          go_wp2_with fail
          go_quiet (fail)
          go_wp2_with fail
          go_roundw
          case rel => exact ⟨i + 1, by have := HLT.out; omega, by go_num, fun j hj => if h : j = i then h ▸ HE.out else HALL.out j (by omega), below_drewI HB.out _⟩
          case measure => have := HLT.out; simp [intOf]; omega
        · have t1 : (s.toList == t.toList) = false := by rw [beq_eq_false_iff_ne]; exact fun h => hst (ba_toList h)
          have HS := Lib.hid hst
          clear hst
          go_wp2_with fail
          go_quiet (fail)
          go_wp2_with fail
          go_ret
          refine ⟨?_, below_drewI HB.out _⟩
          have hne : l ≠ m := list_ne_at (d := ⟨#[]⟩) (i := i) (by rw [HST.out.1, HST.out.2]; exact HS.out)
          rw [← HX.out]; simp [hne]
      · obtain rfl : i = l.length := by omega
        have hlt' : ¬ (l.length : Int) < (l.length : Int) := by omega
        clear hi hlt
        go_wp2_with fail
        go_ret
        refine ⟨?_, HB.out⟩
        have he : l = m := list_eq_at HLM.out HALL.out
        rw [← HX.out]; simp [he]
  · have t0 : ((l.length : Int) != (m.length : Int)) = true := by rw [bne_iff_ne]; omega
    have HLM := Lib.hid hlm
    clear hlm
    go_enter Tryd.func62, Tryd.ntmps62
    go_wp2_with fail
    go_ret
    refine ⟨?_, Below.refl _ _⟩
    have hne : l ≠ m := by rintro rfl; exact HLM.out rfl
    simp [hne]
end Go.Proofs.YtacbamfhlgchgaaDoor
end
section
open Go Go.RowKit
namespace Go.Proofs.YtacbamfhlgchgaaDoor
open CC WW BB
set_option maxRecDepth 100000 in
set_option maxHeartbeats 2000000 in
theorem jsamesig_any (f g : Int) (x y : Value) (l m : List ByteArray) (w : World) (hx : StrsAt w x l) (hy : StrsAt w y m) (hl : l.length ≤ 1000) :
    Calls Tryd.prog 41 #[.agg #[.int .i64 f, x], .agg #[.int .i64 g, y]] w fun e w' => e = .returned (.bool (decide ((f, l) = (g, m)))) ∧ Below w.heap.size w w' := by
  have HX := Lib.hid hx
  have HY := Lib.hid hy
  have HL := Lib.hid hl
  obtain ⟨a0, cap, rfl, _⟩ := hx
  obtain ⟨b0, bap, rfl, _⟩ := hy
  clear hl
  by_cases hfg : f = g
  · subst hfg
    obtain ⟨X, hX⟩ : ∃ X, decide (l = m) = X := ⟨_, rfl⟩
    have e1 : decide ((f, l) = (f, m)) = X := by rw [← hX]; simp
    rw [e1]
    have HXX := Lib.hid hX
    have t0 : (f == f) = true := by simp
    clear hX e1
    have b2 := Lib.hid (((Below.refl w.heap.size w).alloc (Nat.le_refl _) (.cells #[.int .i64 f, .slice a0 l.length cap] 42)).alloc (by simp) (.cells #[.int .i64 f, .slice b0 m.length bap] 42))
    go_enter Tryd.func41, Tryd.ntmps41
    go_wp2_with fail
    refine (eqstr_any l m _ _ _ (HX.out.later b2.out) (HY.out.later b2.out) HL.out).mono ?_
    rintro e w2 ⟨rfl, hb2⟩
    rw [HXX.out]
    have B2 := Lib.hid (b2.out.trans (hb2.mono b2.out.size))
    clear hb2 b2
    go_wp2_with fail
    go_ret
    exact ⟨rfl, B2.out⟩
  · have t0 : (f == g) = false := by simpa using hfg
    have HFG := Lib.hid hfg
    clear hfg
    have b2 := Lib.hid (((Below.refl w.heap.size w).alloc (Nat.le_refl _) (.cells #[.int .i64 f, .slice a0 l.length cap] 42)).alloc (by simp) (.cells #[.int .i64 g, .slice b0 m.length bap] 42))
    go_enter Tryd.func41, Tryd.ntmps41
    go_wp2_with fail
    go_ret
    refine ⟨?_, b2.out⟩
    rw [show decide ((f, l) = (g, m)) = false by simp [HFG.out]]; rfl
end Go.Proofs.YtacbamfhlgchgaaDoor
end
section
open Go Go.RowKit
namespace WW
def quorumI (n : Int) : Int := (if n < 1 then 1 else n) - faultsI n
def leaderI (v n : Int) : Int := if v < 0 ∨ n < 1 then 0 else v % n
theorem faultsI_le (n : Int) : 0 ≤ faultsI n ∧ faultsI n ≤ 3074457345618258603 ∨ 9223372036854775807 < n := by unfold faultsI; split <;> omega
theorem wf_i64 {n : Int} (h : (Lit.int .i64 n).wf = true) : -9223372036854775808 ≤ n ∧ n ≤ 9223372036854775807 := by
  simp [Lit.wf, IntKind.min, IntKind.max, IntKind.signed, IntKind.bits] at h
  omega
end WW
namespace Go.Proofs.YtacbamfhlgchgaaDoor
open WW BB
set_option maxRecDepth 100000 in
theorem cfaults_any (n : Int) (h : n ≤ 9223372036854775807) (w : World) : Calls Tryd.prog 46 #[.int .i64 n] w fun e w' => e = .returned (.int .i64 (faultsI n)) ∧ w = w' := by
  by_cases h1 : n < 1
  · have E := Lib.hid (show faultsI n = 0 by unfold faultsI; rw [if_pos h1])
    have h2 : n ≤ 1 := by omega
    go_enter Tryd.func46, Tryd.ntmps46
    go_wp2_with fail
    go_ret
    exact ⟨by rw [E.out]; rfl, rfl⟩
  · have E := Lib.hid (show faultsI n = (n - 1) / 3 by unfold faultsI; rw [if_neg h1])
    have h2 : 0 ≤ n - 1 := by omega
    have h3 : n - 1 ≤ 9223372036854775806 := by omega
    have h4 : 1 ≤ n := by omega
    go_enter Tryd.func46, Tryd.ntmps46
    go_wp2_with fail
    go_ret
    exact ⟨by rw [E.out]; rfl, rfl⟩
theorem cfaults_is (n f : Int) (hf : faultsI n = f) (h : n ≤ 9223372036854775807) (w : World) : Calls Tryd.prog 46 #[.int .i64 n] w fun e w' => e = .returned (.int .i64 f) ∧ w = w' := hf ▸ cfaults_any n h w
set_option maxRecDepth 100000 in
theorem cquorum_any (n : Int) (h : n ≤ 9223372036854775807) (w : World) : Calls Tryd.prog 31 #[.int .i64 n] w fun e w' => e = .returned (.int .i64 (quorumI n)) ∧ w = w' := by
  obtain ⟨f, hf⟩ : ∃ f, faultsI n = f := ⟨_, rfl⟩
  have F := Lib.hid hf
  by_cases h1 : n < 1
  · have E := Lib.hid (show quorumI n = 1 - f by unfold quorumI; rw [if_pos h1, hf])
    have f0 : 0 = f := by rw [← hf]; unfold faultsI; rw [if_pos h1]
    have h2 : n ≤ 1 := by omega
    clear hf
    subst f0
    go_enter Tryd.func31, Tryd.ntmps31
    go_wp2_with fail
    refine (cfaults_is n 0 F.out h w).mono ?_
    rintro e w' ⟨rfl, rfl⟩
    go_wp2_with fail
    go_ret
    exact ⟨by rw [E.out]; rfl, rfl⟩
  · have E := Lib.hid (show quorumI n = n - f by unfold quorumI; rw [if_neg h1, hf])
    have f0 : 0 ≤ f ∧ f ≤ n := by rw [← hf]; unfold faultsI; rw [if_neg h1]; omega
    have f1 := f0.1
    have f2 := f0.2
    have f3 : 0 ≤ n - f := by omega
    have f4 : n - f ≤ 9223372036854775807 := by omega
    have h4 : 1 ≤ n := by omega
    clear hf f0
    go_enter Tryd.func31, Tryd.ntmps31
    go_wp2_with fail
    refine (cfaults_is n f F.out h w).mono ?_
    rintro e w' ⟨rfl, rfl⟩
    go_wp2_with fail
    go_ret
    exact ⟨by rw [E.out]; rfl, rfl⟩
set_option maxRecDepth 100000 in
theorem cleader_any (v n : Int) (w : World) : Calls Tryd.prog 12 #[.int .i64 v, .int .i64 n] w fun e w' => e = .returned (.int .i64 (leaderI v n)) ∧ w = w' := by
  by_cases hv : v < 0
  · have E := Lib.hid (show leaderI v n = 0 by unfold leaderI; rw [if_pos (Or.inl hv)])
    go_enter Tryd.func12, Tryd.ntmps12
    go_wp2_with fail
    go_ret
    exact ⟨by rw [E.out]; rfl, rfl⟩
  · by_cases hn : n < 1
    · have E := Lib.hid (show leaderI v n = 0 by unfold leaderI; rw [if_pos (Or.inr hn)])
      go_enter Tryd.func12, Tryd.ntmps12
      go_wp2_with fail
      go_ret
      exact ⟨by rw [E.out]; rfl, rfl⟩
    · have E := Lib.hid (show leaderI v n = v % n by unfold leaderI; rw [if_neg (by omega)])
      have v0 : 0 ≤ v := by omega
      have n0 : 1 ≤ n := by omega
      have n1 : ¬ n = 0 := by omega
      have m0 : 0 ≤ v % n := Int.emod_nonneg _ n1
      have m1 : v % n < n := Int.emod_lt_of_pos _ (by omega)
      go_enter Tryd.func12, Tryd.ntmps12
      go_wp2_with fail
      go_ret
      exact ⟨by rw [E.out]; rfl, rfl⟩
end Go.Proofs.YtacbamfhlgchgaaDoor
end
section
open Go Go.RowKit
namespace Go.Proofs.YtacbamfhlgchgaaDoor
open CC WW BB
set_option maxRecDepth 100000 in
set_option maxHeartbeats 2000000 in
theorem samesig_any (f g : Int) (x y : Value) (l m : List ByteArray) (w : World) (hx : StrsAt w x l) (hy : StrsAt w y m) (hl : l.length ≤ 1000) :
    Calls Tryd.prog 42 #[.agg #[.int .i64 f, x], .agg #[.int .i64 g, y]] w fun e w' => e = .returned (.bool (decide ((f, l) = (g, m)))) ∧ Below w.heap.size w w' := by
  have HX := Lib.hid hx
  have HY := Lib.hid hy
  have HL := Lib.hid hl
  obtain ⟨a0, cap, rfl, _⟩ := hx
  obtain ⟨b0, bap, rfl, _⟩ := hy
  clear hl
  by_cases hfg : f = g
  · subst hfg
    obtain ⟨X, hX⟩ : ∃ X, decide (l = m) = X := ⟨_, rfl⟩
    have e1 : decide ((f, l) = (f, m)) = X := by rw [← hX]; simp
    rw [e1]
    have HXX := Lib.hid hX
    have t0 : (f == f) = true := by simp
    clear hX e1
    have b2 := Lib.hid (((Below.refl w.heap.size w).alloc (Nat.le_refl _) (.cells #[.int .i64 f, .slice a0 l.length cap] 42)).alloc (by simp) (.cells #[.int .i64 f, .slice b0 m.length bap] 42))
    go_enter Tryd.func42, Tryd.ntmps42
    go_wp2_with fail
    refine (eqstr_any l m _ _ _ (HX.out.later b2.out) (HY.out.later b2.out) HL.out).mono ?_
    rintro e w2 ⟨rfl, hb2⟩
    rw [HXX.out]
    have B2 := Lib.hid (b2.out.trans (hb2.mono b2.out.size))
    clear hb2 b2
    go_wp2_with fail
    go_ret
    exact ⟨rfl, B2.out⟩
  · have t0 : (f == g) = false := by simpa using hfg
    have HFG := Lib.hid hfg
    clear hfg
    have b2 := Lib.hid (((Below.refl w.heap.size w).alloc (Nat.le_refl _) (.cells #[.int .i64 f, .slice a0 l.length cap] 42)).alloc (by simp) (.cells #[.int .i64 g, .slice b0 m.length bap] 42))
    go_enter Tryd.func42, Tryd.ntmps42
    go_wp2_with fail
    go_ret
    refine ⟨?_, b2.out⟩
    rw [show decide ((f, l) = (g, m)) = false by simp [HFG.out]]; rfl
end Go.Proofs.YtacbamfhlgchgaaDoor
end
