/-
  The walk of the closure that cuts a number off.
-/
import Derived.Test.YtigoaokpodggcaaDoorKLOpen
import Derived.BigQuiet
import Derived.WalkSmall
import Derived.Test.YtigoaokpodggcaaDoorChecked
import Derived.WalkKit
import Derived.Lib.Hide
import Derived.WalkSpells
import Derived.WalkLawsBesides
import Derived.Deep.RegionHeld3
import Derived.Lib.UnsafeStr
import Derived.Lib.Buffer
section
open Go Go.RowKit
namespace WW
open BB
/-- the faults that are borne -/
def faultsI (n : Int) : Int := if n < 1 then 0 else (n - 1) / 3
/-- those that are from 0 below n, each once, as they come -/
def onceStep (n : Int) (out : List Int) (x : Int) : List Int := if 0 ≤ x ∧ x < n ∧ x ∉ out then out ++ [x] else out
def onceL (l : List Int) (n : Int) : List Int := l.foldl (onceStep n) []
theorem once_snoc (l : List Int) (n : Int) (i : Nat) (h : i < l.length) : onceL (l.take (i + 1)) n = onceStep n (onceL (l.take i) n) (l.getD i 0) := by
  unfold onceL
  rw [List.take_succ_eq_append_getElem h, List.foldl_append]
  simp [List.getD, List.getElem?_eq_getElem h]
theorem step_len (n : Int) (out : List Int) (x : Int) : (onceStep n out x).length ≤ out.length + 1 := by
  unfold onceStep; split <;> simp
theorem once_len (l : List Int) (n : Int) : ∀ i, i ≤ l.length → (onceL (l.take i) n).length ≤ i := by
  intro i
  induction i with
  | zero => intro _; simp [onceL]
  | succ i ih =>
    intro h
    rw [once_snoc l n i (by omega)]
    have := step_len n (onceL (l.take i) n) (l.getD i 0)
    have := ih (by omega)
    omega
theorem ints_own {e : TypeId} {w : World} {base : Nat} {v : Value} {k : Nat} {l : List Int} (h : w.ownsRow base e 1 v k (l.map (Value.int .i64))) : IntsAt w v l := by
  have hk : l.length = k := by have := h.1; simpa using this
  rcases h.2 with ⟨rfl, h0⟩ | ⟨g, cap, cur, rfl, hg, hh, hn, hcm, hsz, htk⟩
  · have : l = [] := List.eq_nil_of_length_eq_zero (by omega)
    subst this
    exact ⟨none, 0, rfl, by simp, Or.inl rfl⟩
  · have hlt : g < w.heap.size := by
      rcases Nat.lt_or_ge g w.heap.size with h | h
      · exact h
      · rw [Array.getElem?_eq_none h] at hh; cases hh
    have hcm' : cap ≤ 9223372036854775807 := hcm
    subst hk
    refine ⟨some ⟨g, 0, none⟩, cap, rfl, by omega, Or.inr ⟨g, 0, rfl, hlt, fun i hi => ?_⟩⟩
    have h6 := congrArg (·[i]?) htk
    simp only [Nat.mul_one, List.getElem?_take, if_pos hi, Array.getElem?_toList] at h6
    unfold World.cell?
    rw [hh, Nat.zero_add]
    show cur[i]? = _
    rw [h6, List.getElem?_map, List.getElem?_eq_getElem hi]
    simp [List.getD, List.getElem?_eq_getElem hi]
theorem row_keep {w w' : World} {e : TypeId} {lo k m : Nat} {sv : Value} {xs : List Value} (h : w.ownsRow lo e k sv m xs) (hk : ∀ c, sv.ownBlock = some c → w'.heap[c]? = w.heap[c]?) : w'.ownsRow lo e k sv m xs := by
  obtain ⟨h1, h2 | ⟨g, cap, cur, hv, hb, hc, rest⟩⟩ := h
  · exact ⟨h1, Or.inl h2⟩
  · subst hv
    exact ⟨h1, Or.inr ⟨g, cap, cur, rfl, hb, (hk g rfl).trans hc, rest⟩⟩
/-- where the loop of Once stands -/
structure OnceAt (w : World) (e : TypeId) (l : List Int) (n : Int) (i : Nat) (v : Value) (wr : World) : Prop where
  below : Below w.heap.size w wr
  own : wr.ownsRow w.heap.size e 1 v (onceL (l.take i) n).length ((onceL (l.take i) n).map (Value.int .i64))
/-- how many are above x, how many are x -/
def aboveI (l : List Int) (x : Int) : Nat := l.countP (fun y => decide (x < y))
def likeI (l : List Int) (x : Int) : Nat := l.countP (fun y => decide (y = x))
/-- is x the k-th greatest? -/
def topOk (l : List Int) (k x : Int) : Bool := decide ((aboveI l x : Int) < k ∧ k ≤ (aboveI l x : Int) + (likeI l x : Int))
def topI (l : List Int) (k : Int) : Int := (l.find? (topOk l k)).getD 0
theorem above_snoc (l : List Int) (x : Int) (j : Nat) (h : j < l.length) : aboveI (l.take (j + 1)) x = aboveI (l.take j) x + if x < l.getD j 0 then 1 else 0 := by
  unfold aboveI
  rw [List.take_succ_eq_append_getElem h, List.countP_append]
  simp [List.getD, List.getElem?_eq_getElem h, List.countP_cons]
theorem like_snoc (l : List Int) (x : Int) (j : Nat) (h : j < l.length) : likeI (l.take (j + 1)) x = likeI (l.take j) x + if l.getD j 0 = x then 1 else 0 := by
  unfold likeI
  rw [List.take_succ_eq_append_getElem h, List.countP_append]
  simp [List.getD, List.getElem?_eq_getElem h, List.countP_cons]
theorem above_le (l : List Int) (x : Int) (j : Nat) : aboveI (l.take j) x ≤ l.length := by
  have := List.countP_le_length (p := fun y => decide (x < y)) (l := l.take j)
  rw [List.length_take] at this
  unfold aboveI; omega
theorem like_le (l : List Int) (x : Int) (j : Nat) : likeI (l.take j) x ≤ l.length := by
  have := List.countP_le_length (p := fun y => decide (y = x)) (l := l.take j)
  rw [List.length_take] at this
  unfold likeI; omega
theorem top_found (l : List Int) (k : Int) (i : Nat) (h : i < l.length) (hno : ∀ y ∈ l.take i, topOk l k y = false) (hy : topOk l k (l.getD i 0) = true) : topI l k = l.getD i 0 := by
  have h1 : l = l.take i ++ l.getD i 0 :: l.drop (i + 1) := by
    rw [List.getD_eq_getElem?_getD, List.getElem?_eq_getElem h]
    simp
  have h2 : List.find? (topOk l k) (l.take i) = none := by
    rw [List.find?_eq_none]; intro x hx; simp [hno x hx]
  have h3 : List.find? (topOk l k) l = some (l.getD i 0) := by
    conv => lhs; rw [h1]
    rw [List.find?_append, ← h1, h2, List.find?_cons_of_pos hy]; rfl
  rw [topI, h3]; rfl
theorem top_none (l : List Int) (k : Int) (hno : ∀ y ∈ l, topOk l k y = false) : topI l k = 0 := by
  have : l.find? (topOk l k) = none := by rw [List.find?_eq_none]; intro x hx; simp [hno x hx]
  rw [topI, this]; rfl
theorem below_drewI {B : Nat} {a w : World} (h : Below B a w) (n : Nat) : Below B a (w.drewN n) := h.trans ⟨rfl, rfl, rfl, Nat.le_refl _, fun _ _ => rfl⟩
end WW
namespace Go.Proofs.YtigoaokpodggcaaDoor
open WW BB
set_option maxRecDepth 100000 in
theorem rfaults3_any (n : Int) (h : n ≤ 9223372036854775807) (w : World) : Calls Tryd.prog 42 #[.int .i64 n] w fun e w' => e = .returned (.int .i64 (faultsI n)) ∧ w = w' := by
  by_cases h1 : n < 1
  · rw [show faultsI n = 0 by unfold faultsI; rw [if_pos h1]]
    go_enter Tryd.func42, Tryd.ntmps42
    go_wp2_with fail
    go_ret
    exact ⟨rfl, rfl⟩
  · have E := Lib.hid (show faultsI n = (n - 1) / 3 by unfold faultsI; rw [if_neg h1])
    have h2 : 0 ≤ n - 1 := by omega
    have h3 : n - 1 ≤ 9223372036854775806 := by omega
    go_enter Tryd.func42, Tryd.ntmps42
    go_wp2_with fail
    go_ret
    exact ⟨by rw [E.out]; rfl, rfl⟩
set_option maxRecDepth 100000 in
theorem rfaults_any (n : Int) (h : n ≤ 9223372036854775807) (w : World) : Calls Tryd.prog 20 #[.int .i64 n] w fun e w' => e = .returned (.int .i64 (faultsI n)) ∧ w = w' := by
  by_cases h4 : n < 4
  · have E := Lib.hid (show faultsI n = 0 by unfold faultsI; split <;> omega)
    go_enter Tryd.func20, Tryd.ntmps20
    go_wp2_with fail
    go_ret
    exact ⟨by rw [E.out]; rfl, rfl⟩
  · have E := Lib.hid (show faultsI n = 1 + faultsI (n - 3) by unfold faultsI; split <;> split <;> omega)
    have F := Lib.hid (show 0 ≤ faultsI (n - 3) ∧ faultsI (n - 3) ≤ 9000000000000000000 by unfold faultsI; split <;> omega)
    have h2 : 0 ≤ n - 3 := by omega
    have h3 : n - 3 ≤ 9223372036854775806 := by omega
    go_enter Tryd.func20, Tryd.ntmps20
    go_wp2_with fail
    refine (rfaults3_any (n - 3) (by omega) w).mono ?_
    rintro e w' ⟨rfl, rfl⟩
    have f0 := F.out.1
    have f1 := F.out.2
    go_wp2_with fail
    go_ret
    exact ⟨by rw [E.out]; rfl, rfl⟩
set_option maxRecDepth 100000 in
set_option maxHeartbeats 1000000 in
theorem has_any (l : List Int) (v : Value) (x : Int) (w : World) (hv : IntsAt w v l) : Calls Tryd.prog 21 #[v, .int .i64 x] w fun e w' => e = .returned (.bool (decide (x ∈ l))) ∧ w = w' := by
  obtain ⟨X, hX⟩ : ∃ X, decide (x ∈ l) = X := ⟨_, rfl⟩
  rw [hX]
  have HX := Lib.hid hX
  have HV := Lib.hid hv
  have HN := Lib.hid hv.len
  obtain ⟨a0, cap, rfl, _, hx⟩ := hv
  clear hx hX
  go_enter Tryd.func21, Tryd.ntmps21
  go_wp2_with fail
  go_loop [5] (fun u => ∃ i : Nat, i ≤ l.length ∧ u = .int .i64 (i : Int) ∧ x ∉ l.take i) (fun u => l.length - (intOf u).toNat)
  case atStart => exact ⟨0, Nat.zero_le _, rfl, by simp⟩
  case round =>
    obtain ⟨i, hi, rfl, hno⟩ := hrel
    have HNO := Lib.hid hno
    have i0 : (0 : Int) ≤ (i : Int) := by omega
    clear hno
    by_cases hlt : i < l.length
    · have hlt' : (i : Int) < (l.length : Int) := by omega
      have ib : (i : Int) + 1 ≤ 9223372036854775807 := by have := HN.out; omega
      obtain ⟨a1, cap1, he, _, hv | ⟨gb, off, rfl, hbw, hcell⟩⟩ := HV.out
      · rw [hv] at hlt; simp at hlt
      injection he with e1 _ e3
      subst e1 e3
      have hcl := hcell i hlt
      have HIN := Lib.hid (show l.take (i + 1) = l.take i ++ [l.getD i 0] by rw [List.take_succ_eq_append_getElem hlt]; simp [List.getD, List.getElem?_eq_getElem hlt])
      have HME := Lib.hid (show l.getD i 0 ∈ l by rw [List.getD_eq_getElem?_getD, List.getElem?_eq_getElem hlt]; exact List.getElem_mem hlt)
      obtain ⟨y, hy⟩ : ∃ y, l.getD i 0 = y := ⟨_, rfl⟩
      have HIN' := HIN.out
      have HME' := HME.out
      rw [hy] at hcl HIN' HME'
      clear HIN HME
      have HIN := Lib.hid HIN'
      have HME := Lib.hid HME'
      have HLT := Lib.hid hlt
      clear HIN' HME' hy hlt hi hcell hbw
      by_cases hyx : y = x
      · have t1 : (y == x) = true := by rw [hyx]; simp
        have HXT := Lib.hid (show X = true by rw [← HX.out, ← hyx]; simpa using HME.out)
        clear hyx
        go_wp2_with fail
        go_ret
        exact ⟨by rw [HXT.out]; rfl, rfl⟩
      · have t1 : (y == x) = false := by simpa using hyx
        have HYX := Lib.hid hyx
        clear hyx
        go_wp2_with fail
        go_round
        case rel => exact ⟨i + 1, by have := HLT.out; omega, by go_num, by
          rw [HIN.out, List.mem_append]
          have := HNO.out
          have := HYX.out
          simp only [List.mem_singleton]
          rintro (h | h)
          · exact HNO.out h
          · exact HYX.out h.symm⟩
        case measure => have := HLT.out; simp [intOf]; omega
    · obtain rfl : i = l.length := by omega
      have hlt' : ¬ (l.length : Int) < (l.length : Int) := by omega
      have HXF := Lib.hid (show X = false by
        have := HNO.out
        rw [List.take_length] at this
        rw [← HX.out]; simpa using this)
      clear hi hlt
      go_wp2_with fail
      go_ret
      exact ⟨by rw [HXF.out]; rfl, rfl⟩
theorem has_is (l : List Int) (v : Value) (x : Int) (b : Bool) (hb : decide (x ∈ l) = b) (w : World) (hv : IntsAt w v l) : Calls Tryd.prog 21 #[v, .int .i64 x] w fun e w' => e = .returned (.bool b) ∧ w = w' := hb ▸ has_any l v x w hv
theorem info_int : (Tryd.prog.info? 3).map (fun i => (i.zero, i.size, i.bytes)) = some (some (.int .i64 0), 1, 8) := by kernel_rfl
set_option maxRecDepth 100000 in
set_option maxHeartbeats 4000000 in
theorem once_any (l : List Int) (v : Value) (n : Int) (w : World) (hv : IntsAt w v l) (hs : l.length ≤ 1000) : Calls Tryd.prog 19 #[v, .int .i64 n] w fun e w' => ∃ v', e = .returned v' ∧ IntsAt w' v' (onceL l n) ∧ Below w.heap.size w w' := by
  have HV := Lib.hid hv
  have HS := Lib.hid hs
  obtain ⟨a0, cap, rfl, _, hx⟩ := hv
  clear hs hx
  go_enter Tryd.func19, Tryd.ntmps19
  go_wp2_with fail
  go_loopw [5, 6] (fun u x wr => ∃ (i : Nat) (u' : Value), i ≤ l.length ∧ x = .int .i64 (i : Int) ∧ u = u' ∧ OnceAt w 3 l n i u' wr) (fun _ x _ => l.length - (intOf x).toNat)
  case atStart => exact ⟨0, _, Nat.zero_le _, rfl, rfl, ⟨Below.refl _ _, rfl, Or.inl ⟨rfl, rfl⟩⟩⟩
  case round =>
    obtain ⟨i, u, hi, rfl, rfl, hO⟩ := hrel
    have HO := Lib.hid hO
    have HIO := Lib.hid (ints_own hO.own)
    have HOL := Lib.hid (once_len l n i hi)
    obtain ⟨out, hout⟩ : ∃ out, onceL (l.take i) n = out := ⟨_, rfl⟩
    rw [hout] at HIO HOL
    have HT := Lib.hid hout
    have HB := Lib.hid hO.below
    by_cases hlt : i < l.length
    · have hlt' : (i : Int) < (l.length : Int) := by omega
      have i0 : (0 : Int) ≤ (i : Int) := by omega
      have ib : (i : Int) + 1 ≤ 9223372036854775807 := by have := HS.out; omega
      obtain ⟨a1, cap1, he, _, hv | ⟨gb, off, rfl, hbw, hcell⟩⟩ := HV.out
      · rw [hv] at hlt; simp at hlt
      injection he with e1 _ e3
      subst e1 e3
      have hcl := (hO.below.cell (p := ⟨gb, off + i, none⟩) hbw).trans (hcell i hlt)
      have HSN := Lib.hid (once_snoc l n i hlt)
      obtain ⟨y, hy⟩ : ∃ y, l.getD i 0 = y := ⟨_, rfl⟩
      rw [hy] at hcl
      have HSN := Lib.hid (show onceL (l.take (i + 1)) n = onceStep n out y by rw [HSN.out, hy, hout])
      have HLT := Lib.hid hlt
      have hown := hO.own
      rw [hout] at hown
      have HOW := Lib.hid hown
      clear hy hlt hi hcell hbw hO hout hown
      by_cases hy0 : 0 ≤ y
      · by_cases hyn : y < n
        · obtain ⟨b, hb⟩ : ∃ b, decide (y ∈ out) = b := ⟨_, rfl⟩
          have HBB := Lib.hid hb
          clear hb
          go_wp2_with fail
          refine (has_is out u5 y b HBB.out wr HIO.out).mono ?_
          rintro e w' ⟨rfl, rfl⟩
          cases b
          · obtain ⟨ti, i1, i2, i3, i4⟩ := info_parts info_int
            have cx := cell_new wr #[.int .i64 y] 3 0 _ rfl
            have bal := (Below.refl wr.heap.size wr).alloc (Nat.le_refl _) (.cells #[.int .i64 y] 3)
            have hown2 : (wr.alloc (.cells #[.int .i64 y] 3)).ownsRow w.heap.size 3 1 u5 out.length (out.map (Value.int .i64)) := row_keep HOW.out fun c hc => bal.block c (HOW.out.lt c hc).2
            have hbs := Nat.le_trans HB.out.size bal.size
            go_wp2_with (at_builtin; refine wpList_append_own _ rfl _ _ 28 rfl w.heap.size 3 ti (.int .i64 0) 1 8 (by kernel_rfl) i1 i2 i3 i4 rfl (by decide) u5 out.length (out.map (Value.int .i64)) rfl hown2 ⟨wr.heap.size, 0, none⟩ 1 1 [.int .i64 y] rfl rfl ?c1 ?c2 ?c3 ?c4 hbs ?_)
            case c1 =>
              intro j u hj
              match j, hj with
              | 0, hj => simp at hj; subst hj; rw [Addr.add_lit]; exact cx
              | j + 1, hj => simp at hj
            case c2 => intro u hu; simp at hu; subst hu; rfl
            case c3 => have := HOL.out; have := HLT.out; have := HS.out; unfold maxLen; omega
            case c4 => have := HOL.out; have := HLT.out; have := HS.out; omega
            intro v' w' hown' hgr _
            have hb' : Below w.heap.size w w' := (HB.out.trans (bal.mono HB.out.size)).grown hgr (by have := HB.out.size; omega) (fun k hk => (hown2.lt k hk).1)
            have HB' := Lib.hid hb'
            have HOW' := Lib.hid hown'
            clear hb' hown' hgr hown2 bal cx hbs
            go_wp2_with fail
            go_roundw
            case rel => exact ⟨i + 1, _, by have := HLT.out; omega, by go_num, rfl, ⟨HB'.out, by
              rw [HSN.out, onceStep, if_pos ⟨hy0, hyn, by simpa using HBB.out⟩, List.map_append, List.length_append]; exact HOW'.out⟩⟩
            case measure => have := HLT.out; simp [intOf]; omega
          · go_wp2_with fail
            go_roundw
            case rel => exact ⟨i + 1, _, by have := HLT.out; omega, by go_num, rfl, ⟨HB.out, by
              rw [HSN.out, onceStep, if_neg (by rintro ⟨_, _, h⟩; exact h (by simpa using HBB.out))]; exact HOW.out⟩⟩
            case measure => have := HLT.out; simp [intOf]; omega
        · have HYN := Lib.hid hyn
          go_wp2_with fail
          go_roundw
          case rel => exact ⟨i + 1, _, by have := HLT.out; omega, by go_num, rfl, ⟨HB.out, by
            rw [HSN.out, onceStep, if_neg (by rintro ⟨_, h, _⟩; exact HYN.out h)]; exact HOW.out⟩⟩
          case measure => have := HLT.out; simp [intOf]; omega
      · have HY0 := Lib.hid hy0
        go_wp2_with fail
        go_roundw
        case rel => exact ⟨i + 1, _, by have := HLT.out; omega, by go_num, rfl, ⟨HB.out, by
          rw [HSN.out, onceStep, if_neg (by rintro ⟨h, _⟩; exact HY0.out h)]; exact HOW.out⟩⟩
        case measure => have := HLT.out; simp [intOf]; omega
    · obtain rfl : i = l.length := by omega
      have hlt' : ¬ (l.length : Int) < (l.length : Int) := by omega
      have HTL := Lib.hid (show onceL l n = out by rw [← hout, List.take_length])
      clear hi hlt hO hout
      go_wp2_with fail
      go_ret
      exact ⟨u5, rfl, by rw [HTL.out]; exact HIO.out, HB.out⟩
end Go.Proofs.YtigoaokpodggcaaDoor
end
section
open Go Go.RowKit
namespace CC
open WW BB
theorem ba_toList {a b : ByteArray} (h : a.toList = b.toList) : a = b := by
  rw [ByteArray.toList_eq, ByteArray.toList_eq] at h
  cases a; cases b; congr 1; exact Array.toList_inj.1 h
theorem list_ne_at {α : Type} {l m : List α} {d : α} {i : Nat} (h : l.getD i d ≠ m.getD i d) : l ≠ m := by rintro rfl; exact h rfl
theorem list_eq_at {α : Type} {l m : List α} {d : α} (hl : l.length = m.length) (h : ∀ i, i < l.length → l.getD i d = m.getD i d) : l = m := by
  apply List.ext_getElem hl
  intro i h1 h2
  have := h i h1
  simpa [List.getD, List.getElem?_eq_getElem h1, List.getElem?_eq_getElem h2] using this
end CC
namespace Go.Proofs.YtigoaokpodggcaaDoor
open CC WW BB
set_option maxRecDepth 100000 in
set_option maxHeartbeats 2000000 in
theorem eqstr_any (l m : List ByteArray) (v u : Value) (w : World) (hv : StrsAt w v l) (hu : StrsAt w u m) (hl : l.length ≤ 1000) :
    Calls Tryd.prog 70 #[v, u] w fun e w' => e = .returned (.bool (decide (l = m))) ∧ Below w.heap.size w w' := by
  have HV := Lib.hid hv
  have HU := Lib.hid hu
  have HL := Lib.hid hl
  obtain ⟨a0, cap, rfl, hx⟩ := hv
  obtain ⟨b0, bap, rfl, hy⟩ := hu
  clear hl hx hy
  by_cases hlm : l.length = m.length
  · have HLM := Lib.hid hlm
    have t0 : ((l.length : Int) != (m.length : Int)) = false := by rw [hlm]; simp
    clear hlm
    obtain ⟨X, hX⟩ : ∃ X, decide (l = m) = X := ⟨_, rfl⟩
    have HX := Lib.hid hX
    rw [hX]
    clear hX
    go_enter Tryd.func70, Tryd.ntmps70
    go_wp2_with fail
    clear t0
    go_loopw [13] (fun v wr => ∃ i : Nat, i ≤ l.length ∧ v = .int .i64 (i : Int) ∧ (∀ j, j < i → l.getD j ⟨#[]⟩ = m.getD j ⟨#[]⟩) ∧ Below w.heap.size w wr) (fun v _ => l.length - (intOf v).toNat)
    case atStart => exact ⟨0, Nat.zero_le _, rfl, fun j hj => absurd hj (Nat.not_lt_zero _), Below.refl _ _⟩
    case round =>
      obtain ⟨i, hi, rfl, hal, hb⟩ := hrel
      have HALL := Lib.hid hal
      have HB := Lib.hid hb
      have i0 : (0 : Int) ≤ (i : Int) := by omega
      have ib : (i : Int) ≤ 1000 := by have := HL.out; omega
      clear hal hb
      by_cases hlt : i < l.length
      · have hlt' : (i : Int) < (l.length : Int) := by omega
        have hlt2 : (i : Int) < (m.length : Int) := by rw [← HLM.out]; omega
        obtain ⟨a1, cap1, he, hv | ⟨gb, off, rfl, hbw, hcell⟩⟩ := HV.out
        · rw [hv] at hlt; simp at hlt
        injection he with e1 _ e3
        subst e1 e3
        obtain ⟨a2, cap2, he2, hv2 | ⟨gb2, off2, rfl, hbw2, hcell2⟩⟩ := HU.out
        · rw [hv2] at hlt2; simp at hlt2; omega
        injection he2 with e1 _ e3
        subst e1 e3
        have hcl : wr.cell? ⟨gb, off + i, none⟩ = _ := (HB.out.cell (p := ⟨gb, off + i, none⟩) hbw).trans (hcell i hlt)
        have hcl2 : wr.cell? ⟨gb2, off2 + i, none⟩ = _ := (HB.out.cell (p := ⟨gb2, off2 + i, none⟩) hbw2).trans (hcell2 i (by omega))
        obtain ⟨s, hs⟩ : ∃ s, l.getD i ⟨#[]⟩ = s := ⟨_, rfl⟩
        obtain ⟨t, ht⟩ : ∃ t, m.getD i ⟨#[]⟩ = t := ⟨_, rfl⟩
        rw [hs] at hcl
        rw [ht] at hcl2
        have HST := Lib.hid (And.intro hs ht)
        have HLT := Lib.hid hlt
        clear hs ht hlt hi hcell hbw hcell2 hbw2
        by_cases hst : s = t
        · subst hst
          have HE := Lib.hid (show l.getD i ⟨#[]⟩ = m.getD i ⟨#[]⟩ from HST.out.1.trans HST.out.2.symm)
          have t1 : (s.toList == s.toList) = true := by simp
          go_wp2_with fail
          go_quiet (fail)
          go_wp2_with fail
          go_roundw
          case rel => exact ⟨i + 1, by have := HLT.out; omega, by go_num, fun j hj => if h : j = i then h ▸ HE.out else HALL.out j (by omega), below_drewI HB.out _⟩
          case measure => have := HLT.out; simp [intOf]; omega
        · have t1 : (s.toList == t.toList) = false := by rw [beq_eq_false_iff_ne]; exact fun h => hst (ba_toList h)
          have HS := Lib.hid hst
          clear hst
          go_wp2_with fail
          go_quiet (fail)
          go_wp2_with fail
          go_ret
          refine ⟨?_, below_drewI HB.out _⟩
          have hne : l ≠ m := list_ne_at (d := ⟨#[]⟩) (i := i) (by rw [HST.out.1, HST.out.2]; exact HS.out)
          rw [← HX.out]; simp [hne]
      · obtain rfl : i = l.length := by omega
        have hlt' : ¬ (l.length : Int) < (l.length : Int) := by omega
        clear hi hlt
        go_wp2_with fail
        go_ret
        refine ⟨?_, HB.out⟩
        have he : l = m := list_eq_at HLM.out HALL.out
        rw [← HX.out]; simp [he]
  · have t0 : ((l.length : Int) != (m.length : Int)) = true := by rw [bne_iff_ne]; omega
    have HLM := Lib.hid hlm
    clear hlm
    go_enter Tryd.func70, Tryd.ntmps70
    go_wp2_with fail
    go_ret
    refine ⟨?_, Below.refl _ _⟩
    have hne : l ≠ m := by rintro rfl; exact HLM.out rfl
    simp [hne]
end Go.Proofs.YtigoaokpodggcaaDoor
end
section
open Go Go.RowKit
namespace Go.Proofs.YtigoaokpodggcaaDoor
open CC WW BB
set_option maxRecDepth 100000 in
set_option maxHeartbeats 2000000 in
theorem samesig_any (f g : Int) (x y : Value) (l m : List ByteArray) (w : World) (hx : StrsAt w x l) (hy : StrsAt w y m) (hl : l.length ≤ 1000) :
    Calls Tryd.prog 54 #[.agg #[.int .i64 f, x], .agg #[.int .i64 g, y]] w fun e w' => e = .returned (.bool (decide ((f, l) = (g, m)))) ∧ Below w.heap.size w w' := by
  have HX := Lib.hid hx
  have HY := Lib.hid hy
  have HL := Lib.hid hl
  obtain ⟨a0, cap, rfl, _⟩ := hx
  obtain ⟨b0, bap, rfl, _⟩ := hy
  clear hl
  by_cases hfg : f = g
  · subst hfg
    obtain ⟨X, hX⟩ : ∃ X, decide (l = m) = X := ⟨_, rfl⟩
    have e1 : decide ((f, l) = (f, m)) = X := by rw [← hX]; simp
    rw [e1]
    have HXX := Lib.hid hX
    have t0 : (f == f) = true := by simp
    clear hX e1
    have b2 := Lib.hid (((Below.refl w.heap.size w).alloc (Nat.le_refl _) (.cells #[.int .i64 f, .slice a0 l.length cap] 35)).alloc (by simp) (.cells #[.int .i64 f, .slice b0 m.length bap] 35))
    go_enter Tryd.func54, Tryd.ntmps54
    go_wp2_with fail
    refine (eqstr_any l m _ _ _ (HX.out.later b2.out) (HY.out.later b2.out) HL.out).mono ?_
    rintro e w2 ⟨rfl, hb2⟩
    rw [HXX.out]
    have B2 := Lib.hid (b2.out.trans (hb2.mono b2.out.size))
    clear hb2 b2
    go_wp2_with fail
    go_ret
    exact ⟨rfl, B2.out⟩
  · have t0 : (f == g) = false := by simpa using hfg
    have HFG := Lib.hid hfg
    clear hfg
    have b2 := Lib.hid (((Below.refl w.heap.size w).alloc (Nat.le_refl _) (.cells #[.int .i64 f, .slice a0 l.length cap] 35)).alloc (by simp) (.cells #[.int .i64 g, .slice b0 m.length bap] 35))
    go_enter Tryd.func54, Tryd.ntmps54
    go_wp2_with fail
    go_ret
    refine ⟨?_, b2.out⟩
    rw [show decide ((f, l) = (g, m)) = false by simp [HFG.out]]; rfl
end Go.Proofs.YtigoaokpodggcaaDoor
end
section
open Go Go.RowKit
namespace WW
def be4 (n : Nat) : ByteArray := ⟨#[UInt8.ofNat (n / 16777216), UInt8.ofNat (n / 65536), UInt8.ofNat (n / 256), UInt8.ofNat n]⟩
/-- a number's bytes -/
def num (n : Int) : ByteArray := be4 (if n < 0 ∨ 2147483647 < n then 0 else n.toNat)
theorem u8_mod (k : Nat) : UInt8.ofNat (k % 256) = UInt8.ofNat k := by
  apply UInt8.toNat_inj.1; simp
theorem be4_nums (n : Nat) : strOfNums [(n : Int) / 16777216, (n : Int) / 65536 % 256, (n : Int) / 256 % 256, (n : Int) % 256] = be4 n := by
  have e1 : ((n : Int) / 16777216).toNat = n / 16777216 := by omega
  have e2 : ((n : Int) / 65536 % 256).toNat = n / 65536 % 256 := by omega
  have e3 : ((n : Int) / 256 % 256).toNat = n / 256 % 256 := by omega
  have e4 : ((n : Int) % 256).toNat = n % 256 := by omega
  unfold strOfNums be4
  simp only [List.map_cons, List.map_nil, e1, e2, e3, e4, u8_mod]
theorem conv4 {P : Program} (w : World) (src dst e : TypeId) (hs : P.underlying src = some (.slice e)) (he : P.underlying e = some (.int .u8)) (hd : P.underlying dst = some .string) (a b c d : Int) :
    (convert src dst (.slice (some ⟨w.heap.size, 0, none⟩) 4 4)).run P (w.alloc (.cells #[.int .u8 a, .int .u8 b, .int .u8 c, .int .u8 d] e)) = .ok (.string (strOfNums [a, b, c, d])) (w.alloc (.cells #[.int .u8 a, .int .u8 b, .int .u8 c, .int .u8 d] e)) := by
  refine run_convert_bytes_arg _ src e hs he _ 0 4 4 [a, b, c, d] rfl (fun i hi => ?_) dst hd
  rw [Nat.zero_add]
  apply cell_new
  match i, hi with
  | 0, _ => rfl
  | 1, _ => rfl
  | 2, _ => rfl
  | 3, _ => rfl
end WW
namespace Go.Proofs.YtigoaokpodggcaaDoor
open WW
set_option maxRecDepth 100000 in
set_option maxHeartbeats 1000000 in
theorem number_in (n : Nat) (hn : (n : Int) ≤ 2147483647) (w : World) :
    Calls Tryd.prog 44 #[.int .i64 n] w fun e w' => e = .returned (.string (be4 n)) ∧ Below w.heap.size w w' := by
  have h0 : (0 : Int) ≤ (n : Int) := by omega
  have hc := conv4 (P := Tryd.prog) w 39 9 5 (by kernel_rfl) (by kernel_rfl) (by kernel_rfl) ((n : Int) / 16777216) ((n : Int) / 65536 % 256) ((n : Int) / 256 % 256) ((n : Int) % 256)
  rw [be4_nums] at hc
  go_enter Tryd.func44, Tryd.ntmps44
  go_wp2_with fail
  go_ret
  exact ⟨rfl, (Below.refl _ _).alloc (Nat.le_refl _) _⟩
set_option maxRecDepth 100000 in
set_option maxHeartbeats 1000000 in
theorem number_out (n : Int) (hn : n < 0 ∨ 2147483647 < n) (w : World) :
    Calls Tryd.prog 44 #[.int .i64 n] w fun e w' => e = .returned (.string (be4 0)) ∧ Below w.heap.size w w' := by
  have hc := conv4 (P := Tryd.prog) w 39 9 5 (by kernel_rfl) (by kernel_rfl) (by kernel_rfl) 0 0 0 0
  rw [show strOfNums [0, 0, 0, 0] = be4 0 from be4_nums 0] at hc
  rcases hn with hn | hn
  · go_enter Tryd.func44, Tryd.ntmps44
    go_wp2_with fail
    go_ret
    exact ⟨rfl, (Below.refl _ _).alloc (Nat.le_refl _) _⟩
  · have h0 : 0 ≤ n := by omega
    go_enter Tryd.func44, Tryd.ntmps44
    go_wp2_with fail
    go_ret
    exact ⟨rfl, (Below.refl _ _).alloc (Nat.le_refl _) _⟩
theorem number_any (n : Int) (w : World) :
    Calls Tryd.prog 44 #[.int .i64 n] w fun e w' => e = .returned (.string (num n)) ∧ Below w.heap.size w w' := by
  unfold num
  by_cases h : n < 0 ∨ 2147483647 < n
  · rw [if_pos h]; exact number_out n h w
  · rw [if_neg h]
    obtain ⟨k, rfl⟩ := Int.eq_ofNat_of_zero_le (show 0 ≤ n by omega)
    exact number_in k (by omega) w
set_option maxRecDepth 100000 in
set_option maxHeartbeats 1000000 in
theorem rnumber_in (n : Nat) (hn : (n : Int) ≤ 2147483647) (w : World) :
    Calls Tryd.prog 45 #[.int .i64 n] w fun e w' => e = .returned (.string (be4 n)) ∧ Below w.heap.size w w' := by
  have h0 : (0 : Int) ≤ (n : Int) := by omega
  have hc := conv4 (P := Tryd.prog) w 39 9 5 (by kernel_rfl) (by kernel_rfl) (by kernel_rfl) ((n : Int) / 16777216) ((n : Int) / 65536 % 256) ((n : Int) / 256 % 256) ((n : Int) % 256)
  rw [be4_nums] at hc
  go_enter Tryd.func45, Tryd.ntmps45
  go_wp2_with fail
  go_ret
  exact ⟨rfl, (Below.refl _ _).alloc (Nat.le_refl _) _⟩
set_option maxRecDepth 100000 in
set_option maxHeartbeats 1000000 in
theorem rnumber_out (n : Int) (hn : n < 0 ∨ 2147483647 < n) (w : World) :
    Calls Tryd.prog 45 #[.int .i64 n] w fun e w' => e = .returned (.string (be4 0)) ∧ Below w.heap.size w w' := by
  have hc := conv4 (P := Tryd.prog) w 39 9 5 (by kernel_rfl) (by kernel_rfl) (by kernel_rfl) 0 0 0 0
  rw [show strOfNums [0, 0, 0, 0] = be4 0 from be4_nums 0] at hc
  rcases hn with hn | hn
  · go_enter Tryd.func45, Tryd.ntmps45
    go_wp2_with fail
    go_ret
    exact ⟨rfl, (Below.refl _ _).alloc (Nat.le_refl _) _⟩
  · have h0 : 0 ≤ n := by omega
    go_enter Tryd.func45, Tryd.ntmps45
    go_wp2_with fail
    go_ret
    exact ⟨rfl, (Below.refl _ _).alloc (Nat.le_refl _) _⟩
theorem rnumber_any (n : Int) (w : World) :
    Calls Tryd.prog 45 #[.int .i64 n] w fun e w' => e = .returned (.string (num n)) ∧ Below w.heap.size w w' := by
  unfold num
  by_cases h : n < 0 ∨ 2147483647 < n
  · rw [if_pos h]; exact rnumber_out n h w
  · rw [if_neg h]
    obtain ⟨k, rfl⟩ := Int.eq_ofNat_of_zero_le (show 0 ≤ n by omega)
    exact rnumber_in k (by omega) w
end Go.Proofs.YtigoaokpodggcaaDoor
end
section
open Go Go.RowKit
namespace WW
theorem be4_size (n : Nat) : (be4 n).size = 4 := rfl
theorem num_size (n : Int) : (num n).size = 4 := rfl
/-- a text's bytes -/
def txt (s : ByteArray) : ByteArray := num (s.size : Int) ++ s
theorem txt_size (s : ByteArray) : (txt s).size = 4 + s.size := by simp [txt, num_size]
/-- a request's bytes -/
def reqB (c q : Int) (b : ByteArray) : ByteArray := num c ++ num q ++ txt b
theorem reqB_size (c q : Int) (b : ByteArray) : (reqB c q b).size = 12 + b.size := by
  simp only [reqB, ByteArray.size_append, num_size, txt_size]; omega
/-- three cells of block g, and what lay below B as it was -/
def At3 (w : World) (B g : Nat) (v0 v1 v2 : Value) (W : World) : Prop := W.cell? ⟨g, 0, none⟩ = some v0 ∧ W.cell? ⟨g, 1, none⟩ = some v1 ∧ W.cell? ⟨g, 2, none⟩ = some v2 ∧ Below B w W ∧ B ≤ W.heap.size
theorem keep3 {w W w1 : World} {g : Nat} {v0 v1 v2 : Value} {B : Nat} (h : W.cell? ⟨g, 0, none⟩ = some v0 ∧ W.cell? ⟨g, 1, none⟩ = some v1 ∧ W.cell? ⟨g, 2, none⟩ = some v2 ∧ Below B w W ∧ B ≤ W.heap.size) (hb : Below W.heap.size W w1) :
    w1.cell? ⟨g, 0, none⟩ = some v0 ∧ w1.cell? ⟨g, 1, none⟩ = some v1 ∧ w1.cell? ⟨g, 2, none⟩ = some v2 ∧ Below B w w1 ∧ B ≤ w1.heap.size := by
  have hl := World.block_lt_of_cell? W _ h.1
  exact ⟨(hb.cell (p := ⟨g, 0, none⟩) hl).trans h.1, (hb.cell (p := ⟨g, 1, none⟩) hl).trans h.2.1, (hb.cell (p := ⟨g, 2, none⟩) hl).trans h.2.2.1, h.2.2.2.1.trans (hb.mono h.2.2.2.2), Nat.le_trans h.2.2.2.2 hb.size⟩
theorem start3 {w W : World} {g : Nat} {v0 v1 v2 : Value} {B : Nat} (h0 : W.cell? ⟨g, 0, none⟩ = some v0) (h1 : W.cell? ⟨g, 1, none⟩ = some v1) (h2 : W.cell? ⟨g, 2, none⟩ = some v2) (hb : Below B w W) (hB : B ≤ W.heap.size) :
    W.drew.cell? ⟨g, 0, none⟩ = some v0 ∧ W.drew.cell? ⟨g, 1, none⟩ = some v1 ∧ W.drew.cell? ⟨g, 2, none⟩ = some v2 ∧ Below B w W.drew ∧ B ≤ W.drew.heap.size := ⟨h0, h1, h2, hb.drew, hB⟩
/-- a request as a value -/
def reqV (c q : Int) (b : ByteArray) : Value := .agg #[.int .i64 c, .int .i64 q, .string b]
end WW
namespace Go.Proofs.YtigoaokpodggcaaDoor
open WW
set_option maxRecDepth 100000 in
set_option maxHeartbeats 1000000 in
theorem text_any (s : ByteArray) (hs : s.size ≤ 1000000) (w : World) :
    Calls Tryd.prog 91 #[.string s] w fun e w' => e = .returned (.string (txt s)) ∧ Below w.heap.size w w' := by
  have hno : ¬ 9223372036854775807 < (num (s.size : Int)).size + s.size := by rw [num_size]; omega
  clear hs
  go_enter Tryd.func91, Tryd.ntmps91
  go_wp2_with fail
  refine (number_any _ _).mono ?_
  rintro e w1 ⟨rfl, hb1⟩
  go_wp2_with fail
  go_ret
  exact ⟨rfl, hb1⟩
set_option maxRecDepth 100000 in
set_option maxHeartbeats 1000000 in
theorem rtext_any (s : ByteArray) (hs : s.size ≤ 1000000) (w : World) :
    Calls Tryd.prog 69 #[.string s] w fun e w' => e = .returned (.string (txt s)) ∧ Below w.heap.size w w' := by
  have hno : ¬ 9223372036854775807 < (num (s.size : Int)).size + s.size := by rw [num_size]; omega
  clear hs
  go_enter Tryd.func69, Tryd.ntmps69
  go_wp2_with fail
  refine (rnumber_any _ _).mono ?_
  rintro e w1 ⟨rfl, hb1⟩
  go_wp2_with fail
  go_ret
  exact ⟨rfl, hb1⟩
end Go.Proofs.YtigoaokpodggcaaDoor
end
section
open Go Go.RowKit
namespace WW
open BB
section
variable {P : Program} {ops : Array Oper} {Q : Exit → Act → World → Prop} {a : Act} {w : World} {rest : List Oper} {o : Oper}
/-- function k has a body of its own -/
def Own (P : Program) (k : Nat) : Prop := ∃ fn, P.funcs[k]? = some fn ∧ (fn.name == "runtime.NumGoroutine") = false ∧ fn.body.isNone = false
/-- the closure v, called with args -/
def CallsV (P : Program) (v : Value) (args : Array Value) (w : World) (R : Ending → World → Prop) : Prop :=
  ∃ k env, v = .func (.func k) #[] env ∧ Own P k ∧ Calls P k (args ++ env) w R
theorem CallsV.mono {v : Value} {args : Array Value} {R R' : Ending → World → Prop} (h : CallsV P v args w R) (hR : ∀ e w', R e w' → R' e w') : CallsV P v args w R' := by
  obtain ⟨k, env, hv, ho, hc⟩ := h
  exact ⟨k, env, hv, ho, hc.mono hR⟩
theorem run_enter {x : Operand} {xs : Array Operand} {tys : Array TypeId} {k : Nat} {env : Array Value} (ho : o.op = .call { callee := .value x, args := xs, argTypes := tys }) (hx : a.eval x = .func (.func k) #[] env) (hk : Own P k) :
    (execOp a.eval o).run P w = .ok (.enter k (xs.map a.eval ++ env)) w := by
  obtain ⟨fn, h1, h2, h3⟩ := hk
  have h2' : ¬ fn.name = "runtime.NumGoroutine" := by simpa using h2
  have h3' : ¬ fn.body = none := by intro h; rw [h] at h3; cases h3
  unfold execOp
  simp [ho, resolve, hx, Deferred.ofValue, invoke, callFunc, h1, h2', h3', Result.andThen]
theorem hold_callv {x : Operand} {xs : Array Operand} {tys : Array TypeId} {i : Nat} (_ho : o.op = .call { callee := .value x, args := xs, argTypes := tys }) (_hx : x = .tmp i) (h : Held (wpList P ops Q (o :: rest) a w)) : wpList P ops Q (o :: rest) a w := h
theorem wpl_callv {x : Operand} {xs : Array Operand} {tys : Array TypeId} (v : Value) (args : Array Value) (R : Ending → World → Prop) (hg : o.guard = none) (ho : o.op = .call { callee := .value x, args := xs, argTypes := tys })
    (hx : a.eval x = v) (has : xs.map a.eval = args) (hc : CallsV P v args w R) (hR : ∀ e w', R e w' → ∃ u, e = .returned u)
    (hK : ∀ u w', R (.returned u) w' → wpList P ops Q rest (a.put o.dst u) w') : wpList P ops Q (o :: rest) a w := by
  obtain ⟨k, env, hv, hk, hc⟩ := hc
  refine wpList_plain hg fun K hK' => ?_
  have hrun := run_enter (P := P) (w := w) (o := o) (a := a) ho (hx.trans hv) hk
  unfold Oper.wp
  rw [hrun, has]
  refine hc.mono fun e w' hr => ?_
  obtain ⟨u, rfl⟩ := hR e w' hr
  exact hK' _ _ (hK u w' hr)
theorem wpl_callv_w {x : Operand} {xs : Array Operand} {tys : Array TypeId} (v : Value) (args : Array Value) (R : Ending → World → Prop) (hg : Region.wanted o (yielded ops a.tmps) = true) (ho : o.op = .call { callee := .value x, args := xs, argTypes := tys })
    (hx : a.eval x = v) (has : xs.map a.eval = args) (hc : CallsV P v args w R) (hR : ∀ e w', R e w' → ∃ u, e = .returned u)
    (hK : ∀ u w', R (.returned u) w' → wpList P ops Q rest (a.put o.dst u) w') : wpList P ops Q (o :: rest) a w := by
  obtain ⟨k, env, hv, hk, hc⟩ := hc
  refine wpList_step fun K hK' => ?_
  rw [if_pos hg]
  have hrun := run_enter (P := P) (w := w) (o := o) (a := a) ho (hx.trans hv) hk
  unfold Oper.wp
  rw [hrun, has]
  refine hc.mono fun e w' hr => ?_
  obtain ⟨u, rfl⟩ := hR e w' hr
  exact hK' _ _ (hK u w' hr)
end
/-- what a cut answers -/
def Ans (Q : Bool → ByteArray → World → Prop) (e : Ending) (w : World) : Prop := ∃ ok r, e = .returned (.tuple #[.string r, .bool ok]) ∧ Q ok r w
theorem Ans.ret {Q : Bool → ByteArray → World → Prop} (e : Ending) (w : World) (h : Ans Q e w) : ∃ u, e = .returned u := by obtain ⟨ok, r, rfl, _⟩ := h; exact ⟨_, rfl⟩
/-- v cuts something off b -/
def Cut (P : Program) (v : Value) (b : ByteArray) (w : World) (Q : Bool → ByteArray → World → Prop) : Prop := CallsV P v #[.string b] w (Ans Q)
theorem Cut.mono {P : Program} {v : Value} {b : ByteArray} {w : World} {Q Q' : Bool → ByteArray → World → Prop} (h : Cut P v b w Q) (hQ : ∀ ok r w', Q ok r w' → Q' ok r w') : Cut P v b w Q' :=
  CallsV.mono h fun _ _ ⟨ok, r, he, hq⟩ => ⟨ok, r, he, hQ _ _ _ hq⟩
/-- one cut behind the other, up to the first one that is wrong; E holds all the while -/
def OrderWp (P : Program) (E : World → Prop) (Q : Bool → ByteArray → World → Prop) : List Value → ByteArray → World → Prop
  | [], b, w => Q true b w
  | v :: vs, b, w => Cut P v b w fun ok r w' => E w' ∧ (if ok then OrderWp P E Q vs r w' else Q false ⟨#[]⟩ w')
end WW
namespace Go.Proofs.YtigoaokpodggcaaDoor
open WW BB
/-- the cuts that lie in block gc -/
def InRow (gc : Nat) (vs : List Value) (w : World) : Prop := ∀ i, i < vs.length → w.cell? ⟨gc, i, none⟩ = some (vs.getD i .nilFunc)
set_option maxRecDepth 100000 in
set_option maxHeartbeats 2000000 in
theorem order_any (vs : List Value) (bx gc cap : Nat) (Q : Bool → ByteArray → World → Prop) (b : ByteArray) (w : World) (hlen : vs.length ≤ 100)
    (hb : w.cell? ⟨bx, 0, none⟩ = some (.slice (some ⟨gc, 0, none⟩) vs.length cap)) (hE : InRow gc vs w) (h : OrderWp Tryd.prog (InRow gc vs) Q vs b w) :
    Calls Tryd.prog 95 #[.string b, .pointer (some ⟨bx, 0, none⟩)] w (Ans Q) := by
  have HE := Lib.hid hE
  have H := Lib.hid h
  have HL := Lib.hid hlen
  clear hE h hlen
  go_enter Tryd.func95, Tryd.ntmps95
  go_wp2_with fail
  clear hb
  go_loopw [0, 11] (fun s v wr => ∃ (j : Nat) (b' : ByteArray), j ≤ vs.length ∧ v = .int .i64 (j : Int) ∧ s = .string b' ∧ InRow gc vs wr ∧ OrderWp Tryd.prog (InRow gc vs) Q (vs.drop j) b' wr) (fun _ v _ => vs.length - (intOf v).toNat)
  case atStart => exact ⟨0, b, Nat.zero_le _, rfl, rfl, HE.out, H.out⟩
  case round =>
    clear HE H
    obtain ⟨j, b', hj, rfl, rfl, hE, hO⟩ := hrel
    by_cases hlt : j < vs.length
    · have hlt' : (j : Int) < (vs.length : Int) := by omega
      have j0 : (0 : Int) ≤ (j : Int) := by omega
      have jb : (j : Int) ≤ 100 := by have := HL.out; omega
      have hc := hE j hlt
      have hd : vs.drop j = vs.getD j .nilFunc :: vs.drop (j + 1) := by
        rw [List.drop_eq_getElem_cons hlt]; simp [List.getD, List.getElem?_eq_getElem hlt]
      rw [hd] at hO
      obtain ⟨v, hv⟩ : ∃ v, vs.getD j .nilFunc = v := ⟨_, rfl⟩
      rw [hv] at hO hc
      have HO := Lib.hid (show Cut Tryd.prog v b' wr (fun ok r w' => InRow gc vs w' ∧ (if ok then OrderWp Tryd.prog (InRow gc vs) Q (vs.drop (j + 1)) r w' else Q false ⟨#[]⟩ w')) from hO)
      have HLT := Lib.hid hlt
      clear hO hd hv hE hj hlt
      go_wp2_with (with_reducible refine hold_callv rfl rfl ?_)
      refine wpl_callv (v := v) (args := #[.string b']) _ rfl rfl rfl (by simp [Act.eval]) HO.out Ans.ret ?_
      intro u w' hu
      obtain ⟨ok, r, hr, hE, hO⟩ := hu
      injection hr with hr
      subst hr
      cases ok
      · have HQ := Lib.hid (show Q false ⟨#[]⟩ w' from hO)
        clear hO hE
        go_wp2_with fail
        go_ret2
        exact ⟨false, ⟨#[]⟩, rfl, HQ.out⟩
      · have HO' := Lib.hid (show OrderWp Tryd.prog (InRow gc vs) Q (vs.drop (j + 1)) r w' from hO)
        have HE := Lib.hid hE
        clear hO hE
        go_wp2_with fail
        go_roundw
        case rel => exact ⟨j + 1, r, by have := HLT.out; omega, by go_num, rfl, HE.out, HO'.out⟩
        case measure => have := HLT.out; simp [intOf]; omega
    · have hlt' : ¬ (j : Int) < (vs.length : Int) := by omega
      rw [List.drop_of_length_le (by omega)] at hO
      have HQ := Lib.hid (show Q true b' wr from hO)
      clear hO hE hlt hj
      go_wp2_with fail
      go_ret2
      exact ⟨true, b', rfl, HQ.out⟩
end Go.Proofs.YtigoaokpodggcaaDoor
end
section
open Go Go.RowKit
namespace WW
open BB
theorem nil_size (s : ByteArray) (h : s.size = 0) : s = ⟨#[]⟩ := by
  cases s with
  | mk d =>
    have : d.size = 0 := h
    rw [Array.size_eq_zero_iff.1 this]
section
variable {P : Program} {ops : Array Oper} {Q : Exit → Act → World → Prop} {a : Act} {w : World} {rest : List Oper} {o : Oper}
theorem hold_ustr {x y : Operand} {tys : Array TypeId} (_ho : o.op = .call { callee := .builtin .unsafeString, args := #[x, y], argTypes := tys }) (h : Held (wpList P ops Q (o :: rest) a w)) : wpList P ops Q (o :: rest) a w := h
theorem wpl_ustr {x y : Operand} {pt it e : TypeId} (g n : Nat) (s : ByteArray) (hg : o.guard = none) (ho : o.op = .call { callee := .builtin .unsafeString, args := #[x, y], argTypes := #[pt, it] })
    (hx : a.eval x = .pointer (some ⟨g, 0, none⟩)) (hy : a.eval y = .int .i64 (n : Int)) (hp : P.underlying pt = some (.pointer e)) (hc : P.cellsOf e = 1) (hn : n = s.size) (h0 : 0 < n) (hn63 : n ≤ 9223372036854775807)
    (hb : TBlk e w g n (cb (sb s.data.toList)))
    (hK : ∀ w', (∀ B, B ≤ g → Below B w w') → wpList P ops Q rest (a.put o.dst (.string s)) w') : wpList P ops Q (o :: rest) a w := by
  unfold TBlk at hb
  have hl : s.data.toList.length = n := by rw [Array.length_toList]; exact hn.symm
  have h := Lib.run_unsafeString_row (P := P) w pt it o.type e hp hc g n (by unfold World.shape?; rw [hb]; simp [row_size]) s.data.toList (by intro h; rw [h] at hl; simp at hl; omega) (by omega) (by omega) (fun j x hx => by
    have hj : j < n := by
      rcases Nat.lt_or_ge j s.data.toList.length with h | h
      · omega
      · rw [List.getElem?_eq_none h] at hx; cases hx
    have : (⟨g, 0, none⟩ : Addr).add j = ⟨g, j, none⟩ := by unfold Addr.add; split <;> simp [*]
    rw [this]
    unfold World.cell?
    rw [hb]
    have hx' : s.data[j]? = some x := by simpa using hx
    simp [row_get _ _ _ hj, cb, sb, List.getD, hx'])
  rw [hl] at h
  refine wpl_value hg ?_ (hK _ fun B hB => Lib.below_freeze (Below.refl _ _) (p := ⟨g, 0, none⟩) hB n)
  simp [execOp, ho, resolve, invoke, hx, hy, builtin, h, Result.andThen]
end
end WW
namespace Go.Proofs.YtigoaokpodggcaaDoor
open WW BB
theorem winfo_byte : (Tryd.prog.info? 5).map (fun i => (i.zero, i.size, i.bytes)) = some (some (.int .u8 0), 1, 1) := by kernel_rfl
theorem wunder_bytes (w : World) : (underlying 39).run Tryd.prog w = .ok (.slice 5) w := by kernel_rfl
theorem wsize_byte (w : World) : (Go.sizeOf 5).run Tryd.prog w = .ok 1 w := by kernel_rfl
set_option maxRecDepth 100000 in
set_option maxHeartbeats 1000000 in
theorem slclone_any (s : ByteArray) (hs : s.size ≤ 1000000) (w : World) :
    Calls Tryd.prog 107 #[.string s] w fun e w' => e = .returned (.string s) ∧ Below w.heap.size w w' := by
  have HS := Lib.hid hs
  by_cases h0 : s.size = 0
  · obtain rfl := nil_size s h0
    clear hs
    go_enter Tryd.func107, Tryd.ntmps107
    go_wp2_with fail
    go_ret
    exact ⟨rfl, Below.refl _ _⟩
  · have t0 : ((s.size : Int) == 0) = false := by rw [beq_eq_false_iff_ne]; omega
    have H0 := Lib.hid h0
    clear hs h0
    go_enter Tryd.func107, Tryd.ntmps107
    go_wp2_with (with_reducible refine hold_make rfl ?_)
    refine wpl_make (.tmp 8) (.tmp 8) 39 5 (.int .u8 0) 1 s.size rfl rfl (by rfl) (by rfl) (by kernel_rfl) winfo_byte (by rfl) (by have := HS.out; omega) (by have := HS.out; omega) ?_
    refine abs_list (fun w' => Below w.heap.size w w' ∧ TBlk 5 w' w.heap.size s.size (fun _ => .int .u8 0)) ⟨(Below.refl _ _).alloc (Nat.le_refl _) _, TBlk.new' _ _ _ _ _ _ rfl (made_row _ _)⟩ ?_
    rintro w1 ⟨b1, k1⟩
    go_wp2_with (with_reducible refine hold_copy rfl ?_)
    refine wpl_copy_str_t (.tmp 10) (.tmp 11) w.heap.size 0 s.size s.size s.size s.size (fun _ => .int .u8 0) s rfl rfl (by rfl) (by rfl) (wunder_bytes _) (wsize_byte _) k1 (by omega) (by omega) ?_
    rintro w2 ⟨k2, u2⟩
    have b2 := b1.trans (u2.below (Nat.le_refl _))
    have k3 : TBlk 5 w2 w.heap.size s.size (cb (sb s.data.toList)) := by
      unfold TBlk at k2 ⊢
      rw [k2, row_congr _ _ (cb (sb s.data.toList)) fun i hi => by rw [if_pos (by omega)]; rfl]
    have H1 := Lib.hid k3
    clear k1 b1 k2 k3 u2
    have i0 : (0 : Int) < (s.size : Int) := by have := H0.out; omega
    go_wp2_with (with_reducible refine hold_ustr rfl ?_)
    refine wpl_ustr w.heap.size s.size s rfl rfl (by rfl) (by rfl) (by kernel_rfl) (by kernel_rfl) rfl (by have := H0.out; omega) (by have := HS.out; omega) H1.out ?_
    intro w3 h3
    have b3 := b2.trans (h3 _ (Nat.le_refl _))
    clear h3
    go_wp2_with fail
    go_ret
    exact ⟨rfl, b3⟩
set_option maxRecDepth 100000 in
theorem clone_any (s : ByteArray) (hs : s.size ≤ 1000000) (w : World) :
    Calls Tryd.prog 98 #[.string s] w fun e w' => e = .returned (.string s) ∧ Below w.heap.size w w' := by
  go_enter Tryd.func98, Tryd.ntmps98
  go_wp2_with fail
  refine (slclone_any s hs _).mono ?_
  rintro e w1 ⟨rfl, hb1⟩
  go_wp2_with fail
  go_ret
  exact ⟨rfl, hb1⟩
end Go.Proofs.YtigoaokpodggcaaDoor
end
section
open Go Go.RowKit
namespace WW
open BB
theorem Blk.cell_set {w : World} {p t o : Nat} {u v : Value} (h : w.cell? ⟨p, 0, none⟩ = some v) (hp : p ≠ t) : (w.setCell ⟨t, o, none⟩ u).cell? ⟨p, 0, none⟩ = some v :=
  (World.cell?_of_block (w := w) (Below.heap_setCell w ⟨t, o, none⟩ u p hp)).trans h
/-- what a cut leaves of the memory: block t alone has turned -/
def Cell1 (t n : Nat) (f : Nat → Value) (w w' : World) : Prop := Keep t w w' ∧ Blk w' t n f
theorem Cell1.call {t n : Nat} {f : Nat → Value} {w w1 w2 : World} (h : Cell1 t n f w w1) (hb : Below w1.heap.size w1 w2) : Cell1 t n f w w2 :=
  ⟨h.1.trans (keep_of_below hb (Nat.le_refl _) t), h.2.below hb h.2.lt⟩
theorem Cell1.store {t n : Nat} {f : Nat → Value} {w w1 : World} (h : Cell1 t n f w w1) (o : Nat) (u : Value) : Cell1 t n (put f o u) w (w1.setCell ⟨t, o, none⟩ u) :=
  ⟨h.1.trans (Upd.set _ _ _ _).keep, h.2.set o u⟩
theorem keep_cell {p : Nat} {v : Value} {w1 w2 : World} (h : w1.cell? ⟨p, 0, none⟩ = some v) (hb : Below w1.heap.size w1 w2) : w2.cell? ⟨p, 0, none⟩ = some v :=
  (hb.cell (p := ⟨p, 0, none⟩) (World.block_lt_of_cell? w1 _ h)).trans h
end WW
namespace Go.Proofs.YtigoaokpodggcaaDoor
open WW BB
set_option maxRecDepth 100000 in
set_option maxHeartbeats 2000000 in
theorem bytesc_short (b : ByteArray) (p : Nat) (N : Nat) (vr : Value) (w : World) (hN : b.size < N) (hp : w.cell? ⟨p, 0, none⟩ = some (.int .i64 N)) :
    Calls Tryd.prog 97 #[.string b, .pointer (some ⟨p, 0, none⟩), vr] w fun e w' => e = .returned (.tuple #[.string ⟨#[]⟩, .bool false]) ∧ w = w' := by
  have g4 : (b.size : Int) < (N : Int) := by omega
  clear hN
  go_enter Tryd.func97, Tryd.ntmps97
  go_wp2_with fail
  go_ret2
  exact ⟨rfl, rfl⟩
set_option maxRecDepth 100000 in
set_option maxHeartbeats 2000000 in
theorem bytesc_yes (b : ByteArray) (p q t o n N : Nat) (f : Nat → Value) (w : World) (hb : b.size ≤ 1000000) (hN : N ≤ b.size) (hpt : p ≠ t) (hqt : q ≠ t)
    (hp : w.cell? ⟨p, 0, none⟩ = some (.int .i64 N)) (hq : w.cell? ⟨q, 0, none⟩ = some (.pointer (some ⟨t, o, none⟩))) (ht : Blk w t n f) (ho : o < n) :
    Calls Tryd.prog 97 #[.string b, .pointer (some ⟨p, 0, none⟩), .pointer (some ⟨q, 0, none⟩)] w fun e w' =>
      e = .returned (.tuple #[.string (b.extract N b.size), .bool true]) ∧ Cell1 t n (put f o (.string (b.extract 0 N))) w w' := by
  have g4 : ¬ (b.size : Int) < (N : Int) := by omega
  have g5 : (N : Int) ≤ (b.size : Int) := by omega
  have g6 : (0 : Int) ≤ (N : Int) := by omega
  have HB := Lib.hid hb
  have HO := Lib.hid ho
  have HN := Lib.hid hN
  have hsx : (b.extract 0 N).size ≤ 1000000 := by simp; omega
  have HSX := Lib.hid hsx
  have T0 := Lib.hid (⟨Keep.refl t w, ht⟩ : Cell1 t n f w w)
  clear hb ho ht hsx
  go_enter Tryd.func97, Tryd.ntmps97
  go_wp2_with fail
  have hst : w.drew.cell? ⟨p, 0, none⟩ = some (.int .i64 N) ∧ w.drew.cell? ⟨q, 0, none⟩ = some (.pointer (some ⟨t, o, none⟩)) := ⟨hp, hq⟩
  have T1 : Hid (Cell1 t n f w w.drew) := Lib.hid ⟨(Same.drewN w 1 |>.upd t).keep, T0.out.2.same (Same.drewN w 1)⟩
  clear T0
  have S1 := Lib.hid hst.1
  have S2 := Lib.hid hst.2
  go_region_held3 (fun w' => w'.cell? ⟨p, 0, none⟩ = some (.int .i64 N) ∧ w'.cell? ⟨q, 0, none⟩ = some (.pointer (some ⟨t, o, none⟩)))
    (first | exact hst | exact hk | exact hks)
    ((go_at_call 98; refine (clone_any _ HSX.out _).mono ?_; rintro e w1 ⟨rfl, hb1⟩;
      have T2 := Lib.hid (T1.out.call hb1);
      have hk : w1.cell? ⟨p, 0, none⟩ = some (.int .i64 N) ∧ w1.cell? ⟨q, 0, none⟩ = some (.pointer (some ⟨t, o, none⟩)) := ⟨keep_cell S1.out hb1, keep_cell S2.out hb1⟩;
      have hks : (w1.setCell ⟨t, o, none⟩ (.string (b.extract 0 N))).cell? ⟨p, 0, none⟩ = some (.int .i64 N) ∧ (w1.setCell ⟨t, o, none⟩ (.string (b.extract 0 N))).cell? ⟨q, 0, none⟩ = some (.pointer (some ⟨t, o, none⟩)) := ⟨Blk.cell_set hk.1 hpt, Blk.cell_set hk.2 hqt⟩;
      have ct := T2.out.2.get o HO.out;
      have ft := T2.out.2.frz o;
      have TF := Lib.hid (T2.out.store o (.string (b.extract 0 N)))))
  obtain ⟨c1, c2⟩ := hks
  clear hk ct ft S1 S2 hst
  go_wp2_with fail
  go_ret2
  exact ⟨rfl, TF.out⟩
end Go.Proofs.YtigoaokpodggcaaDoor
end
section
open Go Go.RowKit
namespace WW
open BB
/-- the number that four bytes are -/
def rd4 (b : ByteArray) : Nat := (b.data.toList.getD 0 0).toNat * 16777216 + (b.data.toList.getD 1 0).toNat * 65536 + (b.data.toList.getD 2 0).toNat * 256 + (b.data.toList.getD 3 0).toNat
theorem or_words (x0 x1 x2 x3 : Nat) (h1 : x1 < 256) (h2 : x2 < 256) (h3 : x3 < 256) : ((x0 * 16777216 ||| x1 * 65536) ||| x2 * 256) ||| x3 = x0 * 16777216 + x1 * 65536 + x2 * 256 + x3 := by
  have e1 := Nat.two_pow_add_eq_or_of_lt (b := x1 * 65536) (i := 24) (by omega) x0
  have e2 := Nat.two_pow_add_eq_or_of_lt (b := x2 * 256) (i := 16) (by omega) (x0 * 256 + x1)
  have e3 := Nat.two_pow_add_eq_or_of_lt (b := x3) (i := 8) (by omega) (x0 * 65536 + x1 * 256 + x2)
  rw [show x0 * 16777216 = 2 ^ 24 * x0 by omega, ← e1, show 2 ^ 24 * x0 + x1 * 65536 = 2 ^ 16 * (x0 * 256 + x1) by omega, ← e2, show 2 ^ 16 * (x0 * 256 + x1) + x2 * 256 = 2 ^ 8 * (x0 * 65536 + x1 * 256 + x2) by omega, ← e3]
theorem or_u32 (a b : Nat) (ha : a < 4294967296) (hb : b < 4294967296) : bits .or .u32 (a : Int) (b : Int) = ((a ||| b : Nat) : Int) := by
  have := bvor (BitVec.ofNat 32 a) (BitVec.ofNat 32 b)
  rw [BitVec.toNat_or, BitVec.toNat_ofNat, BitVec.toNat_ofNat, Nat.mod_eq_of_lt ha, Nat.mod_eq_of_lt hb] at this
  exact this
theorem rd_word (x0 x1 x2 x3 : Nat) (h0 : x0 < 256) (h1 : x1 < 256) (h2 : x2 < 256) (h3 : x3 < 256) :
    IntKind.i64.wrap (bits .or .u32 (bits .or .u32 (bits .or .u32 (IntKind.u32.wrap (IntKind.u32.wrap (x0 : Int) * 16777216)) (IntKind.u32.wrap (IntKind.u32.wrap (x1 : Int) * 65536))) (IntKind.u32.wrap (IntKind.u32.wrap (x2 : Int) * 256))) (IntKind.u32.wrap (x3 : Int))) =
      ((x0 * 16777216 + x1 * 65536 + x2 * 256 + x3 : Nat) : Int) := by
  have w0 : IntKind.u32.wrap (IntKind.u32.wrap (x0 : Int) * 16777216) = ((x0 * 16777216 : Nat) : Int) := by rw [IntKind.wrap_u32', IntKind.wrap_u32']; omega
  have w1 : IntKind.u32.wrap (IntKind.u32.wrap (x1 : Int) * 65536) = ((x1 * 65536 : Nat) : Int) := by rw [IntKind.wrap_u32', IntKind.wrap_u32']; omega
  have w2 : IntKind.u32.wrap (IntKind.u32.wrap (x2 : Int) * 256) = ((x2 * 256 : Nat) : Int) := by rw [IntKind.wrap_u32', IntKind.wrap_u32']; omega
  have w3 : IntKind.u32.wrap (x3 : Int) = (x3 : Int) := by rw [IntKind.wrap_u32']; omega
  have e := or_words x0 x1 x2 x3 h1 h2 h3
  have e1 : x0 * 16777216 ||| x1 * 65536 = x0 * 16777216 + x1 * 65536 := by
    rw [show x0 * 16777216 = 2 ^ 24 * x0 by omega, ← Nat.two_pow_add_eq_or_of_lt (by omega)]
  have e2 : (x0 * 16777216 ||| x1 * 65536) ||| x2 * 256 = x0 * 16777216 + x1 * 65536 + x2 * 256 := by
    rw [e1, show x0 * 16777216 + x1 * 65536 = 2 ^ 16 * (x0 * 256 + x1) by omega, ← Nat.two_pow_add_eq_or_of_lt (by omega)]
  rw [w0, w1, w2, w3, or_u32 _ _ (by omega) (by omega), or_u32 _ _ (by rw [e1]; omega) (by omega), or_u32 _ _ (by rw [e2]; omega) (by omega), e]
  exact IntWalk.i64_in _ (by omega)
theorem get_byte (b : ByteArray) (i : Nat) (h : i < b.size) : b[i] = b.data.toList.getD i 0 := by
  show b.data[i] = _
  have hs : i < b.data.size := h
  simp only [List.getD_eq_getElem?_getD, Array.getElem?_toList, Array.getElem?_eq_getElem hs, Option.getD_some]
theorem rd4_code (b : ByteArray) (h0 : 0 < b.size) (h1 : 1 < b.size) (h2 : 2 < b.size) (h3 : 3 < b.size) :
    IntKind.i64.wrap (bits .or .u32 (bits .or .u32 (bits .or .u32 (IntKind.u32.wrap (IntKind.u32.wrap (b[0].toNat : Int) * 16777216)) (IntKind.u32.wrap (IntKind.u32.wrap (b[1].toNat : Int) * 65536))) (IntKind.u32.wrap (IntKind.u32.wrap (b[2].toNat : Int) * 256))) (IntKind.u32.wrap (b[3].toNat : Int))) = (rd4 b : Int) := by
  rw [rd_word _ _ _ _ (UInt8.toNat_lt _) (UInt8.toNat_lt _) (UInt8.toNat_lt _) (UInt8.toNat_lt _), get_byte, get_byte, get_byte, get_byte]
  rfl
theorem rd4_lt (b : ByteArray) : rd4 b < 4294967296 := by
  unfold rd4
  have h0 := UInt8.toNat_lt (b.data.toList.getD 0 0)
  have h1 := UInt8.toNat_lt (b.data.toList.getD 1 0)
  have h2 := UInt8.toNat_lt (b.data.toList.getD 2 0)
  have h3 := UInt8.toNat_lt (b.data.toList.getD 3 0)
  omega
/-- what is cut off: a number from lo to hi -/
def numSp (lo hi : Int) (b : ByteArray) : Option (ByteArray × Nat) := if b.size < 4 then none else if (rd4 b : Int) < lo ∨ hi < (rd4 b : Int) then none else some (b.extract 4 b.size, rd4 b)
end WW
namespace Go.Proofs.YtigoaokpodggcaaDoor
open WW BB
set_option maxRecDepth 100000 in
set_option maxHeartbeats 2000000 in
theorem numc_short (b : ByteArray) (vp vq vr : Value) (w : World) (h4 : b.size < 4) :
    Calls Tryd.prog 96 #[.string b, vp, vq, vr] w fun e w' => e = .returned (.tuple #[.string ⟨#[]⟩, .bool false]) ∧ w = w' := by
  have g4 : (b.size : Int) < 4 := by omega
  clear h4
  go_enter Tryd.func96, Tryd.ntmps96
  go_wp2_with fail
  go_ret2
  exact ⟨rfl, rfl⟩
set_option maxRecDepth 100000 in
set_option maxHeartbeats 2000000 in
theorem numc_out (b : ByteArray) (p q : Nat) (lo hi : Int) (w : World) (h4 : 4 ≤ b.size) (hout : (rd4 b : Int) < lo ∨ ¬ (rd4 b : Int) < lo ∧ hi < (rd4 b : Int))
    (hp : w.cell? ⟨p, 0, none⟩ = some (.int .i64 lo)) (hq : w.cell? ⟨q, 0, none⟩ = some (.int .i64 hi)) (vr : Value) :
    Calls Tryd.prog 96 #[.string b, .pointer (some ⟨p, 0, none⟩), .pointer (some ⟨q, 0, none⟩), vr] w fun e w' => e = .returned (.tuple #[.string ⟨#[]⟩, .bool false]) ∧ Same w w' := by
  have n0 : 0 < b.size := by omega
  have n1 : 1 < b.size := by omega
  have n2 : 2 < b.size := by omega
  have n3 : 3 < b.size := by omega
  have g0 : (0 : Int) < (b.size : Int) := by omega
  have g1 : (1 : Int) < (b.size : Int) := by omega
  have g2 : (2 : Int) < (b.size : Int) := by omega
  have g3 : (3 : Int) < (b.size : Int) := by omega
  have g4 : ¬ (b.size : Int) < 4 := by omega
  have E := Lib.hid (rd4_code b n0 n1 n2 n3)
  clear h4
  go_enter Tryd.func96, Tryd.ntmps96
  go_wp2_with fail
  refine quiet_abs (by kernel_rfl) (by kernel_rfl) fun w2 hs2 => ?_
  repeat still_step
  refine wpStill_nil ?_
  rw [E.out]
  have hp2 := (hs2.cell ⟨p, 0, none⟩).trans hp
  have hq2 := (hs2.cell ⟨q, 0, none⟩).trans hq
  clear hp hq
  have N0 : (0 : Int) ≤ (rd4 b : Int) := by omega
  obtain ⟨N, hN⟩ : ∃ N, rd4 b = N := ⟨_, rfl⟩
  rw [hN] at hout N0 ⊢
  rcases hout with h | ⟨h1, h⟩
  · go_wp2_with fail
    go_ret2
    exact ⟨rfl, hs2⟩
  · go_wp2_with fail
    go_ret2
    exact ⟨rfl, hs2⟩
set_option maxRecDepth 100000 in
set_option maxHeartbeats 2000000 in
theorem numc_yes (b : ByteArray) (p q r t o n : Nat) (lo hi : Int) (f : Nat → Value) (w : World) (h4 : 4 ≤ b.size) (hlo : ¬ (rd4 b : Int) < lo) (hhi : ¬ hi < (rd4 b : Int))
    (hp : w.cell? ⟨p, 0, none⟩ = some (.int .i64 lo)) (hq : w.cell? ⟨q, 0, none⟩ = some (.int .i64 hi)) (hr : w.cell? ⟨r, 0, none⟩ = some (.pointer (some ⟨t, o, none⟩)))
    (ht : Blk w t n f) (ho : o < n) :
    Calls Tryd.prog 96 #[.string b, .pointer (some ⟨p, 0, none⟩), .pointer (some ⟨q, 0, none⟩), .pointer (some ⟨r, 0, none⟩)] w fun e w' =>
      e = .returned (.tuple #[.string (b.extract 4 b.size), .bool true]) ∧ MS w t n (put f o (.int .i64 (rd4 b : Int))) w' := by
  have n0 : 0 < b.size := by omega
  have n1 : 1 < b.size := by omega
  have n2 : 2 < b.size := by omega
  have n3 : 3 < b.size := by omega
  have g0 : (0 : Int) < (b.size : Int) := by omega
  have g1 : (1 : Int) < (b.size : Int) := by omega
  have g2 : (2 : Int) < (b.size : Int) := by omega
  have g3 : (3 : Int) < (b.size : Int) := by omega
  have g4 : ¬ (b.size : Int) < 4 := by omega
  have E := Lib.hid (rd4_code b n0 n1 n2 n3)
  have HT := Lib.hid ht
  have HO := Lib.hid ho
  clear ht ho
  go_enter Tryd.func96, Tryd.ntmps96
  go_wp2_with fail
  refine quiet_abs (by kernel_rfl) (by kernel_rfl) fun w2 hs2 => ?_
  repeat still_step
  refine wpStill_nil ?_
  rw [E.out]
  have hp2 := (hs2.cell ⟨p, 0, none⟩).trans hp
  have hq2 := (hs2.cell ⟨q, 0, none⟩).trans hq
  have hr2 := (hs2.cell ⟨r, 0, none⟩).trans hr
  have ht2 := (HT.out.same hs2).get o HO.out
  have hf2 := (HT.out.same hs2).frz o
  have M2 := Lib.hid ((MS.mk HT.out).same hs2)
  clear hp hq hr hs2 HT
  have N0 : (0 : Int) ≤ (rd4 b : Int) := by omega
  obtain ⟨N, hN⟩ : ∃ N, rd4 b = N := ⟨_, rfl⟩
  have HN := Lib.hid hN
  rw [hN] at hlo hhi N0 ⊢
  clear hN
  go_wp2_with fail
  go_ret2
  refine ⟨rfl, ?_⟩
  rw [HN.out]
  exact M2.out.set o _
end Go.Proofs.YtigoaokpodggcaaDoor
end
