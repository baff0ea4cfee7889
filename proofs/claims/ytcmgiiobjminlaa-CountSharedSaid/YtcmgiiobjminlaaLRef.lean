/-
  How many are enough: the reference's Faults, Has, Once.
-/
import Derived.Test.YtcmgiiobjminlaaLOpen
import Derived.BigQuiet
import Derived.WalkSmall
open Go Go.RowKit
namespace WW
open BB
/-- the faults that are borne -/
def faultsI (n : Int) : Int := if n < 1 then 0 else (n - 1) / 3
/-- those that are from 0 below n, each once, as they come -/
def onceStep (n : Int) (out : List Int) (x : Int) : List Int := if 0 ≤ x ∧ x < n ∧ x ∉ out then out ++ [x] else out
def onceL (l : List Int) (n : Int) : List Int := l.foldl (onceStep n) []
theorem once_snoc (l : List Int) (n : Int) (i : Nat) (h : i < l.length) : onceL (l.take (i + 1)) n = onceStep n (onceL (l.take i) n) (l.getD i 0) := by
  unfold onceL
  rw [List.take_succ_eq_append_getElem h, List.foldl_append]
  simp [List.getD, List.getElem?_eq_getElem h]
theorem step_len (n : Int) (out : List Int) (x : Int) : (onceStep n out x).length ≤ out.length + 1 := by
  unfold onceStep; split <;> simp
theorem once_len (l : List Int) (n : Int) : ∀ i, i ≤ l.length → (onceL (l.take i) n).length ≤ i := by
  intro i
  induction i with
  | zero => intro _; simp [onceL]
  | succ i ih =>
    intro h
    rw [once_snoc l n i (by omega)]
    have := step_len n (onceL (l.take i) n) (l.getD i 0)
    have := ih (by omega)
    omega
theorem ints_own {e : TypeId} {w : World} {base : Nat} {v : Value} {k : Nat} {l : List Int} (h : w.ownsRow base e 1 v k (l.map (Value.int .i64))) : IntsAt w v l := by
  have hk : l.length = k := by have := h.1; simpa using this
  rcases h.2 with ⟨rfl, h0⟩ | ⟨g, cap, cur, rfl, hg, hh, hn, hcm, hsz, htk⟩
  · have : l = [] := List.eq_nil_of_length_eq_zero (by omega)
    subst this
    exact ⟨none, 0, rfl, by simp, Or.inl rfl⟩
  · have hlt : g < w.heap.size := by
      rcases Nat.lt_or_ge g w.heap.size with h | h
      · exact h
      · rw [Array.getElem?_eq_none h] at hh; cases hh
    have hcm' : cap ≤ 9223372036854775807 := hcm
    subst hk
    refine ⟨some ⟨g, 0, none⟩, cap, rfl, by omega, Or.inr ⟨g, 0, rfl, hlt, fun i hi => ?_⟩⟩
    have h6 := congrArg (·[i]?) htk
    simp only [Nat.mul_one, List.getElem?_take, if_pos hi, Array.getElem?_toList] at h6
    unfold World.cell?
    rw [hh, Nat.zero_add]
    show cur[i]? = _
    rw [h6, List.getElem?_map, List.getElem?_eq_getElem hi]
    simp [List.getD, List.getElem?_eq_getElem hi]
theorem row_keep {w w' : World} {e : TypeId} {lo k m : Nat} {sv : Value} {xs : List Value} (h : w.ownsRow lo e k sv m xs) (hk : ∀ c, sv.ownBlock = some c → w'.heap[c]? = w.heap[c]?) : w'.ownsRow lo e k sv m xs := by
  obtain ⟨h1, h2 | ⟨g, cap, cur, hv, hb, hc, rest⟩⟩ := h
  · exact ⟨h1, Or.inl h2⟩
  · subst hv
    exact ⟨h1, Or.inr ⟨g, cap, cur, rfl, hb, (hk g rfl).trans hc, rest⟩⟩
/-- where the loop of Once stands -/
structure OnceAt (w : World) (e : TypeId) (l : List Int) (n : Int) (i : Nat) (v : Value) (wr : World) : Prop where
  below : Below w.heap.size w wr
  own : wr.ownsRow w.heap.size e 1 v (onceL (l.take i) n).length ((onceL (l.take i) n).map (Value.int .i64))
/-- how many are above x, how many are x -/
def aboveI (l : List Int) (x : Int) : Nat := l.countP (fun y => decide (x < y))
def likeI (l : List Int) (x : Int) : Nat := l.countP (fun y => decide (y = x))
/-- is x the k-th greatest? -/
def topOk (l : List Int) (k x : Int) : Bool := decide ((aboveI l x : Int) < k ∧ k ≤ (aboveI l x : Int) + (likeI l x : Int))
def topI (l : List Int) (k : Int) : Int := (l.find? (topOk l k)).getD 0
theorem above_snoc (l : List Int) (x : Int) (j : Nat) (h : j < l.length) : aboveI (l.take (j + 1)) x = aboveI (l.take j) x + if x < l.getD j 0 then 1 else 0 := by
  unfold aboveI
  rw [List.take_succ_eq_append_getElem h, List.countP_append]
  simp [List.getD, List.getElem?_eq_getElem h, List.countP_cons]
theorem like_snoc (l : List Int) (x : Int) (j : Nat) (h : j < l.length) : likeI (l.take (j + 1)) x = likeI (l.take j) x + if l.getD j 0 = x then 1 else 0 := by
  unfold likeI
  rw [List.take_succ_eq_append_getElem h, List.countP_append]
  simp [List.getD, List.getElem?_eq_getElem h, List.countP_cons]
theorem above_le (l : List Int) (x : Int) (j : Nat) : aboveI (l.take j) x ≤ l.length := by
  have := List.countP_le_length (p := fun y => decide (x < y)) (l := l.take j)
  rw [List.length_take] at this
  unfold aboveI; omega
theorem like_le (l : List Int) (x : Int) (j : Nat) : likeI (l.take j) x ≤ l.length := by
  have := List.countP_le_length (p := fun y => decide (y = x)) (l := l.take j)
  rw [List.length_take] at this
  unfold likeI; omega
theorem top_found (l : List Int) (k : Int) (i : Nat) (h : i < l.length) (hno : ∀ y ∈ l.take i, topOk l k y = false) (hy : topOk l k (l.getD i 0) = true) : topI l k = l.getD i 0 := by
  have h1 : l = l.take i ++ l.getD i 0 :: l.drop (i + 1) := by
    rw [List.getD_eq_getElem?_getD, List.getElem?_eq_getElem h]
    simp
  have h2 : List.find? (topOk l k) (l.take i) = none := by
    rw [List.find?_eq_none]; intro x hx; simp [hno x hx]
  have h3 : List.find? (topOk l k) l = some (l.getD i 0) := by
    conv => lhs; rw [h1]
    rw [List.find?_append, ← h1, h2, List.find?_cons_of_pos hy]; rfl
  rw [topI, h3]; rfl
theorem top_none (l : List Int) (k : Int) (hno : ∀ y ∈ l, topOk l k y = false) : topI l k = 0 := by
  have : l.find? (topOk l k) = none := by rw [List.find?_eq_none]; intro x hx; simp [hno x hx]
  rw [topI, this]; rfl
theorem below_drewI {B : Nat} {a w : World} (h : Below B a w) (n : Nat) : Below B a (w.drewN n) := h.trans ⟨rfl, rfl, rfl, Nat.le_refl _, fun _ _ => rfl⟩
end WW
namespace Go.Proofs.Ytcmgiiobjminlaa
open WW BB
set_option maxRecDepth 100000 in
theorem rfaults3_any (n : Int) (h : n ≤ 9223372036854775807) (w : World) : Calls Try.prog 19 #[.int .i64 n] w fun e w' => e = .returned (.int .i64 (faultsI n)) ∧ w = w' := by
  by_cases h1 : n < 1
  · rw [show faultsI n = 0 by unfold faultsI; rw [if_pos h1]]
    go_enter Try.func19, Try.ntmps19
    go_wp2_with fail
    go_ret
    exact ⟨rfl, rfl⟩
  · have E := Lib.hid (show faultsI n = (n - 1) / 3 by unfold faultsI; rw [if_neg h1])
    have h2 : 0 ≤ n - 1 := by omega
    have h3 : n - 1 ≤ 9223372036854775806 := by omega
    go_enter Try.func19, Try.ntmps19
    go_wp2_with fail
    go_ret
    exact ⟨by rw [E.out]; rfl, rfl⟩
set_option maxRecDepth 100000 in
theorem rfaults_any (n : Int) (h : n ≤ 9223372036854775807) (w : World) : Calls Try.prog 11 #[.int .i64 n] w fun e w' => e = .returned (.int .i64 (faultsI n)) ∧ w = w' := by
  by_cases h4 : n < 4
  · have E := Lib.hid (show faultsI n = 0 by unfold faultsI; split <;> omega)
    go_enter Try.func11, Try.ntmps11
    go_wp2_with fail
    go_ret
    exact ⟨by rw [E.out]; rfl, rfl⟩
  · have E := Lib.hid (show faultsI n = 1 + faultsI (n - 3) by unfold faultsI; split <;> split <;> omega)
    have F := Lib.hid (show 0 ≤ faultsI (n - 3) ∧ faultsI (n - 3) ≤ 9000000000000000000 by unfold faultsI; split <;> omega)
    have h2 : 0 ≤ n - 3 := by omega
    have h3 : n - 3 ≤ 9223372036854775806 := by omega
    go_enter Try.func11, Try.ntmps11
    go_wp2_with fail
    refine (rfaults3_any (n - 3) (by omega) w).mono ?_
    rintro e w' ⟨rfl, rfl⟩
    have f0 := F.out.1
    have f1 := F.out.2
    go_wp2_with fail
    go_ret
    exact ⟨by rw [E.out]; rfl, rfl⟩
set_option maxRecDepth 100000 in
set_option maxHeartbeats 1000000 in
theorem has_any (l : List Int) (v : Value) (x : Int) (w : World) (hv : IntsAt w v l) : Calls Try.prog 17 #[v, .int .i64 x] w fun e w' => e = .returned (.bool (decide (x ∈ l))) ∧ w = w' := by
  obtain ⟨X, hX⟩ : ∃ X, decide (x ∈ l) = X := ⟨_, rfl⟩
  rw [hX]
  have HX := Lib.hid hX
  have HV := Lib.hid hv
  have HN := Lib.hid hv.len
  obtain ⟨a0, cap, rfl, _, hx⟩ := hv
  clear hx hX
  go_enter Try.func17, Try.ntmps17
  go_wp2_with fail
  go_loop [5] (fun u => ∃ i : Nat, i ≤ l.length ∧ u = .int .i64 (i : Int) ∧ x ∉ l.take i) (fun u => l.length - (intOf u).toNat)
  case atStart => exact ⟨0, Nat.zero_le _, rfl, by simp⟩
  case round =>
    obtain ⟨i, hi, rfl, hno⟩ := hrel
    have HNO := Lib.hid hno
    have i0 : (0 : Int) ≤ (i : Int) := by omega
    clear hno
    by_cases hlt : i < l.length
    · have hlt' : (i : Int) < (l.length : Int) := by omega
      have ib : (i : Int) + 1 ≤ 9223372036854775807 := by have := HN.out; omega
      obtain ⟨a1, cap1, he, _, hv | ⟨gb, off, rfl, hbw, hcell⟩⟩ := HV.out
      · rw [hv] at hlt; simp at hlt
      injection he with e1 _ e3
      subst e1 e3
      have hcl := hcell i hlt
      have HIN := Lib.hid (show l.take (i + 1) = l.take i ++ [l.getD i 0] by rw [List.take_succ_eq_append_getElem hlt]; simp [List.getD, List.getElem?_eq_getElem hlt])
      have HME := Lib.hid (show l.getD i 0 ∈ l by rw [List.getD_eq_getElem?_getD, List.getElem?_eq_getElem hlt]; exact List.getElem_mem hlt)
      obtain ⟨y, hy⟩ : ∃ y, l.getD i 0 = y := ⟨_, rfl⟩
      have HIN' := HIN.out
      have HME' := HME.out
      rw [hy] at hcl HIN' HME'
      clear HIN HME
      have HIN := Lib.hid HIN'
      have HME := Lib.hid HME'
      have HLT := Lib.hid hlt
      clear HIN' HME' hy hlt hi hcell hbw
      by_cases hyx : y = x
      · have t1 : (y == x) = true := by rw [hyx]; simp
        have HXT := Lib.hid (show X = true by rw [← HX.out, ← hyx]; simpa using HME.out)
        clear hyx
        go_wp2_with fail
        go_ret
        exact ⟨by rw [HXT.out]; rfl, rfl⟩
      · have t1 : (y == x) = false := by simpa using hyx
        have HYX := Lib.hid hyx
        clear hyx
        go_wp2_with fail
        go_round
        case rel => exact ⟨i + 1, by have := HLT.out; omega, by go_num, by
          rw [HIN.out, List.mem_append]
          have := HNO.out
          have := HYX.out
          simp only [List.mem_singleton]
          rintro (h | h)
          · exact HNO.out h
          · exact HYX.out h.symm⟩
        case measure => have := HLT.out; simp [intOf]; omega
    · obtain rfl : i = l.length := by omega
      have hlt' : ¬ (l.length : Int) < (l.length : Int) := by omega
      have HXF := Lib.hid (show X = false by
        have := HNO.out
        rw [List.take_length] at this
        rw [← HX.out]; simpa using this)
      clear hi hlt
      go_wp2_with fail
      go_ret
      exact ⟨by rw [HXF.out]; rfl, rfl⟩
theorem has_is (l : List Int) (v : Value) (x : Int) (b : Bool) (hb : decide (x ∈ l) = b) (w : World) (hv : IntsAt w v l) : Calls Try.prog 17 #[v, .int .i64 x] w fun e w' => e = .returned (.bool b) ∧ w = w' := hb ▸ has_any l v x w hv
theorem info_int : (Try.prog.info? 3).map (fun i => (i.zero, i.size, i.bytes)) = some (some (.int .i64 0), 1, 8) := by kernel_rfl
set_option maxRecDepth 100000 in
set_option maxHeartbeats 4000000 in
theorem once_any (l : List Int) (v : Value) (n : Int) (w : World) (hv : IntsAt w v l) (hs : l.length ≤ 1000) : Calls Try.prog 14 #[v, .int .i64 n] w fun e w' => ∃ v', e = .returned v' ∧ IntsAt w' v' (onceL l n) ∧ Below w.heap.size w w' := by
  have HV := Lib.hid hv
  have HS := Lib.hid hs
  obtain ⟨a0, cap, rfl, _, hx⟩ := hv
  clear hs hx
  go_enter Try.func14, Try.ntmps14
  go_wp2_with fail
  go_loopw [5, 6] (fun u x wr => ∃ (i : Nat) (u' : Value), i ≤ l.length ∧ x = .int .i64 (i : Int) ∧ u = u' ∧ OnceAt w 3 l n i u' wr) (fun _ x _ => l.length - (intOf x).toNat)
  case atStart => exact ⟨0, _, Nat.zero_le _, rfl, rfl, ⟨Below.refl _ _, rfl, Or.inl ⟨rfl, rfl⟩⟩⟩
  case round =>
    obtain ⟨i, u, hi, rfl, rfl, hO⟩ := hrel
    have HO := Lib.hid hO
    have HIO := Lib.hid (ints_own hO.own)
    have HOL := Lib.hid (once_len l n i hi)
    obtain ⟨out, hout⟩ : ∃ out, onceL (l.take i) n = out := ⟨_, rfl⟩
    rw [hout] at HIO HOL
    have HT := Lib.hid hout
    have HB := Lib.hid hO.below
    by_cases hlt : i < l.length
    · have hlt' : (i : Int) < (l.length : Int) := by omega
      have i0 : (0 : Int) ≤ (i : Int) := by omega
      have ib : (i : Int) + 1 ≤ 9223372036854775807 := by have := HS.out; omega
      obtain ⟨a1, cap1, he, _, hv | ⟨gb, off, rfl, hbw, hcell⟩⟩ := HV.out
      · rw [hv] at hlt; simp at hlt
      injection he with e1 _ e3
      subst e1 e3
      have hcl := (hO.below.cell (p := ⟨gb, off + i, none⟩) hbw).trans (hcell i hlt)
      have HSN := Lib.hid (once_snoc l n i hlt)
      obtain ⟨y, hy⟩ : ∃ y, l.getD i 0 = y := ⟨_, rfl⟩
      rw [hy] at hcl
      have HSN := Lib.hid (show onceL (l.take (i + 1)) n = onceStep n out y by rw [HSN.out, hy, hout])
      have HLT := Lib.hid hlt
      have hown := hO.own
      rw [hout] at hown
      have HOW := Lib.hid hown
      clear hy hlt hi hcell hbw hO hout hown
      by_cases hy0 : 0 ≤ y
      · by_cases hyn : y < n
        · obtain ⟨b, hb⟩ : ∃ b, decide (y ∈ out) = b := ⟨_, rfl⟩
          have HBB := Lib.hid hb
          clear hb
          go_wp2_with fail
          refine (has_is out u5 y b HBB.out wr HIO.out).mono ?_
          rintro e w' ⟨rfl, rfl⟩
          cases b
          · obtain ⟨ti, i1, i2, i3, i4⟩ := info_parts info_int
            have cx := cell_new wr #[.int .i64 y] 3 0 _ rfl
            have bal := (Below.refl wr.heap.size wr).alloc (Nat.le_refl _) (.cells #[.int .i64 y] 3)
            have hown2 : (wr.alloc (.cells #[.int .i64 y] 3)).ownsRow w.heap.size 3 1 u5 out.length (out.map (Value.int .i64)) := row_keep HOW.out fun c hc => bal.block c (HOW.out.lt c hc).2
            have hbs := Nat.le_trans HB.out.size bal.size
            go_wp2_with (at_builtin; refine wpList_append_own _ rfl _ _ 25 rfl w.heap.size 3 ti (.int .i64 0) 1 8 (by kernel_rfl) i1 i2 i3 i4 rfl (by decide) u5 out.length (out.map (Value.int .i64)) rfl hown2 ⟨wr.heap.size, 0, none⟩ 1 1 [.int .i64 y] rfl rfl ?c1 ?c2 ?c3 ?c4 hbs ?_)
            case c1 =>
              intro j u hj
              match j, hj with
              | 0, hj => simp at hj; subst hj; rw [Addr.add_lit]; exact cx
              | j + 1, hj => simp at hj
            case c2 => intro u hu; simp at hu; subst hu; rfl
            case c3 => have := HOL.out; have := HLT.out; have := HS.out; unfold maxLen; omega
            case c4 => have := HOL.out; have := HLT.out; have := HS.out; omega
            intro v' w' hown' hgr _
            have hb' : Below w.heap.size w w' := (HB.out.trans (bal.mono HB.out.size)).grown hgr (by have := HB.out.size; omega) (fun k hk => (hown2.lt k hk).1)
            have HB' := Lib.hid hb'
            have HOW' := Lib.hid hown'
            clear hb' hown' hgr hown2 bal cx hbs
            go_wp2_with fail
            go_roundw
            case rel => exact ⟨i + 1, _, by have := HLT.out; omega, by go_num, rfl, ⟨HB'.out, by
              rw [HSN.out, onceStep, if_pos ⟨hy0, hyn, by simpa using HBB.out⟩, List.map_append, List.length_append]; exact HOW'.out⟩⟩
            case measure => have := HLT.out; simp [intOf]; omega
          · go_wp2_with fail
            go_roundw
            case rel => exact ⟨i + 1, _, by have := HLT.out; omega, by go_num, rfl, ⟨HB.out, by
              rw [HSN.out, onceStep, if_neg (by rintro ⟨_, _, h⟩; exact h (by simpa using HBB.out))]; exact HOW.out⟩⟩
            case measure => have := HLT.out; simp [intOf]; omega
        · have HYN := Lib.hid hyn
          go_wp2_with fail
          go_roundw
          case rel => exact ⟨i + 1, _, by have := HLT.out; omega, by go_num, rfl, ⟨HB.out, by
            rw [HSN.out, onceStep, if_neg (by rintro ⟨_, h, _⟩; exact HYN.out h)]; exact HOW.out⟩⟩
          case measure => have := HLT.out; simp [intOf]; omega
      · have HY0 := Lib.hid hy0
        go_wp2_with fail
        go_roundw
        case rel => exact ⟨i + 1, _, by have := HLT.out; omega, by go_num, rfl, ⟨HB.out, by
          rw [HSN.out, onceStep, if_neg (by rintro ⟨h, _⟩; exact HY0.out h)]; exact HOW.out⟩⟩
        case measure => have := HLT.out; simp [intOf]; omega
    · obtain rfl : i = l.length := by omega
      have hlt' : ¬ (l.length : Int) < (l.length : Int) := by omega
      have HTL := Lib.hid (show onceL l n = out by rw [← hout, List.take_length])
      clear hi hlt hO hout
      go_wp2_with fail
      go_ret
      exact ⟨u5, rfl, by rw [HTL.out]; exact HIO.out, HB.out⟩
set_option maxRecDepth 100000 in
set_option maxHeartbeats 4000000 in
theorem top_any (l : List Int) (v : Value) (k : Int) (w : World) (hv : IntsAt w v l) (hs : l.length ≤ 1000) : Calls Try.prog 12 #[v, .int .i64 k] w fun e w' => e = .returned (.int .i64 (topI l k)) ∧ Below w.heap.size w w' := by
  have HV := Lib.hid hv
  have HS := Lib.hid hs
  obtain ⟨a0, cap, rfl, _, hx⟩ := hv
  clear hs hx
  go_enter Try.func12, Try.ntmps12
  go_wp2_with fail
  go_loopw [5] (fun x wr => ∃ (i : Nat), i ≤ l.length ∧ x = .int .i64 (i : Int) ∧ (∀ y ∈ l.take i, topOk l k y = false) ∧ Below w.heap.size w wr) (fun x _ => l.length - (intOf x).toNat)
  case atStart => exact ⟨0, Nat.zero_le _, rfl, by simp, Below.refl _ _⟩
  case round =>
    obtain ⟨i, hi, rfl, hno, hb⟩ := hrel
    have HNO := Lib.hid hno
    have HB := Lib.hid hb
    clear hno hb
    have i0 : (0 : Int) ≤ (i : Int) := by omega
    by_cases hlt : i < l.length
    · have hlt' : (i : Int) < (l.length : Int) := by omega
      have ib : (i : Int) ≤ 1000 := by have := HS.out; omega
      have HLT := Lib.hid hlt
      clear hlt hi
      go_wp2_with fail
      obtain ⟨x, hx⟩ : ∃ x, l.getD i 0 = x := ⟨_, rfl⟩
      have HX := Lib.hid hx
      clear hx
      go_loopw [6, 7, 8] (fun a b z wr => ∃ (j : Nat), j ≤ l.length ∧ a = .int .i64 (aboveI (l.take j) x : Int) ∧ b = .int .i64 (likeI (l.take j) x : Int) ∧ z = .int .i64 (j : Int) ∧ Below w.heap.size w wr) (fun _ _ z _ => l.length - (intOf z).toNat)
      case atStart => exact ⟨0, Nat.zero_le _, rfl, rfl, rfl, HB.out⟩
      case round =>
        clear HB
        obtain ⟨j, hj, rfl, rfl, rfl, hb⟩ := hrel
        have HB := Lib.hid hb
        clear hb
        have j0 : (0 : Int) ≤ (j : Int) := by omega
        have HA := Lib.hid (above_le l x j)
        have HL := Lib.hid (like_le l x j)
        by_cases hjl : j < l.length
        · have hjl' : (j : Int) < (l.length : Int) := by omega
          have jb : (j : Int) ≤ 1000 := by have := HS.out; omega
          have HSA := Lib.hid (above_snoc l x j hjl)
          have HSL := Lib.hid (like_snoc l x j hjl)
          obtain ⟨a1, cap1, he, _, hv | ⟨gb, off, rfl, hbw, hcell⟩⟩ := HV.out
          · rw [hv] at hjl; simp at hjl
          injection he with e1 _ e3
          subst e1 e3
          have hci := (HB.out.cell (p := ⟨gb, off + i, none⟩) hbw).trans (hcell i HLT.out)
          have hcj := (HB.out.cell (p := ⟨gb, off + j, none⟩) hbw).trans (hcell j hjl)
          rw [HX.out] at hci
          obtain ⟨y, hy⟩ : ∃ y, l.getD j 0 = y := ⟨_, rfl⟩
          rw [hy] at hcj
          have HSA := Lib.hid (show (if x < y then aboveI (l.take j) x + 1 else aboveI (l.take j) x) = aboveI (l.take (j + 1)) x by rw [HSA.out, hy]; split <;> rfl)
          have HSL := Lib.hid (show (if y = x then likeI (l.take j) x + 1 else likeI (l.take j) x) = likeI (l.take (j + 1)) x by rw [HSL.out, hy]; split <;> rfl)
          have HJL := Lib.hid hjl
          obtain ⟨A, hA⟩ : ∃ A, aboveI (l.take j) x = A := ⟨_, rfl⟩
          obtain ⟨L, hL⟩ : ∃ L, likeI (l.take j) x = L := ⟨_, rfl⟩
          rw [hA] at HA HSA ⊢
          rw [hL] at HL HSL ⊢
          have ha : (A : Int) ≤ 1000 := by have := HA.out; have := HS.out; omega
          have hl : (L : Int) ≤ 1000 := by have := HL.out; have := HS.out; omega
          have ha0 : (0 : Int) ≤ (A : Int) := by omega
          have hl0 : (0 : Int) ≤ (L : Int) := by omega
          clear hy hj hjl hcell hbw hA hL
          by_cases hxy : x < y
          · have hyx : ¬ y ≤ x := by omega
            have t1 : (y == x) = false := by simp; omega
            have EA := Lib.hid (show A + 1 = aboveI (l.take (j + 1)) x by rw [← HSA.out, if_pos hxy])
            have EL := Lib.hid (show L = likeI (l.take (j + 1)) x by rw [← HSL.out, if_neg (by omega)])
            go_wp2_with fail
            go_quiet (fail)
            go_wp2_with fail
            go_quiet (fail)
            go_wp2_with fail
            go_roundw
            case rel => exact ⟨j + 1, by have := HJL.out; omega, by rw [← EA.out]; go_num, by rw [← EL.out], by go_num, below_drewI HB.out _⟩
            case measure => have := HJL.out; simp [intOf]; omega
          · have hyx : y ≤ x := by omega
            have EA := Lib.hid (show A = aboveI (l.take (j + 1)) x by rw [← HSA.out, if_neg hxy])
            by_cases hyy : y = x
            · have t1 : (y == x) = true := by simp [hyy]
              have EL := Lib.hid (show L + 1 = likeI (l.take (j + 1)) x by rw [← HSL.out, if_pos hyy])
              clear hyy
              go_wp2_with fail
              go_quiet (fail)
              go_wp2_with fail
              go_quiet (fail)
              go_wp2_with fail
              go_roundw
              case rel => exact ⟨j + 1, by have := HJL.out; omega, by rw [← EA.out], by rw [← EL.out]; go_num, by go_num, below_drewI HB.out _⟩
              case measure => have := HJL.out; simp [intOf]; omega
            · have t1 : (y == x) = false := by simp [hyy]
              have EL := Lib.hid (show L = likeI (l.take (j + 1)) x by rw [← HSL.out, if_neg hyy])
              clear hyy
              go_wp2_with fail
              go_quiet (fail)
              go_wp2_with fail
              go_quiet (fail)
              go_wp2_with fail
              go_roundw
              case rel => exact ⟨j + 1, by have := HJL.out; omega, by rw [← EA.out], by rw [← EL.out], by go_num, below_drewI HB.out _⟩
              case measure => have := HJL.out; simp [intOf]; omega
        · obtain rfl : j = l.length := by omega
          have hjl' : ¬ (l.length : Int) < (l.length : Int) := by omega
          rw [List.take_length] at HA HL ⊢
          have HOK := Lib.hid (show topOk l k x = decide ((aboveI l x : Int) < k ∧ k ≤ (aboveI l x : Int) + (likeI l x : Int)) from rfl)
          obtain ⟨A, hA⟩ : ∃ A, aboveI l x = A := ⟨_, rfl⟩
          obtain ⟨L, hL⟩ : ∃ L, likeI l x = L := ⟨_, rfl⟩
          rw [hA] at HA HOK ⊢
          rw [hL] at HL HOK ⊢
          have ha : (A : Int) ≤ 1000 := by have := HA.out; have := HS.out; omega
          have hl : (L : Int) ≤ 1000 := by have := HL.out; have := HS.out; omega
          have ha0 : (0 : Int) ≤ (A : Int) := by omega
          have hl0 : (0 : Int) ≤ (L : Int) := by omega
          clear hj hjl hA hL
          have HNX := Lib.hid (fun (h : topOk l k x = false) => show ∀ y ∈ l.take (i + 1), topOk l k y = false by
            intro y hy
            rw [List.take_succ_eq_append_getElem HLT.out, List.mem_append] at hy
            rcases hy with hy | hy
            · exact HNO.out y hy
            · have : y = x := by rw [← HX.out]; simpa [List.getD, List.getElem?_eq_getElem HLT.out] using hy
              rw [this]; exact h)
          by_cases h1 : (A : Int) < k
          · by_cases h2 : k ≤ (A : Int) + (L : Int)
            · have HT := Lib.hid (show topI l k = x by rw [← HX.out]; exact top_found l k i HLT.out HNO.out (by rw [HX.out, HOK.out]; simp [h1, h2]))
              obtain ⟨a1, cap1, he, _, hv | ⟨gb, off, rfl, hbw, hcell⟩⟩ := HV.out
              · have := HLT.out; rw [hv] at this; simp at this
              injection he with e1 _ e3
              subst e1 e3
              have hci := (HB.out.cell (p := ⟨gb, off + i, none⟩) hbw).trans (hcell i HLT.out)
              rw [HX.out] at hci
              clear hcell hbw
              go_wp2_with fail
              go_ret
              exact ⟨by rw [HT.out]; rfl, HB.out⟩
            · have HF := Lib.hid (HNX.out (by rw [HOK.out]; simp [h2]))
              go_wp2_with fail
              go_roundw
              case rel => exact ⟨i + 1, by have := HLT.out; omega, by go_num, HF.out, HB.out⟩
              case measure => have := HLT.out; simp [intOf]; omega
          · have HF := Lib.hid (HNX.out (by rw [HOK.out]; simp [h1]))
            go_wp2_with fail
            go_roundw
            case rel => exact ⟨i + 1, by have := HLT.out; omega, by go_num, HF.out, HB.out⟩
            case measure => have := HLT.out; simp [intOf]; omega
    · obtain rfl : i = l.length := by omega
      have hlt' : ¬ (l.length : Int) < (l.length : Int) := by omega
      have HT := Lib.hid (show topI l k = 0 from top_none l k (by have := HNO.out; rwa [List.take_length] at this))
      clear hi hlt
      go_wp2_with fail
      go_ret
      exact ⟨by rw [HT.out]; rfl, HB.out⟩
end Go.Proofs.Ytcmgiiobjminlaa
