/-
  The walk of the law CountLeaders.
-/
import Derived.Test.YtcmgiiobjminlaaLLawL
open Go Go.RowKit
namespace WW
open BB
/-- who leads the first i views from v on -/
def ledL (v n : Int) (i : Nat) : List Int := (List.range i).map fun (j : Nat) => (v + (j : Int)) % n
theorem led_len (v n : Int) (i : Nat) : (ledL v n i).length = i := by simp [ledL]
theorem led_snoc (v n : Int) (i : Nat) : ledL v n (i + 1) = ledL v n i ++ [(v + (i : Int)) % n] := by simp [ledL, List.range_succ]
theorem led_new (v n : Int) (i : Nat) (h : (i : Int) < n) : (v + (i : Int)) % n ∉ ledL v n i := by
  intro hm
  obtain ⟨j, hj, he⟩ := List.mem_map.1 hm
  have hj := List.mem_range.1 hj
  have h1 := Int.emod_eq_emod_iff_emod_sub_eq_zero.1 he
  rw [show (v + (j : Int)) - (v + (i : Int)) = -((i : Int) - (j : Int)) by omega] at h1
  have h2 : ((i : Int) - (j : Int)) % n = 0 := Int.emod_eq_zero_of_dvd (by have := Int.dvd_of_emod_eq_zero h1; rwa [Int.dvd_neg] at this)
  rw [Int.emod_eq_of_lt (by omega) (by omega)] at h2
  omega
theorem led_once (v n : Int) : ∀ i : Nat, (i : Int) ≤ n → onceL (ledL v n i) n = ledL v n i := by
  intro i
  induction i with
  | zero => intro _; rfl
  | succ i ih =>
    intro h
    have e := ih (by omega)
    unfold onceL at e ⊢
    rw [led_snoc, List.foldl_append, e]
    show onceStep n _ _ = _
    have h0 : 0 < n := by omega
    rw [onceStep, if_pos ⟨Int.emod_nonneg _ (by omega), Int.emod_lt_of_pos _ h0, led_new v n i (by omega)⟩]
theorem mod_parts (v n : Int) (hv : 0 ≤ v) (hn : 1 ≤ n) : 0 ≤ v % n ∧ v % n < n ∧ v % n ≤ v ∧ (v - v % n) % n = 0 := by
  refine ⟨Int.emod_nonneg _ (by omega), Int.emod_lt_of_pos _ (by omega), ?_, ?_⟩
  · have h1 := Int.emod_add_mul_ediv v n
    have h2 : 0 ≤ n * (v / n) := Int.mul_nonneg (by omega) (Int.ediv_nonneg hv (by omega))
    omega
  · have h1 := Int.emod_add_mul_ediv v n
    rw [show v - v % n = n * (v / n) by omega, Int.mul_emod_right]
structure LedAt (w : World) (e : TypeId) (v n : Int) (i : Nat) (u : Value) (wr : World) : Prop where
  below : Below w.heap.size w wr
  own : wr.ownsRow w.heap.size e 1 u i ((ledL v n i).map (Value.int .i64))
end WW
namespace Go.Proofs.Ytcmgiiobjminlaa
open WW BB
theorem cleader_is (v n L : Int) (hl : leaderI v n = L) (w : World) : Calls Try.prog 18 #[.int .i64 v, .int .i64 n] w fun e w' => e = .returned (.int .i64 L) ∧ w = w' := hl ▸ cleader_any v n w
set_option maxRecDepth 100000 in
set_option maxHeartbeats 4000000 in
theorem countLeaders_walk (v n : Int) (w : World) (hv : -9223372036854775808 ≤ v ∧ v ≤ 9223372036854775807) (hn : -9223372036854775808 ≤ n ∧ n ≤ 9223372036854775807) : Calls Try.prog 6 #[.int .i64 v, .int .i64 n] w fun e w' => e = .returned (.bool true) ∧ Below w.heap.size w w' := by
  obtain ⟨v1, v2⟩ := hv
  obtain ⟨n1, n2⟩ := hn
  by_cases hv0 : v < 0
  · have L := Lib.hid (show leaderI v n = 0 from if_pos (Or.inl hv0))
    go_enter Try.func6, Try.ntmps6
    go_wp2_with (first
      | (go_at_call 18; refine (cleader_is v n 0 L.out _).mono ?_; rintro e w' ⟨rfl, rfl⟩)
      | (go_at_call 10; refine (awake4_any _).mono ?_; rintro e w' ⟨rfl, rfl⟩))
    go_ret
    exact ⟨rfl, Below.refl _ _⟩
  by_cases hn0 : n < 1
  · have L := Lib.hid (show leaderI v n = 0 from if_pos (Or.inr hn0))
    go_enter Try.func6, Try.ntmps6
    go_wp2_with (first
      | (go_at_call 18; refine (cleader_is v n 0 L.out _).mono ?_; rintro e w' ⟨rfl, rfl⟩)
      | (go_at_call 10; refine (awake4_any _).mono ?_; rintro e w' ⟨rfl, rfl⟩))
    go_ret
    exact ⟨rfl, Below.refl _ _⟩
  have w0 : 0 ≤ v := by omega
  have m1 : 1 ≤ n := by omega
  have mz : ¬ n = 0 := by omega
  obtain ⟨l0, l1, l2, l3⟩ := mod_parts v n w0 m1
  obtain ⟨L, hL⟩ : ∃ L, v % n = L := ⟨_, rfl⟩
  rw [hL] at l0 l1 l2 l3
  have LL := Lib.hid (show leaderI v n = L by rw [← hL]; exact if_neg (by omega))
  have s0 : 0 ≤ v - L := by omega
  have s1 : v - L ≤ 9223372036854775807 := by omega
  have l4 : ¬ n ≤ L := by omega
  clear hL
  by_cases hbig : 100 < n
  · go_enter Try.func6, Try.ntmps6
    go_wp2_with (first
      | (go_at_call 18; refine (cleader_is v n L LL.out _).mono ?_; rintro e w' ⟨rfl, rfl⟩)
      | (go_at_call 10; refine (awake4_any _).mono ?_; rintro e w' ⟨rfl, rfl⟩))
    go_ret
    exact ⟨rfl, Below.refl _ _⟩
  by_cases hfar : 1099511627776 < v
  · go_enter Try.func6, Try.ntmps6
    go_wp2_with (first
      | (go_at_call 18; refine (cleader_is v n L LL.out _).mono ?_; rintro e w' ⟨rfl, rfl⟩)
      | (go_at_call 10; refine (awake4_any _).mono ?_; rintro e w' ⟨rfl, rfl⟩))
    go_ret
    exact ⟨rfl, Below.refl _ _⟩
  have n7 : n ≤ 100 := by omega
  have v7 : v ≤ 1099511627776 := by omega
  obtain ⟨m, rfl⟩ := Int.eq_ofNat_of_zero_le (show 0 ≤ n by omega)
  have M7 := Lib.hid n7
  go_enter Try.func6, Try.ntmps6
  go_wp2_with (first
    | (go_at_call 18; refine (cleader_is v _ L LL.out _).mono ?_; rintro e w' ⟨rfl, rfl⟩)
    | (go_at_call 10; refine (awake4_any _).mono ?_; rintro e w' ⟨rfl, rfl⟩))
  clear l0 l1 l2 l3 l4 s0 s1 LL
  go_loopw [6, 7] (fun u x wr => ∃ (i : Nat) (u' : Value), i ≤ m ∧ x = .int .i64 (i : Int) ∧ u = u' ∧ LedAt w 3 v (m : Int) i u' wr) (fun _ x _ => m - (intOf x).toNat)
  case atStart => exact ⟨0, _, Nat.zero_le _, rfl, rfl, ⟨Below.refl _ _, rfl, Or.inl ⟨rfl, rfl⟩⟩⟩
  case round =>
    obtain ⟨i, u, hi, rfl, rfl, hO⟩ := hrel
    have HB := Lib.hid hO.below
    have HOW := Lib.hid hO.own
    clear hO
    have i0 : (0 : Int) ≤ (i : Int) := by omega
    have ib : (i : Int) ≤ 100 := by omega
    by_cases hlt : i < m
    · have hlt' : (i : Int) < (m : Int) := by omega
      have va : v + (i : Int) ≤ 9223372036854775807 := by omega
      have vb : 0 ≤ v + (i : Int) := by omega
      have HLT := Lib.hid hlt
      obtain ⟨y, hy⟩ : ∃ y, (v + (i : Int)) % (m : Int) = y := ⟨_, rfl⟩
      have HY := Lib.hid (show leaderI (v + (i : Int)) (m : Int) = y by rw [← hy]; exact if_neg (by omega))
      have HSN := Lib.hid (show (ledL v (m : Int) i).map (Value.int .i64) ++ [.int .i64 y] = (ledL v (m : Int) (i + 1)).map (Value.int .i64) by rw [led_snoc, hy]; simp)
      clear hy hlt hi
      obtain ⟨ti, i1, i2, i3, i4⟩ := info_parts info_int
      have cx := cell_new wr #[.int .i64 y] 3 0 _ rfl
      have bal := (Below.refl wr.heap.size wr).alloc (Nat.le_refl _) (.cells #[.int .i64 y] 3)
      have hown2 : (wr.alloc (.cells #[.int .i64 y] 3)).ownsRow w.heap.size 3 1 u6 i ((ledL v (m : Int) i).map (Value.int .i64)) := row_keep HOW.out fun c hc => bal.block c (HOW.out.lt c hc).2
      have hbs := Nat.le_trans HB.out.size bal.size
      go_wp2_with fail
      refine (cleader_is (v + (i : Int)) (m : Int) y HY.out wr).mono ?_
      rintro e w' ⟨rfl, rfl⟩
      go_wp2_with (at_builtin; refine wpList_append_own _ rfl _ _ 25 rfl w.heap.size 3 ti (.int .i64 0) 1 8 (by kernel_rfl) i1 i2 i3 i4 rfl (by decide) u6 i ((ledL v (m : Int) i).map (Value.int .i64)) rfl hown2 ⟨wr.heap.size, 0, none⟩ 1 1 [.int .i64 y] rfl rfl ?c1 ?c2 ?c3 ?c4 hbs ?_)
      case c1 =>
        intro j u hj
        match j, hj with
        | 0, hj => simp at hj; subst hj; rw [Addr.add_lit]; exact cx
        | j + 1, hj => simp at hj
      case c2 => intro u hu; simp at hu; subst hu; rfl
      case c3 => have := HLT.out; have := M7.out; unfold maxLen; omega
      case c4 => have := HLT.out; have := M7.out; omega
      intro v' w' hown' hgr _
      have hb' : Below w.heap.size w w' := (HB.out.trans (bal.mono HB.out.size)).grown hgr (by have := HB.out.size; omega) (fun k hk => (hown2.lt k hk).1)
      have HB' := Lib.hid hb'
      rw [HSN.out] at hown'
      have HOW' := Lib.hid hown'
      clear hb' hown' hgr hown2 bal cx hbs
      go_wp2_with fail
      go_roundw
      case rel => exact ⟨i + 1, _, by have := HLT.out; omega, by go_num, rfl, ⟨HB'.out, HOW'.out⟩⟩
      case measure => have := HLT.out; simp [intOf]; omega
    · obtain rfl : i = m := by omega
      have hlt' : ¬ (i : Int) < (i : Int) := by omega
      have HIO := Lib.hid (ints_own HOW.out)
      have HON := Lib.hid (led_once v (i : Int) i (Int.le_refl _))
      have HLN := Lib.hid (led_len v (i : Int) i)
      clear hi hlt
      go_wp2_with fail
      refine (once_is (ledL v (i : Int) i) _ _ (i : Int) HON.out wr HIO.out (by rw [HLN.out]; have := M7.out; omega)).mono ?_
      rintro e w3 ⟨a1, cap1, rfl, _, hb3⟩
      have B3 := Lib.hid (HB.out.trans (hb3.mono HB.out.size))
      clear hb3
      rw [HLN.out]
      go_wp2_with fail
      go_ret
      exact ⟨rfl, B3.out⟩
end Go.Proofs.Ytcmgiiobjminlaa
