/-
  The code's Shared: what two lists both have, rising.
-/
import Derived.Test.YtcmgiiobjminlaaLSort
import Derived.Test.YtcmgiiobjminlaaLLawC
open Go Go.RowKit
namespace WW
open BB Go.Maps
/-- what of A has come and is in y -/
def Came (D : DataW Unit) (left : Lit → Bool) (y ss : List Int) : Prop := ss.Nodup ∧ ∀ x, x ∈ ss ↔ (Maps.has D (keyI x) = true ∧ left (keyI x) = false ∧ x ∈ y)
theorem Came.start (D : DataW Unit) (y : List Int) : Came D (Maps.has D) y [] := ⟨List.nodup_nil, fun x => by simp; intro h1 h2; rw [h1] at h2; cases h2⟩
theorem keyI_same (x : Int) : (keyI x).sameKey (keyI x) = true := WideAt.sameKey_self trivial
theorem Came.take {D : DataW Unit} {left : Lit → Bool} {y ss : List Int} {x : Int} (h : Came D left y ss) (hl : left (keyI x) = true) (hh : Maps.has D (keyI x) = true) (hy : x ∈ y) : Came D (fun z => left z && !z.sameKey (keyI x)) y (ss ++ [x]) := by
  have hx : x ∉ ss := fun k => by have := ((h.2 x).1 k).2.1; rw [hl] at this; cases this
  refine ⟨by rw [List.nodup_append]; exact ⟨h.1, by simp, fun a ha b hb => by rintro rfl; rw [List.mem_singleton] at hb; subst hb; exact hx ha⟩, fun z => ?_⟩
  rw [List.mem_append, List.mem_singleton, h.2]
  by_cases e : z = x
  · subst e; simp [keyI_same, hh, hy]
  · simp [sameKey_ne (keyI_ne e), e]
theorem Came.pass {D : DataW Unit} {left : Lit → Bool} {y ss : List Int} {x : Int} (h : Came D left y ss) (hy : x ∉ y) : Came D (fun z => left z && !z.sameKey (keyI x)) y ss := by
  refine ⟨h.1, fun z => ?_⟩
  rw [h.2]
  by_cases e : z = x
  · subst e; simp [hy]
  · simp [sameKey_ne (keyI_ne e)]
theorem Came.len {D : DataW Unit} {left : Lit → Bool} {l y ss : List Int} {n : Int} (h : Came D left y ss) (hM : MapIs D l n) : ss.length ≤ (onceL l n).length :=
  List.Nodup.length_le_of_subset h.1 fun x hx => by have := ((h.2 x).1 hx).1; rw [hM.has] at this; simpa using this
theorem sort_strict {l : List Int} (h : l.Nodup) : (sortI l).Pairwise (fun x y => x < y) := by
  have h1 := sort_rise l
  have h2 : (sortI l).Nodup := (sort_perm l).nodup_iff.2 h
  exact (List.Pairwise.and h1 h2).imp fun ⟨a, b⟩ => by omega
theorem map_ne_row {w : World} {P : Program} {k : TypeId} {R : Value → Option (DataW Unit × List MemPlace)} {b n base m : Nat} {D : DataW Unit} {e : TypeId} {v : Value} {xs : List Value} (h : w.ownsMap P k R b n D) (h2 : w.ownsRow base e 1 v m xs) : some b ≠ v.ownBlock := by
  obtain ⟨es, clock, hb, _⟩ := h
  rcases h2.2 with ⟨rfl, _⟩ | ⟨g, cap, cur, rfl, _, hh, _⟩
  · simp [Value.ownBlock]
  · intro e
    have e : b = g := Option.some.inj e
    subst e
    rw [hb] at hh; cases hh
theorem iter_ne_row {w : World} {P : Program} {k : TypeId} {R : Value → Option (DataW Unit × List MemPlace)} {b r n cnt base m : Nat} {left : Lit → Bool} {D : DataW Unit} {e : TypeId} {v : Value} {xs : List Value} (h : w.ranges P k R b r n D left cnt) (h2 : w.ownsRow base e 1 v m xs) : some r ≠ v.ownBlock := by
  obtain ⟨es, clock, since, seen, c0, hb, _, _, _, hr, _⟩ := h
  rcases h2.2 with ⟨rfl, _⟩ | ⟨g, cap, cur, rfl, _, hh, _⟩
  · simp [Value.ownBlock]
  · intro e
    have e : r = g := Option.some.inj e
    subst e
    rw [hr] at hh; cases hh
end WW
namespace Go.Proofs.Ytcmgiiobjminlaa
open WW BB Go.Maps
theorem counts_kept {w w' : World} {b m : Nat} {l : List Int} {n : Int} {row : Option Nat} (h : CountsAt w b m l n) (hg : w.grownBy w' row) (hne : some b ≠ row) : CountsAt w' b m l n := by
  obtain ⟨D, ho, hM⟩ := h; exact ⟨D, ho.kept hg hne, hM⟩
theorem counts_below {w w' : World} {b m B : Nat} {l : List Int} {n : Int} (h : CountsAt w b m l n) (hb : Below B w w') (hB : b < B) : CountsAt w' b m l n := by
  obtain ⟨D, ⟨es, clock, hh, F, hs, hD⟩, hM⟩ := h; exact ⟨D, ⟨es, clock, (hb.block b hB).trans hh, F, hs, hD⟩, hM⟩
/-- where the loop of Shared stands -/
structure SharedAt (w : World) (bA bB r : Nat) (a b : List Int) (n : Int) (DA : DataW Unit) (left : Lit → Bool) (cnt : Nat) (ss : List Int) (v : Value) (wr : World) : Prop where
  below : Below w.heap.size w wr
  rng : wr.ranges Try.prog 3 (plainElem Try.prog 3) bA r a.length DA left cnt
  cb : CountsAt wr bB b.length b n
  own : wr.ownsRow w.heap.size 3 1 v ss.length (ss.map (Value.int .i64))
  came : Came DA left (onceL b n) ss
/-- .. and where an entry has come -/
structure SharedAt.mid (w : World) (bA bB r : Nat) (a b : List Int) (n : Int) (DA : DataW Unit) (left : Lit → Bool) (cnt : Nat) (x : Int) (ss : List Int) (v : Value) (wr : World) : Prop where
  below : Below w.heap.size w wr
  rng : wr.ranges Try.prog 3 (plainElem Try.prog 3) bA r a.length DA (fun z => left z && !z.sameKey (keyI x)) cnt
  cb : CountsAt wr bB b.length b n
  own : wr.ownsRow w.heap.size 3 1 v ss.length (ss.map (Value.int .i64))
set_option maxRecDepth 100000 in
set_option maxHeartbeats 4000000 in
theorem cshared_any (a b : List Int) (va vb : Value) (n : Int) (w : World) (hA : IntsAt w va a) (hB : IntsAt w vb b) (ha : a.length ≤ 60) (hb : b.length ≤ 60) (hn : n ≤ 20) : Calls Try.prog 16 #[va, vb, .int .i64 n] w fun e w' => ∃ a0 cap s, e = .returned (.slice a0 s.length cap) ∧ IntsAt w' (.slice a0 s.length cap) s ∧ s.Pairwise (· < ·) ∧ (∀ u, u ∈ s ↔ u ∈ onceL a n ∧ u ∈ onceL b n) ∧ Below w.heap.size w w' := by
  have HA := Lib.hid hA
  have HB := Lib.hid hB
  have LA := Lib.hid ha
  have LB := Lib.hid hb
  have LN := Lib.hid hn
  clear hA hB ha hb hn
  go_enter Try.func16, Try.ntmps16
  go_wp2_with fail
  refine (times_is b _ n w HB.out (by have := LB.out; omega) (by have := LN.out; omega)).mono ?_
  rintro e w1 ⟨bB, hB0, hB1, rfl, hCB, hb1⟩
  have CB := Lib.hid hCB
  have B1 := Lib.hid hb1
  have FB := Lib.hid (show w.heap.size ≤ bB ∧ bB < w1.heap.size from ⟨hB0, hB1⟩)
  clear hB0 hB1 hCB hb1
  go_wp2_with fail
  refine (times_is a _ n w1 (HA.out.later B1.out) (by have := LA.out; omega) (by have := LN.out; omega)).mono ?_
  rintro e w2 ⟨bA, hA0, hA1, rfl, hCA, hb2⟩
  obtain ⟨DA, hoA, hMA⟩ := hCA
  have OA := Lib.hid hoA
  have MA := Lib.hid hMA
  have CB2 := Lib.hid (counts_below CB.out hb2 FB.out.2)
  have B2 := Lib.hid (B1.out.trans (hb2.mono B1.out.size))
  have FA := Lib.hid (show bB < bA ∧ bA < w2.heap.size from ⟨by have := FB.out.2; omega, hA1⟩)
  clear hA0 hA1 hoA hMA hb2 CB B1
  go_wp2_with (at_range; refine wpList_range_own _ rfl _ 34 rfl 3 3 law_int Try.underlying34 _ bA a.length DA rfl OA.out ?_; intro w3 hrg hg3 hs3)
  go_frame
  have R3 := Lib.hid hrg
  have CB3 := Lib.hid (counts_kept CB2.out hg3 (by simp))
  have B3 := Lib.hid (B2.out.grown hg3 B2.out.size (fun j hj => by cases hj))
  clear hrg hg3 hs3 CB2
  go_loopw [8] (fun v wr => ∃ left cnt ss v', v = v' ∧ SharedAt w bA bB w2.heap.size a b n DA left cnt ss v' wr) (fun _ wr => wr.rangeLeft bA w2.heap.size)
  case atStart => exact ⟨_, _, [], _, rfl, ⟨B3.out, R3.out, CB3.out, ⟨rfl, Or.inl ⟨rfl, rfl⟩⟩, Came.start DA _⟩⟩
  case round =>
    clear R3 CB3 B3
    obtain ⟨left, cnt, ss, v, rfl, hS⟩ := hrel
    have HS := Lib.hid hS
    clear hS
    go_wp2_with (at_next; refine wpList_next_ranges_ii _ rfl _ rfl 3 3 .i64 .i64 law_int Try.underlying3 Try.underlying3 bA w2.heap.size a.length _ _ _ rfl HS.out.rng ?_ ?_)
    · intro hc0 hl0
      have HF := Lib.hid (show ∀ x, x ∈ ss ↔ x ∈ onceL a n ∧ x ∈ onceL b n from fun x => by
        rw [HS.out.came.2, MA.out.has, hl0]; simp)
      have HL := Lib.hid (show ss.length ≤ 1000 by have h1 := HS.out.came.len MA.out; have h2 := once_len a n a.length (Nat.le_refl _); rw [List.take_length] at h2; have := LA.out; omega)
      clear hc0 hl0
      go_wp2_with (go_at_call 22; refine (sort_own ss _ w.heap.size wr HS.out.own HL.out).mono ?_; rintro e w5 ⟨rfl, hown5, hb5⟩; have O5 := Lib.hid hown5; have B5 := Lib.hid (HS.out.below.trans hb5); clear hown5 hb5)
      go_ret
      have HI := ints_own O5.out
      have hsl := sort_len ss
      obtain ⟨a0, cap, he, hx⟩ := id HI
      exact ⟨a0, cap, sortI ss, by rw [← he]; rfl, by rw [← he]; exact HI, sort_strict HS.out.came.1, fun u => by rw [sort_mem]; exact HF.out u, B5.out⟩
    · intro x c w4 cnt1 hwx hwc hlx hat hrg1 hlt hg1 hs1 hen
      have HS4 := Lib.hid (show SharedAt.mid w bA bB w2.heap.size a b n DA left cnt1 x ss u8 w4 from ⟨HS.out.below.grown hg1 HS.out.below.size (fun j hj => by cases hj; exact B2.out.size), hrg1, counts_kept HS.out.cb hg1 (by have := FA.out; intro e; have := Option.some.inj e; omega), row_keep HS.out.own fun c hc => hg1.block c (HS.out.own.lt c hc).2 (fun e => iter_ne_row HS.out.rng HS.out.own (by rw [hc]; exact e.symm))⟩)
      have HLX := Lib.hid (show left (keyI x) = true from hlx)
      have HHA := Lib.hid (show Maps.has DA (keyI x) = true from has_true_of_atKey hat)
      have HLT := Lib.hid (show w4.rangeLeft bA w2.heap.size < wr.rangeLeft bA w2.heap.size by rw [hrg1.left_eq, HS.out.rng.left_eq]; exact hlt)
      have HX := Lib.hid (show x ∈ onceL a n by have := has_true_of_atKey hat; rw [show (Lit.int .i64 x) = keyI x from rfl, MA.out.has] at this; simpa using this)
      have hkey : keyOf Try.prog 3 (.int .i64 x) = some (keyI x) := Go.Maps.keyOf_int_mk Try.underlying3 hwx
      obtain ⟨DB, hoB, hMB⟩ := HS4.out.cb
      obtain ⟨d, hd, d0, dl, di⟩ := hMB.at_ x
      have OB := Lib.hid hoB
      have HD := Lib.hid hd
      clear hat hrg1 hlt hg1 hs1 hoB hMB hd hlx hwx hwc dl
      by_cases hy : x ∈ onceL b n
      · have dp : 0 < d := di.2 hy
        have HY := Lib.hid hy
        clear di hy
        obtain ⟨ti, i1, i2, i3, i4⟩ := info_parts info_int
        have cx := cell_new w4 #[.int .i64 x] 3 0 _ rfl
        have bal := (Below.refl w4.heap.size w4).alloc (Nat.le_refl _) (.cells #[.int .i64 x] 3)
        have hown2 : (w4.alloc (.cells #[.int .i64 x] 3)).ownsRow w.heap.size 3 1 u8 ss.length (ss.map (Value.int .i64)) := row_keep HS4.out.own fun c hc => bal.block c (HS4.out.own.lt c hc).2
        have hbs := Nat.le_trans HS4.out.below.size bal.size
        have HSL := Lib.hid (show ss.length ≤ 60 by have h1 := HS.out.came.len MA.out; have h2 := once_len a n a.length (Nat.le_refl _); rw [List.take_length] at h2; have := LA.out; omega)
        go_wp2_with (first
          | (at_lookup; refine wpList_lookup_own_int _ rfl _ _ 34 rfl 3 3 .i64 law_int Try.underlying34 Try.underlying3 (zero_int _) bB _ DB rfl OB.out _ _ rfl hkey ?_; intro d' hat hwc; obtain rfl : d' = d := num_inj (hat.symm.trans HD.out); clear hat hwc)
          | (at_builtin; refine wpList_append_own _ rfl _ _ 25 rfl w.heap.size 3 ti (.int .i64 0) 1 8 (by kernel_rfl) i1 i2 i3 i4 rfl (by decide) u8 ss.length (ss.map (Value.int .i64)) rfl hown2 ⟨w4.heap.size, 0, none⟩ 1 1 [.int .i64 x] rfl rfl ?c1 ?c2 ?c3 ?c4 hbs ?_))
        case c1 =>
          intro j u hj
          match j, hj with
          | 0, hj => simp at hj; subst hj; rw [Addr.add_lit]; exact cx
          | j + 1, hj => simp at hj
        case c2 => intro u hu; simp at hu; subst hu; rfl
        case c3 => have := HSL.out; unfold maxLen; omega
        case c4 => have := HSL.out; omega
        intro v' w5 hown' hgr _
        have hA1 : some bA ≠ u8.ownBlock := map_ne_row HS4.out.rng.owns HS4.out.own
        have hA2 : some w2.heap.size ≠ u8.ownBlock := iter_ne_row HS4.out.rng HS4.out.own
        have hA3 : some bB ≠ u8.ownBlock := map_ne_row OB.out HS4.out.own
        have R5 := Lib.hid ((HS4.out.rng.alloc (.cells #[.int .i64 x] 3)).kept hgr hA1 hA2)
        have C5 := Lib.hid (counts_kept (counts_kept HS4.out.cb (World.grownBy_alloc w4 (.cells #[.int .i64 x] 3) none) (by simp)) hgr hA3)
        have B5 := Lib.hid (show Below w.heap.size w w5 from (HS4.out.below.trans (bal.mono HS4.out.below.size)).grown hgr hbs (fun k hk => (hown2.lt k hk).1))
        have O5 := Lib.hid hown'
        have L5 := Lib.hid (show w5.rangeLeft bA w2.heap.size < wr.rangeLeft bA w2.heap.size by rw [R5.out.left_eq, ← HS4.out.rng.left_eq]; exact HLT.out)
        clear hown' hgr hown2 bal cx hbs hA1 hA2 hA3
        go_wp2_with fail
        go_roundw
        case rel => exact ⟨_, cnt1, ss ++ [x], _, rfl, ⟨B5.out, R5.out, C5.out, by rw [List.map_append, List.length_append]; exact O5.out, HS.out.came.take HLX.out HHA.out HY.out⟩⟩
        case measure => exact L5.out
      · have dp : ¬ 0 < d := fun h => hy (di.1 h)
        have HY := Lib.hid hy
        clear di hy
        go_wp2_with (first
          | (at_lookup; refine wpList_lookup_own_int _ rfl _ _ 34 rfl 3 3 .i64 law_int Try.underlying34 Try.underlying3 (zero_int _) bB _ DB rfl OB.out _ _ rfl hkey ?_; intro d' hat hwc; obtain rfl : d' = d := num_inj (hat.symm.trans HD.out); clear hat hwc))
        go_roundw
        case rel => exact ⟨_, cnt1, ss, _, rfl, ⟨HS4.out.below, HS4.out.rng, HS4.out.cb, HS4.out.own, HS.out.came.pass HY.out⟩⟩
        case measure => exact HLT.out
theorem shared_ok : SharedOK := fun a b va vb n w hA hB ha hb hn => cshared_any a b va vb n w hA hB ha hb hn
theorem countShared_walk (va : Value) (a : List Int) (vb : Value) (b : List Int) (n : Int) (w : World) (hA : IntsAt w va a) (hB : IntsAt w vb b) : Calls Try.prog 5 #[va, vb, .int .i64 n] w fun e w' => e = .returned (.bool true) ∧ Below w.heap.size w w' := countShared_of shared_ok va a vb b n w hA hB
end Go.Proofs.Ytcmgiiobjminlaa
