/-
  The walk of the law WireApart, where both blocks are right.
-/
import Derived.Test.YtbeodmijjanmeaaWApart
import Derived.Deep.CutBlock
import Derived.Deep.RegionHeld3
open Go Go.RowKit
namespace Go.Proofs.Ytbeodmijjanmeaa
open WW BB
set_option maxRecDepth 100000 in
set_option maxHeartbeats 8000000 in
theorem apart_yes (v p cv v' p' cv' : Int) (k k' : ByteArray) (sv rv sv' rv' : Value) (l l' : List (Int × List ByteArray)) (m m' : List (Int × Int × ByteArray)) (w : World)
    (hv : SigsAt w sv l) (hr : ReqsAt w rv m) (hv' : SigsAt w sv' l') (hr' : ReqsAt w rv' m') (hn : MemS l) (hn' : MemS l') (hk : k.size ≤ 9223372036854775807) (hk' : k'.size ≤ 9223372036854775807) (hm : m.length ≤ 9223372036854775807) (hm' : m'.length ≤ 9223372036854775807)
    (h1 : fewBlock k l m = true) (h2 : fewBlock k' l' m' = true) (h3 : rightBlock v p cv k l m = true) (h4 : rightBlock v' p' cv' k' l' m' = true) :
    Calls Try.prog 4 #[.agg #[.int .i64 v, .int .i64 p, .int .i64 cv, .string k, sv, rv], .agg #[.int .i64 v', .int .i64 p', .int .i64 cv', .string k', sv', rv']] w fun e w' => e = .returned (.bool true) ∧ Below w.heap.size w w' := by
  have HF := Lib.hid (fun wx (hb : Below w.heap.size w wx) => fewblock_any v p cv k sv rv l m wx (hv.later hb) (hr.later hb) hn hk hm)
  have HF' := Lib.hid (fun wx (hb : Below w.heap.size w wx) => fewblock_any v' p' cv' k' sv' rv' l' m' wx (hv'.later hb) (hr'.later hb) hn' hk' hm')
  have HR := Lib.hid (fun wx (hb : Below w.heap.size w wx) => rightblock_any v p cv k sv rv l m wx (hv.later hb) (hr.later hb) hn)
  have HR' := Lib.hid (fun wx (hb : Below w.heap.size w wx) => rightblock_any v' p' cv' k' sv' rv' l' m' wx (hv'.later hb) (hr'.later hb) hn')
  have HB := Lib.hid (fun wx (hb : Below w.heap.size w wx) => block_any v p cv k sv rv l m wx (hv.later hb) (hr.later hb) (by have := (few_block h1).2.2.1; omega) (few_block h1).1 (few_block h1).2.1)
  have HB' := Lib.hid (fun wx (hb : Below w.heap.size w wx) => block_any v' p' cv' k' sv' rv' l' m' wx (hv'.later hb) (hr'.later hb) (by have := (few_block h2).2.2.1; omega) (few_block h2).1 (few_block h2).2.1)
  have SV := Lib.hid hv
  have SR := Lib.hid hr
  have SV' := Lib.hid hv'
  have SR' := Lib.hid hr'
  have l1 : m.length ≤ 6 := (few_block h1).2.2.2.2
  have l2 : m'.length ≤ 6 := (few_block h2).2.2.2.2
  have l3 : l.length ≤ 10 := (few_block h1).2.2.2.1
  have l4 : l'.length ≤ 10 := (few_block h2).2.2.2.1
  have LS := Lib.hid (And.intro (few_block h1).1.2.2 (few_block h2).1.2.2)
  have LM := Lib.hid (show m.length ≤ 6 ∧ m'.length ≤ 6 ∧ l.length ≤ 10 ∧ l'.length ≤ 10 from ⟨l1, l2, l3, l4⟩)
  obtain ⟨a0, cap, rfl, _⟩ := hv
  obtain ⟨a1, cap1, rfl, _⟩ := hr
  obtain ⟨a2, cap2, rfl, _⟩ := hv'
  obtain ⟨a3, cap3, rfl, _⟩ := hr'
  have H34 := Lib.hid (And.intro h3 h4)
  have HF := HF.out
  simp only [h1] at HF
  have HF := Lib.hid HF
  have HF' := HF'.out
  simp only [h2] at HF'
  have HF' := Lib.hid HF'
  have HR := HR.out
  simp only [h3] at HR
  have HR := Lib.hid HR
  have HR' := HR'.out
  simp only [h4] at HR'
  have HR' := Lib.hid HR'
  clear hn hn' hk hk' hm hm' h1 h2 h3 h4 l1 l2 l3 l4
  go_enter Try.func4, Try.ntmps4
  go_wp2_with fail
  have K0 := Lib.hid (two2_mk w (bc v p cv k (.slice a0 l.length cap) (.slice a1 m.length cap1)) (bc v' p' cv' k' (.slice a2 l'.length cap2) (.slice a3 m'.length cap3)) 31)
  obtain ⟨W, hW⟩ : ∃ W, W = (w.alloc (.cells #[.int .i64 v, .int .i64 p, .int .i64 cv, .string k, .slice a0 l.length cap, .slice a1 m.length cap1] 31)).alloc (.cells #[.int .i64 v', .int .i64 p', .int .i64 cv', .string k', .slice a2 l'.length cap2, .slice a3 m'.length cap3] 31) := ⟨_, rfl⟩
  have K0 := Lib.hid (show Two2 w w.heap.size (bc v p cv k (.slice a0 l.length cap) (.slice a1 m.length cap1)) (bc v' p' cv' k' (.slice a2 l'.length cap2) (.slice a3 m'.length cap3)) W by rw [hW]; exact K0.out)
  rw [← hW]
  clear hW
  obtain ⟨g, hg⟩ : ∃ g, w.heap.size = g := ⟨_, rfl⟩
  have HG := Lib.hid hg
  rw [hg] at K0 ⊢
  clear hg
  refine (awake_any _).mono ?_
  rintro e w1 ⟨rfl, hb1⟩
  have K1 := Lib.hid (K0.out.on hb1)
  clear hb1 K0
  have c0 := K1.out.a.cell 0 _ rfl
  have c1 := K1.out.a.cell 1 _ rfl
  have c2 := K1.out.a.cell 2 _ rfl
  have c3 := K1.out.a.cell 3 _ rfl
  have c4 := K1.out.a.cell 4 _ rfl
  have c5 := K1.out.a.cell 5 _ rfl
  go_wp2_with fail
  clear c0 c1 c2 c3 c4 c5
  refine (HF.out _ K1.out.a.below).mono ?_
  rintro e w2 ⟨rfl, hb2⟩
  have K1 := Lib.hid (K1.out.on hb2)
  clear hb2
  have c0 := K1.out.b.cell 0 _ rfl
  have c1 := K1.out.b.cell 1 _ rfl
  have c2 := K1.out.b.cell 2 _ rfl
  have c3 := K1.out.b.cell 3 _ rfl
  have c4 := K1.out.b.cell 4 _ rfl
  have c5 := K1.out.b.cell 5 _ rfl
  go_wp2_with fail
  clear c0 c1 c2 c3 c4 c5
  refine (HF'.out _ K1.out.a.below).mono ?_
  rintro e w2 ⟨rfl, hb2⟩
  have K1 := Lib.hid (K1.out.on hb2)
  clear hb2
  have c0 := K1.out.a.cell 0 _ rfl
  have c1 := K1.out.a.cell 1 _ rfl
  have c2 := K1.out.a.cell 2 _ rfl
  have c3 := K1.out.a.cell 3 _ rfl
  have c4 := K1.out.a.cell 4 _ rfl
  have c5 := K1.out.a.cell 5 _ rfl
  go_wp2_with fail
  clear c0 c1 c2 c3 c4 c5
  refine (HR.out _ K1.out.a.below).mono ?_
  rintro e w2 ⟨rfl, hb2⟩
  have K1 := Lib.hid (K1.out.on hb2)
  clear hb2
  have c0 := K1.out.b.cell 0 _ rfl
  have c1 := K1.out.b.cell 1 _ rfl
  have c2 := K1.out.b.cell 2 _ rfl
  have c3 := K1.out.b.cell 3 _ rfl
  have c4 := K1.out.b.cell 4 _ rfl
  have c5 := K1.out.b.cell 5 _ rfl
  go_wp2_with fail
  clear c0 c1 c2 c3 c4 c5
  refine (HR'.out _ K1.out.a.below).mono ?_
  rintro e w2 ⟨rfl, hb2⟩
  have K1 := Lib.hid (K1.out.on hb2)
  clear hb2
  clear HF HF' HR HR'
  have c0 := K1.out.a.cell 0 _ rfl
  have c1 := K1.out.a.cell 1 _ rfl
  have c2 := K1.out.a.cell 2 _ rfl
  have c3 := K1.out.a.cell 3 _ rfl
  have c4 := K1.out.a.cell 4 _ rfl
  have c5 := K1.out.a.cell 5 _ rfl
  have d0 := K1.out.b.cell 0 _ rfl
  have d1 := K1.out.b.cell 1 _ rfl
  have d2 := K1.out.b.cell 2 _ rfl
  have d3 := K1.out.b.cell 3 _ rfl
  have d4 := K1.out.b.cell 4 _ rfl
  have d5 := K1.out.b.cell 5 _ rfl
  go_upto_region 3 with fail
  go_cut [5] from 34 to 83 (fun s5 wx => s5 = .bool (headEq v p cv v' p' cv' k k' m.length m'.length l.length l'.length) ∧ wx = w2)
  case first =>
    clear HB HB' SV SR SV' SR' LM H34 K1 HG
    by_cases e1 : v = v'
    rotate_left
    · have t1 : (v == v') = false := by simpa using e1
      have E1 := Lib.hid e1
      clear e1
      go_wp2_with fail
      go_meet
      exact ⟨by simp [headEq, E1.out], rfl⟩
    subst e1
    by_cases e2 : p = p'
    rotate_left
    · have t1 : (p == p') = false := by simpa using e2
      have E1 := Lib.hid e2
      clear e2
      go_wp2_with fail
      go_meet
      exact ⟨by simp [headEq, E1.out], rfl⟩
    subst e2
    by_cases e3 : cv = cv'
    rotate_left
    · have t1 : (cv == cv') = false := by simpa using e3
      have E1 := Lib.hid e3
      clear e3
      go_wp2_with fail
      go_meet
      exact ⟨by simp [headEq, E1.out], rfl⟩
    subst e3
    by_cases e4 : k = k'
    rotate_left
    · have t1 : (k.toList == k'.toList) = false := by rw [bs_beq]; simpa using e4
      have E1 := Lib.hid e4
      clear e4
      go_wp2_with fail
      go_meet
      exact ⟨by simp [headEq, E1.out], rfl⟩
    subst e4
    generalize m.length = x at *
    generalize m'.length = x' at *
    generalize l.length = y at *
    generalize l'.length = y' at *
    by_cases e5 : x = x'
    rotate_left
    · have t1 : ((x : Int) == (x' : Int)) = false := by simp; omega
      have E1 := Lib.hid e5
      clear e5
      go_wp2_with fail
      go_meet
      exact ⟨by simp [headEq, E1.out], rfl⟩
    subst e5
    by_cases e6 : y = y'
    rotate_left
    · have t1 : ((y : Int) == (y' : Int)) = false := by simp; omega
      have E1 := Lib.hid e6
      clear e6
      go_wp2_with fail
      go_meet
      exact ⟨by simp [headEq, E1.out], rfl⟩
    subst e6
    go_wp2_with fail
    go_meet
    exact ⟨by simp [headEq], rfl⟩
  case rest =>
    obtain ⟨rfl, rfl⟩ := hcut
    obtain ⟨H, hH⟩ : ∃ H, headEq v p cv v' p' cv' k k' m.length m'.length l.length l'.length = H := ⟨_, rfl⟩
    rw [hH]
    have HH := Lib.hid hH
    clear hH c0 c1 c2 c3 c4 c5 d0 d1 d2 d3 d4 d5
    go_upto_block 0 with fail
    go_cut [5] from 84 to 104 (fun s5 wx => ∃ c, s5 = .bool c ∧ (c = true ↔ H = true ∧ m = m') ∧ Two2 w g (bc v p cv k (.slice a0 l.length cap) (.slice a1 m.length cap1)) (bc v' p' cv' k' (.slice a2 l'.length cap2) (.slice a3 m'.length cap3)) wx)
    case first =>
      go_wp2_with fail
      go_loopw [5, 6] (fun x5 x6 wr => ∃ (i : Nat) (c : Bool), i ≤ m.length ∧ x6 = .int .i64 (i : Int) ∧ x5 = .bool c ∧ (c = true ↔ H = true ∧ m.take i = m'.take i) ∧ Two2 w g (bc v p cv k (.slice a0 l.length cap) (.slice a1 m.length cap1)) (bc v' p' cv' k' (.slice a2 l'.length cap2) (.slice a3 m'.length cap3)) wr) (fun _ x _ => m.length - (intOf x).toNat)
      case atStart => exact ⟨0, H, Nat.zero_le _, rfl, rfl, by simp, K1.out⟩
      case round =>
        clear K1
        obtain ⟨i, c, hi, rfl, rfl, hc, hk⟩ := hrel
        have HC := Lib.hid hc
        have K1 := Lib.hid hk
        clear hc hk
        have i0 : (0 : Int) ≤ (i : Int) := by omega
        have ib : (i : Int) ≤ 6 := by have := LM.out; omega
        have c5 := K1.out.a.cell 5 _ rfl
        have d5 := K1.out.b.cell 5 _ rfl
        by_cases hlt : i < m.length
        · have hlt' : (i : Int) < (m.length : Int) := by omega
          cases c
          · have HLT := Lib.hid hlt
            clear hlt hi
            go_wp2_with fail
            go_meet
            refine ⟨false, rfl, ?_, K1.out⟩
            have := HC.out
            constructor
            · intro h; cases h
            · rintro ⟨h1, h2⟩
              exact this.2 ⟨h1, by rw [h2]⟩
          · obtain ⟨ht, htake⟩ := HC.out.1 rfl
            have hlen : m.length = m'.length := by
              have h1 := HH.out
              rw [ht] at h1
              exact (of_decide_eq_true h1).2.2.2.2.1
            have hlt2 : (i : Int) < (m'.length : Int) := by omega
            obtain ⟨x1, y1, he, hv | ⟨gb, off, rfl, hbw, hcell⟩⟩ := SR.out
            · rw [hv] at hlt; simp at hlt
            obtain ⟨x2, y2, he', hv | ⟨gb', off', rfl, hbw', hcell'⟩⟩ := SR'.out
            · have h0 : m'.length = 0 := by rw [hv]; rfl
              omega
            injection he with e1 _ e3
            subst e1 e3
            injection he' with e1 _ e3
            subst e1 e3
            obtain ⟨hc0, hc1, hc2⟩ := hcell i hlt
            obtain ⟨hd0, hd1, hd2⟩ := hcell' i (by omega)
            have hcl0 := (K1.out.a.below.cell (p := ⟨gb, off + i * 3, none⟩) hbw).trans hc0
            have hcl1 := (K1.out.a.below.cell (p := ⟨gb, off + i * 3 + 1, none⟩) hbw).trans hc1
            have hcl2 := (K1.out.a.below.cell (p := ⟨gb, off + i * 3 + 2, none⟩) hbw).trans hc2
            have hdl0 := (K1.out.a.below.cell (p := ⟨gb', off' + i * 3, none⟩) hbw').trans hd0
            have hdl1 := (K1.out.a.below.cell (p := ⟨gb', off' + i * 3 + 1, none⟩) hbw').trans hd1
            have hdl2 := (K1.out.a.below.cell (p := ⟨gb', off' + i * 3 + 2, none⟩) hbw').trans hd2
            obtain ⟨r, hr⟩ : ∃ s, (m.getD i (0, 0, ⟨#[]⟩)) = s := ⟨_, rfl⟩
            obtain ⟨r', hr'⟩ : ∃ s, (m'.getD i (0, 0, ⟨#[]⟩)) = s := ⟨_, rfl⟩
            have HT := Lib.hid (And.intro ht (And.intro htake (And.intro hlen (And.intro hr (And.intro hr' hlt)))))
            rw [hr] at hcl0 hcl1 hcl2
            rw [hr'] at hdl0 hdl1 hdl2
            obtain ⟨rc, rq, rs⟩ := r
            obtain ⟨rc', rq', rs'⟩ := r'
            clear hr hr' hlt hi hcell hbw hc0 hc1 hc2 hcell' hbw' hd0 hd1 hd2 hlen ht htake
            by_cases e1 : rc = rc'
            rotate_left
            · have t1 : (rc == rc') = false := by simpa using e1
              have HX := Lib.hid e1
              clear e1
              go_wp2_with fail
              go_quiet (fail)
              go_wp2_with fail
              go_roundw
              case rel =>
                obtain ⟨ht, htake, hlen, hr, hr', hlt⟩ := HT.out
                refine ⟨i + 1, false, by omega, by go_num, rfl, ?_, K1.out.on (below_drewN (Below.refl _ _) _)⟩
                rw [take_snoc_iff m m' (0, 0, ⟨#[]⟩) i hlt (by omega), hr, hr']
                simp [ht, htake, HX.out]
              case measure => have := HT.out.2.2.2.2.2; simp [intOf]; omega
            subst e1
            by_cases e1 : rq = rq'
            rotate_left
            · have t1 : (rq == rq') = false := by simpa using e1
              have HX := Lib.hid e1
              clear e1
              go_wp2_with fail
              go_quiet (fail)
              go_wp2_with fail
              go_roundw
              case rel =>
                obtain ⟨ht, htake, hlen, hr, hr', hlt⟩ := HT.out
                refine ⟨i + 1, false, by omega, by go_num, rfl, ?_, K1.out.on (below_drewN (Below.refl _ _) _)⟩
                rw [take_snoc_iff m m' (0, 0, ⟨#[]⟩) i hlt (by omega), hr, hr']
                simp [ht, htake, HX.out]
              case measure => have := HT.out.2.2.2.2.2; simp [intOf]; omega
            subst e1
            by_cases e1 : rs = rs'
            rotate_left
            · have t1 : (rs.toList == rs'.toList) = false := by rw [bs_beq]; simpa using e1
              have HX := Lib.hid e1
              clear e1
              go_wp2_with fail
              go_quiet (fail)
              go_wp2_with fail
              go_roundw
              case rel =>
                obtain ⟨ht, htake, hlen, hr, hr', hlt⟩ := HT.out
                refine ⟨i + 1, false, by omega, by go_num, rfl, ?_, K1.out.on (below_drewN (Below.refl _ _) _)⟩
                rw [take_snoc_iff m m' (0, 0, ⟨#[]⟩) i hlt (by omega), hr, hr']
                simp [ht, htake, HX.out]
              case measure => have := HT.out.2.2.2.2.2; simp [intOf]; omega
            subst e1
            go_wp2_with fail
            go_quiet (fail)
            go_wp2_with fail
            go_roundw
            case rel =>
              obtain ⟨ht, htake, hlen, hr, hr', hlt⟩ := HT.out
              refine ⟨i + 1, true, by omega, by go_num, rfl, ?_, K1.out.on (below_drewN (Below.refl _ _) _)⟩
              rw [take_snoc_iff m m' (0, 0, ⟨#[]⟩) i hlt (by omega), hr, hr']
              simp [ht, htake]
            case measure => have := HT.out.2.2.2.2.2; simp [intOf]; omega
        · obtain rfl : i = m.length := by omega
          have hlt' : ¬ (m.length : Int) < (m.length : Int) := by omega
          clear hlt hi
          go_wp2_with fail
          go_meet
          refine ⟨c, rfl, ?_, K1.out⟩
          rw [HC.out]
          constructor
          · rintro ⟨h1, h2⟩
            have h3 := HH.out
            rw [h1] at h3
            have h4 := (of_decide_eq_true h3).2.2.2.2.1
            rw [List.take_length, h4, List.take_length] at h2
            exact ⟨h1, h2⟩
          · rintro ⟨h1, h2⟩
            exact ⟨h1, by rw [h2]⟩
    case rest =>
    obtain ⟨c, rfl, hc, hk⟩ := hcut
    have HC := Lib.hid hc
    have K1 := Lib.hid hk
    clear hc hk
    go_upto_block 2 with fail
    go_cut [5] from 105 to 162 (fun s5 wx => ∃ c', s5 = .bool c' ∧ (c' = true ↔ c = true ∧ l = l') ∧ Two2 w g (bc v p cv k (.slice a0 l.length cap) (.slice a1 m.length cap1)) (bc v' p' cv' k' (.slice a2 l'.length cap2) (.slice a3 m'.length cap3)) wx)
    case first =>
      go_wp2_with fail
      go_loopw [5, 7] (fun x5 x7 wr => ∃ (i : Nat) (c' : Bool), i ≤ l.length ∧ x7 = .int .i64 (i : Int) ∧ x5 = .bool c' ∧ (c' = true ↔ c = true ∧ l.take i = l'.take i) ∧ Two2 w g (bc v p cv k (.slice a0 l.length cap) (.slice a1 m.length cap1)) (bc v' p' cv' k' (.slice a2 l'.length cap2) (.slice a3 m'.length cap3)) wr) (fun _ x _ => l.length - (intOf x).toNat)
      case atStart => exact ⟨0, c, Nat.zero_le _, rfl, rfl, by simp, K1.out⟩
      case round =>
        clear K1
        clear wc
        obtain ⟨i, c', hi, rfl, rfl, hc', hk⟩ := hrel
        have HC' := Lib.hid hc'
        have K1 := Lib.hid hk
        clear hc' hk
        have i0 : (0 : Int) ≤ (i : Int) := by omega
        have ib : (i : Int) ≤ 10 := by have := LM.out; omega
        have c4 := K1.out.a.cell 4 _ rfl
        have d4 := K1.out.b.cell 4 _ rfl
        by_cases hlt : i < l.length
        · have hlt' : (i : Int) < (l.length : Int) := by omega
          cases c'
          · have HLT := Lib.hid hlt
            clear hlt hi
            go_wp2_with fail
            go_meet
            refine ⟨false, rfl, ?_, K1.out⟩
            have := HC'.out
            constructor
            · intro h; cases h
            · rintro ⟨h1, h2⟩
              exact this.2 ⟨h1, by rw [h2]⟩
          · obtain ⟨ht, htake⟩ := HC'.out.1 rfl
            have hlen : l.length = l'.length := by
              have h1 := HH.out
              rw [(HC.out.1 ht).1] at h1
              exact (of_decide_eq_true h1).2.2.2.2.2
            have hlt2 : (i : Int) < (l'.length : Int) := by omega
            obtain ⟨x1, y1, he, hv | ⟨gb, off, rfl, hbw, hcell⟩⟩ := SV.out
            · rw [hv] at hlt; simp at hlt
            obtain ⟨x2, y2, he', hv | ⟨gb', off', rfl, hbw', hcell'⟩⟩ := SV'.out
            · have h0 : l'.length = 0 := by rw [hv]; rfl
              omega
            injection he with e1 _ e3
            subst e1 e3
            injection he' with e1 _ e3
            subst e1 e3
            obtain ⟨tv, hc0, hc1, hts⟩ := hcell i hlt
            obtain ⟨tv', hd0, hd1, hts'⟩ := hcell' i (by omega)
            have hfacts : ∀ w', Below wr.heap.size wr w' → w'.cell? ⟨g, 4, none⟩ = some (.slice (some ⟨gb, off, none⟩) l.length cap) ∧ w'.cell? ⟨g + 1, 4, none⟩ = some (.slice (some ⟨gb', off', none⟩) l'.length cap2) ∧ w'.cell? ⟨gb, off + i * 2, none⟩ = some (.int .i64 (l.getD i (0, [])).1) ∧ w'.cell? ⟨gb, off + i * 2 + 1, none⟩ = some tv ∧ w'.cell? ⟨gb', off' + i * 2, none⟩ = some (.int .i64 (l'.getD i (0, [])).1) ∧ w'.cell? ⟨gb', off' + i * 2 + 1, none⟩ = some tv' := fun w' hS =>
              have hS' := K1.out.on hS
              ⟨hS'.a.cell 4 _ rfl, hS'.b.cell 4 _ rfl, (hS'.a.below.cell (p := ⟨gb, off + i * 2, none⟩) hbw).trans hc0, (hS'.a.below.cell (p := ⟨gb, off + i * 2 + 1, none⟩) hbw).trans hc1, (hS'.a.below.cell (p := ⟨gb', off' + i * 2, none⟩) hbw').trans hd0, (hS'.a.below.cell (p := ⟨gb', off' + i * 2 + 1, none⟩) hbw').trans hd1⟩
            obtain ⟨f, hf⟩ : ∃ f, (l.getD i (0, [])).1 = f := ⟨_, rfl⟩
            obtain ⟨f', hf'⟩ : ∃ f, (l'.getD i (0, [])).1 = f := ⟨_, rfl⟩
            obtain ⟨ts, hs⟩ : ∃ ts, (l.getD i (0, [])).2 = ts := ⟨_, rfl⟩
            obtain ⟨ts', hs'⟩ : ∃ ts, (l'.getD i (0, [])).2 = ts := ⟨_, rfl⟩
            rw [hf, hf'] at hfacts
            rw [hs] at hts
            rw [hs'] at hts'
            have HF := Lib.hid hfacts
            have HTS := Lib.hid hts
            have HTS' := Lib.hid hts'
            obtain ⟨ta, tcap, htv, _⟩ := HTS.out
            obtain ⟨ta', tcap', htv', _⟩ := HTS'.out
            subst htv htv'
            have HT := Lib.hid (And.intro ht (And.intro htake (And.intro hlen (And.intro hf (And.intro hf' (And.intro hs (And.intro hs' hlt)))))))
            clear hf hf' hs hs' hlt hi hcell hbw hc0 hc1 hcell' hbw' hd0 hd1 hlen ht htake hfacts hts hts'
            go_wp2_with fail
            refine two_new (a1 := ?a1) [0, 1, 2, 3, 4, 5, 6, 7, 8, 9, 10, 11] 12 13 14 15 _ _ _ _ 2 (fun j => if j = 0 then .int .i64 f else .slice ta ts.length tcap) (fun j => if j = 0 then .int .i64 f' else .slice ta' ts'.length tcap') (fun j => if j = 0 then .int .i64 0 else .slice none 0 0) #[.int .i64 0, .slice none 0 0] 37 37 8 9 121 127 (by kernel_rfl) (by kernel_rfl) (fun _ _ d _ _ h => by cases d <;> exact h) rfl rfl rfl rfl ⟨rfl, rfl, rfl, rfl⟩ rfl rfl rfl rfl (by decide) ?hread rfl rfl ?hal ?hz ?ht1 rfl rfl ?hST ?hc1 ?hc2 ?hK
            case hread =>
              simp only [pick, List.filterMap, List.getElem?_toArray, List.getElem?_cons_zero, List.getElem?_cons_succ]
              iterate 12 (refine heldg_run ?_ rfl ?_ ?_; rotate_left; (focus (intro w' hS; obtain ⟨s0, s1, s2, s3, s4, s5⟩ := HF.out w' hS; go_simp; exact rfl)); simp only [Act.put, List.setIfInBounds_toArray, List.set_cons_zero, List.set_cons_succ])
              exact rfl
            case hal => intro w'; rfl
            case hz => rfl
            case ht1 => intro p q; exact ⟨rfl, rfl, rfl, rfl⟩
            case hST => intro w'; rfl
            case hc1 => intro j hj; match j, hj with | 0, _ => rfl | 1, _ => rfl
            case hc2 => intro j hj; match j, hj with | 0, _ => rfl | 1, _ => rfl
            case hK =>
            intro bp bq w5 hb5 hbp hbq kp kq
            simp only [Act.put, List.setIfInBounds_toArray, List.set_cons_zero, List.set_cons_succ]
            have p0 : w5.cell? ⟨bp, 0, none⟩ = some (.int .i64 f) := kp.get 0 (by omega)
            have p1 : w5.cell? ⟨bp, 1, none⟩ = some (.slice ta ts.length tcap) := kp.get 1 (by omega)
            have q0 : w5.cell? ⟨bq, 0, none⟩ = some (.int .i64 f') := kq.get 0 (by omega)
            have q1 : w5.cell? ⟨bq, 1, none⟩ = some (.slice ta' ts'.length tcap') := kq.get 1 (by omega)
            have KB := Lib.hid (And.intro kp.lt kq.lt)
            have K5 := Lib.hid (K1.out.on hb5)
            have P1 := Lib.hid (And.intro p1 q1)
            clear hbp hbq hb5 kp kq
            go_upto_region 12 with fail
            go_cut [5] from 105 to 162 (fun s5 wx => s5 = .bool (decide (f = f' ∧ ts.length = ts'.length)) ∧ wx = w5)
            case first =>
              clear HTS HTS' HT
              generalize ts.length = y at *
              generalize ts'.length = y' at *
              by_cases e1 : f = f'
              rotate_left
              · have t1 : (f == f') = false := by simpa using e1
                have E1 := Lib.hid e1
                clear e1
                go_wp2_with fail
                go_meet
                exact ⟨by simp [E1.out], rfl⟩
              subst e1
              by_cases e1 : y = y'
              rotate_left
              · have t1 : ((y : Int) == (y' : Int)) = false := by simp; omega
                have E1 := Lib.hid e1
                clear e1
                go_wp2_with fail
                go_meet
                exact ⟨by simp [E1.out], rfl⟩
              subst e1
              go_wp2_with fail
              go_meet
              exact ⟨by simp, rfl⟩
            case rest =>
            obtain ⟨rfl, rfl⟩ := hcut
            clear p0 q0 p1 q1
            obtain ⟨E, hE⟩ : ∃ E, decide (f = f' ∧ ts.length = ts'.length) = E := ⟨_, rfl⟩
            rw [hE]
            have HE := Lib.hid hE
            clear hE
            have hfin : ∀ d : Bool, (d = true ↔ E = true ∧ ts = ts') → (d = true ↔ c = true ∧ l.take (i + 1) = l'.take (i + 1)) := by
              intro d hd
              obtain ⟨ht, htake, hlen, hf, hf', hs, hs', hlt⟩ := HT.out
              rw [take_snoc_iff l l' (0, []) i hlt (by omega), hd, ← HE.out, decide_eq_true_eq]
              constructor
              · rintro ⟨⟨e1, _⟩, e2⟩
                exact ⟨ht, htake, Prod.ext (by rw [hf, hf', e1]) (by rw [hs, hs', e2])⟩
              · rintro ⟨_, _, e⟩
                rw [← hf, ← hf', ← hs, ← hs', e]
                exact ⟨⟨rfl, rfl⟩, rfl⟩
            have HFIN := Lib.hid hfin
            clear hfin
            have tl : ts.length ≤ 1000 := by
              obtain ⟨_, _, _, _, _, hs, _, hlt⟩ := HT.out
              rw [← hs]; exact (LS.out.1 i hlt).2
            go_wp2_with fail
            go_loopw [5, 10] (fun x5 x10 wr => ∃ (j : Nat) (d : Bool), j ≤ ts.length ∧ x10 = .int .i64 (j : Int) ∧ x5 = .bool d ∧ (d = true ↔ E = true ∧ ts.take j = ts'.take j) ∧ Below wc.heap.size wc wr) (fun _ x _ => ts.length - (intOf x).toNat)
            case atStart => exact ⟨0, E, Nat.zero_le _, rfl, rfl, by simp, Below.refl _ _⟩
            case round =>
              obtain ⟨j, d, hj, rfl, rfl, hd, hbl⟩ := hrel
              have HD := Lib.hid hd
              have HBL := Lib.hid hbl
              have K6 := Lib.hid (K5.out.on hbl)
              have j0 : (0 : Int) ≤ (j : Int) := by omega
              have jb : (j : Int) ≤ 1000 := by omega
              have p1 := (hbl.cell (p := ⟨bp, 1, none⟩) KB.out.1).trans P1.out.1
              have q1 := (hbl.cell (p := ⟨bq, 1, none⟩) KB.out.2).trans P1.out.2
              clear hd hbl
              by_cases hjlt : j < ts.length
              · have hjlt' : (j : Int) < (ts.length : Int) := by omega
                cases d
                · have HJ := Lib.hid hjlt
                  clear hjlt hj
                  go_wp2_with fail
                  go_roundw
                  case rel => exact ⟨i + 1, false, by have := HT.out.2.2.2.2.2.2.2; omega, by go_num, rfl, HFIN.out false ⟨(fun h => by cases h), fun ⟨h1, h2⟩ => HD.out.2 ⟨h1, by rw [h2]⟩⟩, K6.out⟩
                  case measure => have := HT.out.2.2.2.2.2.2.2; simp [intOf]; omega
                · obtain ⟨he1, he2⟩ := HD.out.1 rfl
                  have htl : ts.length = ts'.length := by
                    have h1 := HE.out
                    rw [he1] at h1
                    exact (of_decide_eq_true h1).2
                  have hjlt2 : (j : Int) < (ts'.length : Int) := by omega
                  obtain ⟨x1, y1, he, hv | ⟨sb, soff, rfl, hbw, hcell⟩⟩ := HTS.out
                  · rw [hv] at hjlt; simp at hjlt
                  obtain ⟨x2, y2, he', hv | ⟨sb', soff', rfl, hbw', hcell'⟩⟩ := HTS'.out
                  · have h0 : ts'.length = 0 := by rw [hv]; rfl
                    omega
                  injection he with e1 _ e3
                  subst e1 e3
                  injection he' with e1 _ e3
                  subst e1 e3
                  have t0 := (K6.out.a.below.cell (p := ⟨sb, soff + j, none⟩) hbw).trans (hcell j hjlt)
                  have t0' := (K6.out.a.below.cell (p := ⟨sb', soff' + j, none⟩) hbw').trans (hcell' j (by omega))
                  obtain ⟨x, hx⟩ : ∃ x, ts.getD j ⟨#[]⟩ = x := ⟨_, rfl⟩
                  obtain ⟨x', hx'⟩ : ∃ x, ts'.getD j ⟨#[]⟩ = x := ⟨_, rfl⟩
                  have HJ := Lib.hid (And.intro he1 (And.intro he2 (And.intro htl (And.intro hx (And.intro hx' hjlt)))))
                  rw [hx] at t0
                  rw [hx'] at t0'
                  clear hx hx' hjlt hj hcell hcell' hbw hbw' htl he1 he2
                  by_cases e1 : x = x'
                  rotate_left
                  · have t1 : (x.toList == x'.toList) = false := by rw [bs_beq]; simpa using e1
                    have E1 := Lib.hid e1
                    clear e1
                    go_wp2_with fail
                    go_quiet (fail)
                    go_wp2_with fail
                    go_roundw
                    case rel =>
                      obtain ⟨he1, he2, htl, hx, hx', hjlt⟩ := HJ.out
                      refine ⟨j + 1, false, by omega, by go_num, rfl, ?_, below_drewN HBL.out _⟩
                      rw [take_snoc_iff ts ts' ⟨#[]⟩ j hjlt (by omega), hx, hx']
                      simp [E1.out]
                    case measure => have := HJ.out.2.2.2.2.2; simp [intOf]; omega
                  subst e1
                  go_wp2_with fail
                  go_quiet (fail)
                  go_wp2_with fail
                  go_roundw
                  case rel =>
                    obtain ⟨he1, he2, htl, hx, hx', hjlt⟩ := HJ.out
                    refine ⟨j + 1, true, by omega, by go_num, rfl, ?_, below_drewN HBL.out _⟩
                    rw [take_snoc_iff ts ts' ⟨#[]⟩ j hjlt (by omega), hx, hx']
                    simp [he1, he2]
                  case measure => have := HJ.out.2.2.2.2.2; simp [intOf]; omega
              · obtain rfl : j = ts.length := by omega
                have hjlt' : ¬ (ts.length : Int) < (ts.length : Int) := by omega
                clear hjlt hj
                go_wp2_with fail
                go_roundw
                case rel =>
                  refine ⟨i + 1, d, by have := HT.out.2.2.2.2.2.2.2; omega, by go_num, rfl, HFIN.out d ?_, K6.out⟩
                  rw [HD.out]
                  constructor
                  · rintro ⟨h1, h2⟩
                    have h3 := HE.out
                    rw [h1] at h3
                    have h4 := (of_decide_eq_true h3).2
                    rw [List.take_length, h4, List.take_length] at h2
                    exact ⟨h1, h2⟩
                  · rintro ⟨h1, h2⟩
                    exact ⟨h1, by rw [h2]⟩
                case measure => have := HT.out.2.2.2.2.2.2.2; simp [intOf]; omega
        · obtain rfl : i = l.length := by omega
          have hlt' : ¬ (l.length : Int) < (l.length : Int) := by omega
          clear hlt hi
          go_wp2_with fail
          go_meet
          refine ⟨c', rfl, ?_, K1.out⟩
          rw [HC'.out]
          constructor
          · rintro ⟨h1, h2⟩
            have h3 := HH.out
            rw [(HC.out.1 h1).1] at h3
            have h4 := (of_decide_eq_true h3).2.2.2.2.2
            rw [List.take_length, h4, List.take_length] at h2
            exact ⟨h1, h2⟩
          · rintro ⟨h1, h2⟩
            exact ⟨h1, by rw [h2]⟩
    case rest =>
    obtain ⟨c', rfl, hc', hk⟩ := hcut
    have hall : c' = decide (blockB v p cv k l m = blockB v' p' cv' k' l' m') := by
      rw [Bool.eq_iff_iff, hc', HC.out, ← HH.out, decide_eq_true_eq]
      unfold headEq
      rw [decide_eq_true_eq]
      constructor
      · rintro ⟨⟨⟨rfl, rfl, rfl, rfl, _, _⟩, rfl⟩, rfl⟩
        rfl
      · intro h
        have := codec_block.inj (x := (v, p, (cv, k, l), m)) (y := (v', p', (cv', k', l'), m')) H34.out.1 H34.out.2 h
        simp only [Prod.mk.injEq] at this
        obtain ⟨rfl, rfl, ⟨rfl, rfl, rfl⟩, rfl⟩ := this
        exact ⟨⟨⟨rfl, rfl, rfl, rfl, rfl, rfl⟩, rfl⟩, rfl⟩
    have HA := Lib.hid hall
    have K2 := Lib.hid (hk.on (Below.refl wc.heap.size wc).drew)
    clear hc' hk hall
    have hst := cells12 K2.out
    have hbs := bs_beq (blockB v p cv k l m) (blockB v' p' cv' k' l' m')
    rw [← HA.out] at hbs
    have HBS := Lib.hid hbs
    obtain ⟨X, hX⟩ : ∃ X, blockB v p cv k l m = X := ⟨_, rfl⟩
    obtain ⟨Y, hY⟩ : ∃ Y, blockB v' p' cv' k' l' m' = Y := ⟨_, rfl⟩
    have HB := HB.out
    have HB' := HB'.out
    rw [hX] at HB HBS
    rw [hY] at HB' HBS
    have HB := Lib.hid HB
    have HB' := Lib.hid HB'
    clear hX hY hbs HA
    go_wp2_with fail
    go_region_held3 (fun w' => w'.cell? ⟨g, 0, none⟩ = some (.int .i64 v) ∧ w'.cell? ⟨g, 1, none⟩ = some (.int .i64 p) ∧ w'.cell? ⟨g, 2, none⟩ = some (.int .i64 cv) ∧ w'.cell? ⟨g, 3, none⟩ = some (.string k) ∧ w'.cell? ⟨g, 4, none⟩ = some (.slice a0 l.length cap) ∧ w'.cell? ⟨g, 5, none⟩ = some (.slice a1 m.length cap1) ∧ w'.cell? ⟨g + 1, 0, none⟩ = some (.int .i64 v') ∧ w'.cell? ⟨g + 1, 1, none⟩ = some (.int .i64 p') ∧ w'.cell? ⟨g + 1, 2, none⟩ = some (.int .i64 cv') ∧ w'.cell? ⟨g + 1, 3, none⟩ = some (.string k') ∧ w'.cell? ⟨g + 1, 4, none⟩ = some (.slice a2 l'.length cap2) ∧ w'.cell? ⟨g + 1, 5, none⟩ = some (.slice a3 m'.length cap3) ∧ Two2 w g (bc v p cv k (.slice a0 l.length cap) (.slice a1 m.length cap1)) (bc v' p' cv' k' (.slice a2 l'.length cap2) (.slice a3 m'.length cap3)) w')
      (first | exact hst | exact hk)
      (first
        | (go_at_call 17; (fail_if_success have hx := T1); refine (HB.out _ K2.out.a.below).mono ?_; rintro e w6 ⟨rfl, hb6⟩; have K2 := Lib.hid (K2.out.on hb6); have hk := cells12 K2.out; have T1 := Lib.hid True.intro; clear hb6)
        | (go_at_call 17; refine (HB'.out _ K2.out.a.below).mono ?_; rintro e w6 ⟨rfl, hb6⟩; have K2 := Lib.hid (K2.out.on hb6); have hk := cells12 K2.out; clear hb6))
    have hbs := HBS.out
    go_wp2_with fail
    go_ret
    exact ⟨by simp [hbs], by rw [HG.out]; exact HG.out ▸ K2.out.a.below⟩
end Go.Proofs.Ytbeodmijjanmeaa
