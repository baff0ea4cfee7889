/-
  The walk of the law BlakeParts.
-/
import Derived.Test.YtffdfggfdmmjbaaDoorLaw1
import Derived.Test.YtffdfggfdmmjbaaDoorNewLong
open Go Go.RowKit
namespace BB
/-- v is a slice of the strings l -/
def StrsAt (w : World) (v : Value) (l : List ByteArray) : Prop :=
  ∃ a0 cap, v = .slice a0 l.length cap ∧ (l = [] ∨ ∃ b off, a0 = some ⟨b, off, none⟩ ∧ b < w.heap.size ∧ ∀ i, i < l.length → w.cell? ⟨b, off + i, none⟩ = some (.string (l.getD i ByteArray.empty)))
/-- the first i of the strings, one behind the other -/
def cat (l : List ByteArray) : Nat → ByteArray
  | 0 => ⟨#[]⟩
  | i + 1 => cat l i ++ l.getD i ByteArray.empty
end BB
namespace Go.Proofs.YtffdfggfdmmjbaaDoor
open BB
/-- a digest on its way, which all was written into -/
structure PAt (w : World) (g : Nat) (K all : ByteArray) (wr : World) : Prop where
  below : Below w.heap.size w wr
  d : Dg wr g ((st0 K.data.toList).feed all.data.toList)
  l : w.heap.size ≤ g
theorem noTab_ge {w : World} {g : Nat} (hT : Tabs w) (h : w.heap.size ≤ g) : NoTab g := ⟨Nat.ne_of_gt (Nat.lt_of_lt_of_le hT.l1 h), Nat.ne_of_gt (Nat.lt_of_lt_of_le hT.l2 h), Nat.ne_of_gt (Nat.lt_of_lt_of_le hT.l3 h)⟩
theorem feed_cat (s : St) (a b : ByteArray) : s.feed (a ++ b).data.toList = (s.feed a.data.toList).feed b.data.toList := by
  rw [← St.feed_append]; simp
/-- the digest and the key that the law goes on with -/
theorem new_cut (K K' : ByteArray) (h : K.size ≤ 32 ∧ K' = K ∨ 32 < K.size ∧ K' = K.extract 0 32) (w : World) (hT : Tabs w) :
    Calls Tryd.prog 13 #[.string K] w fun e w' => e = .returned (.pointer (some ⟨w.heap.size, 0, none⟩)) ∧ Below w.heap.size w w' ∧ Dg w' w.heap.size (st0 K'.data.toList) := by
  rcases h with ⟨h, rfl⟩ | ⟨h, rfl⟩
  · exact new_any _ h w hT
  · exact new_long K h w hT
set_option maxRecDepth 100000 in
set_option maxHeartbeats 4000000 in
theorem parts_in (K K' : ByteArray) (hK : K.size ≤ 32 ∧ K' = K ∨ 32 < K.size ∧ K' = K.extract 0 32) (h100 : K.size ≤ 100) (v : Value) (l : List ByteArray) (hl : l.length ≤ 20) (w : World) (hv : StrsAt w v l) (hT : Tabs w) :
    Calls Tryd.prog 5 #[.string K, v] w fun e w' => e = .returned (.bool true) ∧ Below w.heap.size w w' := by
  have HT := Lib.hid hT
  have HKK := Lib.hid hK
  have HL := Lib.hid hl
  have HV := Lib.hid hv
  obtain ⟨a0, cap, rfl, hx⟩ := hv
  have a1 : ¬ (20 : Int) < (l.length : Int) := by omega
  have a2 : ¬ (100 : Int) < (K.size : Int) := by omega
  clear hT hl hK hx h100
  go_enter Tryd.func5, Tryd.ntmps5
  go_wp2_with fail
  refine (awake_any w HT.out).mono ?_
  rintro e w1 ⟨rfl, hb1⟩
  have HB1 := Lib.hid hb1
  clear hb1
  go_wp2_with fail
  refine (new_cut K K' HKK.out w1 (HT.out.below HB1.out (Nat.le_refl _))).mono ?_
  rintro e w2 ⟨rfl, hb2, hd2⟩
  have P2 := Lib.hid (⟨HB1.out.trans (hb2.mono HB1.out.size), by simpa [St.feed] using hd2, HB1.out.size⟩ : PAt w w1.heap.size K' ⟨#[]⟩ w2)
  clear hb2 hd2 HB1
  generalize w1.heap.size = g at *
  clear w1
  obtain ⟨L, hL64, hO⟩ := st0_ok64 K'.data.toList
  have HO := Lib.hid hO
  have HLL := Lib.hid hL64
  clear hO hL64
  have hk := HKK.out
  have HS32 : Hid (K'.size ≤ 32) := by
    show K'.size ≤ 32
    rcases hk with ⟨h32, he⟩ | ⟨h32, he⟩
    · rw [he]; exact h32
    · rw [he]; simp; omega
  rcases hk with ⟨h32, he⟩ | ⟨h32, he⟩
  case' inl =>
    have m1 : (K.size : Int) ≤ 32 := by omega
    have HE := Lib.hid he
    clear h32 he
    go_wp2_with fail
    rw [← HE.out]
    clear m1
  case' inr =>
    have m1 : (32 : Int) < K.size := by omega
    have HE := Lib.hid he
    clear h32 he
    go_wp2_with fail
    rw [← HE.out]
    clear m1
  all_goals
    refine abs_wp (fun w' => PAt w g K' ⟨#[]⟩ w') P2.out ?_
    clear P2
    clear w2
    intro w2 h2
    go_loopw [7, 8] (fun a v wr => ∃ i : Nat, i ≤ l.length ∧ v = .int .i64 (i : Int) ∧ a = .string (cat l i) ∧ (cat l i).size ≤ 200 * i ∧ PAt w g K' (cat l i) wr) (fun _ v _ => l.length - (intOf v).toNat)
    case atStart => exact ⟨0, by omega, rfl, rfl, Nat.le_refl _, h2⟩
    case round =>
      clear h2
      clear w2
      obtain ⟨i, hi, rfl, rfl, hc, hp⟩ := hrel
      by_cases hlt : i < l.length
      · have hlt' : (i : Int) < (l.length : Int) := by omega
        have i0 : (0 : Int) ≤ (i : Int) := by omega
        have hv := HV.out
        obtain ⟨a0', cap', he, hv | ⟨b, off, rfl, hbw, hcell⟩⟩ := hv
        · rw [hv] at hlt; simp at hlt
        · injection he with e1 _ e3
          subst e1 e3
          have hcl := hcell i hlt
          obtain ⟨s, hs⟩ : ∃ s, l.getD i ByteArray.empty = s := ⟨_, rfl⟩
          rw [hs] at hcl
          have hcat : cat l (i + 1) = cat l i ++ s := by rw [← hs]; rfl
          have hcr : wr.cell? ⟨b, off + i, none⟩ = some (.string s) := (hp.below.cell (p := ⟨b, off + i, none⟩) hbw).trans hcl
          have HCAT := Lib.hid hcat
          have HP := Lib.hid hp
          have HC := Lib.hid hc
          have HLT := Lib.hid hlt
          have HCL := Lib.hid hcl
          have HBW := Lib.hid hbw
          clear hcell hs hcat hcl hp hc hlt hi hbw
          have HNT := Lib.hid (noTab_ge HT.out HP.out.l)
          obtain ⟨A, hA⟩ : ∃ A, cat l i = A := ⟨_, rfl⟩
          rw [hA] at HCAT HP HC ⊢
          clear hA
          by_cases h200 : s.size ≤ 200
          · have t1 : ¬ (200 : Int) < (s.size : Int) := by omega
            have hno : ¬ 9223372036854775807 < A.size + s.size := by have := HC.out; have := HLT.out; have := HL.out; omega
            have HSZ : Hid (A.size + s.size ≤ 200 * (i + 1)) := by
              have := HC.out
              show A.size + s.size ≤ 200 * (i + 1)
              omega
            clear h200
            have OKA := Lib.hid (feed_ok HO.out A)
            have OKB := Lib.hid (feed_ok OKA.out s)
            go_wp2_with fail
            refine (write_any g _ _ OKA.out s (by have := HSZ.out; have := HLT.out; have := HL.out; have := HLL.out; omega) wr HP.out.d (HT.out.below HP.out.below (Nat.le_refl _)) HNT.out).mono ?_
            rintro e w3 ⟨rfl, hk3, hd3⟩
            have P3 : Hid (PAt w g K' (A ++ s) w3) := Lib.hid ⟨HP.out.below.trans (hk3.below HP.out.l HP.out.below.size), by rw [feed_cat]; exact hd3, HP.out.l⟩
            have hcr3 : w3.cell? ⟨b, off + i, none⟩ = some (.string s) := (P3.out.below.cell (p := ⟨b, off + i, none⟩) HBW.out).trans HCL.out
            clear hk3 hd3 HP hcr
            go_wp2_with fail
            refine (dsum_any g _ _ OKB.out (by have := HSZ.out; have := HLT.out; have := HL.out; have := HLL.out; omega) w3 (by rw [← feed_cat]; exact P3.out.d) (HT.out.below P3.out.below (Nat.le_refl _)) HNT.out).mono ?_
            rintro e w4 ⟨rfl, hb4⟩
            have P4 : Hid (PAt w g K' (A ++ s) w4) := Lib.hid ⟨P3.out.below.trans (hb4.mono P3.out.below.size), Blk.below P3.out.d hb4 (Blk.lt P3.out.d), P3.out.l⟩
            clear hb4 P3 hcr3
            rw [← feed_cat, show outS ((st0 K'.data.toList).feed (A ++ s).data.toList).done = kdg K' (A ++ s) from rfl]
            go_wp2_with fail
            refine (rsum_kdg K' (A ++ s) HS32.out (by rw [ByteArray.size_append]; have := HSZ.out; have := HLT.out; have := HL.out; have := HLL.out; omega) w4).mono ?_
            rintro e w5 ⟨rfl, hb5⟩
            have P5 : Hid (PAt w g K' (A ++ s) w5) := Lib.hid ⟨P4.out.below.trans (hb5.mono P4.out.below.size), Blk.below P4.out.d hb5 (Blk.lt P4.out.d), P4.out.l⟩
            clear hb5 P4
            go_wp2_with fail
            go_roundw
            case rel => exact ⟨i + 1, by have := HLT.out; omega, by go_num, by rw [HCAT.out], by rw [HCAT.out, ByteArray.size_append]; exact HSZ.out, by rw [HCAT.out]; exact P5.out⟩
            case measure => have := HLT.out; simp [intOf]; omega
          · have t1 : (200 : Int) < (s.size : Int) := by omega
            clear h200
            go_wp2_with fail
            go_ret
            exact ⟨rfl, HP.out.below⟩
      · have hlt' : ¬ (i : Int) < (l.length : Int) := by omega
        have HP := Lib.hid hp
        have HC := Lib.hid hc
        have HI := Lib.hid hi
        clear hp hc hi hlt
        have HNT := Lib.hid (noTab_ge HT.out HP.out.l)
        obtain ⟨A, hA⟩ : ∃ A, cat l i = A := ⟨_, rfl⟩
        rw [hA] at HP HC ⊢
        clear hA
        have OKA := Lib.hid (feed_ok HO.out A)
        go_wp2_with fail
        refine (dsum_any g _ _ OKA.out (by have := HC.out; have := HI.out; have := HL.out; have := HLL.out; omega) wr HP.out.d (HT.out.below HP.out.below (Nat.le_refl _)) HNT.out).mono ?_
        rintro e w4 ⟨rfl, hb4⟩
        have P4 := Lib.hid (HP.out.below.trans (hb4.mono HP.out.below.size))
        clear hb4 HP
        rw [show outS ((st0 K'.data.toList).feed A.data.toList).done = kdg K' A from rfl]
        go_wp2_with fail
        refine (rsum_kdg K' A HS32.out (by have := HC.out; have := HI.out; have := HL.out; have := HLL.out; omega) w4).mono ?_
        rintro e w5 ⟨rfl, hb5⟩
        go_wp2_with fail
        go_ret
        exact ⟨rfl, P4.out.trans (hb5.mono P4.out.size)⟩
set_option maxRecDepth 100000 in
set_option maxHeartbeats 1000000 in
theorem parts_out (K : ByteArray) (a0 : Option Addr) (n cap : Nat) (h : 20 < n ∨ n ≤ 20 ∧ 100 < K.size) (w : World) (hT : Tabs w) :
    Calls Tryd.prog 5 #[.string K, .slice a0 n cap] w fun e w' => e = .returned (.bool true) ∧ Below w.heap.size w w' := by
  have HT := Lib.hid hT
  clear hT
  rcases h with h1 | ⟨h1, h2⟩
  · have a1 : (20 : Int) < (n : Int) := by omega
    clear h1
    go_enter Tryd.func5, Tryd.ntmps5
    go_wp2_with fail
    refine (awake_any w HT.out).mono ?_
    rintro e w1 ⟨rfl, hb1⟩
    have HB1 := Lib.hid hb1
    clear hb1
    go_wp2_with fail
    refine (awake_any w1 (HT.out.below HB1.out (Nat.le_refl _))).mono ?_
    rintro e w2 ⟨rfl, hb2⟩
    go_wp2_with fail
    go_ret
    exact ⟨rfl, HB1.out.trans (hb2.mono HB1.out.size)⟩
  · have a1 : ¬ (20 : Int) < (n : Int) := by omega
    have a2 : (100 : Int) < (K.size : Int) := by omega
    clear h1 h2
    go_enter Tryd.func5, Tryd.ntmps5
    go_wp2_with fail
    refine (awake_any w HT.out).mono ?_
    rintro e w1 ⟨rfl, hb1⟩
    have HB1 := Lib.hid hb1
    clear hb1
    go_wp2_with fail
    refine (awake_any w1 (HT.out.below HB1.out (Nat.le_refl _))).mono ?_
    rintro e w2 ⟨rfl, hb2⟩
    go_wp2_with fail
    go_ret
    exact ⟨rfl, HB1.out.trans (hb2.mono HB1.out.size)⟩
theorem parts_walk (K : ByteArray) (v : Value) (l : List ByteArray) (w : World) (hv : StrsAt w v l) (hT : Tabs w) :
    Calls Tryd.prog 5 #[.string K, v] w fun e w' => e = .returned (.bool true) ∧ Below w.heap.size w w' := by
  by_cases h1 : l.length ≤ 20
  · by_cases h2 : K.size ≤ 100
    · by_cases h3 : K.size ≤ 32
      · exact parts_in K K (Or.inl ⟨h3, rfl⟩) h2 v l h1 w hv hT
      · exact parts_in K (K.extract 0 32) (Or.inr ⟨by omega, rfl⟩) h2 v l h1 w hv hT
    · obtain ⟨a0, cap, rfl, _⟩ := hv
      exact parts_out K a0 _ cap (Or.inr ⟨h1, by omega⟩) w hT
  · obtain ⟨a0, cap, rfl, _⟩ := hv
    exact parts_out K a0 _ cap (Or.inl (by omega)) w hT
end Go.Proofs.YtffdfggfdmmjbaaDoor
