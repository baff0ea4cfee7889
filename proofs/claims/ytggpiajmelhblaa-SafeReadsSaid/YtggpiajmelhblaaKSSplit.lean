/-
  The walk of the reference's Split: the records of bytes.
-/
import Derived.Test.YtggpiajmelhblaaKWReqLaw
import Derived.Test.YtggpiajmelhblaaKERefS
import Derived.Test.YtggpiajmelhblaaKPlanS
import Derived.Laws.AppendOwnNone
open Go Go.RowKit
namespace SS
open WW BB CC
/-- the records that are answered lie in a row of the call's own, nil if there are none -/
def RecsOwn (B : Nat) (t : TypeId) (w' : World) (u : Value) (l : List ByteArray) : Prop := w'.ownsRow B t 1 u l.length (l.map Value.string) ∧ (l = [] → u = .slice none 0 0)
theorem rd4_mul (b : ByteArray) (h0 : 0 < b.size) (h1 : 1 < b.size) (h2 : 2 < b.size) (h3 : 3 < b.size) :
    IntKind.i64.wrap (IntKind.i64.wrap (IntKind.i64.wrap (IntKind.i64.wrap (IntKind.i64.wrap (IntKind.i64.wrap (IntKind.i64.wrap (b[0].toNat : Int) * 256) + IntKind.i64.wrap (b[1].toNat : Int)) * 256) + IntKind.i64.wrap (b[2].toNat : Int)) * 256) + IntKind.i64.wrap (b[3].toNat : Int)) = (rd4 b : Int) := by
  have l0 := UInt8.toNat_lt b[0]
  have l1 := UInt8.toNat_lt b[1]
  have l2 := UInt8.toNat_lt b[2]
  have l3 := UInt8.toNat_lt b[3]
  have e : rd4 b = b[0].toNat * 16777216 + b[1].toNat * 65536 + b[2].toNat * 256 + b[3].toNat := by
    unfold rd4; rw [get_byte, get_byte, get_byte, get_byte]
  rw [e]
  generalize b[0].toNat = x0 at *
  generalize b[1].toNat = x1 at *
  generalize b[2].toNat = x2 at *
  generalize b[3].toNat = x3 at *
  rw [IntWalk.i64_in (x0 : Int) (by omega), IntWalk.i64_in (x1 : Int) (by omega), IntWalk.i64_in (x2 : Int) (by omega), IntWalk.i64_in (x3 : Int) (by omega), IntWalk.i64_in ((x0 : Int) * 256) (by omega), IntWalk.i64_in ((x0 : Int) * 256 + (x1 : Int)) (by omega),
    IntWalk.i64_in (((x0 : Int) * 256 + (x1 : Int)) * 256) (by omega), IntWalk.i64_in (((x0 : Int) * 256 + (x1 : Int)) * 256 + (x2 : Int)) (by omega), IntWalk.i64_in ((((x0 : Int) * 256 + (x1 : Int)) * 256 + (x2 : Int)) * 256) (by omega), IntWalk.i64_in ((((x0 : Int) * 256 + (x1 : Int)) * 256 + (x2 : Int)) * 256 + (x3 : Int)) (by omega)]
  omega
end SS
namespace Go.Proofs.Ytggpiajmelhblaa
open SS CC WW BB
theorem sinfo_str : (Try.prog.info? 9).map (fun i => (i.zero, i.size, i.bytes)) = some (some (.string ⟨#[]⟩), 1, 16) := by kernel_rfl
set_option maxRecDepth 100000 in
set_option maxHeartbeats 4000000 in
theorem rsplit_any : ∀ (n : Nat) (b : ByteArray) (w : World), b.size < n → b.size ≤ 1000000 →
    Calls Try.prog 13 #[.string b] w fun e w' => ∃ u, e = .returned (.tuple #[u, .int .i64 ((splitS b).2 : Int)]) ∧ RecsOwn w.heap.size 9 w' u (splitS b).1 ∧ Below w.heap.size w w'
  | 0, _, _, h, _ => absurd h (Nat.not_lt_zero _)
  | n + 1, b, w, hn, hs => by
    have IH := Lib.hid (rsplit_any n)
    have HN := Lib.hid hn
    have HS := Lib.hid hs
    by_cases h4 : b.size < 4
    · have ho : okR b = false := by
        cases h : okR b with
        | false => rfl
        | true => have := (ok_yes h).1; omega
      have HO := Lib.hid ho
      have t1 : (b.size : Int) < 4 := by omega
      clear hn hs h4 ho
      go_enter Try.func13, Try.ntmps13
      go_wp2_with fail
      go_ret2
      refine ⟨.slice none 0 0, ?_, ?_, Below.refl _ _⟩
      · rw [split_no HO.out]; rfl
      · rw [split_no HO.out]; exact ⟨World.ownsRow_nil _ _ _ _, fun _ => rfl⟩
    · have n0 : 0 < b.size := by omega
      have n1 : 1 < b.size := by omega
      have n2 : 2 < b.size := by omega
      have n3 : 3 < b.size := by omega
      have g0 : (0 : Int) < (b.size : Int) := by omega
      have g1 : (1 : Int) < (b.size : Int) := by omega
      have g2 : (2 : Int) < (b.size : Int) := by omega
      have g3 : (3 : Int) < (b.size : Int) := by omega
      have g4 : ¬ (b.size : Int) < 4 := by omega
      have E := Lib.hid (rd4_mul b n0 n1 n2 n3)
      clear hn hs h4
      go_enter Try.func13, Try.ntmps13
      go_wp2_with fail
      refine quiet_abs (by kernel_rfl) (by kernel_rfl) fun w2 hs2 => ?_
      repeat still_step
      refine wpStill_nil ?_
      rw [E.out]
      have B2 := Lib.hid (hs2.below w.heap.size)
      have HW2 := Lib.hid (show w2.heap.size = w.heap.size by rw [hs2.heap])
      clear hs2
      obtain ⟨N, hN⟩ : ∃ N, rd4 b = N := ⟨_, rfl⟩
      have HNN := Lib.hid hN
      rw [hN]
      clear hN
      have hNN : ((N : Nat) : Int) ≤ 4294967295 := by have := rd4_lt b; have := HNN.out; omega
      have hN0 : (0 : Int) ≤ (N : Int) := by omega
      have hsz : (b.size : Int) ≤ 1000000 := by have := HS.out; omega
      cases ho : okR b with
      | false =>
        have HO := Lib.hid ho
        have HC := Lib.hid (ok_no ho)
        clear ho
        by_cases h1 : (N : Int) < 1
        · go_wp2_with fail
          go_ret2
          refine ⟨.slice none 0 0, ?_, ?_, B2.out⟩
          · rw [split_no HO.out]; rfl
          · rw [split_no HO.out]; exact ⟨World.ownsRow_nil _ _ _ _, fun _ => rfl⟩
        · by_cases h2 : 4000 < (N : Int)
          · go_wp2_with fail
            go_ret2
            refine ⟨.slice none 0 0, ?_, ?_, B2.out⟩
            · rw [split_no HO.out]; rfl
            · rw [split_no HO.out]; exact ⟨World.ownsRow_nil _ _ _ _, fun _ => rfl⟩
          · have h3 : (b.size : Int) - 4 < (N : Int) := by have := HC.out; have := HNN.out; omega
            have h5 : 0 ≤ (b.size : Int) - 4 := by omega
            go_wp2_with fail
            go_ret2
            refine ⟨.slice none 0 0, ?_, ?_, B2.out⟩
            · rw [split_no HO.out]; rfl
            · rw [split_no HO.out]; exact ⟨World.ownsRow_nil _ _ _ _, fun _ => rfl⟩
      | true =>
        have HO := Lib.hid ho
        have hy := ok_yes ho
        rw [HNN.out] at hy
        have h1 : ¬ (N : Int) < 1 := by omega
        have h2 : ¬ 4000 < (N : Int) := by omega
        have h3 : ¬ (b.size : Int) - 4 < (N : Int) := by omega
        have h5 : 0 ≤ (b.size : Int) - 4 := by omega
        have h6 : 4 + (N : Int) ≤ (b.size : Int) := by omega
        have h7 : 0 ≤ 4 + (N : Int) := by omega
        clear ho hy hNN
        go_wp2_with fail
        have HR := Lib.hid (show b.extract (4 + N) b.size = restR b by rw [← HNN.out]; rfl)
        have HH := Lib.hid (show b.extract 4 (4 + N) = headR b by rw [← HNN.out]; rfl)
        have HRZ := Lib.hid (rest_size HO.out)
        rw [HR.out]
        refine (IH.out (restR b) w2 (by have := HRZ.out; have := HN.out; omega) (by have := HRZ.out; have := HS.out; omega)).mono ?_
        rintro e w3 ⟨u, rfl, ⟨hu, hun⟩, hb3⟩
        have HSE := Lib.hid (split_end _ (restR b) (Nat.lt_succ_self _))
        obtain ⟨⟨l, E⟩, hR⟩ : ∃ R, splitS (restR b) = R := ⟨_, rfl⟩
        have HRR := Lib.hid hR
        rw [hR] at hu hun HSE
        rw [hR]
        rw [HW2.out] at hu
        have HU := Lib.hid hu
        have HUN := Lib.hid hun
        have B3 := Lib.hid (B2.out.trans (hb3.mono B2.out.size))
        clear hR hu hun hb3
        have hE0 : (0 : Int) ≤ (E : Int) := by omega
        have hE1 : (E : Int) ≤ 1000000 := by have h : E ≤ (restR b).size := HSE.out.1; have := HRZ.out; have := HS.out; omega
        obtain ⟨r, hr⟩ : ∃ r, b.extract 4 (4 + N) = r := ⟨_, rfl⟩
        have HRH := Lib.hid (show r = headR b from hr.symm.trans HH.out)
        have bal := (Below.refl w3.heap.size w3).alloc (Nat.le_refl _) (.cells #[.string r] 9)
        have hown : (w3.alloc (.cells #[.string r] 9)).ownsRow w.heap.size 9 1 (.slice (some ⟨w3.heap.size, 0, none⟩) 1 1) 1 [.string r] := World.ownsRow_lit w3 #[.string r] 1 B3.out.size (by decide) rfl
        have HANS := Lib.hid (show splitS b = (headR b :: l, 4 + N + E) from by rw [split_yes HO.out, HRR.out, HNN.out])
        obtain ⟨ti, i1, i2, i3, i4⟩ := info_parts sinfo_str
        by_cases hl : l = []
        · subst hl
          obtain rfl := HUN.out rfl
          go_wp2_with (at_builtin; refine wpList_append_own_none _ rfl _ _ 36 rfl w.heap.size 9 ti 1 (by kernel_rfl) i1 (.slice (some ⟨w3.heap.size, 0, none⟩) 1 1) 1 [.string r] rfl hown rfl ?_)
          go_ret2
          refine ⟨.slice (some ⟨w3.heap.size, 0, none⟩) 1 1, ?_, ?_, B3.out.trans (bal.mono B3.out.size)⟩
          · rw [HANS.out]
            show Ending.returned (.tuple #[.slice (some ⟨w3.heap.size, 0, none⟩) 1 1, .int .i64 (4 + (N : Int) + (E : Int))]) = .returned (.tuple #[.slice (some ⟨w3.heap.size, 0, none⟩) 1 1, .int .i64 ((4 + N + E : Nat) : Int)])
            simp
          · rw [HANS.out]
            exact ⟨by rw [← HRH.out]; exact hown, fun h => by cases h⟩
        · obtain ⟨g, cap, rfl⟩ : ∃ g cap, u = .slice (some ⟨g, 0, none⟩) l.length cap := by
            rcases HU.out.2 with ⟨_, h0⟩ | ⟨g, cap, cur, h, _⟩
            · exact absurd (List.eq_nil_of_length_eq_zero h0) hl
            · exact ⟨g, cap, h⟩
          have HUB := Lib.hid (row_keep HU.out fun c hc => bal.block c (HU.out.lt c hc).2)
          have HC1 := Lib.hid (HUB.out.cells (g := g) rfl)
          have HC2 := Lib.hid (show ∀ y ∈ l.map Value.string, y.oneCell' = true from fun y hy => by obtain ⟨x, _, rfl⟩ := List.mem_map.1 hy; rfl)
          have HLL := Lib.hid (show l.length ≤ 1000000 by have h1 := HSE.out.2; have h2 : E ≤ (restR b).size := HSE.out.1; have h3 : l.length * 5 ≤ E := h1; have := HRZ.out; have := HS.out; omega)
          have HC3 := Lib.hid (show 1 + l.length ≤ maxLen from by have := HLL.out; unfold maxLen; omega)
          have HC4 := Lib.hid (show (1 + l.length) * 16 ≤ 140737488355328 from by have := HLL.out; omega)
          have HC5 := Lib.hid (show (l.map Value.string).length = l.length * 1 by rw [List.length_map, Nat.mul_one])
          have hbs := Nat.le_trans B3.out.size bal.size
          go_wp2_with (at_builtin; refine wpList_append_own _ rfl _ _ 36 rfl w.heap.size 9 ti (.string ⟨#[]⟩) 1 16 (by kernel_rfl) i1 i2 i3 i4 rfl (by decide) (.slice (some ⟨w3.heap.size, 0, none⟩) 1 1) 1 [.string r] rfl hown ⟨g, 0, none⟩ l.length cap (l.map Value.string) rfl HC5.out HC1.out HC2.out HC3.out HC4.out hbs ?_)
          intro v' w' hown' hgr _
          have HOW := Lib.hid hown'
          have HBW := Lib.hid ((B3.out.trans (bal.mono B3.out.size)).grown hgr hbs (fun k hk => (hown.lt k hk).1))
          clear hown' hgr hown bal hbs i1 i2 i3 i4
          go_wp2_with fail
          go_ret2
          refine ⟨v', ?_, ?_, HBW.out⟩
          · rw [HANS.out]
            show Ending.returned (.tuple #[v', .int .i64 (4 + (N : Int) + (E : Int))]) = .returned (.tuple #[v', .int .i64 ((4 + N + E : Nat) : Int)])
            simp
          · rw [HANS.out]
            refine ⟨?_, fun h => by cases h⟩
            have h := HOW.out
            rw [HRH.out, Nat.add_comm] at h
            exact h
end Go.Proofs.Ytggpiajmelhblaa
