/-
  The walks of what tells whether two certificates are the same.
-/
import Derived.Test.YtegkhhegapnkpaaDoorKLOpen
import Derived.BigQuiet
import Derived.WalkSmall
import Derived.Test.YtegkhhegapnkpaaDoorKJBox
section
open Go Go.RowKit
namespace WW
open BB
theorem row_keep {w w' : World} {e : TypeId} {lo k m : Nat} {sv : Value} {xs : List Value} (h : w.ownsRow lo e k sv m xs) (hk : ∀ c, sv.ownBlock = some c → w'.heap[c]? = w.heap[c]?) : w'.ownsRow lo e k sv m xs := by
  obtain ⟨h1, h2 | ⟨g, cap, cur, hv, hb, hc, rest⟩⟩ := h
  · exact ⟨h1, Or.inl h2⟩
  · subst hv
    exact ⟨h1, Or.inr ⟨g, cap, cur, rfl, hb, (hk g rfl).trans hc, rest⟩⟩
theorem below_drewI {B : Nat} {a w : World} (h : Below B a w) (n : Nat) : Below B a (w.drewN n) := h.trans ⟨rfl, rfl, rfl, Nat.le_refl _, fun _ _ => rfl⟩
end WW
namespace Go.Proofs.YtegkhhegapnkpaaDoor
open WW BB
end Go.Proofs.YtegkhhegapnkpaaDoor
end
section
open Go Go.RowKit
namespace CC
open WW BB
theorem ba_toList {a b : ByteArray} (h : a.toList = b.toList) : a = b := by
  rw [ByteArray.toList_eq, ByteArray.toList_eq] at h
  cases a; cases b; congr 1; exact Array.toList_inj.1 h
theorem list_ne_at {α : Type} {l m : List α} {d : α} {i : Nat} (h : l.getD i d ≠ m.getD i d) : l ≠ m := by rintro rfl; exact h rfl
theorem list_eq_at {α : Type} {l m : List α} {d : α} (hl : l.length = m.length) (h : ∀ i, i < l.length → l.getD i d = m.getD i d) : l = m := by
  apply List.ext_getElem hl
  intro i h1 h2
  have := h i h1
  simpa [List.getD, List.getElem?_eq_getElem h1, List.getElem?_eq_getElem h2] using this
end CC
namespace Go.Proofs.YtegkhhegapnkpaaDoor
open CC WW BB
set_option maxRecDepth 100000 in
set_option maxHeartbeats 2000000 in
theorem eqstr_any (l m : List ByteArray) (v u : Value) (w : World) (hv : StrsAt w v l) (hu : StrsAt w u m) (hl : l.length ≤ 1000) :
    Calls Tryd.prog 106 #[v, u] w fun e w' => e = .returned (.bool (decide (l = m))) ∧ Below w.heap.size w w' := by
  have HV := Lib.hid hv
  have HU := Lib.hid hu
  have HL := Lib.hid hl
  obtain ⟨a0, cap, rfl, hx⟩ := hv
  obtain ⟨b0, bap, rfl, hy⟩ := hu
  clear hl hx hy
  by_cases hlm : l.length = m.length
  · have HLM := Lib.hid hlm
    have t0 : ((l.length : Int) != (m.length : Int)) = false := by rw [hlm]; simp
    clear hlm
    obtain ⟨X, hX⟩ : ∃ X, decide (l = m) = X := ⟨_, rfl⟩
    have HX := Lib.hid hX
    rw [hX]
    clear hX
    go_enter Tryd.func106, Tryd.ntmps106
    go_wp2_with fail
    clear t0
    go_loopw [13] (fun v wr => ∃ i : Nat, i ≤ l.length ∧ v = .int .i64 (i : Int) ∧ (∀ j, j < i → l.getD j ⟨#[]⟩ = m.getD j ⟨#[]⟩) ∧ Below w.heap.size w wr) (fun v _ => l.length - (intOf v).toNat)
    case atStart => exact ⟨0, Nat.zero_le _, rfl, fun j hj => absurd hj (Nat.not_lt_zero _), Below.refl _ _⟩
    case round =>
      obtain ⟨i, hi, rfl, hal, hb⟩ := hrel
      have HALL := Lib.hid hal
      have HB := Lib.hid hb
      have i0 : (0 : Int) ≤ (i : Int) := by omega
      have ib : (i : Int) ≤ 1000 := by have := HL.out; omega
      clear hal hb
      by_cases hlt : i < l.length
      · have hlt' : (i : Int) < (l.length : Int) := by omega
        have hlt2 : (i : Int) < (m.length : Int) := by rw [← HLM.out]; omega
        obtain ⟨a1, cap1, he, hv | ⟨gb, off, rfl, hbw, hcell⟩⟩ := HV.out
        · rw [hv] at hlt; simp at hlt
        injection he with e1 _ e3
        subst e1 e3
        obtain ⟨a2, cap2, he2, hv2 | ⟨gb2, off2, rfl, hbw2, hcell2⟩⟩ := HU.out
        · rw [hv2] at hlt2; simp at hlt2; omega
        injection he2 with e1 _ e3
        subst e1 e3
        have hcl : wr.cell? ⟨gb, off + i, none⟩ = _ := (HB.out.cell (p := ⟨gb, off + i, none⟩) hbw).trans (hcell i hlt)
        have hcl2 : wr.cell? ⟨gb2, off2 + i, none⟩ = _ := (HB.out.cell (p := ⟨gb2, off2 + i, none⟩) hbw2).trans (hcell2 i (by omega))
        obtain ⟨s, hs⟩ : ∃ s, l.getD i ⟨#[]⟩ = s := ⟨_, rfl⟩
        obtain ⟨t, ht⟩ : ∃ t, m.getD i ⟨#[]⟩ = t := ⟨_, rfl⟩
        rw [hs] at hcl
        rw [ht] at hcl2
        have HST := Lib.hid (And.intro hs ht)
        have HLT := Lib.hid hlt
        clear hs ht hlt hi hcell hbw hcell2 hbw2
        by_cases hst : s = t
        · subst hst
          have HE := Lib.hid (show l.getD i ⟨#[]⟩ = m.getD i ⟨#[]⟩ from HST.out.1.trans HST.out.2.symm)
          have t1 : (s.toList == s.toList) = true := by simp
          go_wp2_with fail
          go_quiet (fail)
          go_wp2_with fail
          go_roundw
          case rel => exact ⟨i + 1, by have := HLT.out; omega, by go_num, fun j hj => if h : j = i then h ▸ HE.out else HALL.out j (by omega), below_drewI HB.out _⟩
          case measure => have := HLT.out; simp [intOf]; omega
        · have t1 : (s.toList == t.toList) = false := by rw [beq_eq_false_iff_ne]; exact fun h => hst (ba_toList h)
          have HS := Lib.hid hst
          clear hst
          go_wp2_with fail
          go_quiet (fail)
          go_wp2_with fail
          go_ret
          refine ⟨?_, below_drewI HB.out _⟩
          have hne : l ≠ m := list_ne_at (d := ⟨#[]⟩) (i := i) (by rw [HST.out.1, HST.out.2]; exact HS.out)
          rw [← HX.out]; simp [hne]
      · obtain rfl : i = l.length := by omega
        have hlt' : ¬ (l.length : Int) < (l.length : Int) := by omega
        clear hi hlt
        go_wp2_with fail
        go_ret
        refine ⟨?_, HB.out⟩
        have he : l = m := list_eq_at HLM.out HALL.out
        rw [← HX.out]; simp [he]
  · have t0 : ((l.length : Int) != (m.length : Int)) = true := by rw [bne_iff_ne]; omega
    have HLM := Lib.hid hlm
    clear hlm
    go_enter Tryd.func106, Tryd.ntmps106
    go_wp2_with fail
    go_ret
    refine ⟨?_, Below.refl _ _⟩
    have hne : l ≠ m := by rintro rfl; exact HLM.out rfl
    simp [hne]
end Go.Proofs.YtegkhhegapnkpaaDoor
end
