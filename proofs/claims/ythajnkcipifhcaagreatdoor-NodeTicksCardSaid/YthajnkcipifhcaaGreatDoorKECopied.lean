/-
  Signatures of which the tags are copied, one by one. No program is named here.
-/
import Derived.Test.YthajnkcipifhcaaGreatDoorKLNum
import Derived.Test.YthajnkcipifhcaaGreatDoorKWFew
import Derived.Test.YthajnkcipifhcaaGreatDoorKERow
import Derived.Lib.Slices
section
open Go Go.RowKit
namespace CC
open BB WW Go.Sort
/-- v is a slice of the signatures L, wherever it lies, with their tags' slices -/
def SgAt (w : World) (v : Value) (L : List Sg) : Prop :=
  ∃ a0 cap, v = .slice a0 L.length cap ∧ (L = [] ∨ ∃ b off, a0 = some ⟨b, off, none⟩ ∧ b < w.heap.size ∧
    ∀ i, i < L.length → w.cell? ⟨b, off + i * 2, none⟩ = some (.int .i64 (L.getD i s0).1) ∧ w.cell? ⟨b, off + i * 2 + 1, none⟩ = some (tvS (L.getD i s0)) ∧ StrsAt w (tvS (L.getD i s0)) (L.getD i s0).2.2)
/-- a signature without its slice -/
def bare (x : Sg) : Int × List ByteArray := (x.1, x.2.2)
theorem SgAt.later {w w' : World} {v : Value} {L : List Sg} (h : SgAt w v L) (hb : Below w.heap.size w w') : SgAt w' v L := by
  obtain ⟨a0, cap, rfl, h | ⟨b, off, rfl, hl, hc⟩⟩ := h
  · exact ⟨a0, cap, rfl, Or.inl h⟩
  · refine ⟨_, cap, rfl, Or.inr ⟨b, off, rfl, Nat.lt_of_lt_of_le hl hb.size, fun i hi => ?_⟩⟩
    obtain ⟨h1, h2, h3⟩ := hc i hi
    exact ⟨(hb.cell (p := ⟨b, off + i * 2, none⟩) hl).trans h1, (hb.cell (p := ⟨b, off + i * 2 + 1, none⟩) hl).trans h2, h3.later hb⟩
theorem getD_map_bare (L : List Sg) (i : Nat) (h : i < L.length) : (L.map bare).getD i (0, []) = bare (L.getD i s0) := by
  simp [List.getD, List.getElem?_eq_getElem h]
theorem sg_of_sigs {w : World} {v : Value} {l : List (Int × List ByteArray)} (h : SigsAt w v l) : ∃ L : List Sg, L.map bare = l ∧ SgAt w v L := by
  obtain ⟨a0, cap, rfl, h | ⟨b, off, rfl, hl, hc⟩⟩ := h
  · subst h; exact ⟨[], rfl, a0, cap, rfl, Or.inl rfl⟩
  · have key : ∀ i, i < l.length → ∃ x : Sg, bare x = l.getD i (0, []) ∧ w.cell? ⟨b, off + i * 2, none⟩ = some (.int .i64 x.1) ∧ w.cell? ⟨b, off + i * 2 + 1, none⟩ = some (tvS x) ∧ StrsAt w (tvS x) x.2.2 := fun i hi => by
      obtain ⟨tv, h1, h2, h3⟩ := hc i hi
      obtain ⟨ta, tc, rfl, _⟩ := id h3
      exact ⟨((l.getD i (0, [])).1, (ta, tc), (l.getD i (0, [])).2), rfl, h1, h2, h3⟩
    have hx : ∃ g : Nat → Sg, ∀ i, i < l.length → bare (g i) = l.getD i (0, []) ∧ w.cell? ⟨b, off + i * 2, none⟩ = some (.int .i64 (g i).1) ∧ w.cell? ⟨b, off + i * 2 + 1, none⟩ = some (tvS (g i)) ∧ StrsAt w (tvS (g i)) (g i).2.2 :=
      ⟨fun i => if h : i < l.length then (key i h).choose else s0, fun i hi => by simp only [hi, dif_pos]; exact (key i hi).choose_spec⟩
    obtain ⟨g, hg⟩ := hx
    have hlen : ((List.range l.length).map g).length = l.length := by simp
    have hget : ∀ i, i < l.length → ((List.range l.length).map g).getD i s0 = g i := fun i hi => by simp [List.getD, hi]
    refine ⟨(List.range l.length).map g, ?_, _, cap, by rw [hlen], Or.inr ⟨b, off, rfl, hl, fun i hi => ?_⟩⟩
    · apply List.ext_getElem
      · simp
      · intro i h1 h2
        have := (hg i h2).1
        simpa [List.getD, List.getElem?_eq_getElem h2] using this
    · rw [hlen] at hi
      rw [hget i hi]
      exact (hg i hi).2
/-- v is a slice of the signatures L, in memory from block B on, which may be written -/
def SgS (B : Nat) (w : World) (v : Value) (L : List Sg) : Prop :=
  ∃ a0 cap, v = .slice a0 L.length cap ∧ L.length ≤ cap ∧ (L = [] ∨ ∃ b o, a0 = some ⟨b, o, none⟩ ∧ B ≤ b ∧ SgRow w b o L.length (fun i => L.getD i s0))
theorem SgS.on {B : Nat} {w w' : World} {v : Value} {L : List Sg} (h : SgS B w v L) (hb : Below w.heap.size w w') : SgS B w' v L := by
  obtain ⟨a0, cap, rfl, hc, h | ⟨b, o, rfl, hB, h⟩⟩ := h
  · exact ⟨a0, cap, rfl, hc, Or.inl h⟩
  · exact ⟨_, cap, rfl, hc, Or.inr ⟨b, o, rfl, hB, h.below hb⟩⟩
/-- the cells of L -/
def cellsS (L : List Sg) : List Value := (L.map encS).flatten
theorem cellsS_len (L : List Sg) : (cellsS L).length = L.length * 2 := by
  induction L with
  | nil => rfl
  | cons x r ih => show (encS x ++ cellsS r).length = _; rw [List.length_append, ih, List.length_cons]; simp [encS]; omega
theorem cellsS_at0 : ∀ (L : List Sg) (i : Nat), i < L.length → (cellsS L)[i * 2]? = some (.int .i64 (L.getD i s0).1)
  | [], i, h => by simp at h
  | x :: r, 0, _ => rfl
  | x :: r, i + 1, h => by
    show (encS x ++ cellsS r)[(i + 1) * 2]? = _
    rw [show (i + 1) * 2 = (encS x).length + i * 2 by simp [encS]; omega, List.getElem?_append_right (by omega), Nat.add_sub_cancel_left]
    rw [cellsS_at0 r i (by simpa using h)]; simp [List.getD]
theorem cellsS_at1 : ∀ (L : List Sg) (i : Nat), i < L.length → (cellsS L)[i * 2 + 1]? = some (tvS (L.getD i s0))
  | [], i, h => by simp at h
  | x :: r, 0, _ => rfl
  | x :: r, i + 1, h => by
    show (encS x ++ cellsS r)[(i + 1) * 2 + 1]? = _
    rw [show (i + 1) * 2 + 1 = (encS x).length + (i * 2 + 1) by simp [encS]; omega, List.getElem?_append_right (by omega), Nat.add_sub_cancel_left]
    rw [cellsS_at1 r i (by simpa using h)]; simp [List.getD]
theorem sgs_of_own {w : World} {B : Nat} {e : TypeId} {v : Value} {L : List Sg} (h : w.ownsRow B e 2 v L.length (cellsS L)) : SgS B w v L := by
  rcases h.2 with ⟨rfl, h0⟩ | ⟨g, cap, cur, rfl, hg, hh, hn, hcm, hsz, htk⟩
  · exact ⟨none, 0, by rw [h0], by omega, Or.inl (List.eq_nil_of_length_eq_zero h0)⟩
  · refine ⟨_, cap, rfl, hn, Or.inr ⟨g, 0, rfl, hg, ?_⟩⟩
    have hlt : g < w.heap.size := (Array.getElem?_eq_some_iff.1 hh).1
    have hcell : ∀ j u, j < L.length * 2 → (cellsS L)[j]? = some u → w.cell? ⟨g, j, none⟩ = some u := fun j u hj hu => by
      rw [← htk, List.getElem?_take_of_lt hj, Array.getElem?_toList] at hu
      unfold World.cell?; rw [hh]; simpa using hu
    have hfro : ∀ j, w.frozen? ⟨g, j, none⟩ = false := fun j => by unfold World.frozen?; rw [hh]; simp
    refine ⟨hlt, fun i hi => ?_, fun i hi => ?_, fun i _ => hfro _, fun i _ => hfro _⟩
    · rw [Nat.zero_add]; exact hcell _ _ (by omega) (cellsS_at0 L i hi)
    · rw [Nat.zero_add]; exact hcell _ _ (by omega) (cellsS_at1 L i hi)
/-- tags of the call's own -/
def NewStrs (w : World) (l : List ByteArray) (e : Ending) (w' : World) : Prop :=
  ∃ a0 cap, e = .returned (.slice a0 l.length cap) ∧ StrsAt w' (.slice a0 l.length cap) l ∧ (∀ c, (Value.slice a0 l.length cap).ownBlock = some c → w.heap.size ≤ c) ∧ Below w.heap.size w w'
theorem cellsS_one (L : List Sg) : ∀ u ∈ cellsS L, u.oneCell' = true := by
  intro u hu
  unfold cellsS at hu
  rw [List.mem_flatten] at hu
  obtain ⟨c, hc, hu⟩ := hu
  obtain ⟨x, _, rfl⟩ := List.mem_map.1 hc
  simp only [encS, tvS, List.mem_cons, List.not_mem_nil, or_false] at hu
  rcases hu with rfl | rfl <;> rfl
end CC
namespace Go.Proofs.YthajnkcipifhcaaGreatDoor
open CC WW BB
theorem info_sig : (Tryz.prog.info? 39).map (fun i => (i.zero, i.size, i.bytes)) = some (some (.agg #[.int .i64 0, .slice none 0 0]), 2, 32) := by kernel_rfl
theorem und_sigs : Tryz.prog.underlying 31 = some (.slice 39) := by kernel_rfl
set_option maxRecDepth 100000 in
set_option maxHeartbeats 4000000 in
theorem sgclone_any (L : List Sg) (v : Value) (w : World) (h : SgAt w v L) (hs : L.length ≤ 1000) :
    Calls Tryz.prog 97 #[v] w fun e w' => ∃ v', e = .returned v' ∧ SgS w.heap.size w' v' L ∧ Below w.heap.size w w' := by
  have HA := Lib.hid h
  have HS := Lib.hid hs
  obtain ⟨a0, cap, rfl, hx⟩ := h
  have q22 : ∀ (w : World) (a : Option Addr) (n c n' c' : Nat), (binOp .eql 31 (.slice a n c) (.slice none n' c')).run Tryz.prog w = .ok (.bool a.isNone) w := fun w a n c n' c' => Lib.run_eql_slice_nil w _ _ a n c n' c' und_sigs
  obtain ⟨i0, hi, hz0, hz1, hz2⟩ : ∃ i, Tryz.prog.info? 39 = some i ∧ i.zero = some (.agg #[.int .i64 0, .slice none 0 0]) ∧ i.size = 2 ∧ i.bytes = 32 := by
    have h := info_sig
    rcases hi : Tryz.prog.info? 39 with _ | i
    · rw [hi] at h; cases h
    · rw [hi] at h
      simp only [Option.map_some, Option.some.injEq, Prod.mk.injEq] at h
      exact ⟨i, rfl, h.1, h.2.1, h.2.2⟩
  have HI := Lib.hid hi
  have HZ := Lib.hid (And.intro hz0 (And.intro hz1 hz2))
  have HX := Lib.hid hx
  clear hs hx hi hz0 hz1 hz2
  rcases a0 with _ | ad
  · have hL : L = [] := by
      rcases HX.out with h | ⟨b, o, h, _⟩
      · exact h
      · cases h
    subst hL
    go_enter Tryz.func97, Tryz.ntmps97
    go_wp2_with fail
    go_ret
    exact ⟨_, rfl, ⟨none, 0, rfl, Nat.le_refl _, Or.inl rfl⟩, Below.refl _ _⟩
  · have hread : ∀ j u, (cellsS L)[j]? = some u → w.cell? (ad.add j) = some u := fun j u hj => by
      rcases HX.out with h | ⟨b, o, h, hb, hc⟩
      · subst h; simp [cellsS] at hj
      · injection h with h
        subst h
        have hlt : j < L.length * 2 := by rw [← cellsS_len]; exact (List.getElem?_eq_some_iff.1 hj).1
        have e : (⟨b, o, none⟩ : Addr).add j = ⟨b, o + j, none⟩ := by unfold Addr.add; split <;> simp [*]
        rw [e]
        obtain ⟨h1, h2, _⟩ := hc (j / 2) (by omega)
        rcases Nat.mod_two_eq_zero_or_one j with e | e
        · have e2 : j = j / 2 * 2 := by omega
          rw [e2, cellsS_at0 L (j / 2) (by omega)] at hj
          rw [e2, ← hj]; exact h1
        · have e2 : j = j / 2 * 2 + 1 := by omega
          rw [e2, cellsS_at1 L (j / 2) (by omega)] at hj
          rw [e2, ← hj]; exact h2
    have HR := Lib.hid hread
    clear hread
    go_enter Tryz.func97, Tryz.ntmps97
    go_wp2_with (at_builtin; refine wpList_append_own _ rfl _ _ 31 rfl w.heap.size 39 i0 (.agg #[.int .i64 0, .slice none 0 0]) 2 32 und_sigs HI.out HZ.out.1 HZ.out.2.1 HZ.out.2.2 rfl (by decide) _ _ _ rfl (World.ownsRow_made w #[] 0 (Nat.le_refl _) (Nat.zero_le _) rfl) ad L.length cap (cellsS L) rfl ?qc1 ?qc2 ?qc3 ?qc4 ?qc5 ?qc6 ?_)
    case qc1 => exact cellsS_len L
    case qc2 => intro j u hj; exact Lib.cell?_alloc_some _ (HR.out j u hj)
    case qc3 => exact cellsS_one L
    case qc4 => have := HS.out; unfold maxLen; omega
    case qc5 => have := HS.out; omega
    case qc6 => simp
    intro v' w1 hown hgrow hnil
    have hO := Lib.hid (sgs_of_own (L := L) (by simpa using hown))
    have hG := Lib.hid (((Below.refl _ w).alloc (Nat.le_refl _) _).grown hgrow (by simp) (by intro k hk; simp [Value.ownBlock] at hk; omega))
    clear hown hgrow hnil
    go_wp2_with fail
    go_ret
    exact ⟨v', rfl, hO.out, hG.out⟩
set_option maxRecDepth 100000 in
set_option maxHeartbeats 4000000 in
theorem tsclone_any (l : List ByteArray) (v : Value) (w : World) (h : StrsAt w v l) (hs : l.length ≤ 1000) :
    Calls Tryz.prog 96 #[v] w (NewStrs w l) := by
  have HS := Lib.hid hs
  obtain ⟨a0, cap, rfl, hx⟩ := h
  have q22 : ∀ (w : World) (a : Option Addr) (n c n' c' : Nat), (binOp .eql 37 (.slice a n c) (.slice none n' c')).run Tryz.prog w = .ok (.bool a.isNone) w := fun w a n c n' c' => Lib.run_eql_slice_nil w _ 9 a n c n' c' (by kernel_rfl)
  obtain ⟨i0, hi, hz0, hz1, hz2⟩ : ∃ i, Tryz.prog.info? 9 = some i ∧ i.zero = some (.string ⟨#[]⟩) ∧ i.size = 1 ∧ i.bytes = 16 := by
    have h : (Tryz.prog.info? 9).map (fun i => (i.zero, i.size, i.bytes)) = some (some (.string ⟨#[]⟩), 1, 16) := by kernel_rfl
    rcases hi : Tryz.prog.info? 9 with _ | i
    · rw [hi] at h; cases h
    · rw [hi] at h
      simp only [Option.map_some, Option.some.injEq, Prod.mk.injEq] at h
      exact ⟨i, rfl, h.1, h.2.1, h.2.2⟩
  have HI := Lib.hid hi
  have HZ := Lib.hid (And.intro hz0 (And.intro hz1 hz2))
  have HX := Lib.hid hx
  clear hs hx hi hz0 hz1 hz2
  rcases a0 with _ | ad
  · have hL : l = [] := by
      rcases HX.out with h | ⟨b, o, h, _⟩
      · exact h
      · cases h
    subst hL
    go_enter Tryz.func96, Tryz.ntmps96
    go_wp2_with fail
    go_ret
    refine ⟨none, 0, rfl, ⟨none, 0, rfl, Or.inl rfl⟩, ?_, Below.refl _ _⟩
    intro c hc
    simp [Value.ownBlock] at hc
  · have hread : ∀ j u, (l.map Value.string)[j]? = some u → w.cell? (ad.add j) = some u := fun j u hj => by
      rcases HX.out with h | ⟨b, o, h, hb, hc⟩
      · subst h; simp at hj
      · injection h with h
        subst h
        have hlt : j < l.length := by have := (List.getElem?_eq_some_iff.1 hj).1; simpa using this
        have e : (⟨b, o, none⟩ : Addr).add j = ⟨b, o + j, none⟩ := by unfold Addr.add; split <;> simp [*]
        rw [e, hc j hlt, ← hj]
        simp [List.getD, List.getElem?_eq_getElem hlt]
    have HR := Lib.hid hread
    clear hread
    go_enter Tryz.func96, Tryz.ntmps96
    go_wp2_with (at_builtin; refine wpList_append_own _ rfl _ _ 37 rfl w.heap.size 9 i0 (.string ⟨#[]⟩) 1 16 (by kernel_rfl) HI.out HZ.out.1 HZ.out.2.1 HZ.out.2.2 rfl (by decide) _ _ _ rfl (World.ownsRow_made w #[] 0 (Nat.le_refl _) (Nat.zero_le _) rfl) ad l.length cap (l.map Value.string) rfl ?qc1 ?qc2 ?qc3 ?qc4 ?qc5 ?qc6 ?_)
    case qc1 => simp
    case qc2 => intro j u hj; exact Lib.cell?_alloc_some _ (HR.out j u hj)
    case qc3 => intro u hu; obtain ⟨x, _, rfl⟩ := List.mem_map.1 hu; rfl
    case qc4 => have := HS.out; unfold maxLen; omega
    case qc5 => have := HS.out; omega
    case qc6 => simp
    intro v' w1 hown hgrow hnil
    have hown : w1.ownsRow w.heap.size 9 1 v' l.length (l.map Value.string) := by simpa using hown
    have hG := Lib.hid (((Below.refl _ w).alloc (Nat.le_refl _) _).grown hgrow (by simp) (by intro k hk; simp [Value.ownBlock] at hk; omega))
    have hO : ∃ a1 c1, v' = .slice a1 l.length c1 ∧ StrsAt w1 (.slice a1 l.length c1) l ∧ (∀ c, (Value.slice a1 l.length c1).ownBlock = some c → w.heap.size ≤ c) := by
      rcases hown.2 with ⟨rfl, h0⟩ | ⟨g, cap, cur, rfl, hg, hh, hn, hcm, hsz, htk⟩
      · refine ⟨none, 0, by rw [h0], ?_, fun c hc => by cases hc⟩
        exact ⟨none, 0, rfl, Or.inl (List.eq_nil_of_length_eq_zero h0)⟩
      · refine ⟨_, cap, rfl, ⟨_, cap, rfl, Or.inr ⟨g, 0, rfl, (Array.getElem?_eq_some_iff.1 hh).1, fun i hi => ?_⟩⟩, fun c hc => by simp [Value.ownBlock] at hc; omega⟩
        have e1 : (l.map Value.string)[i]? = some (.string (l.getD i ⟨#[]⟩)) := by simp [List.getD, List.getElem?_eq_getElem hi]
        rw [← htk, List.getElem?_take_of_lt (by omega), Array.getElem?_toList] at e1
        unfold World.cell?; rw [hh]; simpa using e1
    have HO := Lib.hid hO
    clear hown hgrow hnil hO
    go_wp2_with fail
    go_ret
    obtain ⟨a1, c1, rfl, h1, h2⟩ := HO.out
    exact ⟨a1, c1, rfl, h1, h2, hG.out⟩
end Go.Proofs.YthajnkcipifhcaaGreatDoor
end
section
open Go Go.RowKit
namespace CC
open BB WW Go.Sort
/-- tags, neither in block b nor in block g -/
def StrsNot (b g : Nat) (w : World) (v : Value) (l : List ByteArray) : Prop := StrsAt w v l ∧ (l = [] ∨ ∀ c, v.ownBlock = some c → c ≠ b ∧ c ≠ g)
theorem strs_upd {b g c : Nat} {w w' : World} {v : Value} {l : List ByteArray} (h : StrsNot b g w v l) (hc : c = b ∨ c = g) (hu : Upd c w w') : StrsNot b g w' v l := by
  obtain ⟨⟨a0, cap, rfl, h1⟩, h2⟩ := h
  refine ⟨⟨a0, cap, rfl, ?_⟩, h2⟩
  rcases h1 with h1 | ⟨x, off, rfl, hl, hcell⟩
  · exact Or.inl h1
  · refine Or.inr ⟨x, off, rfl, by rw [hu.size]; exact hl, fun i hi => ?_⟩
    have hne : x ≠ c := by
      rcases h2 with h2 | h2
      · subst h2; simp at hi
      · have := h2 x rfl
        rcases hc with rfl | rfl
        · exact this.1
        · exact this.2
    rw [World.cell?_of_block (w := w) (a := ⟨x, off + i, none⟩) (hu.block x hne)]
    exact hcell i hi
theorem StrsNot.on {b g : Nat} {w w' : World} {v : Value} {l : List ByteArray} (h : StrsNot b g w v l) (hb : Below w.heap.size w w') : StrsNot b g w' v l := ⟨h.1.later hb, h.2⟩
theorem sg_tags {w : World} {v : Value} {L : List Sg} (h : SgAt w v L) : ∀ x ∈ L, StrsAt w (tvS x) x.2.2 ∧ (x.2.2 = [] ∨ ∀ c, (tvS x).ownBlock = some c → c < w.heap.size) := by
  intro x hx
  obtain ⟨a0, cap, rfl, h | ⟨b, off, rfl, hl, hc⟩⟩ := h
  · subst h; cases hx
  · obtain ⟨i, hi, rfl⟩ := List.getElem_of_mem hx
    have := (hc i hi).2.2
    rw [show L.getD i s0 = L[i] by simp [List.getD, List.getElem?_eq_getElem hi]] at this
    refine ⟨this, ?_⟩
    obtain ⟨a1, c1, he, h | ⟨g, o, rfl, hg, _⟩⟩ := this
    · exact Or.inl h
    · refine Or.inr fun c hcc => ?_
      rw [he] at hcc
      simp [Value.ownBlock] at hcc
      omega
/-- the signatures M, the tags of some of them copied -/
structure Copied (M : List Sg) (b o g : Nat) (w0 : World) (wr : World) (D : Nat → Sg) : Prop where
  row : SgRow wr b o M.length D
  same : ∀ j, j < M.length → bare (D j) = bare (M.getD j s0)
  tags : ∀ j, j < M.length → StrsNot b g wr (tvS (D j)) (D j).2.2
  below : Below w0.heap.size w0 wr
theorem Copied.done {M : List Sg} {b o g cap : Nat} {w0 wr w' : World} {D : Nat → Sg} (h : Copied M b o g w0 wr D) (hg : b ≠ g) (hu : Upd g wr w') : SigsAt w' (.slice (some ⟨b, o, none⟩) M.length cap) (M.map bare) := by
  have hrow := h.row.of_heap (hu.block b hg)
  refine ⟨_, cap, by rw [List.length_map], Or.inr ⟨b, o, rfl, hrow.lt, fun i hi => ?_⟩⟩
  rw [List.length_map] at hi
  rw [getD_map_bare M i hi, ← h.same i hi]
  exact ⟨_, hrow.at0 i hi, hrow.at1 i hi, (strs_upd (h.tags i hi) (Or.inr rfl) hu).1⟩
theorem Copied.on {M : List Sg} {b o g : Nat} {w0 wr w' : World} {D : Nat → Sg} (h : Copied M b o g w0 wr D) (hb : Below wr.heap.size wr w') : Copied M b o g w0 w' D :=
  ⟨h.row.below hb, h.same, fun j hj => (h.tags j hj).on hb, h.below.trans (hb.mono h.below.size)⟩
theorem Copied.step {M : List Sg} {b o g : Nat} {w0 wr : World} {D : Nat → Sg} (h : Copied M b o g w0 wr D) (hB : w0.heap.size ≤ b) (i : Nat) (hi : i < M.length) (t : Option Addr × Nat) (hn : StrsNot b g wr (.slice t.1 (D i).2.2.length t.2) (D i).2.2) :
    Copied M b o g w0 (wr.setCell ⟨b, o + i * 2 + 1, none⟩ (.slice t.1 (D i).2.2.length t.2)) (put D i ((D i).1, t, (D i).2.2)) := by
  refine ⟨h.row.set1 i hi t (D i).2.2, fun j hj => ?_, fun j hj => ?_, h.below.trans ((Upd.set wr b _ _).below hB)⟩
  · by_cases e : j = i
    · subst e; rw [put_same]; exact h.same j hj
    · rw [put_other _ _ e]; exact h.same j hj
  · by_cases e : j = i
    · subst e; rw [put_same]; exact strs_upd hn (Or.inl rfl) (Upd.set wr b _ _)
    · rw [put_other _ _ e]; exact strs_upd (h.tags j hj) (Or.inl rfl) (Upd.set wr b _ _)
end CC
end
