/-
  Plain lemmas: a list that was read grows by one element. No program is named here.
-/
import Derived.Test.YthajnkcipifhcaaGreatDoorKRState
import Derived.Test.YthajnkcipifhcaaGreatDoorKWAppR
open Go Go.RowKit
namespace WW
open BB
theorem cell_b {w w' : World} {p : Addr} {v : Value} (h : w.cell? p = some v) (hb : Below w.heap.size w w') : w'.cell? p = some v := (hb.cell (World.block_lt_of_cell? w p h)).trans h
theorem cell_g {w w' : World} {p : Addr} {v : Value} {row : Option Nat} (h : w.cell? p = some v) (hg : w.grownBy w' row) (hne : ∀ c, row = some c → p.block ≠ c) : w'.cell? p = some v := hg.cell h fun e => hne _ e.symm rfl
theorem cell_u {w w' : World} {p : Addr} {v : Value} {t : Nat} (h : w.cell? p = some v) (hu : Upd t w w') (hne : p.block ≠ t) : w'.cell? p = some v := (World.cell?_of_block (hu.block p.block hne)).trans h
section
variable {δ : Type} {R : RelT δ} {e : TypeId} {k t : Nat} {z g : Nat → Value} {w wr w5 w6 wA w7 w8 : World} {sv v6 : Value} {l : List δ} {d : δ} {xs news : List Value}
theorem step_block (bA : Below w6.heap.size w6 wA) (grow : wA.grownBy w7 sv.ownBlock) (u8 : Upd t w7 w8)
    (c : Nat) (hc : c < w6.heap.size) (hct : c ≠ t) (hcs : some c ≠ sv.ownBlock) : w8.heap[c]? = w6.heap[c]? :=
  (u8.block c hct).trans ((grow.block c (Nat.lt_of_lt_of_le hc bA.size) hcs).trans (bA.block c hc))
theorem elems_step (hR : SoundR R) (ht : t < w.heap.size) (hw : w.heap.size ≤ wr.heap.size) (hel : ElemsR e k z R wr w.heap.size wr.heap.size sv l xs) (b6 : Below wr.heap.size wr w6)
    (h5 : wr.heap.size ≤ w5.heap.size) (hrx : R d w6 w5.heap.size w6.heap.size z g) (bA : Below w6.heap.size w6 wA)
    (own : w7.ownsRow w.heap.size e k v6 (l.length + 1) (xs ++ news)) (hnj : ∀ j, j < k → news[j]? = some (g j)) (grow : wA.grownBy w7 sv.ownBlock) (loc : v6.ownBlock = sv.ownBlock ∨ v6.ownBlock = some wA.heap.size)
    (u8 : Upd t w7 w8) : ElemsR e k z R w8 w.heap.size w8.heap.size v6 (l ++ [d]) (xs ++ news) := by
  have hxl : xs.length = l.length * k := hel.row.1
  have hsv : ∀ c, sv.ownBlock = some c → w.heap.size ≤ c ∧ c < wr.heap.size := fun c hc => ⟨owns_ge hel.row c hc, hel.top c hc⟩
  have h8 : w8.heap.size = w7.heap.size := u8.size
  have h7 : wA.heap.size ≤ w7.heap.size := grow.size
  have hA : w6.heap.size ≤ wA.heap.size := bA.size
  have blk := step_block bA grow u8
  refine ⟨?_, fun c hc => ?_, fun i d' hd => ?_⟩
  · rw [List.length_append, List.length_singleton]
    exact owns_keep own fun c hc => u8.block c (by have := owns_ge own c hc; omega)
  · have := (own.lt c hc).2; omega
  · by_cases hi : i < l.length
    · rw [List.getElem?_append_left hi] at hd
      obtain ⟨lo1, hi1, g1, a1, a2, a3, a4, a5⟩ := hel.each i d' hd
      refine ⟨lo1, hi1, g1, a1, by have := b6.size; omega, hR.keep a3 fun c c1 c2 => ?_, fun j hj => ?_, fun c hc => ?_⟩
      · rw [blk c (by have := b6.size; omega) (by omega) (fun hh => by rcases a5 c hh.symm with h | h <;> omega)]
        exact b6.block c (by omega)
      · have hlt : i * k + j < xs.length := by
          rw [hxl]
          have : (i + 1) * k ≤ l.length * k := Nat.mul_le_mul_right k hi
          rw [Nat.add_mul] at this; omega
        rw [List.getElem?_append_left hlt]; exact a4 j hj
      · rcases loc with h | h
        · exact a5 c (h ▸ hc)
        · rw [h] at hc
          have : wA.heap.size = c := by simpa using hc
          have := b6.size; omega
    · have hle : l.length ≤ i := by omega
      rw [List.getElem?_append_right hle] at hd
      have hi0 : i = l.length := by
        have := List.getElem?_eq_some_iff.1 hd
        obtain ⟨hx, _⟩ := this
        simp at hx; omega
      subst hi0
      rw [Nat.sub_self] at hd
      obtain rfl : d = d' := by simpa using hd
      refine ⟨w5.heap.size, w6.heap.size, g, by omega, by omega, hR.keep hrx fun c c1 c2 => ?_, fun j hj => ?_, fun c hc => ?_⟩
      · exact blk c c2 (by omega) (fun hh => by have := (hsv c hh.symm).2; omega)
      · rw [List.getElem?_append_right (by rw [hxl]; omega), hxl, Nat.add_sub_cancel_left]
        exact hnj j hj
      · rcases loc with h | h
        · have := (hsv c (h ▸ hc)).2; omega
        · rw [h] at hc
          have : wA.heap.size = c := by simpa using hc
          omega
theorem keep_step (hel : ElemsR e k z R wr w.heap.size wr.heap.size sv l xs) (kp : Keep t w w6) (bA : Below w6.heap.size w6 wA) (grow : wA.grownBy w7 sv.ownBlock) (u8 : Upd t w7 w8) : Keep t w w8 := by
  refine ⟨?_, fun c hc hct => ?_, ?_, ?_, ?_⟩
  · have h8 : w8.heap.size = w7.heap.size := u8.size
    have h7 : wA.heap.size ≤ w7.heap.size := grow.size
    have hA : w6.heap.size ≤ wA.heap.size := bA.size
    have := kp.size; omega
  · rw [step_block bA grow u8 c (by have := kp.size; omega) hct (fun hh => by have := owns_ge hel.row c hh.symm; omega)]
    exact kp.block c hc hct
  · exact u8.tape.trans (grow.tape.trans (bA.tape.trans kp.tape))
  · exact u8.os.trans (grow.os.trans (bA.os.trans kp.os))
  · exact u8.output.trans (grow.output.trans (bA.output.trans kp.output))
theorem rep_snoc {Spx : ByteArray → Option (ByteArray × δ)} {m : Nat} {b' r1 b0 : ByteArray} {N : Nat} (hx : Spx b' = some (r1, d)) (h : repSp Spx N b0 = (match repSp Spx (m + 1) b' with | none => none | some (r, l') => some (r, l ++ l'))) :
    repSp Spx N b0 = (match repSp Spx m r1 with | none => none | some (r, l') => some (r, (l ++ [d]) ++ l')) := by
  rw [h]
  have : repSp Spx (m + 1) b' = (match repSp Spx m r1 with | none => none | some (r', l') => some (r', d :: l')) := by
    show (match Spx b' with | none => none | some (r, x) => match repSp Spx m r with | none => none | some (r', l) => some (r', x :: l)) = _
    rw [hx]
  rw [this]
  rcases repSp Spx m r1 with _ | ⟨r, l'⟩
  · rfl
  · simp
end
end WW
