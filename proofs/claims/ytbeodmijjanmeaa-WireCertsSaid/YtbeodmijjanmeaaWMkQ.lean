/-
  What makes the closure that cuts a list off.
-/
import Derived.Test.YtbeodmijjanmeaaWListQ
open Go Go.RowKit
namespace Go.Proofs.Ytbeodmijjanmeaa
open WW BB
set_option maxRecDepth 100000 in
theorem mk_listQ {δ : Type} (Spx : ByteArray → Option (ByteArray × δ)) (Rx : RelT δ) (hR : SoundR Rx) (hsz : ∀ b r x, Spx b = some (r, x) → r.size ≤ b.size) (hone : ∀ d w lo hi g, Rx d w lo hi zQ g → ∀ i, i < 3 → (g i).oneCell' = true)
    (t o n most : Nat) (kev : Nat) (env : Array Value) (w : World) (hmost : most ≤ 100) (ho : o < n) (ht : t < w.heap.size) (hev : EachR Try.prog (.func (.func kev) #[] env) 3 zQ Spx Rx) :
    Calls Try.prog 78 #[.pointer (some ⟨t, o, none⟩), .int .i64 (most : Int), .func (.func kev) #[] env] w (MakesR Try.prog t n w (fun f => f o = .slice none 0 0) (countSp (most : Int) Spx) (listR 34 3 zQ Rx o)) := by
  have HR := Lib.hid hR
  have HSZ := Lib.hid hsz
  have HONE := Lib.hid hone
  have HO := Lib.hid ho
  have HT := Lib.hid ht
  have HM := Lib.hid hmost
  have HEV := Lib.hid hev
  clear hR hsz hone ho ht hmost hev
  go_enter Try.func78, Try.ntmps78
  go_wp2_with fail
  go_ret
  have b1 := (Below.refl w.heap.size w).alloc (Nat.le_refl _) (.cells #[.pointer (some ⟨t, o, none⟩)] 107)
  have b2 := b1.alloc b1.size (.cells #[.int .i64 (most : Int)] 3)
  have b3 := b2.alloc b2.size (.cells #[.func (.func kev) #[] env] 62)
  have := HT.out
  refine ⟨_, _, rfl, b3, fun f b wx hb hk hx hp => ⟨_, _, rfl, own_listQ, ?_⟩⟩
  refine listQ_walk Spx Rx HR.out HSZ.out HONE.out t n o (w.heap.size + 1) (w.heap.size + 2) w.heap.size most kev env f b wx HM.out HO.out hb hx hp HEV.out ?_ ?_ ?_ (by omega) (by omega) (by omega)
  · exact keep_cell2 (cell_old (cell_at _ _ _ _ (by simp))) (by omega) hk
  · exact keep_cell2 (cell_at _ _ _ _ (by simp)) (by omega) hk
  · exact keep_cell2 (cell_old (cell_old (cell_at _ _ _ _ rfl))) (by omega) hk
end Go.Proofs.Ytbeodmijjanmeaa
