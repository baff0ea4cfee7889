/-
  The walk of the law BlakeApart.
-/
import Derived.Test.YtfbjjlejmcpphaaDoorPlain
open Go Go.RowKit
namespace BB
theorem st0_nil : (st0 []).Ok 0 := st0_ok []
theorem feed_ok {s : St} {L : Nat} (h : s.Ok L) (a : ByteArray) : (s.feed a.data.toList).Ok (L + a.size) := by
  have := h.feed a.data.toList
  rwa [Array.length_toList] at this
theorem dappend (a b : ByteArray) : dg (a ++ b) = outS (((st0 []).feed a.data.toList).feed b.data.toList).done := by
  unfold dg
  rw [← St.feed_append]
  simp
end BB
namespace Go.Proofs.YtfbjjlejmcpphaaDoor
open BB
/-- two digests beside each other -/
structure Two (w0 : World) (b1 b2 : Nat) (s t : St) (w : World) : Prop where
  below : Below w0.heap.size w0 w
  d1 : Dg w b1 s
  d2 : Dg w b2 t
  tabs : Tabs w
  n1 : NoTab b1
  n2 : NoTab b2
  ne : b1 ≠ b2
  l1 : w0.heap.size ≤ b1
  l2 : w0.heap.size ≤ b2
section
variable {w0 w w' : World} {b1 b2 : Nat} {s t s' : St}
theorem Two.put1 (h : Two w0 b1 b2 s t w) (hk : Keep b1 w w') (hd : Dg w' b1 s') : Two w0 b1 b2 s' t w' :=
  ⟨h.below.trans (hk.below h.l1 h.below.size), hd, Blk.keep h.d2 hk (Ne.symm h.ne), h.tabs.keep hk h.n1, h.n1, h.n2, h.ne, h.l1, h.l2⟩
theorem Two.put2 (h : Two w0 b1 b2 s t w) (hk : Keep b2 w w') (hd : Dg w' b2 s') : Two w0 b1 b2 s s' w' :=
  ⟨h.below.trans (hk.below h.l2 h.below.size), Blk.keep h.d1 hk h.ne, hd, h.tabs.keep hk h.n2, h.n1, h.n2, h.ne, h.l1, h.l2⟩
theorem Two.on (h : Two w0 b1 b2 s t w) (hb : Below w.heap.size w w') : Two w0 b1 b2 s t w' :=
  ⟨h.below.trans (hb.mono h.below.size), Blk.below h.d1 hb (Blk.lt h.d1), Blk.below h.d2 hb (Blk.lt h.d2), h.tabs.below hb (Nat.le_refl _), h.n1, h.n2, h.ne, h.l1, h.l2⟩
end
end Go.Proofs.YtfbjjlejmcpphaaDoor
