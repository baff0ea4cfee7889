/-
  CountLists, whole: what the code's Distinct and Top answer is laid in.
-/
import Derived.Test.YtcmgiiobjminlaaLSort
open Go Go.RowKit
namespace Go.Proofs.Ytcmgiiobjminlaa
open WW BB
theorem distinct_ok : DistinctOK := fun l v n w hv hl hn => cdistinct_any l v n w hv (by omega) hn
theorem top_ok : TopOK := fun l v k w hv hl => ctop_any l v k w hv (by omega)
theorem countLists_walk (v : Value) (l : List Int) (n k : Int) (w : World) (hv : IntsAt w v l) (hr : -9223372036854775808 ≤ n ∧ n ≤ 9223372036854775807) : Calls Try.prog 4 #[v, .int .i64 n, .int .i64 k] w fun e w' => e = .returned (.bool true) ∧ Below w.heap.size w w' := countLists_of distinct_ok top_ok v l n k w hv hr
end Go.Proofs.Ytcmgiiobjminlaa
