/-
  The laws of layer 14, of the code that landed.
-/
import Derived.Test.YtegkhhegapnkpaaDoorKTaBelow
import Derived.Test.YtegkhhegapnkpaaDoorKTaRefC
import Derived.Test.YtegkhhegapnkpaaDoorKTaOpen
import Derived.Test.YtegkhhegapnkpaaDoorKTaFill
open Go Go.RowKit
namespace Go.Proofs.YtegkhhegapnkpaaDoor
open TA CC WW BB
theorem lawPtal (d n : Int) (L : List Vw) (v : Value) (w : World) (hd : I64 d) (hn : I64 n) (hv : OpsA w v L) (hm : MemA L) (hT : Tabs w) :
    Calls Tryd.prog 10 #[.agg #[.int .i64 d, .int .i64 n], v] w fun e w' => e = .returned (.bool true) ∧ Below w.heap.size w w' := lawP14 theCode14 d n L v w hd hn hT hv hm
theorem lawCtal (a b : Nat) (L : List Vw) (v : Value) (w : World) (ha : a < 256) (hb : b < 256) (hv : OpsA w v L) (hm : MemA L) (hT : Tabs w) :
    Calls Tryd.prog 11 #[.agg #[.int .u8 (a : Int), .int .u8 (b : Int)], v] w fun e w' => e = .returned (.bool true) ∧ Below w.heap.size w w' := lawC14 theCode14 a b L v w ha hb hT hv hm
theorem lawAtal (a : Nat) (wv : Value) (l : List Nat) (b : Nat) (w : World) (ha : a < 256) (hv : NatsAt w wv l) (hb : b < 256) (hT : Tabs w) :
    Calls Tryd.prog 12 #[.int .u8 (a : Int), wv, .int .u8 (b : Int)] w fun e w' => e = .returned (.bool true) ∧ Below w.heap.size w w' := lawA14 theCode14 a l wv b w ha hb hT hv
end Go.Proofs.YtegkhhegapnkpaaDoor
