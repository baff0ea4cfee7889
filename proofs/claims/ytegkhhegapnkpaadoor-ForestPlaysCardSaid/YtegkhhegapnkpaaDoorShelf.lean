/-
  The layings: the library's functions as this program numbers them, each body compared by the kernel.
-/
import Derived.Ground.SlsfProg
import Derived.Shelf.SlSortCmp.InsertionK
import Derived.Shelf.Slices.ReverseS
import Derived.Ground.Names2Prog
import Derived.Test.YtegkhhegapnkpaaDoorProg
namespace Go.Proofs
open Go.Shelf
def Tryd.n20_ren : Go.Shelf.Ren := ⟨fun | 20 => 189 | n => n, fun | 24 => 98 | 22 => 22 | 3 => 3 | 25 => 203 | 4 => 4 | 0 => 0 | n => n, fun | n => n⟩
theorem Tryd.n20 : Go.Proofs.SlLaysF0.n20 Tryd.prog Tryd.n20_ren := {
  mixed := by kernel_rfl
  f20 := ⟨Tryd.f189.name, by decide, Tryd.func189.trans (congrArg some (by kernel_rfl))⟩
  t0 := Tryd.underlying0
  a0 := Tryd.isAgg0
  z0 := Tryd.sizeOf0
  v0 := Tryd.zeroValue0
  t3 := Tryd.underlying3
  a3 := Tryd.isAgg3
  z3 := Tryd.sizeOf3
  v3 := Tryd.zeroValue3
  t4 := Tryd.underlying4
  a4 := Tryd.isAgg4
  z4 := Tryd.sizeOf4
  v4 := Tryd.zeroValue4
  t22 := Tryd.underlying22
  a22 := Tryd.isAgg22
  z22 := Tryd.sizeOf22
  v22 := Tryd.zeroValue22
  t25 := Tryd.underlying203
  a25 := Tryd.isAgg203
  z25 := Tryd.sizeOf203
  v25 := Tryd.zeroValue203 }
def Tryd.lays217_ren : Go.Shelf.Ren := ⟨fun | 17 => 97 | n => n, fun | 24 => 44 | 9 => 9 | 3 => 3 | 4 => 4 | 0 => 0 | n => n, fun | n => n⟩
theorem Tryd.lays217 : Go.Proofs.Lays2.n17 Tryd.prog Tryd.lays217_ren := {
  mixed := by kernel_rfl
  f17 := Tryd.func97.trans (congrArg some (by kernel_rfl))
  t0 := Tryd.underlying0
  a0 := Tryd.isAgg0
  z0 := Tryd.sizeOf0
  v0 := Tryd.zeroValue0
  t3 := Tryd.underlying3
  a3 := Tryd.isAgg3
  z3 := Tryd.sizeOf3
  v3 := Tryd.zeroValue3
  t4 := Tryd.underlying4
  a4 := Tryd.isAgg4
  z4 := Tryd.sizeOf4
  v4 := Tryd.zeroValue4
  t9 := Tryd.underlying9
  a9 := Tryd.isAgg9
  z9 := Tryd.sizeOf9
  v9 := Tryd.zeroValue9
  t24 := Tryd.underlying44
  a24 := Tryd.isAgg44
  z24 := Tryd.sizeOf44
  v24 := Tryd.zeroValue44 }
end Go.Proofs
