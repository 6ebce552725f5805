/-
  DERIVED: THE SHELF's CONTRACTS AT THIS DUMP, IN PLAIN WORDS (tools/lay-plain.mjs out of 'YtkmnhapeohlooaaShelf.lean', which tools/lay-shelf.mjs wrote): THE SAME DECLARATIONS UNDER THE SAME NAMES: 'import', 'namespace', 'open', 'def', 'theorem' AND NOTHING ELSE: no command of the shelf's: FOR A HAND-IN. Each laying: the table of numbers ('.._ren') and one theorem, a field a fact of the dump's own or the kernel's comparison; each contract: ONE APPLICATION.
-/
import Derived.Shelf.SlGeneric
import Derived.Shelf.SortG.Plain
import Derived.Shelf.SortG.SortNone
import Derived.Ground.SlgnProg
import Derived.Test.YtkmnhapeohlooaaProg
namespace Go.Proofs
open Go.Shelf
def Try.sort85_ren : Go.Shelf.Ren := ⟨fun | 53 => 85 | 64 => 93 | 63 => 92 | 78 => 103 | 79 => 104 | 70 => 94 | 71 => 95 | 72 => 96 | 73 => 97 | 74 => 98 | 75 => 99 | 59 => 100 | 76 => 101 | 77 => 102 | 88 => 105 | 89 => 106 | 90 => 107 | 91 => 108 | 92 => 109 | 68 => 110 | 96 => 111 | n => n, fun | 22 => 26 | 23 => 2 | 3 => 3 | 51 => 119 | 0 => 0 | 67 => 129 | 69 => 131 | 4 => 4 | 61 => 122 | 60 => 121 | 44 => 71 | 5 => 5 | 9 => 9 | 75 => 132 | 79 => 136 | 83 => 139 | 84 => 140 | n => n, fun | n => n⟩
theorem Try.sort85 : Go.Proofs.SlLaysN.n53 Try.prog Try.sort85_ren := {
  mixed := by kernel_rfl
  f53 := ⟨Try.f85.name, by decide, Try.func85.trans (congrArg some (by kernel_rfl))⟩
  f59 := ⟨Try.f100.name, by decide, Try.func100.trans (congrArg some (by kernel_rfl))⟩
  f63 := ⟨Try.f92.name, by decide, Try.func92.trans (congrArg some (by kernel_rfl))⟩
  f64 := Try.func93.trans (congrArg some (by kernel_rfl))
  f68 := ⟨Try.f110.name, by decide, Try.func110.trans (congrArg some (by kernel_rfl))⟩
  f70 := ⟨Try.f94.name, by decide, Try.func94.trans (congrArg some (by kernel_rfl))⟩
  f71 := ⟨Try.f95.name, by decide, Try.func95.trans (congrArg some (by kernel_rfl))⟩
  f72 := ⟨Try.f96.name, by decide, Try.func96.trans (congrArg some (by kernel_rfl))⟩
  f73 := ⟨Try.f97.name, by decide, Try.func97.trans (congrArg some (by kernel_rfl))⟩
  f74 := ⟨Try.f98.name, by decide, Try.func98.trans (congrArg some (by kernel_rfl))⟩
  f75 := ⟨Try.f99.name, by decide, Try.func99.trans (congrArg some (by kernel_rfl))⟩
  f76 := ⟨Try.f101.name, by decide, Try.func101.trans (congrArg some (by kernel_rfl))⟩
  f77 := ⟨Try.f102.name, by decide, Try.func102.trans (congrArg some (by kernel_rfl))⟩
  f78 := Try.func103.trans (congrArg some (by kernel_rfl))
  f79 := Try.func104.trans (congrArg some (by kernel_rfl))
  f88 := ⟨Try.f105.name, by decide, Try.func105.trans (congrArg some (by kernel_rfl))⟩
  f89 := Try.func106.trans (congrArg some (by kernel_rfl))
  f90 := Try.func107.trans (congrArg some (by kernel_rfl))
  f91 := ⟨Try.f108.name, by decide, Try.func108.trans (congrArg some (by kernel_rfl))⟩
  f92 := ⟨Try.f109.name, by decide, Try.func109.trans (congrArg some (by kernel_rfl))⟩
  f96 := ⟨Try.f111.name, by decide, Try.func111.trans (congrArg some (by kernel_rfl))⟩
  t0 := Try.underlying0
  a0 := Try.isAgg0
  z0 := Try.sizeOf0
  v0 := Try.zeroValue0
  t3 := Try.underlying3
  a3 := Try.isAgg3
  z3 := Try.sizeOf3
  v3 := Try.zeroValue3
  t4 := Try.underlying4
  a4 := Try.isAgg4
  z4 := Try.sizeOf4
  v4 := Try.zeroValue4
  t5 := Try.underlying5
  a5 := Try.isAgg5
  z5 := Try.sizeOf5
  v5 := Try.zeroValue5
  t9 := Try.underlying9
  a9 := Try.isAgg9
  z9 := Try.sizeOf9
  v9 := Try.zeroValue9
  t22 := Try.underlying26
  a22 := Try.isAgg26
  z22 := Try.sizeOf26
  v22 := Try.zeroValue26
  t23 := Try.underlying2
  a23 := Try.isAgg2
  z23 := Try.sizeOf2
  v23 := Try.zeroValue2
  t44 := Try.underlying71
  a44 := Try.isAgg71
  z44 := Try.sizeOf71
  v44 := Try.zeroValue71
  t51 := Try.underlying119
  a51 := Try.isAgg119
  z51 := Try.sizeOf119
  v51 := Try.zeroValue119
  t60 := Try.underlying121
  a60 := Try.isAgg121
  z60 := Try.sizeOf121
  v60 := Try.zeroValue121
  t61 := Try.underlying122
  a61 := Try.isAgg122
  z61 := Try.sizeOf122
  v61 := Try.zeroValue122
  t67 := Try.underlying129
  a67 := Try.isAgg129
  z67 := Try.sizeOf129
  v67 := Try.zeroValue129
  t69 := Try.underlying131
  a69 := Try.isAgg131
  z69 := Try.sizeOf131
  v69 := Try.zeroValue131
  t75 := Try.underlying132
  a75 := Try.isAgg132
  z75 := Try.sizeOf132
  v75 := Try.zeroValue132
  t79 := Try.underlying136
  a79 := Try.isAgg136
  z79 := Try.sizeOf136
  v79 := Try.zeroValue136
  t83 := Try.underlying139
  a83 := Try.isAgg139
  z83 := Try.sizeOf139
  v83 := Try.zeroValue139
  t84 := Try.underlying140
  a84 := Try.isAgg140
  z84 := Try.sizeOf140
  v84 := Try.zeroValue140 }
end Go.Proofs
