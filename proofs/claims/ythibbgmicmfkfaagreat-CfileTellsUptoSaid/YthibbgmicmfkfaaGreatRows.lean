/-
  No cell of these rows narrows 'for every input' (looked for: loops, veiled, ifaces, maps, wideKeys, modest, calm, conditions, laid).
  DERIVED. THE GIVEN ROWS OF THIS SEAT. 5 by the template 'for every input the law returns true; each argument reads behind the call as it read before'; 0 by the template 'total and deterministic' (their statements: YthibbgmicmfkfaaGreatTotals.lean).
  GIVEN WITH THE SEED: the statements are not yours to turn. If you find one false, say at which input.
  Laid BY PROGRAM, IN A SANDBOX (cutbox-rows.mjs): the forced cells as the released guide's own fill.sh prints them over the translation bd3d4c7baa37711e… (all of the seat's roots in one cut). By AI agents, Wed Nov 11 2026. No macro, syntax, notation, axiom, sorry.
-/
import Derived.Test.YthibbgmicmfkfaaGreatChecked
import GoSem.Claim
import GoSem.ClaimJoined
import GoSem.ClaimMapViews
import Derived.JoinedTies
import Derived.KernelRfl
namespace Go.Proofs.YthibbgmicmfkfaaGreat
/- THE CELL 'sum', in the pinned program and in every row, IS THE sha256 OF THE DUMP (.gsa) THAT YthibbgmicmfkfaaGreatProg.lean LOADS. Nothing in Lean hashes anything: it is a label: what it is worth is what the hold of that sum in a sandbox is worth. -/
noncomputable def Tryz.pinned : Pinned := { name := "ythibbgmicmfkfaagreat", sum := "bd3d4c7baa37711eafd5a47eb7542c9dad82c31d5124ae8fe76e11a945cd6f27", checked := Tryz.checked }
namespace Rows
def none {H : Type} : Left H := { results := [], args := [] }

/-- 'stoalaw12.BlockDecodes': WHATEVER THE INPUT: true; the input reads as it did. -/
def blockDecodesSpec : ChangeSpec := { name := "blockDecodes", fn := fun _ => fun
  | [d1, d2] => { results := [.lit (.bool true)], args := [d1, d2] }
  | _ => none }
def blockDecodesRow : OpenClaim := { program := "ythibbgmicmfkfaagreat", sum := "bd3d4c7baa37711eafd5a47eb7542c9dad82c31d5124ae8fe76e11a945cd6f27", func := "stoa/stoalaw12.BlockDecodes", spec := "blockDecodes", inPlace := ["internal/bytealg.IndexByte", "internal/bytealg.Compare"], unfollowed := true, recurses := true, apart := false }
def BlockDecodesSaid : Prop := blockDecodesRow.holds Tryz.pinned (OpenSpec.ofChange blockDecodesSpec)

/-- ITS FALSE NEIGHBOUR: 'it returns false'. Refute it at one input. -/
def blockDecodesWrong : ChangeSpec := { name := "blockDecodes", fn := fun _ => fun
  | [d1, d2] => { results := [.lit (.bool false)], args := [d1, d2] }
  | _ => none }
def BlockDecodesWrongFalsely : Prop := blockDecodesRow.holds Tryz.pinned (OpenSpec.ofChange blockDecodesWrong)

/-- 'stoalaw15.CfileBuilds': WHATEVER THE INPUT: true; the input reads as it did. -/
def cfileBuildsSpec : ChangeSpec := { name := "cfileBuilds", fn := fun _ => fun
  | [d1, d2, d3, d4] => { results := [.lit (.bool true)], args := [d1, d2, d3, d4] }
  | _ => none }
def cfileBuildsRow : OpenClaim := { program := "ythibbgmicmfkfaagreat", sum := "bd3d4c7baa37711eafd5a47eb7542c9dad82c31d5124ae8fe76e11a945cd6f27", func := "stoa/stoalaw15.CfileBuilds", spec := "cfileBuilds", inPlace := ["internal/bytealg.IndexByte", "internal/bytealg.Compare"], unfollowed := true, recurses := true, apart := false }
def CfileBuildsSaid : Prop := cfileBuildsRow.holds Tryz.pinned (OpenSpec.ofChange cfileBuildsSpec)

/-- ITS FALSE NEIGHBOUR: 'it returns false'. Refute it at one input. -/
def cfileBuildsWrong : ChangeSpec := { name := "cfileBuilds", fn := fun _ => fun
  | [d1, d2, d3, d4] => { results := [.lit (.bool false)], args := [d1, d2, d3, d4] }
  | _ => none }
def CfileBuildsWrongFalsely : Prop := cfileBuildsRow.holds Tryz.pinned (OpenSpec.ofChange cfileBuildsWrong)

/-- 'stoalaw15.CfileBack': WHATEVER THE INPUT: true; the input reads as it did. -/
def cfileBackSpec : ChangeSpec := { name := "cfileBack", fn := fun _ => fun
  | [d1, d2, d3, d4, d5] => { results := [.lit (.bool true)], args := [d1, d2, d3, d4, d5] }
  | _ => none }
def cfileBackRow : OpenClaim := { program := "ythibbgmicmfkfaagreat", sum := "bd3d4c7baa37711eafd5a47eb7542c9dad82c31d5124ae8fe76e11a945cd6f27", func := "stoa/stoalaw15.CfileBack", spec := "cfileBack", inPlace := ["internal/bytealg.IndexByte", "internal/bytealg.Compare"], unfollowed := true, recurses := true, apart := false }
def CfileBackSaid : Prop := cfileBackRow.holds Tryz.pinned (OpenSpec.ofChange cfileBackSpec)

/-- ITS FALSE NEIGHBOUR: 'it returns false'. Refute it at one input. -/
def cfileBackWrong : ChangeSpec := { name := "cfileBack", fn := fun _ => fun
  | [d1, d2, d3, d4, d5] => { results := [.lit (.bool false)], args := [d1, d2, d3, d4, d5] }
  | _ => none }
def CfileBackWrongFalsely : Prop := cfileBackRow.holds Tryz.pinned (OpenSpec.ofChange cfileBackWrong)

/-- 'stoalaw15.CfileSeeks': WHATEVER THE INPUT: true; the input reads as it did. -/
def cfileSeeksSpec : ChangeSpec := { name := "cfileSeeks", fn := fun _ => fun
  | [d1, d2, d3] => { results := [.lit (.bool true)], args := [d1, d2, d3] }
  | _ => none }
def cfileSeeksRow : OpenClaim := { program := "ythibbgmicmfkfaagreat", sum := "bd3d4c7baa37711eafd5a47eb7542c9dad82c31d5124ae8fe76e11a945cd6f27", func := "stoa/stoalaw15.CfileSeeks", spec := "cfileSeeks", inPlace := ["internal/bytealg.IndexByte", "internal/bytealg.Compare"], unfollowed := true, recurses := true, apart := false }
def CfileSeeksSaid : Prop := cfileSeeksRow.holds Tryz.pinned (OpenSpec.ofChange cfileSeeksSpec)

/-- ITS FALSE NEIGHBOUR: 'it returns false'. Refute it at one input. -/
def cfileSeeksWrong : ChangeSpec := { name := "cfileSeeks", fn := fun _ => fun
  | [d1, d2, d3] => { results := [.lit (.bool false)], args := [d1, d2, d3] }
  | _ => none }
def CfileSeeksWrongFalsely : Prop := cfileSeeksRow.holds Tryz.pinned (OpenSpec.ofChange cfileSeeksWrong)

/-- 'stoalaw15.CfileTells': WHATEVER THE INPUT: true; the input reads as it did. -/
def cfileTellsSpec : ChangeSpec := { name := "cfileTells", fn := fun _ => fun
  | [d1, d2, d3, d4, d5, d6, d7] => { results := [.lit (.bool true)], args := [d1, d2, d3, d4, d5, d6, d7] }
  | _ => none }
def cfileTellsRow : OpenClaim := { program := "ythibbgmicmfkfaagreat", sum := "bd3d4c7baa37711eafd5a47eb7542c9dad82c31d5124ae8fe76e11a945cd6f27", func := "stoa/stoalaw15.CfileTells", spec := "cfileTells", inPlace := ["internal/bytealg.IndexByte", "internal/bytealg.Compare"], unfollowed := true, recurses := true, apart := false }
def CfileTellsSaid : Prop := cfileTellsRow.holds Tryz.pinned (OpenSpec.ofChange cfileTellsSpec)

/-- ITS FALSE NEIGHBOUR: 'it returns false'. Refute it at one input. -/
def cfileTellsWrong : ChangeSpec := { name := "cfileTells", fn := fun _ => fun
  | [d1, d2, d3, d4, d5, d6, d7] => { results := [.lit (.bool false)], args := [d1, d2, d3, d4, d5, d6, d7] }
  | _ => none }
def CfileTellsWrongFalsely : Prop := cfileTellsRow.holds Tryz.pinned (OpenSpec.ofChange cfileTellsWrong)

/- THE SECOND FORM. 'bulk': how many values and letters a reading holds, each counted each time it is reached (what is shared counts as often as it is met; a slice's spare places count too). A statement '..UptoSaid' is the law's where the arguments, and the package variables that the reading takes, are together of bulk at most 1048576: NARROWER than '..Said'. Prove '..Said' where nothing that the law and all that it calls make is longer than what came in: it says more and counts as full. Else prove '..UptoSaid'. A law counts once. -/
mutual
def uptoBulk {H : Type} : DataW H → Nat
  | .lit (.string bytes) => bytes.length + 1
  | .lit _ => 1
  | .nil => 1
  | .ptr d => uptoBulk d + 1
  | .slice elems spare => uptoBulkAll elems + uptoBulkAll spare + 1
  | .agg parts => uptoBulkAll parts + 1
  | .iface _ d => uptoBulk d + 1
  | .map entries => uptoBulkEntries entries + 1
  | .held _ => 1
def uptoBulkAll {H : Type} : List (DataW H) → Nat
  | [] => 0
  | d :: r => uptoBulk d + uptoBulkAll r
def uptoBulkEntries {H : Type} : List (Lit × DataW H) → Nat
  | [] => 0
  | x :: r => uptoBulkEntry x + uptoBulkEntries r
def uptoBulkEntry {H : Type} : Lit × DataW H → Nat
  | (.string bytes, d) => bytes.length + uptoBulk d + 1
  | (_, d) => uptoBulk d + 1
 end
def uptoSmall : (H : Type) → List (DataW H) → Bool := fun _ ds => decide (uptoBulkAll ds ≤ 1048576)
def OpenSpec.upto (s : _root_.Go.ChangeSpec) : _root_.Go.OpenSpec := { _root_.Go.OpenSpec.ofChange s with cond := some uptoSmall }

/-- 'stoalaw12.BlockDecodes', WHERE WHAT IT READS IS OF BULK AT MOST 1048576: true; the input reads as it did. -/
def blockDecodesUptoRow : OpenClaim := { program := "ythibbgmicmfkfaagreat", sum := "bd3d4c7baa37711eafd5a47eb7542c9dad82c31d5124ae8fe76e11a945cd6f27", func := "stoa/stoalaw12.BlockDecodes", spec := "blockDecodes", inPlace := ["internal/bytealg.IndexByte", "internal/bytealg.Compare"], unfollowed := true, recurses := true, apart := false, narrowed := true }
def BlockDecodesUptoSaid : Prop := blockDecodesUptoRow.holds Tryz.pinned (OpenSpec.upto blockDecodesSpec)

/-- 'stoalaw15.CfileBuilds', WHERE WHAT IT READS IS OF BULK AT MOST 1048576: true; the input reads as it did. -/
def cfileBuildsUptoRow : OpenClaim := { program := "ythibbgmicmfkfaagreat", sum := "bd3d4c7baa37711eafd5a47eb7542c9dad82c31d5124ae8fe76e11a945cd6f27", func := "stoa/stoalaw15.CfileBuilds", spec := "cfileBuilds", inPlace := ["internal/bytealg.IndexByte", "internal/bytealg.Compare"], unfollowed := true, recurses := true, apart := false, narrowed := true }
def CfileBuildsUptoSaid : Prop := cfileBuildsUptoRow.holds Tryz.pinned (OpenSpec.upto cfileBuildsSpec)

/-- 'stoalaw15.CfileBack', WHERE WHAT IT READS IS OF BULK AT MOST 1048576: true; the input reads as it did. -/
def cfileBackUptoRow : OpenClaim := { program := "ythibbgmicmfkfaagreat", sum := "bd3d4c7baa37711eafd5a47eb7542c9dad82c31d5124ae8fe76e11a945cd6f27", func := "stoa/stoalaw15.CfileBack", spec := "cfileBack", inPlace := ["internal/bytealg.IndexByte", "internal/bytealg.Compare"], unfollowed := true, recurses := true, apart := false, narrowed := true }
def CfileBackUptoSaid : Prop := cfileBackUptoRow.holds Tryz.pinned (OpenSpec.upto cfileBackSpec)

/-- 'stoalaw15.CfileSeeks', WHERE WHAT IT READS IS OF BULK AT MOST 1048576: true; the input reads as it did. -/
def cfileSeeksUptoRow : OpenClaim := { program := "ythibbgmicmfkfaagreat", sum := "bd3d4c7baa37711eafd5a47eb7542c9dad82c31d5124ae8fe76e11a945cd6f27", func := "stoa/stoalaw15.CfileSeeks", spec := "cfileSeeks", inPlace := ["internal/bytealg.IndexByte", "internal/bytealg.Compare"], unfollowed := true, recurses := true, apart := false, narrowed := true }
def CfileSeeksUptoSaid : Prop := cfileSeeksUptoRow.holds Tryz.pinned (OpenSpec.upto cfileSeeksSpec)

/-- 'stoalaw15.CfileTells', WHERE WHAT IT READS IS OF BULK AT MOST 1048576: true; the input reads as it did. -/
def cfileTellsUptoRow : OpenClaim := { program := "ythibbgmicmfkfaagreat", sum := "bd3d4c7baa37711eafd5a47eb7542c9dad82c31d5124ae8fe76e11a945cd6f27", func := "stoa/stoalaw15.CfileTells", spec := "cfileTells", inPlace := ["internal/bytealg.IndexByte", "internal/bytealg.Compare"], unfollowed := true, recurses := true, apart := false, narrowed := true }
def CfileTellsUptoSaid : Prop := cfileTellsUptoRow.holds Tryz.pinned (OpenSpec.upto cfileTellsSpec)

end Rows
end Go.Proofs.YthibbgmicmfkfaaGreat
