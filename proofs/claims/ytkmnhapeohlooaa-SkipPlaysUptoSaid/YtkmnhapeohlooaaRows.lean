/-
  No cell of these rows narrows 'for every input' (looked for: loops, veiled, ifaces, maps, wideKeys, modest, calm, conditions, laid).
  DERIVED. THE GIVEN ROWS OF THIS SEAT. 8 by the template 'for every input the law returns true; each argument reads behind the call as it read before'; 0 by the template 'total and deterministic' (their statements: YtkmnhapeohlooaaTotals.lean).
  GIVEN WITH THE SEED: the statements are not yours to turn. If you find one false, say at which input.
  Laid BY PROGRAM, IN A SANDBOX (cutbox-rows.mjs): the forced cells as the released guide's own fill.sh prints them over the translation 5d13e45fdacfc8de… (all of the seat's roots in one cut). By AI agents, Wed Nov 11 2026. No macro, syntax, notation, axiom, sorry.
-/
import Derived.Test.YtkmnhapeohlooaaChecked
import GoSem.Claim
import GoSem.ClaimJoined
import GoSem.ClaimMapViews
import Derived.JoinedTies
import Derived.KernelRfl
namespace Go.Proofs.Ytkmnhapeohlooaa
/- THE CELL 'sum', in the pinned program and in every row, IS THE sha256 OF THE DUMP (.gsa) THAT YtkmnhapeohlooaaProg.lean LOADS. Nothing in Lean hashes anything: it is a label: what it is worth is what the hold of that sum in a sandbox is worth. -/
noncomputable def Try.pinned : Pinned := { name := "ytkmnhapeohlooaa", sum := "5d13e45fdacfc8deeee32c8a699dd91219193d229c34900f8ab6a9e520b4a974", checked := Try.checked }
namespace Rows
def none {H : Type} : Left H := { results := [], args := [] }

/-- 'stoalaw17.MvccPlays': WHATEVER THE INPUT: true; the input reads as it did. -/
def mvccPlaysSpec : ChangeSpec := { name := "mvccPlays", fn := fun _ => fun
  | [d] => { results := [.lit (.bool true)], args := [d] }
  | _ => none }
def mvccPlaysRow : OpenClaim := { program := "ytkmnhapeohlooaa", sum := "5d13e45fdacfc8deeee32c8a699dd91219193d229c34900f8ab6a9e520b4a974", func := "stoa/stoalaw17.MvccPlays", spec := "mvccPlays", recurses := true, apart := false }
def MvccPlaysSaid : Prop := mvccPlaysRow.holds Try.pinned (OpenSpec.ofChange mvccPlaysSpec)

/-- ITS FALSE NEIGHBOUR: 'it returns false'. Refute it at one input. -/
def mvccPlaysWrong : ChangeSpec := { name := "mvccPlays", fn := fun _ => fun
  | [d] => { results := [.lit (.bool false)], args := [d] }
  | _ => none }
def MvccPlaysWrongFalsely : Prop := mvccPlaysRow.holds Try.pinned (OpenSpec.ofChange mvccPlaysWrong)

/-- 'stoalaw17.MvccRises': WHATEVER THE INPUT: true; the input reads as it did. -/
def mvccRisesSpec : ChangeSpec := { name := "mvccRises", fn := fun _ => fun
  | [d] => { results := [.lit (.bool true)], args := [d] }
  | _ => none }
def mvccRisesRow : OpenClaim := { program := "ytkmnhapeohlooaa", sum := "5d13e45fdacfc8deeee32c8a699dd91219193d229c34900f8ab6a9e520b4a974", func := "stoa/stoalaw17.MvccRises", spec := "mvccRises", recurses := true, apart := false }
def MvccRisesSaid : Prop := mvccRisesRow.holds Try.pinned (OpenSpec.ofChange mvccRisesSpec)

/-- ITS FALSE NEIGHBOUR: 'it returns false'. Refute it at one input. -/
def mvccRisesWrong : ChangeSpec := { name := "mvccRises", fn := fun _ => fun
  | [d] => { results := [.lit (.bool false)], args := [d] }
  | _ => none }
def MvccRisesWrongFalsely : Prop := mvccRisesRow.holds Try.pinned (OpenSpec.ofChange mvccRisesWrong)

/-- 'stoalaw17.MvccFloors': WHATEVER THE INPUT: true; the input reads as it did. -/
def mvccFloorsSpec : ChangeSpec := { name := "mvccFloors", fn := fun _ => fun
  | [d] => { results := [.lit (.bool true)], args := [d] }
  | _ => none }
def mvccFloorsRow : OpenClaim := { program := "ytkmnhapeohlooaa", sum := "5d13e45fdacfc8deeee32c8a699dd91219193d229c34900f8ab6a9e520b4a974", func := "stoa/stoalaw17.MvccFloors", spec := "mvccFloors", recurses := true, apart := false }
def MvccFloorsSaid : Prop := mvccFloorsRow.holds Try.pinned (OpenSpec.ofChange mvccFloorsSpec)

/-- ITS FALSE NEIGHBOUR: 'it returns false'. Refute it at one input. -/
def mvccFloorsWrong : ChangeSpec := { name := "mvccFloors", fn := fun _ => fun
  | [d] => { results := [.lit (.bool false)], args := [d] }
  | _ => none }
def MvccFloorsWrongFalsely : Prop := mvccFloorsRow.holds Try.pinned (OpenSpec.ofChange mvccFloorsWrong)

/-- 'stoalaw17.MvccEnds': WHATEVER THE INPUT: true; the input reads as it did. -/
def mvccEndsSpec : ChangeSpec := { name := "mvccEnds", fn := fun _ => fun
  | [d] => { results := [.lit (.bool true)], args := [d] }
  | _ => none }
def mvccEndsRow : OpenClaim := { program := "ytkmnhapeohlooaa", sum := "5d13e45fdacfc8deeee32c8a699dd91219193d229c34900f8ab6a9e520b4a974", func := "stoa/stoalaw17.MvccEnds", spec := "mvccEnds", recurses := true, apart := false }
def MvccEndsSaid : Prop := mvccEndsRow.holds Try.pinned (OpenSpec.ofChange mvccEndsSpec)

/-- ITS FALSE NEIGHBOUR: 'it returns false'. Refute it at one input. -/
def mvccEndsWrong : ChangeSpec := { name := "mvccEnds", fn := fun _ => fun
  | [d] => { results := [.lit (.bool false)], args := [d] }
  | _ => none }
def MvccEndsWrongFalsely : Prop := mvccEndsRow.holds Try.pinned (OpenSpec.ofChange mvccEndsWrong)

/-- 'stoalaw18.SkipPlays': WHATEVER THE INPUT: true; the input reads as it did. -/
def skipPlaysSpec : ChangeSpec := { name := "skipPlays", fn := fun _ => fun
  | [d1, d2] => { results := [.lit (.bool true)], args := [d1, d2] }
  | _ => none }
def skipPlaysRow : OpenClaim := { program := "ytkmnhapeohlooaa", sum := "5d13e45fdacfc8deeee32c8a699dd91219193d229c34900f8ab6a9e520b4a974", func := "stoa/stoalaw18.SkipPlays", spec := "skipPlays", inPlace := ["internal/bytealg.Compare"], unfollowed := true, recurses := true, apart := false }
def SkipPlaysSaid : Prop := skipPlaysRow.holds Try.pinned (OpenSpec.ofChange skipPlaysSpec)

/-- ITS FALSE NEIGHBOUR: 'it returns false'. Refute it at one input. -/
def skipPlaysWrong : ChangeSpec := { name := "skipPlays", fn := fun _ => fun
  | [d1, d2] => { results := [.lit (.bool false)], args := [d1, d2] }
  | _ => none }
def SkipPlaysWrongFalsely : Prop := skipPlaysRow.holds Try.pinned (OpenSpec.ofChange skipPlaysWrong)

/-- 'stoalaw18.SkipHeights': WHATEVER THE INPUT: true; the input reads as it did. -/
def skipHeightsSpec : ChangeSpec := { name := "skipHeights", fn := fun _ => fun
  | [d1, d2, d3, d4, d5] => { results := [.lit (.bool true)], args := [d1, d2, d3, d4, d5] }
  | _ => none }
def skipHeightsRow : OpenClaim := { program := "ytkmnhapeohlooaa", sum := "5d13e45fdacfc8deeee32c8a699dd91219193d229c34900f8ab6a9e520b4a974", func := "stoa/stoalaw18.SkipHeights", spec := "skipHeights", inPlace := ["internal/bytealg.Compare"], unfollowed := true, recurses := true, apart := false }
def SkipHeightsSaid : Prop := skipHeightsRow.holds Try.pinned (OpenSpec.ofChange skipHeightsSpec)

/-- ITS FALSE NEIGHBOUR: 'it returns false'. Refute it at one input. -/
def skipHeightsWrong : ChangeSpec := { name := "skipHeights", fn := fun _ => fun
  | [d1, d2, d3, d4, d5] => { results := [.lit (.bool false)], args := [d1, d2, d3, d4, d5] }
  | _ => none }
def SkipHeightsWrongFalsely : Prop := skipHeightsRow.holds Try.pinned (OpenSpec.ofChange skipHeightsWrong)

/-- 'stoalaw18.SkipHolds': WHATEVER THE INPUT: true; the input reads as it did. -/
def skipHoldsSpec : ChangeSpec := { name := "skipHolds", fn := fun _ => fun
  | [d1, d2, d3] => { results := [.lit (.bool true)], args := [d1, d2, d3] }
  | _ => none }
def skipHoldsRow : OpenClaim := { program := "ytkmnhapeohlooaa", sum := "5d13e45fdacfc8deeee32c8a699dd91219193d229c34900f8ab6a9e520b4a974", func := "stoa/stoalaw18.SkipHolds", spec := "skipHolds", inPlace := ["internal/bytealg.Compare"], unfollowed := true, recurses := true, apart := false }
def SkipHoldsSaid : Prop := skipHoldsRow.holds Try.pinned (OpenSpec.ofChange skipHoldsSpec)

/-- ITS FALSE NEIGHBOUR: 'it returns false'. Refute it at one input. -/
def skipHoldsWrong : ChangeSpec := { name := "skipHolds", fn := fun _ => fun
  | [d1, d2, d3] => { results := [.lit (.bool false)], args := [d1, d2, d3] }
  | _ => none }
def SkipHoldsWrongFalsely : Prop := skipHoldsRow.holds Try.pinned (OpenSpec.ofChange skipHoldsWrong)

/-- 'stoalaw18.SkipPages': WHATEVER THE INPUT: true; the input reads as it did. -/
def skipPagesSpec : ChangeSpec := { name := "skipPages", fn := fun _ => fun
  | [d1, d2, d3, d4] => { results := [.lit (.bool true)], args := [d1, d2, d3, d4] }
  | _ => none }
def skipPagesRow : OpenClaim := { program := "ytkmnhapeohlooaa", sum := "5d13e45fdacfc8deeee32c8a699dd91219193d229c34900f8ab6a9e520b4a974", func := "stoa/stoalaw18.SkipPages", spec := "skipPages", inPlace := ["internal/bytealg.Compare"], unfollowed := true, recurses := true, apart := false }
def SkipPagesSaid : Prop := skipPagesRow.holds Try.pinned (OpenSpec.ofChange skipPagesSpec)

/-- ITS FALSE NEIGHBOUR: 'it returns false'. Refute it at one input. -/
def skipPagesWrong : ChangeSpec := { name := "skipPages", fn := fun _ => fun
  | [d1, d2, d3, d4] => { results := [.lit (.bool false)], args := [d1, d2, d3, d4] }
  | _ => none }
def SkipPagesWrongFalsely : Prop := skipPagesRow.holds Try.pinned (OpenSpec.ofChange skipPagesWrong)

/- THE SECOND FORM. 'bulk': how many values and letters a reading holds, each counted each time it is reached (what is shared counts as often as it is met; a slice's spare places count too). A statement '..UptoSaid' is the law's where the arguments, and the package variables that the reading takes, are together of bulk at most 1048576: NARROWER than '..Said'. Prove '..Said' where nothing that the law and all that it calls make is longer than what came in: it says more and counts as full. Else prove '..UptoSaid'. A law counts once. -/
mutual
def uptoBulk {H : Type} : DataW H → Nat
  | .lit (.string bytes) => bytes.length + 1
  | .lit _ => 1
  | .nil => 1
  | .ptr d => uptoBulk d + 1
  | .slice elems spare => uptoBulkAll elems + uptoBulkAll spare + 1
  | .agg parts => uptoBulkAll parts + 1
  | .iface _ d => uptoBulk d + 1
  | .map entries => uptoBulkEntries entries + 1
  | .held _ => 1
def uptoBulkAll {H : Type} : List (DataW H) → Nat
  | [] => 0
  | d :: r => uptoBulk d + uptoBulkAll r
def uptoBulkEntries {H : Type} : List (Lit × DataW H) → Nat
  | [] => 0
  | x :: r => uptoBulkEntry x + uptoBulkEntries r
def uptoBulkEntry {H : Type} : Lit × DataW H → Nat
  | (.string bytes, d) => bytes.length + uptoBulk d + 1
  | (_, d) => uptoBulk d + 1
 end
def uptoSmall : (H : Type) → List (DataW H) → Bool := fun _ ds => decide (uptoBulkAll ds ≤ 1048576)
def OpenSpec.upto (s : _root_.Go.ChangeSpec) : _root_.Go.OpenSpec := { _root_.Go.OpenSpec.ofChange s with cond := some uptoSmall }

/-- 'stoalaw17.MvccPlays', WHERE WHAT IT READS IS OF BULK AT MOST 1048576: true; the input reads as it did. -/
def mvccPlaysUptoRow : OpenClaim := { program := "ytkmnhapeohlooaa", sum := "5d13e45fdacfc8deeee32c8a699dd91219193d229c34900f8ab6a9e520b4a974", func := "stoa/stoalaw17.MvccPlays", spec := "mvccPlays", recurses := true, apart := false, narrowed := true }
def MvccPlaysUptoSaid : Prop := mvccPlaysUptoRow.holds Try.pinned (OpenSpec.upto mvccPlaysSpec)

/-- 'stoalaw17.MvccRises', WHERE WHAT IT READS IS OF BULK AT MOST 1048576: true; the input reads as it did. -/
def mvccRisesUptoRow : OpenClaim := { program := "ytkmnhapeohlooaa", sum := "5d13e45fdacfc8deeee32c8a699dd91219193d229c34900f8ab6a9e520b4a974", func := "stoa/stoalaw17.MvccRises", spec := "mvccRises", recurses := true, apart := false, narrowed := true }
def MvccRisesUptoSaid : Prop := mvccRisesUptoRow.holds Try.pinned (OpenSpec.upto mvccRisesSpec)

/-- 'stoalaw17.MvccFloors', WHERE WHAT IT READS IS OF BULK AT MOST 1048576: true; the input reads as it did. -/
def mvccFloorsUptoRow : OpenClaim := { program := "ytkmnhapeohlooaa", sum := "5d13e45fdacfc8deeee32c8a699dd91219193d229c34900f8ab6a9e520b4a974", func := "stoa/stoalaw17.MvccFloors", spec := "mvccFloors", recurses := true, apart := false, narrowed := true }
def MvccFloorsUptoSaid : Prop := mvccFloorsUptoRow.holds Try.pinned (OpenSpec.upto mvccFloorsSpec)

/-- 'stoalaw17.MvccEnds', WHERE WHAT IT READS IS OF BULK AT MOST 1048576: true; the input reads as it did. -/
def mvccEndsUptoRow : OpenClaim := { program := "ytkmnhapeohlooaa", sum := "5d13e45fdacfc8deeee32c8a699dd91219193d229c34900f8ab6a9e520b4a974", func := "stoa/stoalaw17.MvccEnds", spec := "mvccEnds", recurses := true, apart := false, narrowed := true }
def MvccEndsUptoSaid : Prop := mvccEndsUptoRow.holds Try.pinned (OpenSpec.upto mvccEndsSpec)

/-- 'stoalaw18.SkipPlays', WHERE WHAT IT READS IS OF BULK AT MOST 1048576: true; the input reads as it did. -/
def skipPlaysUptoRow : OpenClaim := { program := "ytkmnhapeohlooaa", sum := "5d13e45fdacfc8deeee32c8a699dd91219193d229c34900f8ab6a9e520b4a974", func := "stoa/stoalaw18.SkipPlays", spec := "skipPlays", inPlace := ["internal/bytealg.Compare"], unfollowed := true, recurses := true, apart := false, narrowed := true }
def SkipPlaysUptoSaid : Prop := skipPlaysUptoRow.holds Try.pinned (OpenSpec.upto skipPlaysSpec)

/-- 'stoalaw18.SkipHeights', WHERE WHAT IT READS IS OF BULK AT MOST 1048576: true; the input reads as it did. -/
def skipHeightsUptoRow : OpenClaim := { program := "ytkmnhapeohlooaa", sum := "5d13e45fdacfc8deeee32c8a699dd91219193d229c34900f8ab6a9e520b4a974", func := "stoa/stoalaw18.SkipHeights", spec := "skipHeights", inPlace := ["internal/bytealg.Compare"], unfollowed := true, recurses := true, apart := false, narrowed := true }
def SkipHeightsUptoSaid : Prop := skipHeightsUptoRow.holds Try.pinned (OpenSpec.upto skipHeightsSpec)

/-- 'stoalaw18.SkipHolds', WHERE WHAT IT READS IS OF BULK AT MOST 1048576: true; the input reads as it did. -/
def skipHoldsUptoRow : OpenClaim := { program := "ytkmnhapeohlooaa", sum := "5d13e45fdacfc8deeee32c8a699dd91219193d229c34900f8ab6a9e520b4a974", func := "stoa/stoalaw18.SkipHolds", spec := "skipHolds", inPlace := ["internal/bytealg.Compare"], unfollowed := true, recurses := true, apart := false, narrowed := true }
def SkipHoldsUptoSaid : Prop := skipHoldsUptoRow.holds Try.pinned (OpenSpec.upto skipHoldsSpec)

/-- 'stoalaw18.SkipPages', WHERE WHAT IT READS IS OF BULK AT MOST 1048576: true; the input reads as it did. -/
def skipPagesUptoRow : OpenClaim := { program := "ytkmnhapeohlooaa", sum := "5d13e45fdacfc8deeee32c8a699dd91219193d229c34900f8ab6a9e520b4a974", func := "stoa/stoalaw18.SkipPages", spec := "skipPages", inPlace := ["internal/bytealg.Compare"], unfollowed := true, recurses := true, apart := false, narrowed := true }
def SkipPagesUptoSaid : Prop := skipPagesUptoRow.holds Try.pinned (OpenSpec.upto skipPagesSpec)

end Rows
end Go.Proofs.Ytkmnhapeohlooaa
