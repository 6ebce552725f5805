/-
  No cell of these rows narrows 'for every input' (looked for: loops, veiled, ifaces, maps, wideKeys, modest, calm, conditions, laid).
  DERIVED. THE GIVEN ROWS OF THIS SEAT. 9 by the template 'for every input the law returns true; each argument reads behind the call as it read before'; 0 by the template 'total and deterministic' (their statements: YtoefhblojoaikaaTotals.lean).
  GIVEN WITH THE SEED: the statements are not yours to turn. If you find one false, say at which input.
  Laid BY PROGRAM, IN A SANDBOX (cutbox-rows.mjs): the forced cells as the released guide's own fill.sh prints them over the translation 8a1d868211ee6baa… (all of the seat's roots in one cut). By AI agents, Wed Nov 11 2026. No macro, syntax, notation, axiom, sorry.
-/
import Derived.Test.YtoefhblojoaikaaChecked
import GoSem.Claim
import GoSem.ClaimJoined
import GoSem.ClaimMapViews
import Derived.JoinedTies
import Derived.KernelRfl
namespace Go.Proofs.Ytoefhblojoaikaa
/- THE CELL 'sum', in the pinned program and in every row, IS THE sha256 OF THE DUMP (.gsa) THAT YtoefhblojoaikaaProg.lean LOADS. Nothing in Lean hashes anything: it is a label: what it is worth is what the hold of that sum in a sandbox is worth. -/
noncomputable def Try.pinned : Pinned := { name := "ytoefhblojoaikaa", sum := "8a1d868211ee6baa536e5454db3b1bc7ddbd32e81a1f0a39c2795dccef65326e", checked := Try.checked }
namespace Rows
def none {H : Type} : Left H := { results := [], args := [] }

/-- 'stoalaw08.RunsSplits': WHATEVER THE INPUT: true; the input reads as it did. -/
def runsSplitsSpec : ChangeSpec := { name := "runsSplits", fn := fun _ => fun
  | [d] => { results := [.lit (.bool true)], args := [d] }
  | _ => none }
def runsSplitsRow : OpenClaim := { program := "ytoefhblojoaikaa", sum := "8a1d868211ee6baa536e5454db3b1bc7ddbd32e81a1f0a39c2795dccef65326e", func := "stoa/stoalaw08.RunsSplits", spec := "runsSplits", apart := false }
def RunsSplitsSaid : Prop := runsSplitsRow.holds Try.pinned (OpenSpec.ofChange runsSplitsSpec)

/-- ITS FALSE NEIGHBOUR: 'it returns false'. Refute it at one input. -/
def runsSplitsWrong : ChangeSpec := { name := "runsSplits", fn := fun _ => fun
  | [d] => { results := [.lit (.bool false)], args := [d] }
  | _ => none }
def RunsSplitsWrongFalsely : Prop := runsSplitsRow.holds Try.pinned (OpenSpec.ofChange runsSplitsWrong)

/-- 'stoalaw08.RunsJoins': WHATEVER THE INPUT: true; the input reads as it did. -/
def runsJoinsSpec : ChangeSpec := { name := "runsJoins", fn := fun _ => fun
  | [d] => { results := [.lit (.bool true)], args := [d] }
  | _ => none }
def runsJoinsRow : OpenClaim := { program := "ytoefhblojoaikaa", sum := "8a1d868211ee6baa536e5454db3b1bc7ddbd32e81a1f0a39c2795dccef65326e", func := "stoa/stoalaw08.RunsJoins", spec := "runsJoins", apart := false }
def RunsJoinsSaid : Prop := runsJoinsRow.holds Try.pinned (OpenSpec.ofChange runsJoinsSpec)

/-- ITS FALSE NEIGHBOUR: 'it returns false'. Refute it at one input. -/
def runsJoinsWrong : ChangeSpec := { name := "runsJoins", fn := fun _ => fun
  | [d] => { results := [.lit (.bool false)], args := [d] }
  | _ => none }
def RunsJoinsWrongFalsely : Prop := runsJoinsRow.holds Try.pinned (OpenSpec.ofChange runsJoinsWrong)

/-- 'stoalaw08.RunsDecodes': WHATEVER THE INPUT: true; the input reads as it did. -/
def runsDecodesSpec : ChangeSpec := { name := "runsDecodes", fn := fun _ => fun
  | [d] => { results := [.lit (.bool true)], args := [d] }
  | _ => none }
def runsDecodesRow : OpenClaim := { program := "ytoefhblojoaikaa", sum := "8a1d868211ee6baa536e5454db3b1bc7ddbd32e81a1f0a39c2795dccef65326e", func := "stoa/stoalaw08.RunsDecodes", spec := "runsDecodes", apart := false }
def RunsDecodesSaid : Prop := runsDecodesRow.holds Try.pinned (OpenSpec.ofChange runsDecodesSpec)

/-- ITS FALSE NEIGHBOUR: 'it returns false'. Refute it at one input. -/
def runsDecodesWrong : ChangeSpec := { name := "runsDecodes", fn := fun _ => fun
  | [d] => { results := [.lit (.bool false)], args := [d] }
  | _ => none }
def RunsDecodesWrongFalsely : Prop := runsDecodesRow.holds Try.pinned (OpenSpec.ofChange runsDecodesWrong)

/-- 'stoalaw08.RunsBack': WHATEVER THE INPUT: true; the input reads as it did. -/
def runsBackSpec : ChangeSpec := { name := "runsBack", fn := fun _ => fun
  | [d1, d2] => { results := [.lit (.bool true)], args := [d1, d2] }
  | _ => none }
def runsBackRow : OpenClaim := { program := "ytoefhblojoaikaa", sum := "8a1d868211ee6baa536e5454db3b1bc7ddbd32e81a1f0a39c2795dccef65326e", func := "stoa/stoalaw08.RunsBack", spec := "runsBack", apart := false }
def RunsBackSaid : Prop := runsBackRow.holds Try.pinned (OpenSpec.ofChange runsBackSpec)

/-- ITS FALSE NEIGHBOUR: 'it returns false'. Refute it at one input. -/
def runsBackWrong : ChangeSpec := { name := "runsBack", fn := fun _ => fun
  | [d1, d2] => { results := [.lit (.bool false)], args := [d1, d2] }
  | _ => none }
def RunsBackWrongFalsely : Prop := runsBackRow.holds Try.pinned (OpenSpec.ofChange runsBackWrong)

/-- 'stoalaw08.RunsFew': WHATEVER THE INPUT: true; the input reads as it did. -/
def runsFewSpec : ChangeSpec := { name := "runsFew", fn := fun _ => fun
  | [d] => { results := [.lit (.bool true)], args := [d] }
  | _ => none }
def runsFewRow : OpenClaim := { program := "ytoefhblojoaikaa", sum := "8a1d868211ee6baa536e5454db3b1bc7ddbd32e81a1f0a39c2795dccef65326e", func := "stoa/stoalaw08.RunsFew", spec := "runsFew", apart := false }
def RunsFewSaid : Prop := runsFewRow.holds Try.pinned (OpenSpec.ofChange runsFewSpec)

/-- ITS FALSE NEIGHBOUR: 'it returns false'. Refute it at one input. -/
def runsFewWrong : ChangeSpec := { name := "runsFew", fn := fun _ => fun
  | [d] => { results := [.lit (.bool false)], args := [d] }
  | _ => none }
def RunsFewWrongFalsely : Prop := runsFewRow.holds Try.pinned (OpenSpec.ofChange runsFewWrong)

/-- 'stoalaw09.PackedEncodes': WHATEVER THE INPUT: true; the input reads as it did. -/
def packedEncodesSpec : ChangeSpec := { name := "packedEncodes", fn := fun _ => fun
  | [d] => { results := [.lit (.bool true)], args := [d] }
  | _ => none }
def packedEncodesRow : OpenClaim := { program := "ytoefhblojoaikaa", sum := "8a1d868211ee6baa536e5454db3b1bc7ddbd32e81a1f0a39c2795dccef65326e", func := "stoa/stoalaw09.PackedEncodes", spec := "packedEncodes", apart := false }
def PackedEncodesSaid : Prop := packedEncodesRow.holds Try.pinned (OpenSpec.ofChange packedEncodesSpec)

/-- ITS FALSE NEIGHBOUR: 'it returns false'. Refute it at one input. -/
def packedEncodesWrong : ChangeSpec := { name := "packedEncodes", fn := fun _ => fun
  | [d] => { results := [.lit (.bool false)], args := [d] }
  | _ => none }
def PackedEncodesWrongFalsely : Prop := packedEncodesRow.holds Try.pinned (OpenSpec.ofChange packedEncodesWrong)

/-- 'stoalaw09.PackedDecodes': WHATEVER THE INPUT: true; the input reads as it did. -/
def packedDecodesSpec : ChangeSpec := { name := "packedDecodes", fn := fun _ => fun
  | [d] => { results := [.lit (.bool true)], args := [d] }
  | _ => none }
def packedDecodesRow : OpenClaim := { program := "ytoefhblojoaikaa", sum := "8a1d868211ee6baa536e5454db3b1bc7ddbd32e81a1f0a39c2795dccef65326e", func := "stoa/stoalaw09.PackedDecodes", spec := "packedDecodes", apart := false }
def PackedDecodesSaid : Prop := packedDecodesRow.holds Try.pinned (OpenSpec.ofChange packedDecodesSpec)

/-- ITS FALSE NEIGHBOUR: 'it returns false'. Refute it at one input. -/
def packedDecodesWrong : ChangeSpec := { name := "packedDecodes", fn := fun _ => fun
  | [d] => { results := [.lit (.bool false)], args := [d] }
  | _ => none }
def PackedDecodesWrongFalsely : Prop := packedDecodesRow.holds Try.pinned (OpenSpec.ofChange packedDecodesWrong)

/-- 'stoalaw09.PackedBack': WHATEVER THE INPUT: true; the input reads as it did. -/
def packedBackSpec : ChangeSpec := { name := "packedBack", fn := fun _ => fun
  | [d1, d2] => { results := [.lit (.bool true)], args := [d1, d2] }
  | _ => none }
def packedBackRow : OpenClaim := { program := "ytoefhblojoaikaa", sum := "8a1d868211ee6baa536e5454db3b1bc7ddbd32e81a1f0a39c2795dccef65326e", func := "stoa/stoalaw09.PackedBack", spec := "packedBack", apart := false }
def PackedBackSaid : Prop := packedBackRow.holds Try.pinned (OpenSpec.ofChange packedBackSpec)

/-- ITS FALSE NEIGHBOUR: 'it returns false'. Refute it at one input. -/
def packedBackWrong : ChangeSpec := { name := "packedBack", fn := fun _ => fun
  | [d1, d2] => { results := [.lit (.bool false)], args := [d1, d2] }
  | _ => none }
def PackedBackWrongFalsely : Prop := packedBackRow.holds Try.pinned (OpenSpec.ofChange packedBackWrong)

/-- 'stoalaw09.PackedOnly': WHATEVER THE INPUT: true; the input reads as it did. -/
def packedOnlySpec : ChangeSpec := { name := "packedOnly", fn := fun _ => fun
  | [d] => { results := [.lit (.bool true)], args := [d] }
  | _ => none }
def packedOnlyRow : OpenClaim := { program := "ytoefhblojoaikaa", sum := "8a1d868211ee6baa536e5454db3b1bc7ddbd32e81a1f0a39c2795dccef65326e", func := "stoa/stoalaw09.PackedOnly", spec := "packedOnly", apart := false }
def PackedOnlySaid : Prop := packedOnlyRow.holds Try.pinned (OpenSpec.ofChange packedOnlySpec)

/-- ITS FALSE NEIGHBOUR: 'it returns false'. Refute it at one input. -/
def packedOnlyWrong : ChangeSpec := { name := "packedOnly", fn := fun _ => fun
  | [d] => { results := [.lit (.bool false)], args := [d] }
  | _ => none }
def PackedOnlyWrongFalsely : Prop := packedOnlyRow.holds Try.pinned (OpenSpec.ofChange packedOnlyWrong)

/- THE SECOND FORM. 'bulk': how many values and letters a reading holds, each counted each time it is reached (what is shared counts as often as it is met; a slice's spare places count too). A statement '..UptoSaid' is the law's where the arguments, and the package variables that the reading takes, are together of bulk at most 1048576: NARROWER than '..Said'. Prove '..Said' where nothing that the law and all that it calls make is longer than what came in: it says more and counts as full. Else prove '..UptoSaid'. A law counts once. -/
mutual
def uptoBulk {H : Type} : DataW H → Nat
  | .lit (.string bytes) => bytes.length + 1
  | .lit _ => 1
  | .nil => 1
  | .ptr d => uptoBulk d + 1
  | .slice elems spare => uptoBulkAll elems + uptoBulkAll spare + 1
  | .agg parts => uptoBulkAll parts + 1
  | .iface _ d => uptoBulk d + 1
  | .map entries => uptoBulkEntries entries + 1
  | .held _ => 1
def uptoBulkAll {H : Type} : List (DataW H) → Nat
  | [] => 0
  | d :: r => uptoBulk d + uptoBulkAll r
def uptoBulkEntries {H : Type} : List (Lit × DataW H) → Nat
  | [] => 0
  | x :: r => uptoBulkEntry x + uptoBulkEntries r
def uptoBulkEntry {H : Type} : Lit × DataW H → Nat
  | (.string bytes, d) => bytes.length + uptoBulk d + 1
  | (_, d) => uptoBulk d + 1
 end
def uptoSmall : (H : Type) → List (DataW H) → Bool := fun _ ds => decide (uptoBulkAll ds ≤ 1048576)
def OpenSpec.upto (s : _root_.Go.ChangeSpec) : _root_.Go.OpenSpec := { _root_.Go.OpenSpec.ofChange s with cond := some uptoSmall }

/-- 'stoalaw08.RunsSplits', WHERE WHAT IT READS IS OF BULK AT MOST 1048576: true; the input reads as it did. -/
def runsSplitsUptoRow : OpenClaim := { program := "ytoefhblojoaikaa", sum := "8a1d868211ee6baa536e5454db3b1bc7ddbd32e81a1f0a39c2795dccef65326e", func := "stoa/stoalaw08.RunsSplits", spec := "runsSplits", apart := false, narrowed := true }
def RunsSplitsUptoSaid : Prop := runsSplitsUptoRow.holds Try.pinned (OpenSpec.upto runsSplitsSpec)

/-- 'stoalaw08.RunsJoins', WHERE WHAT IT READS IS OF BULK AT MOST 1048576: true; the input reads as it did. -/
def runsJoinsUptoRow : OpenClaim := { program := "ytoefhblojoaikaa", sum := "8a1d868211ee6baa536e5454db3b1bc7ddbd32e81a1f0a39c2795dccef65326e", func := "stoa/stoalaw08.RunsJoins", spec := "runsJoins", apart := false, narrowed := true }
def RunsJoinsUptoSaid : Prop := runsJoinsUptoRow.holds Try.pinned (OpenSpec.upto runsJoinsSpec)

/-- 'stoalaw08.RunsDecodes', WHERE WHAT IT READS IS OF BULK AT MOST 1048576: true; the input reads as it did. -/
def runsDecodesUptoRow : OpenClaim := { program := "ytoefhblojoaikaa", sum := "8a1d868211ee6baa536e5454db3b1bc7ddbd32e81a1f0a39c2795dccef65326e", func := "stoa/stoalaw08.RunsDecodes", spec := "runsDecodes", apart := false, narrowed := true }
def RunsDecodesUptoSaid : Prop := runsDecodesUptoRow.holds Try.pinned (OpenSpec.upto runsDecodesSpec)

/-- 'stoalaw08.RunsBack', WHERE WHAT IT READS IS OF BULK AT MOST 1048576: true; the input reads as it did. -/
def runsBackUptoRow : OpenClaim := { program := "ytoefhblojoaikaa", sum := "8a1d868211ee6baa536e5454db3b1bc7ddbd32e81a1f0a39c2795dccef65326e", func := "stoa/stoalaw08.RunsBack", spec := "runsBack", apart := false, narrowed := true }
def RunsBackUptoSaid : Prop := runsBackUptoRow.holds Try.pinned (OpenSpec.upto runsBackSpec)

/-- 'stoalaw08.RunsFew', WHERE WHAT IT READS IS OF BULK AT MOST 1048576: true; the input reads as it did. -/
def runsFewUptoRow : OpenClaim := { program := "ytoefhblojoaikaa", sum := "8a1d868211ee6baa536e5454db3b1bc7ddbd32e81a1f0a39c2795dccef65326e", func := "stoa/stoalaw08.RunsFew", spec := "runsFew", apart := false, narrowed := true }
def RunsFewUptoSaid : Prop := runsFewUptoRow.holds Try.pinned (OpenSpec.upto runsFewSpec)

/-- 'stoalaw09.PackedEncodes', WHERE WHAT IT READS IS OF BULK AT MOST 1048576: true; the input reads as it did. -/
def packedEncodesUptoRow : OpenClaim := { program := "ytoefhblojoaikaa", sum := "8a1d868211ee6baa536e5454db3b1bc7ddbd32e81a1f0a39c2795dccef65326e", func := "stoa/stoalaw09.PackedEncodes", spec := "packedEncodes", apart := false, narrowed := true }
def PackedEncodesUptoSaid : Prop := packedEncodesUptoRow.holds Try.pinned (OpenSpec.upto packedEncodesSpec)

/-- 'stoalaw09.PackedDecodes', WHERE WHAT IT READS IS OF BULK AT MOST 1048576: true; the input reads as it did. -/
def packedDecodesUptoRow : OpenClaim := { program := "ytoefhblojoaikaa", sum := "8a1d868211ee6baa536e5454db3b1bc7ddbd32e81a1f0a39c2795dccef65326e", func := "stoa/stoalaw09.PackedDecodes", spec := "packedDecodes", apart := false, narrowed := true }
def PackedDecodesUptoSaid : Prop := packedDecodesUptoRow.holds Try.pinned (OpenSpec.upto packedDecodesSpec)

/-- 'stoalaw09.PackedBack', WHERE WHAT IT READS IS OF BULK AT MOST 1048576: true; the input reads as it did. -/
def packedBackUptoRow : OpenClaim := { program := "ytoefhblojoaikaa", sum := "8a1d868211ee6baa536e5454db3b1bc7ddbd32e81a1f0a39c2795dccef65326e", func := "stoa/stoalaw09.PackedBack", spec := "packedBack", apart := false, narrowed := true }
def PackedBackUptoSaid : Prop := packedBackUptoRow.holds Try.pinned (OpenSpec.upto packedBackSpec)

/-- 'stoalaw09.PackedOnly', WHERE WHAT IT READS IS OF BULK AT MOST 1048576: true; the input reads as it did. -/
def packedOnlyUptoRow : OpenClaim := { program := "ytoefhblojoaikaa", sum := "8a1d868211ee6baa536e5454db3b1bc7ddbd32e81a1f0a39c2795dccef65326e", func := "stoa/stoalaw09.PackedOnly", spec := "packedOnly", apart := false, narrowed := true }
def PackedOnlyUptoSaid : Prop := packedOnlyUptoRow.holds Try.pinned (OpenSpec.upto packedOnlySpec)

end Rows
end Go.Proofs.Ytoefhblojoaikaa
