/-
  Numbers of 64 bits with a sign.
-/
import Derived.Test.YtkmnhapeohlooaaR1
namespace Go.Proofs.Ytkmnhapeohlooaa
open Go.RowKit

def R64 (v : Int) : Prop := -9223372036854775808 ≤ v ∧ v ≤ 9223372036854775807

def R64s (vs : List Int) : Prop := ∀ v ∈ vs, R64 v

end Go.Proofs.Ytkmnhapeohlooaa
