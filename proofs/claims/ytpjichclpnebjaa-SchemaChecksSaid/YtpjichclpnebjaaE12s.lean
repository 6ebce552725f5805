/-
  Constants' bytes; a cell that was handed in.
-/
import Derived.Test.YtpjichclpnebjaaE11
import Derived.Lib.SlBytesConst
import Derived.Laws.IdiomStrings
namespace Go.Proofs.Ytpjichclpnebjaa
open Go.RowKit

/-- '[]byte("..")' of a constant: the row gets its mark. -/
theorem conv_const (W : World) (g : Nat) (C : Array Value) (n c : Nat) (hg : W.heap.size = g) :
    (convert 59 59 (.slice (some ⟨g, 0, none⟩) n c)).run Try.prog (W.alloc (.cells C 5)) = .ok (.slice (some ⟨g, 0, none⟩) n c) (W.alloc (.cells C 5 (C.size, C.size + 1))) := by
  subst hg
  exact Lib.run_convert_bytes_const W 59 5 C n c Try.underlying59 Try.underlying5

theorem Rd.mark_at (k : IntKind) (e : TypeId) (fr : Nat × Nat) (w : World) (xs : List Nat) {b n : Nat} (hb : w.heap.size = b) (hn : xs.length = n) : Rd k (w.alloc (.cells (xs.map fun x : Nat => Value.int k (x : Int)).toArray e fr)) (some ⟨b, 0, none⟩) n xs := by
  subst hb
  subst hn
  refine ⟨rfl, fun hn => ⟨w.heap.size, 0, rfl, by simp, fun j hj => ?_⟩⟩
  rw [cell_of_row _ w.heap.size (0 + j) _ e fr (heap_alloc_new w _)]
  simp [hj]

/-- A cell that was handed in. -/
structure Ci where
  nul : Bool
  num : Int
  A : Option Addr
  c : Nat
  txt : List Nat
def Ci.v (x : Ci) : Value := .agg #[.bool x.nul, .int .i64 x.num, .slice x.A x.txt.length x.c]
structure Ci.In (w : World) (x : Ci) : Prop where
  rd : Rd .u8 w x.A x.txt.length x.txt
  u8 : U8 x.txt
  lo : -9223372036854775808 ≤ x.num
  hi : x.num ≤ 9223372036854775807
  len : x.txt.length * 1 ≤ 140737488351232

end Go.Proofs.Ytpjichclpnebjaa
