/-
  How many texts stand ahead of another one.
-/
import Derived.Test.YtkmnhapeohlooaaOT
namespace Go.Proofs.Ytkmnhapeohlooaa
open Go.RowKit

/-- Is one of the texts too long? -/
def anyLong (ss : List (List Nat)) : Bool := ss.any fun s => decide (200 < s.length)
theorem anyLong_iff {ss : List (List Nat)} : anyLong ss = true ↔ ∃ s ∈ ss, 200 < s.length := by simp [anyLong]
theorem anyLong_no {ss : List (List Nat)} (h : anyLong ss = false) : ∀ s ∈ ss, s.length ≤ 200 := by
  intro s hs
  rcases Nat.lt_or_ge 200 s.length with h1 | h1
  · rw [anyLong_iff.2 ⟨s, hs, h1⟩] at h; cases h
  · exact h1

/-- How many texts stand ahead of t, up to the first that doesn't. -/
def skN (t : List Nat) : List (List Nat) → Nat
  | [] => 0
  | s :: r => if ordT s t < 0 then skN t r + 1 else 0

end Go.Proofs.Ytkmnhapeohlooaa
