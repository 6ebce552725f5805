/-
  A cell that lies in a block; the bytes of a cell.
-/
import Derived.Test.YtpjichclpnebjaaE12s
namespace Go.Proofs.Ytpjichclpnebjaa
open Go.RowKit

/-- A cell lies at block g. -/
structure AtC (w : World) (g : Nat) (nul : Bool) (num : Int) (A : Option Addr) (n c : Nat) : Prop where
  c0 : w.cell? ⟨g, 0, none⟩ = some (.bool nul)
  c1 : w.cell? ⟨g, 1, none⟩ = some (.int .i64 num)
  c2 : w.cell? ⟨g, 2, none⟩ = some (.slice A n c)
  lt : g < w.heap.size
theorem AtC.ext {w w' : World} {g : Nat} {nul : Bool} {num : Int} {A : Option Addr} {n c : Nat} (h : AtC w g nul num A n c) (he : Ext w w') : AtC w' g nul num A n c :=
  ⟨(he.cells g 0 h.lt).trans h.c0, (he.cells g 1 h.lt).trans h.c1, (he.cells g 2 h.lt).trans h.c2, Nat.lt_of_lt_of_le h.lt he.size⟩
theorem AtC.box (w : World) (nul : Bool) (num : Int) (A : Option Addr) (n c : Nat) : AtC (w.alloc (.cells #[.bool nul, .int .i64 num, .slice A n c] 82)) w.heap.size nul num A n c :=
  ⟨cell_of_row _ w.heap.size 0 _ _ (0, 0) (heap_alloc_new w _), cell_of_row _ w.heap.size 1 _ _ (0, 0) (heap_alloc_new w _), cell_of_row _ w.heap.size 2 _ _ (0, 0) (heap_alloc_new w _), by simp⟩

theorem cputL_u8 {k : Int} {nul : Bool} {num : Int} {txt : List Nat} (hu : U8 txt) : U8 (cputL k nul num txt) := by
  unfold cputL cby
  have h1 : U8 [0] := by decide
  have h2 : ∀ u, U8 (1 :: vput u) := fun u v hv => by
    rcases List.mem_cons.1 hv with rfl | h
    · omega
    · exact vput_u8 u v h
  have h3 : U8 (1 :: (vput txt.length ++ txt)) := fun v hv => by
    rcases List.mem_cons.1 hv with rfl | h
    · omega
    · rcases List.mem_append.1 h with h | h
      · exact vput_u8 _ v h
      · exact hu v h
  split
  · split
    · exact h1
    · split
      · exact h2 _
      · exact h3
  · intro v hv; cases hv
theorem cputL_len {k : Int} {nul : Bool} {num : Int} {txt : List Nat} (h0 : -9223372036854775808 ≤ num) (h1 : num ≤ 9223372036854775807) : (cputL k nul num txt).length ≤ 300 := by
  unfold cputL
  by_cases h : chk k true nul num txt = 0
  · rw [if_pos h]
    have hk := chk_kind h
    cases nul with
    | true => unfold cby; simp
    | false =>
      by_cases hk6 : k ≤ 6
      · obtain ⟨U, hU, hl⟩ := foldS_nat h0 h1
        rw [cby_num hk6 hU]
        have := vsize_le hl
        simp [vput_len]; omega
      · have h2 := chk_txt0 (by omega) h
        rw [cby_txt hk6]
        have := vsize_le (u := txt.length) (by omega)
        simp [vput_len]; omega
  · rw [if_neg h]; simp

end Go.Proofs.Ytpjichclpnebjaa
