/-
  What the second form's bound gives: a slice's length is at most its bulk.
-/
import Derived.Test.YtjckfbpdnpehcaaRows
import Derived.Test.YtjckfbpdnpehcaaRow
import Derived.JoinedCond
import Derived.Deep.CondSized
namespace Go.Proofs.Ytjckfbpdnpehcaa

theorem bulk_pos {H : Type} (d : DataW H) : 1 ≤ Rows.uptoBulk d := by
  cases d with
  | lit l => cases l <;> simp [Rows.uptoBulk]
  | _ => simp [Rows.uptoBulk]

theorem bulk_length {H : Type} (l : List (DataW H)) : l.length ≤ Rows.uptoBulkAll l := by
  induction l with
  | nil => simp
  | cons d r ih => have := bulk_pos d; simp only [List.length_cons, Rows.uptoBulkAll]; omega

theorem bulk_len {H : Type} {d : DataW H} {len : Nat} (h : len = 0 ∨ ∃ elems spare, d = .slice elems spare ∧ elems.length = len) : len ≤ Rows.uptoBulk d := by
  rcases h with rfl | ⟨elems, spare, rfl, rfl⟩
  · exact Nat.zero_le _
  · have := bulk_length elems
    simp only [Rows.uptoBulk]
    omega

theorem upto_bulk {H : Type} {ds : List (DataW H)} (h : Rows.uptoSmall H ds = true) : Rows.uptoBulkAll ds ≤ 1048576 := of_decide_eq_true h

end Go.Proofs.Ytjckfbpdnpehcaa
