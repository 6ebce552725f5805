/-
  The library's bytes.Clone at this program.
-/
import Derived.Test.YtjckfbpdnpehcaaR1
import Derived.Lib.AppendZeros
import Derived.Lib.SliceRun
namespace Go.Proofs.Ytjckfbpdnpehcaa
open Go.RowKit

theorem clone_any (A : Option Addr) (n c : Nat) (bs : List Nat) (w : World) (hx : Rd .u8 w A n bs) (hn : n ≤ 180000000000000) :
    Calls Try.prog 59 #[.slice A n c] w fun e w' => ∃ A' c', e = .returned (.slice A' n c') ∧ Own .u8 5 w' w.heap.size A' c' bs ∧ Ext w w' := by
  have Hl := Lib.hid hx.len
  cases A with
  | none =>
    have h0 : n = 0 := by
      rcases Nat.eq_zero_or_pos n with h | h
      · exact h
      · obtain ⟨b, o, he, _⟩ := hx.2 h
        cases he
    subst h0
    have hb : bs = [] := List.eq_nil_of_length_eq_zero Hl.out
    subst hb
    have hq := fun w => Lib.run_eql_slice_nil (P := Try.prog) w 22 5 none 0 c 0 0 Try.underlying22
    go_enter Try.func59, Try.ntmps59
    go_wp2
    go_ret
    exact ⟨_, _, rfl, Own.nil .., Ext.refl w⟩
  | some a =>
    have hq := fun w => Lib.run_eql_slice_nil (P := Try.prog) w 22 5 (some a) n c 0 0 Try.underlying22
    have hown := Own.made (base := w.heap.size) .u8 5 w (Nat.le_refl _)
    have hrd := hx.ext ((Ext.refl w).alloc (.cells #[] 5))
    go_enter Try.func59, Try.ntmps59
    go_wp2_with (at_builtin; refine wpList_pushes (w0 := w) .u8 5 rfl _ _ 22 rfl _ 1 Try.underlying22 Try.infoU8 rfl hown 0 rfl rfl rfl hrd (by omega) (by omega) ((Ext.refl w).alloc _) (by simp) ?_; intro A1 c1 w1 hown1 hb1 hz1)
    go_ret
    exact ⟨_, _, rfl, by simpa using hown1, hb1⟩

end Go.Proofs.Ytjckfbpdnpehcaa
