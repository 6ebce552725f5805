/-
  The document's Fold and Unfold.
-/
import Derived.Test.YtoefhblojoaikaaB10t
namespace Go.Proofs.Ytoefhblojoaikaa
open Go.RowKit

theorem refFold_any (v : Int) (w : World) (h0 : -9223372036854775808 ≤ v) (h1 : v ≤ 9223372036854775807) :
    Calls Try.prog 43 #[.int .i64 v] w fun e w' => e = .returned (.int .u64 (foldS v)) ∧ w = w' := by
  obtain ⟨R, hR⟩ : ∃ R, R = foldS v := ⟨_, rfl⟩
  rw [← hR]
  unfold foldS at hR
  have HR := Lib.hid hR
  clear hR
  by_cases h : v < 0
  · have b1 : decide (0 ≤ v) = false := decide_eq_false (by omega)
    have h3 := HR.out
    rw [if_pos h] at h3
    have H3 := Lib.hid h3
    clear h3
    go_enter Try.func43, Try.ntmps43
    go_wp2
    go_ret
    refine ⟨ret_int ?_, rfl⟩
    have := H3.out
    omega
  · have h2 : 0 ≤ v := by omega
    have h3 := HR.out
    rw [if_neg h] at h3
    have H3 := Lib.hid h3
    clear h3
    go_enter Try.func43, Try.ntmps43
    go_wp2
    go_ret
    refine ⟨ret_int ?_, rfl⟩
    have := H3.out
    omega

theorem refUnfold_any (u : Int) (w : World) (h0 : 0 ≤ u) (h1 : u ≤ 18446744073709551615) :
    Calls Try.prog 50 #[.int .u64 u] w fun e w' => e = .returned (.int .i64 (unfS u)) ∧ w = w' := by
  obtain ⟨R, hR⟩ : ∃ R, R = unfS u := ⟨_, rfl⟩
  rw [← hR]
  unfold unfS at hR
  have HR := Lib.hid hR
  clear hR
  by_cases h : u % 2 = 0
  · have b1 : (u % 2 == 0) = true := by rw [beq_iff_eq]; exact h
    have h3 := HR.out
    rw [if_pos h] at h3
    have H3 := Lib.hid h3
    clear h3
    go_enter Try.func50, Try.ntmps50
    go_wp2
    go_ret
    exact ⟨ret_int (by have := H3.out; omega), rfl⟩
  · have b1 : (u % 2 == 0) = false := by rw [beq_eq_false_iff_ne]; exact h
    have h3 := HR.out
    rw [if_neg h] at h3
    have H3 := Lib.hid h3
    clear h3
    go_enter Try.func50, Try.ntmps50
    go_wp2
    go_ret
    exact ⟨ret_int (by have := H3.out; omega), rfl⟩

end Go.Proofs.Ytoefhblojoaikaa
