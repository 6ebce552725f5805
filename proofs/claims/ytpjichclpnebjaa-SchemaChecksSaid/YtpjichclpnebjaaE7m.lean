/-
  What a check that finds nothing says; which of two cells stands ahead.
-/
import Derived.Test.YtpjichclpnebjaaE5
namespace Go.Proofs.Ytpjichclpnebjaa
open Go.RowKit

/-- Which of two cells without error stands ahead. -/
def rnk (nul : Bool) (num : Int) (txt : List Nat) (nul2 : Bool) (num2 : Int) (txt2 : List Nat) : Int :=
  if nul = true then (if nul2 = true then 0 else -1) else if nul2 = true then 1 else if num < num2 then -1 else if num2 < num then 1 else ordT txt txt2

theorem chk_kind {k : Int} {ok nul : Bool} {num : Int} {txt : List Nat} (h : chk k ok nul num txt = 0) : 1 ≤ k ∧ k ≤ 8 := by
  by_cases hk : 1 ≤ k ∧ k ≤ 8
  · exact hk
  · rw [chk_arg hk] at h; exact absurd h (by decide)
theorem chk_num0 {k : Int} {ok : Bool} {num : Int} {txt : List Nat} (hk : 1 ≤ k ∧ k ≤ 6) (h : chk k ok false num txt = 0) : txt = [] ∧ least k ≤ num ∧ num ≤ great k := by
  rw [chk_num hk] at h
  by_cases h1 : 0 < txt.length
  · rw [if_pos h1] at h; exact absurd h (by decide)
  · rw [if_neg h1] at h
    by_cases h2 : least k ≤ num ∧ num ≤ great k
    · exact ⟨List.eq_nil_of_length_eq_zero (by omega), h2⟩
    · rw [if_neg h2] at h; exact absurd h (by decide)
theorem chk_txt0 {k : Int} {ok : Bool} {num : Int} {txt : List Nat} (hk : k = 7 ∨ k = 8) (h : chk k ok false num txt = 0) : num = 0 ∧ txt.length ≤ 200 ∧ (k = 7 → ¬ 0 ∈ txt) := by
  rw [chk_txt hk] at h
  by_cases h1 : num = 0
  · rw [if_neg (fun q => q h1)] at h
    by_cases h2 : 200 < txt.length
    · rw [if_pos h2] at h; exact absurd h (by decide)
    · rw [if_neg h2] at h
      by_cases h3 : k = 7 ∧ 0 ∈ txt
      · rw [if_pos h3] at h; exact absurd h (by decide)
      · exact ⟨h1, by omega, fun q q2 => h3 ⟨q, q2⟩⟩
  · rw [if_pos h1] at h; exact absurd h (by decide)
theorem chk_nul0 {k : Int} {ok : Bool} {num : Int} {txt : List Nat} (h : chk k ok true num txt = 0) : ok = true ∧ num = 0 ∧ txt = [] := by
  rw [chk_null (chk_kind h)] at h
  by_cases h0 : ok = true
  · rw [if_pos h0] at h
    by_cases h1 : num ≠ 0 ∨ 0 < txt.length
    · rw [if_pos h1] at h; exact absurd h (by decide)
    · exact ⟨h0, by omega, List.eq_nil_of_length_eq_zero (by omega)⟩
  · rw [if_neg h0] at h; exact absurd h (by decide)

theorem rnk_ff {num : Int} {txt : List Nat} {num2 : Int} {txt2 : List Nat} : rnk false num txt false num2 txt2 = if num < num2 then -1 else if num2 < num then 1 else ordT txt txt2 := by
  unfold rnk; rw [if_neg (by decide), if_neg (by decide)]

end Go.Proofs.Ytpjichclpnebjaa
