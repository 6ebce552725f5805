/-
  Plain mathematics: how many bits a number has; math/bits.Len64 at this program.
-/
import Derived.Test.YtgmjpilinhmjoaaB0
import Derived.Test.YtgmjpilinhmjoaaLen
import Derived.Lib.BitFns
namespace Go.Proofs.Ytgmjpilinhmjoaa
open Go.RowKit

/-- How many bits a number has. -/
def bl (x : Nat) : Nat := if x = 0 then 0 else Nat.log2 x + 1
theorem bl_le {x k : Nat} : bl x ≤ k ↔ x < 2 ^ k := by
  unfold bl
  by_cases h : x = 0
  · simp [h, Nat.two_pow_pos]
  · rw [if_neg h, ← Nat.log2_lt h]; omega
theorem bl_zero : bl 0 = 0 := rfl
theorem bl_half {x : Nat} (h : 0 < x) : bl x = bl (x / 2) + 1 := by
  apply Nat.le_antisymm
  · rw [bl_le, Nat.pow_succ]
    have h1 := bl_le.1 (Nat.le_refl (bl (x / 2)))
    omega
  · have h1 := bl_le.1 (Nat.le_refl (bl x))
    have hp : 0 < bl x := by
      rcases Nat.eq_zero_or_pos (bl x) with h0 | h0
      · rw [h0] at h1; omega
      · exact h0
    have h2 : bl (x / 2) ≤ bl x - 1 := by
      rw [bl_le]
      have h3 : 2 ^ bl x = 2 * 2 ^ (bl x - 1) := by rw [Nat.mul_comm, ← Nat.pow_succ]; congr 1; omega
      omega
    omega
theorem bl_or (a b : Nat) : bl (a ||| b) = max (bl a) (bl b) := by
  apply Nat.le_antisymm
  · rw [bl_le]
    exact Nat.or_lt_two_pow (bl_le.1 (Nat.le_max_left ..)) (bl_le.1 (Nat.le_max_right ..))
  · apply Nat.max_le.2
    refine ⟨bl_le.2 (Nat.lt_of_le_of_lt Nat.left_le_or (bl_le.1 (Nat.le_refl _))), bl_le.2 (Nat.lt_of_le_of_lt Nat.right_le_or (bl_le.1 (Nat.le_refl _)))⟩
theorem bl_64 {x : Nat} (h : x < 18446744073709551616) : bl x ≤ 64 := bl_le.2 h

theorem bitLen_bl (x : Nat) (h : x < 18446744073709551616) : Lib.bitLen x = bl x := by
  induction x using Nat.strongRecOn with
  | ind x ih =>
    by_cases h0 : x = 0
    · subst h0; rfl
    · rw [Lib.bitLen_half x h0 h, ih (x / 2) (by omega) (by omega), bl_half (x := x) (by omega), Nat.add_comm]

/-- The greatest number of bits among the numbers. -/
def wdt (vs : List Nat) : Nat := vs.foldl (fun m v => max m (bl v)) 0
theorem wdt_snoc (vs : List Nat) (v : Nat) : wdt (vs ++ [v]) = max (wdt vs) (bl v) := by simp [wdt, List.foldl_append]
theorem wdt_nil : wdt [] = 0 := rfl
theorem foldl_max_le (vs : List Nat) (m k : Nat) : vs.foldl (fun m v => max m (bl v)) m ≤ k ↔ m ≤ k ∧ ∀ v ∈ vs, bl v ≤ k := by
  induction vs generalizing m with
  | nil => simp
  | cons x r ih => rw [List.foldl_cons, ih]; simp [Nat.max_le, and_assoc]
theorem wdt_le {vs : List Nat} {k : Nat} : wdt vs ≤ k ↔ Wd k vs := by
  unfold wdt Wd
  rw [foldl_max_le]
  simp [bl_le]

/-- 64 bits each. -/
def U64 (vs : List Nat) : Prop := ∀ v ∈ vs, v < 18446744073709551616
theorem U64.at_ {xs : List Nat} (h : U64 xs) (j : Nat) : xs.getD j 0 < 18446744073709551616 := by
  by_cases hj : j < xs.length
  · have := h _ (List.getElem_mem hj); simpa [List.getD, hj] using this
  · simp [List.getD, hj]
instance (vs : List Nat) : Decidable (U64 vs) := inferInstanceAs (Decidable (∀ v ∈ vs, v < 18446744073709551616))
theorem U64_wd {b : List Nat} : U64 b ↔ Wd 64 b := Iff.rfl

def orAll (vs : List Nat) : Nat := vs.foldl (fun m v => m ||| v) 0
theorem orAll_snoc (vs : List Nat) (v : Nat) : orAll (vs ++ [v]) = orAll vs ||| v := by simp [orAll, List.foldl_append]
theorem foldl_or_bl (vs : List Nat) (m : Nat) : bl (vs.foldl (fun m v => m ||| v) m) = vs.foldl (fun m v => max m (bl v)) (bl m) := by
  induction vs generalizing m with
  | nil => rfl
  | cons x r ih => rw [List.foldl_cons, ih, List.foldl_cons, bl_or]
theorem orAll_bl (vs : List Nat) : bl (orAll vs) = wdt vs := foldl_or_bl vs 0
theorem orAll_lt {vs : List Nat} (h : U64 vs) : orAll vs < 18446744073709551616 := by
  have := (wdt_le (k := 64)).2 h
  rw [← orAll_bl, bl_le] at this
  exact this

theorem bl_shift (s : Nat) : ∀ {x : Nat}, 2 ^ s ≤ x → bl x = s + bl (x / 2 ^ s) := by
  induction s with
  | zero => intro x _; simp
  | succ s ih =>
    intro x h
    rw [Nat.pow_succ] at h
    have h1 := Nat.two_pow_pos s
    rw [bl_half (x := x) (by omega), ih (x := x / 2) (by omega), Nat.div_div_eq_div_mul, Nat.mul_comm 2, ← Nat.pow_succ, Nat.succ_eq_add_one]
    omega

theorem len64_any (x : Nat) (w : World) (hx : x < 18446744073709551616) :
    Calls Try.prog 62 #[.int .u64 x] w fun e w' => e = .returned (.int .i64 (bl x)) ∧ w = w' :=
  (lib_len64 x w (by omega) (by omega)).mono fun e w' ⟨h1, h2⟩ => ⟨by rw [h1, Int.toNat_natCast, bitLen_bl x hx], h2.symm⟩

theorem ret_int {k : IntKind} {a b : Int} (h : a = b) : Ending.returned (.int k a) = .returned (.int k b) := by rw [h]

end Go.Proofs.Ytgmjpilinhmjoaa
