import Derived.Test.YtgmjpilinhmjoaaA1
namespace Go.Proofs.Ytgmjpilinhmjoaa
open Go.RowKit

set_option maxHeartbeats 400000 in
theorem power_nat (k : Nat) (w : World) (hk : k ≤ 63) :
    Calls Try.prog 54 #[.int .i64 k] w fun e w' => e = .returned (.int .u64 (pw k)) ∧ w' = w := by
  go_enter Try.func54, Try.ntmps54
  go_wp2
  go_loop [3, 4] (fun p i => ∃ j : Nat, j ≤ k ∧ i = .int .i64 j ∧ p = .int .u64 (pw j)) (fun _ i => k - (intOf i).toNat)
  case atStart => exact ⟨0, by omega, rfl, rfl⟩
  case round =>
    obtain ⟨j, hj, rfl, rfl⟩ := hrel
    by_cases hlt : j < k
    · go_wp2
      go_round
      case rel =>
        refine ⟨j + 1, by omega, by go_num, ?_⟩
        have h1 := pw_succ j
        have h2 := pw_le (show j + 1 ≤ 63 by omega)
        rw [pw_63] at h2
        rw [pw_succ, IntKind.wrap_u64, Int.emod_eq_of_lt (by omega) (by omega)]; go_num
      case measure => simp [intOf]; omega
    · obtain rfl : j = k := by omega
      go_wp2
      go_ret
      exact ⟨rfl, rfl⟩

theorem power_any (k : Int) (w : World) (h0 : 0 ≤ k) (hk : k ≤ 63) :
    Calls Try.prog 54 #[.int .i64 k] w fun e w' => e = .returned (.int .u64 (pw k.toNat)) ∧ w' = w := by
  obtain ⟨n, rfl⟩ := Int.eq_ofNat_of_zero_le h0
  exact power_nat n w (by omega)

end Go.Proofs.Ytgmjpilinhmjoaa
