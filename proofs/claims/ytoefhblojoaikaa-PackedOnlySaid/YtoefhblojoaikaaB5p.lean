import Derived.Test.YtoefhblojoaikaaB4p
namespace Go.Proofs.Ytoefhblojoaikaa
open Go.RowKit

theorem isWidth_yes (wd : Int) (w : World) (h0 : 0 ≤ wd) (h1 : wd ≤ 64) :
    Calls Try.prog 66 #[.int .i64 wd] w fun e w' => e = .returned (.bool true) ∧ w = w' := by
  go_enter Try.func66, Try.ntmps66
  go_wp2
  go_ret
  exact ⟨rfl, rfl⟩

theorem isWidth_no (wd : Int) (w : World) (h : wd < 0 ∨ 64 < wd) :
    Calls Try.prog 66 #[.int .i64 wd] w fun e w' => e = .returned (.bool false) ∧ w = w' := by
  rcases h with h | h
  · go_enter Try.func66, Try.ntmps66
    go_wp2
    go_ret
    exact ⟨rfl, rfl⟩
  · have h2 : decide (wd ≤ 64) = false := by simp; omega
    by_cases h0 : 0 ≤ wd
    all_goals
      go_enter Try.func66, Try.ntmps66
      go_wp2
      go_ret
      exact ⟨rfl, rfl⟩

theorem place_any (wd i : Int) (w : World) (h0 : 0 ≤ wd) (h1 : wd ≤ 64) (h2 : 0 ≤ i) (h3 : i ≤ 9223372036854775807) (h4 : 0 ≤ wd * i) (h5 : wd * i ≤ 18446744073709551615) :
    Calls Try.prog 69 #[.int .i64 wd, .int .i64 i] w fun e w' => e = .returned (.int .u64 (wd * i)) ∧ w = w' := by
  go_enter Try.func69, Try.ntmps69
  go_wp2
  go_ret
  exact ⟨rfl, rfl⟩

theorem bytesFor_any (wd i : Int) (w : World) (h0 : 0 ≤ wd) (h1 : wd ≤ 64) (h2 : 0 ≤ i) (h3 : i ≤ 9223372036854775807) (h4 : 0 ≤ wd * i) (h5 : wd * i ≤ 9223372036854775807) :
    Calls Try.prog 67 #[.int .i64 wd, .int .i64 i] w fun e w' => e = .returned (.int .i64 ((wd * i + 7) / 8)) ∧ w = w' := by
  go_enter Try.func67, Try.ntmps67
  go_wp2_with (go_at_call 69; refine (place_any _ _ _ h0 h1 h2 h3 h4 (by omega)).mono ?_; rintro e w1 ⟨rfl, rfl⟩)
  go_ret
  exact ⟨rfl, rfl⟩

end Go.Proofs.Ytoefhblojoaikaa
