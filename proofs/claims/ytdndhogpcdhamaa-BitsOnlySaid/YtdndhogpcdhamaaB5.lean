import Derived.Test.YtdndhogpcdhamaaB4
namespace Go.Proofs.Ytdndhogpcdhamaa
open Go.RowKit

theorem isWidth_yes (wd : Int) (w : World) (h0 : 0 ≤ wd) (h1 : wd ≤ 64) :
    Calls Try.prog 49 #[.int .i64 wd] w fun e w' => e = .returned (.bool true) ∧ w = w' := by
  go_enter Try.func49, Try.ntmps49
  go_wp2
  go_ret
  exact ⟨rfl, rfl⟩

theorem isWidth_no (wd : Int) (w : World) (h : wd < 0 ∨ 64 < wd) :
    Calls Try.prog 49 #[.int .i64 wd] w fun e w' => e = .returned (.bool false) ∧ w = w' := by
  rcases h with h | h
  · go_enter Try.func49, Try.ntmps49
    go_wp2
    go_ret
    exact ⟨rfl, rfl⟩
  · have h2 : decide (wd ≤ 64) = false := by simp; omega
    by_cases h0 : 0 ≤ wd
    all_goals
      go_enter Try.func49, Try.ntmps49
      go_wp2
      go_ret
      exact ⟨rfl, rfl⟩

theorem place_any (wd i : Int) (w : World) (h0 : 0 ≤ wd) (h1 : wd ≤ 64) (h2 : 0 ≤ i) (h3 : i ≤ 9223372036854775807) (h4 : 0 ≤ wd * i) (h5 : wd * i ≤ 18446744073709551615) :
    Calls Try.prog 52 #[.int .i64 wd, .int .i64 i] w fun e w' => e = .returned (.int .u64 (wd * i)) ∧ w = w' := by
  go_enter Try.func52, Try.ntmps52
  go_wp2
  go_ret
  exact ⟨rfl, rfl⟩

theorem bytesFor_any (wd i : Int) (w : World) (h0 : 0 ≤ wd) (h1 : wd ≤ 64) (h2 : 0 ≤ i) (h3 : i ≤ 9223372036854775807) (h4 : 0 ≤ wd * i) (h5 : wd * i ≤ 9223372036854775807) :
    Calls Try.prog 50 #[.int .i64 wd, .int .i64 i] w fun e w' => e = .returned (.int .i64 ((wd * i + 7) / 8)) ∧ w = w' := by
  go_enter Try.func50, Try.ntmps50
  go_wp2_with (go_at_call 52; refine (place_any _ _ _ h0 h1 h2 h3 h4 (by omega)).mono ?_; rintro e w1 ⟨rfl, rfl⟩)
  go_ret
  exact ⟨rfl, rfl⟩

set_option maxHeartbeats 800000 in
theorem at_any (A : Option Addr) (n c : Nat) (wd i : Int) (bs : List Nat) (w : World) (hx : Rd .u8 w A n bs) (hu : U8 bs) (hn : n ≤ 140737488355328) (hi : i ≤ 9223372036854775807) :
    Calls Try.prog 26 #[.slice A n c, .int .i64 wd, .int .i64 i] w fun e w' => e = .returned (.tuple #[.int .u64 (atS (pk 8 bs) n wd i).1, .bool (atS (pk 8 bs) n wd i).2]) ∧ w = w' := by
  by_cases hw : wd < 0 ∨ 64 < wd
  · rw [show atS (pk 8 bs) n wd i = (0, false) from if_pos (by omega)]
    go_enter Try.func26, Try.ntmps26
    go_wp2_with (go_at_call 49; refine (isWidth_no _ _ hw).mono ?_; rintro e w1 ⟨rfl, rfl⟩)
    go_ret2
    exact ⟨rfl, rfl⟩
  · have hw0 : 0 ≤ wd := by omega
    have hw1 : wd ≤ 64 := by omega
    by_cases hneg : i < 0
    · rw [show atS (pk 8 bs) n wd i = (0, false) from if_pos (by omega)]
      clear hw
      go_enter Try.func26, Try.ntmps26
      go_wp2_with (go_at_call 49; refine (isWidth_yes _ _ hw0 hw1).mono ?_; rintro e w1 ⟨rfl, rfl⟩)
      go_ret2
      exact ⟨rfl, rfl⟩
    · have hi0 : 0 ≤ i := by omega
      have hgood : ¬ (wd < 0 ∨ 64 < wd ∨ i < 0) := by omega
      by_cases hz : wd = 0
      · rw [show atS (pk 8 bs) n wd i = (0, true) from by unfold atS; rw [if_neg hgood, if_pos hz]]
        have hz' : (wd == 0) = true := by simp [hz]
        clear hz hw hgood hneg
        go_enter Try.func26, Try.ntmps26
        go_wp2_with (go_at_call 49; refine (isWidth_yes _ _ hw0 hw1).mono ?_; rintro e w1 ⟨rfl, rfl⟩)
        go_ret2
        exact ⟨rfl, rfl⟩
      · have hz' : (wd == 0) = false := by simp [hz]
        obtain ⟨wn, rfl⟩ := Int.eq_ofNat_of_zero_le hw0
        obtain ⟨k, rfl⟩ := Int.eq_ofNat_of_zero_le hi0
        have hwp : 0 < wn := by omega
        have hdiv : (n : Int) * 8 / (wn : Int) = ((8 * n / wn : Nat) : Int) := by rw [Int.natCast_ediv]; congr 1; omega
        have hq : 8 * n / wn ≤ 8 * n := Nat.div_le_self _ _
        have hiff := Nat.le_div_iff_mul_le (x := k + 1) (y := 8 * n) hwp
        have hnc : ((k : Int) + 1) * (wn : Int) = (((k + 1) * wn : Nat) : Int) := by norm_cast
        have Hdiv := Lib.hid hdiv
        by_cases hfar : 8 * (n : Int) < ((k : Int) + 1) * (wn : Int)
        · rw [show atS (pk 8 bs) n wn k = (0, false) from by unfold atS; rw [if_neg hgood, if_neg hz, if_pos hfar]]
          have hge : ((8 * n / wn : Nat) : Int) ≤ (k : Int) := by omega
          generalize 8 * n / wn = Q at *
          clear hiff hnc hfar hz hgood hneg hw
          go_enter Try.func26, Try.ntmps26
          go_wp2_with (go_at_call 49; refine (isWidth_yes _ _ hw0 hw1).mono ?_; rintro e w1 ⟨rfl, rfl⟩)
          go_ret2
          exact ⟨rfl, rfl⟩
        · rw [show atS (pk 8 bs) n wn k = (dig (pk 8 bs) (wn * k) wn, true) from by unfold atS; rw [if_neg hgood, if_neg hz, if_neg hfar]; rw [← Int.natCast_mul]; rfl]
          have hge : (k : Int) < ((8 * n / wn : Nat) : Int) := by omega
          have hmul : (wn : Int) * (k : Int) = ((wn * k : Nat) : Int) := by norm_cast
          have hk2 : wn * k + wn ≤ 8 * n := by have : (k + 1) * wn ≤ 8 * n := by omega
                                               rw [Nat.add_mul, Nat.one_mul, Nat.mul_comm] at this; exact this
          have hp0 : (0 : Int) ≤ (wn : Int) * (k : Int) := by omega
          have hp1 : (wn : Int) * (k : Int) ≤ 18446744073709551615 := by omega
          have Hmul := Lib.hid hmul
          generalize 8 * n / wn = Q at *
          clear hmul hiff hnc hfar hz hgood hneg hw
          go_enter Try.func26, Try.ntmps26
          go_wp2_with (first | (go_at_call 49; refine (isWidth_yes _ _ hw0 hw1).mono ?_; rintro e w1 ⟨rfl, rfl⟩) | (go_at_call 52; refine (place_any _ _ _ hw0 hw1 hi0 hi hp0 hp1).mono ?_; rintro e w1 ⟨rfl, rfl⟩))
          rw [Hmul.out]
          refine (read_any _ _ _ _ _ bs _ hx hu hn (by omega) hk2).mono ?_
          rintro e w1 ⟨rfl, rfl⟩
          go_wp2
          go_ret2
          exact ⟨rfl, rfl⟩

end Go.Proofs.Ytdndhogpcdhamaa
