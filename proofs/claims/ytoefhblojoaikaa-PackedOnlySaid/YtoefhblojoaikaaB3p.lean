/-
  Width, the program's and the document's.
-/
import Derived.Test.YtoefhblojoaikaaB2p
import Derived.Test.YtoefhblojoaikaaBL
namespace Go.Proofs.Ytoefhblojoaikaa
open Go.RowKit

set_option maxHeartbeats 400000 in
theorem width_any (A : Option Addr) (n c : Nat) (vs : List Nat) (w : World) (hx : Rd .u64 w A n vs) (hu : U64 vs) (hn : n ≤ 140737488355328) :
    Calls Try.prog 53 #[.slice A n c] w fun e w' => e = .returned (.int .i64 (wdt vs)) ∧ w = w' := by
  have hl := hx.len
  have Hl := Lib.hid hl
  clear hl
  go_enter Try.func53, Try.ntmps53
  go_wp2_with fail
  go_loop [3, 7] (fun v i => ∃ j : Nat, j ≤ n ∧ i = .int .i64 j ∧ v = .int .u64 (orAll (vs.take j))) (fun _ i => n - (intOf i).toNat)
  case atStart => exact ⟨0, Nat.zero_le _, rfl, rfl⟩
  case round =>
    obtain ⟨j, hj, rfl, rfl⟩ := hrel
    by_cases hlt : j < n
    · obtain ⟨b, o, rfl, hb, hc⟩ := hx.at_ hlt
      have h1 := orAll_lt (vs := vs.take j) (fun v hv => hu v (List.mem_of_mem_take hv))
      have h2 := hu.at_ j
      have Ht := Lib.hid (take_next vs j (by have := Hl.out; omega))
      obtain ⟨x, hx'⟩ : ∃ x, x = vs.getD j 0 := ⟨_, rfl⟩
      rw [← hx'] at hc h2 Ht
      have hor := u64_or_nat _ _ h1 h2
      clear hx'
      go_wp2
      go_round
      case rel => exact ⟨j + 1, by omega, by go_num, by rw [Ht.out, orAll_snoc]⟩
      case measure => simp [intOf]; omega
    · obtain rfl : j = n := by omega
      have h1 := orAll_lt hu
      rw [List.take_of_length_le (Nat.le_of_eq Hl.out)]
      go_wp2_with (go_at_call 65; refine (len64_any _ _ h1).mono ?_; rintro e w1 ⟨rfl, rfl⟩)
      go_ret
      exact ⟨by rw [← orAll_bl]; rfl, rfl⟩

set_option maxHeartbeats 400000 in
theorem refWidth_any (A : Option Addr) (n c : Nat) (vs : List Nat) (w : World) (hx : Rd .u64 w A n vs) (hu : U64 vs) (hn : n ≤ 140737488355328) :
    Calls Try.prog 56 #[.slice A n c] w fun e w' => e = .returned (.int .i64 (wdt vs)) ∧ w = w' := by
  have hl := hx.len
  have Hl := Lib.hid hl
  clear hl
  go_enter Try.func56, Try.ntmps56
  go_wp2_with fail
  go_loop [3, 4] (fun v i => ∃ j : Nat, j ≤ n ∧ i = .int .i64 j ∧ v = .int .i64 (wdt (vs.take j))) (fun _ i => n - (intOf i).toNat)
  case atStart => exact ⟨0, Nat.zero_le _, rfl, rfl⟩
  case round =>
    obtain ⟨j, hj, rfl, rfl⟩ := hrel
    by_cases hlt : j < n
    · obtain ⟨b, o, rfl, hb, hc⟩ := hx.at_ hlt
      have h2 := hu.at_ j
      have Ht := Lib.hid (take_next vs j (by have := Hl.out; omega))
      obtain ⟨x, hx'⟩ : ∃ x, x = vs.getD j 0 := ⟨_, rfl⟩
      rw [← hx'] at hc h2 Ht
      clear hx'
      go_wp2_with fail
      have h64 := bl_64 h2
      go_loop [5, 6] (fun m v => ∃ k y : Nat, m = .int .i64 k ∧ v = .int .u64 y ∧ Hid (bl x = bl y + k) ∧ k ≤ 64 ∧ y < 18446744073709551616) (fun m v => (intOf v).toNat)
      case atStart => exact ⟨0, x, rfl, rfl, rfl, by omega, h2⟩
      case round =>
        obtain ⟨k, y, rfl, rfl, Hk, hk64, hy⟩ := hrel
        by_cases hy0 : 0 < y
        · have Hb := Lib.hid (bl_half hy0)
          have hk2 : k + 1 ≤ 64 := by have := Hb.out; have := Hk.out; omega
          go_wp2
          go_round
          case rel => exact ⟨k + 1, y / 2, by go_num, by go_num, by have := Hb.out; have := Hk.out; show bl x = _; omega, hk2, by omega⟩
          case measure => simp [intOf]; omega
        · obtain rfl : y = 0 := by omega
          have hk3 : bl x = k := by have := Hk.out; rw [bl_zero] at this; omega
          have Hk3 := Lib.hid hk3
          clear hk3
          by_cases hg : wdt (vs.take j) < k
          · go_wp2
            go_round
            case rel => exact ⟨j + 1, by omega, by go_num, by rw [Ht.out, wdt_snoc, Hk3.out, Nat.max_eq_right (by omega)]⟩
            case measure => simp [intOf]; omega
          · go_wp2
            go_round
            case rel => exact ⟨j + 1, by omega, by go_num, by rw [Ht.out, wdt_snoc, Hk3.out, Nat.max_eq_left (by omega)]⟩
            case measure => simp [intOf]; omega
    · obtain rfl : j = n := by omega
      rw [List.take_of_length_le (Nat.le_of_eq Hl.out)]
      go_wp2
      go_ret
      exact ⟨rfl, rfl⟩

end Go.Proofs.Ytoefhblojoaikaa
