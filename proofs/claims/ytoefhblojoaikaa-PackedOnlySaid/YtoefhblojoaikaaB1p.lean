import Derived.Test.YtoefhblojoaikaaB0
import Derived.Test.YtoefhblojoaikaaA1P
import Derived.Test.YtoefhblojoaikaaA1U
import Derived.Test.YtoefhblojoaikaaBL
namespace Go.Proofs.Ytoefhblojoaikaa
open Go.RowKit

/-- Bit k of a number; the w bits of N from place at on. -/
def bitAt (N k : Nat) : Nat := N / 2 ^ k % 2
def dig (N at_ w : Nat) : Nat := N / 2 ^ at_ % 2 ^ w
theorem bitAt_lt (N k : Nat) : bitAt N k < 2 := Nat.mod_lt _ (by omega)
theorem dig_zero (N a : Nat) : dig N a 0 = 0 := by simp [dig, Nat.mod_one]
theorem dig_lt (N a w : Nat) : dig N a w < 2 ^ w := Nat.mod_lt _ (Nat.two_pow_pos w)
/-- One more bit from below. -/
theorem dig_low (N a w : Nat) : dig N a (w + 1) = dig N (a + 1) w * 2 + bitAt N a := by
  unfold dig bitAt
  rw [Nat.pow_succ 2 w, Nat.mul_comm (2 ^ w) 2, Nat.mod_mul, Nat.pow_succ 2 a, ← Nat.div_div_eq_div_mul]
  omega

theorem bit_of_byte {bs : List Nat} (h : U8 bs) (k : Nat) : bs.getD (k / 8) 0 / pw (k % 8) % 2 = bitAt (pk 8 bs) k := by
  unfold bitAt pw
  rw [← pk_at (U8_wd.1 h) (k / 8)]
  have hk : 8 * (k / 8) + k % 8 = k := by omega
  have h2 : 2 ^ 8 = 2 ^ (k % 8) * 2 ^ (8 - k % 8) := by rw [← Nat.pow_add]; congr 1; omega
  rw [h2, Nat.mod_mul_right_div_self, Nat.div_div_eq_div_mul, ← Nat.pow_add, hk]
  have h3 : 2 ^ (8 - k % 8) = 2 * 2 ^ (7 - k % 8) := by rw [Nat.mul_comm, ← Nat.pow_succ]; congr 1; omega
  rw [h3, Nat.mod_mul_right_mod]


set_option maxHeartbeats 400000 in
theorem bit_nat (A : Option Addr) (n c : Nat) (k : Nat) (bs : List Nat) (w : World) (hx : Rd .u8 w A n bs) (hu : U8 bs) (hn : n ≤ 281474976710656) (hk : k < 8 * n) :
    Calls Try.prog 74 #[.slice A n c, .int .i64 k] w fun e w' => e = .returned (.int .u64 (bitAt (pk 8 bs) k)) ∧ ∃ q, w' = w.drewN q := by
  obtain ⟨b, o, rfl, hb, hc⟩ := hx.at_ (show k / 8 < n by omega)
  have hbit := bit_of_byte hu k
  have hlt := hu.at_ (k / 8)
  obtain ⟨x, hx'⟩ : ∃ x, x = bs.getD (k / 8) 0 := ⟨_, rfl⟩
  rw [← hx'] at hc hbit hlt
  have Hbit := Lib.hid hbit
  clear hbit hx'
  have h1 : (0 : Int) ≤ (k : Int) / 8 := by omega
  have h2 : (k : Int) / 8 < (n : Int) := by omega
  have h3 : (0 : Int) ≤ (k : Int) % 8 := by omega
  have hp := pw_pos (k % 8)
  have w1 : IntKind.i64.wrap ((k : Int) / 8) = (k : Int) / 8 := IntWalk.i64_in _ (by omega)
  have w2 : ((k : Int) / 8).toNat = k / 8 := by omega
  have w3 : (k : Int).tmod 8 = (k : Int) % 8 := Int.tmod_eq_emod_of_nonneg (by omega)
  have w4 : ((k : Int) % 8).toNat = k % 8 := by omega
  go_enter Try.func74, Try.ntmps74
  go_wp2_with fail
  go_quiet ((go_at_call 71; exact Calls.quiet_of_same (power_any _ _ (by omega) (by omega))))
  go_wp2
  go_ret
  have e1 : (IntKind.u64.wrap ((x : Int) / (pw (k % 8) : Int))).tmod 2 = (bitAt (pk 8 bs) k : Int) := by
    have e2 : x / pw (k % 8) ≤ x := Nat.div_le_self _ _
    rw [← Hbit.out, ← Int.natCast_ediv]
    generalize x / pw (k % 8) = Q at *
    rw [IntWalk.u64_in _ (by omega), Int.tmod_eq_emod_of_nonneg (by omega)]
    omega
  exact ⟨ret_int e1, _, rfl⟩

theorem bit_any (A : Option Addr) (n c : Nat) (k : Int) (bs : List Nat) (w : World) (hx : Rd .u8 w A n bs) (hu : U8 bs) (hn : n ≤ 281474976710656) (h0 : 0 ≤ k) (hk : k < 8 * n) :
    Calls Try.prog 74 #[.slice A n c, .int .i64 k] w fun e w' => e = .returned (.int .u64 (bitAt (pk 8 bs) k.toNat)) ∧ ∃ q, w' = w.drewN q := by
  obtain ⟨k', rfl⟩ := Int.eq_ofNat_of_zero_le h0
  exact bit_nat A n c k' bs w hx hu hn (by omega)

set_option maxHeartbeats 400000 in
theorem number_any (A : Option Addr) (n c : Nat) (a wd : Nat) (bs : List Nat) (w : World) (hx : Rd .u8 w A n bs) (hu : U8 bs) (hn : n ≤ 281474976710656) (hk : a + wd ≤ 8 * n) (hw : wd ≤ 64) :
    Calls Try.prog 75 #[.slice A n c, .int .i64 a, .int .i64 wd] w fun e w' => e = .returned (.int .u64 (dig (pk 8 bs) a wd)) ∧ ∃ q, w' = w.drewN q := by
  go_enter Try.func75, Try.ntmps75
  go_wp2
  go_loopw [7, 8] (fun v i wr => ∃ j q : Nat, j ≤ wd ∧ i = .int .i64 ((wd : Int) - 1 - (j : Int)) ∧ v = .int .u64 (dig (pk 8 bs) (a + (wd - j)) j) ∧ wr = w.drewN q) (fun _ i _ => (intOf i + 1).toNat)
  case atStart => exact ⟨0, 0, Nat.zero_le _, by go_num, by rw [dig_zero]; rfl, rfl⟩
  case round =>
    obtain ⟨j, q, hj, rfl, rfl, rfl⟩ := hrel
    by_cases hlt : j < wd
    · have h1 : (0 : Int) ≤ (wd : Int) - 1 - (j : Int) := by omega
      have hl := dig_lt (pk 8 bs) (a + (wd - j)) j
      have hp : 2 ^ (j + 1) ≤ 2 ^ 64 := Nat.pow_le_pow_right (by omega) (by omega)
      have hp1 : 2 ^ (j + 1) = 2 * 2 ^ j := by rw [Nat.pow_succ, Nat.mul_comm]
      have hb := bitAt_lt (pk 8 bs) (a + (wd - 1 - j))
      have hd := dig_low (pk 8 bs) (a + (wd - 1 - j)) j
      rw [show a + (wd - 1 - j) + 1 = a + (wd - j) from by omega] at hd
      have hs := dig_lt (pk 8 bs) (a + (wd - 1 - j)) (j + 1)
      have e1 : a + (wd - (j + 1)) = a + (wd - 1 - j) := by omega
      obtain ⟨d, hde⟩ : ∃ d, d = dig (pk 8 bs) (a + (wd - j)) j := ⟨_, rfl⟩
      rw [← hde] at hl hd ⊢
      rw [hd] at hs
      have hl2 : (d : Int) * 2 ≤ 18446744073709551615 := by omega
      have hs2 : d * 2 + bitAt (pk 8 bs) (a + (wd - 1 - j)) ≤ 18446744073709551615 := by omega
      have Hd := Lib.hid hd
      have E1 := Lib.hid e1
      clear hd hde e1 hp hp1 hs hl
      go_wp2_with (go_at_call 74; refine (bit_any _ _ _ _ bs _ (hx.drewN q) hu hn (by omega) (by omega)).mono ?_; rintro e w1 ⟨rfl, q1, rfl⟩)
      go_roundw
      case rel => exact ⟨j + 1, _, by omega, by go_num, by rw [E1.out, Hd.out]; go_num, rfl⟩
      case measure => simp [intOf]; omega
    · obtain rfl : j = wd := by omega
      go_wp2
      go_ret
      exact ⟨ret_int (by rw [show a + (j - j) = a from by omega]), q, rfl⟩

end Go.Proofs.Ytoefhblojoaikaa
