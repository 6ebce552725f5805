import Derived.Test.YtoefhblojoaikaaB3p
namespace Go.Proofs.Ytoefhblojoaikaa
open Go.RowKit

theorem dig_le64 (N a j : Nat) (h : j ≤ 64) : dig N a j < 18446744073709551616 := Nat.lt_of_lt_of_le (dig_lt _ _ _) (Nat.pow_le_pow_right (by omega) h)

/-- The bits of the byte in which bit k lies, from k on. -/
theorem byte_from (N k : Nat) : N / 2 ^ (8 * (k / 8)) % 2 ^ 8 / 2 ^ (k % 8) = N / 2 ^ k % 2 ^ (8 - k % 8) := by
  have h2 : 2 ^ 8 = 2 ^ (k % 8) * 2 ^ (8 - k % 8) := by rw [← Nat.pow_add]; congr 1; omega
  rw [h2, Nat.mod_mul_right_div_self, Nat.div_div_eq_div_mul, ← Nat.pow_add, show 8 * (k / 8) + k % 8 = k from by omega]

theorem dig_more (N a j m : Nat) : dig N a (j + m) = dig N a j + 2 ^ j * (N / 2 ^ (a + j) % 2 ^ m) := by
  unfold dig
  rw [Nat.pow_add, Nat.mod_mul, Nat.div_div_eq_div_mul, ← Nat.pow_add]

theorem shl_mod (y m j : Nat) (hj : j ≤ 64) : y % 2 ^ m * 2 ^ j % 18446744073709551616 = 2 ^ j * (y % 2 ^ (min (j + m) 64 - j)) := by
  have h1 : (18446744073709551616 : Nat) = 2 ^ (64 - j) * 2 ^ j := by rw [← Nat.pow_add, show 64 - j + j = 64 from by omega]
  rw [h1, Nat.mul_mod_mul_right, Nat.mul_comm]
  congr 1
  by_cases h : j + m ≤ 64
  · rw [Nat.min_eq_left h, show j + m - j = m from by omega, Nat.mod_eq_of_lt]
    exact Nat.lt_of_lt_of_le (Nat.mod_lt _ (Nat.two_pow_pos m)) (Nat.pow_le_pow_right (by omega) (by omega))
  · rw [Nat.min_eq_right (by omega)]
    exact Nat.mod_mod_of_dvd _ (Nat.pow_dvd_pow 2 (by omega))

theorem rd_step {N a j x : Nat} (hj : j < 64) (hx : x = N / 2 ^ (8 * ((a + j) / 8)) % 2 ^ 8) :
    bits .or .u64 (dig N a j : Int) (IntKind.u64.wrap (IntKind.u64.wrap ((x : Int) / 2 ^ ((a + j) % 8)) * 2 ^ j)) = (dig N a (min (j + (8 - (a + j) % 8)) 64) : Int) := by
  have hb := byte_from N (a + j)
  rw [← hx] at hb
  have e1 : ((x : Int) / 2 ^ ((a + j) % 8)) = ((x / 2 ^ ((a + j) % 8) : Nat) : Int) := by rw [Int.natCast_ediv]; norm_cast
  have hx8 : x < 256 := by rw [hx]; exact Nat.mod_lt _ (by omega)
  have hle : x / 2 ^ ((a + j) % 8) ≤ x := Nat.div_le_self _ _
  have e2 : IntKind.u64.wrap ((x / 2 ^ ((a + j) % 8) : Nat) : Int) = ((x / 2 ^ ((a + j) % 8) : Nat) : Int) := by
    generalize x / 2 ^ ((a + j) % 8) = y at *
    exact IntWalk.u64_in _ (by omega)
  have e3 : ((x / 2 ^ ((a + j) % 8) : Nat) : Int) * 2 ^ j = ((x / 2 ^ ((a + j) % 8) * 2 ^ j : Nat) : Int) := by norm_cast
  rw [e1, e2, e3, IntKind.wrap_u64, hb]
  have e4 : ∀ y : Nat, ((y : Int) % 18446744073709551616) = ((y % 18446744073709551616 : Nat) : Int) := fun y => by omega
  rw [e4, shl_mod _ _ _ (by omega)]
  have hm : min (j + (8 - (a + j) % 8)) 64 = j + (min (j + (8 - (a + j) % 8)) 64 - j) := by omega
  have hd := dig_more N a j (min (j + (8 - (a + j) % 8)) 64 - j)
  rw [← hm] at hd
  have h1 := dig_le64 N a j (by omega)
  have h2 := dig_le64 N a (min (j + (8 - (a + j) % 8)) 64) (by omega)
  have h3 := dig_lt N a j
  rw [hd] at h2 ⊢
  rw [u64_or_nat _ _ h1 (by omega), Nat.or_comm, nat_join j _ _ (Nat.mul_mod_right _ _) h3, Nat.add_comm]

theorem mask_eq (wd : Nat) (h : wd ≤ 64) : IntKind.u64.wrap (IntKind.u64.wrap ((2 : Int) ^ wd) - 1) = ((2 ^ wd - 1 : Nat) : Int) := by
  have e : ((2 : Int) ^ wd) = ((2 ^ wd : Nat) : Int) := by norm_cast
  rw [e]
  by_cases h64 : wd = 64
  · subst h64; decide
  · have h1 : 2 ^ wd ≤ 2 ^ 63 := Nat.pow_le_pow_right (by omega) (by omega)
    have h2 := Nat.two_pow_pos wd
    generalize 2 ^ wd = y at *
    rw [IntWalk.u64_in (y : Int) (by omega), IntWalk.u64_in _ (by omega)]
    omega

theorem mask_dig {N a j wd : Nat} (h : wd ≤ j) (hw : wd ≤ 64) : bits .and .u64 (dig N a (min j 64) : Int) (IntKind.u64.wrap (IntKind.u64.wrap ((2 : Int) ^ wd) - 1)) = (dig N a wd : Int) := by
  have h1 : 2 ^ wd ≤ 2 ^ 64 := Nat.pow_le_pow_right (by omega) hw
  have h2 := Nat.two_pow_pos wd
  rw [mask_eq wd hw, u64_and_nat _ _ (dig_le64 N a _ (by omega)) (by omega), Nat.and_two_pow_sub_one_eq_mod]
  unfold dig
  rw [Nat.mod_mod_of_dvd _ (Nat.pow_dvd_pow 2 (by omega))]

set_option maxHeartbeats 800000 in
theorem read_any (A : Option Addr) (n c : Nat) (a wd : Nat) (bs : List Nat) (w : World) (hx : Rd .u8 w A n bs) (hu : U8 bs) (hn : n ≤ 140737488355328) (hw : wd ≤ 64) (hk : a + wd ≤ 8 * n) :
    Calls Try.prog 77 #[.slice A n c, .int .u64 a, .int .i64 wd] w fun e w' => e = .returned (.int .u64 (dig (pk 8 bs) a wd)) ∧ w = w' := by
  go_enter Try.func77, Try.ntmps77
  go_wp2_with fail
  go_loop [7, 8, 9] (fun v i _ => ∃ j : Nat, j ≤ wd + 7 ∧ i = .int .i64 j ∧ v = .int .u64 (dig (pk 8 bs) a (min j 64))) (fun _ i _ => wd + 7 - (intOf i).toNat)
  case atStart => exact ⟨0, by omega, rfl, by rw [Nat.zero_min, dig_zero]; rfl⟩
  case round =>
    obtain ⟨j, hj, rfl, rfl⟩ := hrel
    by_cases hlt : j < wd
    · obtain ⟨b, o, rfl, hb, hc⟩ := hx.at_ (show (a + j) / 8 < n by omega)
      have h2 := hu.at_ ((a + j) / 8)
      have hp := pk_at (U8_wd.1 hu) ((a + j) / 8)
      have hd0 := dig_le64 (pk 8 bs) a j (by omega)
      rw [← hp] at hc h2
      obtain ⟨x, hx'⟩ : ∃ x, x = pk 8 bs / 2 ^ (8 * ((a + j) / 8)) % 2 ^ 8 := ⟨_, rfl⟩
      rw [← hx'] at hc h2
      have Hs := Lib.hid (rd_step (show j < 64 by omega) hx')
      rw [Nat.min_eq_left (show j ≤ 64 by omega)]
      obtain ⟨v, hv⟩ : ∃ v, v = dig (pk 8 bs) a j := ⟨_, rfl⟩
      rw [← hv] at hd0 ⊢ Hs
      clear hv hx' hp
      go_wp2
      go_round
      case rel => exact ⟨j + (8 - (a + j) % 8), by omega, by go_num, by rw [Hs.out]⟩
      case measure => simp [intOf]; omega
    · have Hm := Lib.hid (mask_dig (N := pk 8 bs) (a := a) (show wd ≤ j by omega) hw)
      go_wp2
      go_ret
      exact ⟨ret_int Hm.out, rfl⟩

end Go.Proofs.Ytoefhblojoaikaa
