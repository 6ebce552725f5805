/-
  Signs folded.
-/
import Derived.Test.YtoefhblojoaikaaBL
namespace Go.Proofs.Ytoefhblojoaikaa
open Go.RowKit

theorem nat_xor_top {a : Nat} (h : a < 18446744073709551616) : a ^^^ 9223372036854775808 = if a < 9223372036854775808 then a + 9223372036854775808 else a - 9223372036854775808 := by
  have h1 : (a ^^^ 9223372036854775808) % 2 ^ 63 = a % 2 ^ 63 := by
    rw [Nat.xor_mod_two_pow]; simp
  have h2 : (a ^^^ 9223372036854775808) / 2 ^ 63 = a / 2 ^ 63 ^^^ 1 := by
    rw [Nat.xor_div_two_pow]
  have hlt : a ^^^ 9223372036854775808 < 2 ^ 64 := Nat.xor_lt_two_pow h (by omega)
  by_cases ha : a < 9223372036854775808
  · rw [if_pos ha]
    rw [show a / 2 ^ 63 = 0 from by omega] at h2
    simp at h2
    omega
  · rw [if_neg ha]
    rw [show a / 2 ^ 63 = 1 from by omega] at h2
    simp at h2
    omega

theorem nat_xor_all {a : Nat} (h : a < 18446744073709551616) : a ^^^ 18446744073709551615 = 18446744073709551615 - a := by
  have e : (~~~ (BitVec.ofNat 64 a)).toNat = 2 ^ 64 - 1 - a := by
    rw [BitVec.toNat_not, BitVec.toNat_ofNat, Nat.mod_eq_of_lt h]
  rw [BitVec.not_def, BitVec.toNat_xor, BitVec.toNat_allOnes, BitVec.toNat_ofNat, Nat.mod_eq_of_lt h] at e
  rw [Nat.xor_comm]
  exact e

def foldS (v : Int) : Int := if v < 0 then -2 * v - 1 else 2 * v
def unfS (u : Int) : Int := if u % 2 = 0 then u / 2 else -(u / 2) - 1
def flipS (v : Int) : Int := v + 9223372036854775808
def unflS (u : Int) : Int := u - 9223372036854775808

theorem fold_bits {v : Int} (h0 : -9223372036854775808 ≤ v) (h1 : v ≤ 9223372036854775807) :
    bits .xor .u64 (IntKind.u64.wrap (IntKind.u64.wrap v * 2)) (IntKind.u64.wrap (v / 9223372036854775808)) = foldS v := by
  unfold foldS
  simp only [IntKind.wrap_u64]
  by_cases hv : v < 0
  · rw [if_pos hv]
    have e1 : v % 18446744073709551616 * 2 % 18446744073709551616 = ((2 * v + 18446744073709551616).toNat : Int) := by omega
    have e2 : v / 9223372036854775808 % 18446744073709551616 = ((18446744073709551615 : Nat) : Int) := by omega
    rw [e1, e2, u64_xor_nat _ _ (by omega) (by omega), nat_xor_all (by omega)]
    omega
  · rw [if_neg hv]
    have e1 : v % 18446744073709551616 * 2 % 18446744073709551616 = ((2 * v).toNat : Int) := by omega
    have e2 : v / 9223372036854775808 % 18446744073709551616 = ((0 : Nat) : Int) := by omega
    rw [e1, e2, u64_xor_nat _ _ (by omega) (by omega), Nat.xor_zero]
    omega

theorem flip_bits {v : Int} (h0 : -9223372036854775808 ≤ v) (h1 : v ≤ 9223372036854775807) :
    bits .xor .u64 (IntKind.u64.wrap v) 9223372036854775808 = flipS v := by
  unfold flipS
  rw [IntKind.wrap_u64]
  have e1 : v % 18446744073709551616 = ((v % 18446744073709551616).toNat : Int) := by omega
  rw [e1, show (9223372036854775808 : Int) = ((9223372036854775808 : Nat) : Int) from rfl, u64_xor_nat _ _ (by omega) (by omega), nat_xor_top (by omega)]
  split <;> omega

theorem unflip_bits {u : Int} (h0 : 0 ≤ u) (h1 : u ≤ 18446744073709551615) : wrap64 (bits .xor .u64 u 9223372036854775808) = unflS u := by
  unfold unflS
  have e1 : u = (u.toNat : Int) := by omega
  rw [e1, show (9223372036854775808 : Int) = ((9223372036854775808 : Nat) : Int) from rfl, u64_xor_nat _ _ (by omega) (by omega), nat_xor_top (by omega)]
  unfold wrap64
  split <;> omega

theorem unfold_bits {u : Int} (h0 : 0 ≤ u) (h1 : u ≤ 18446744073709551615) : bits .xor .i64 (u / 2) (wrap64 (-wrap64 (bits .and .u64 u 1))) = unfS u := by
  unfold unfS
  have e0 : bits .and .u64 u 1 = u % 2 := by
    have e1 : u = (u.toNat : Int) := by omega
    rw [e1, show (1 : Int) = ((1 : Nat) : Int) from rfl, u64_and_nat _ _ (by omega) (by omega), nat_mask1]
    omega
  rw [e0]
  have hx : ∀ a b : Int, bits .xor .i64 a b = IntKind.i64.wrap ((BitVec.ofInt 64 a ^^^ BitVec.ofInt 64 b).toNat : Int) := fun a b => rfl
  have ha : (BitVec.ofInt 64 (u / 2)).toNat = (u / 2).toNat := by
    have := ofInt_u64 (u / 2).toNat (by omega)
    rwa [Int.toNat_of_nonneg (by omega)] at this
  rw [hx, BitVec.toNat_xor, ha]
  by_cases hp : u % 2 = 0
  · rw [if_pos hp, hp]
    have : (BitVec.ofInt 64 (wrap64 (-wrap64 0))).toNat = 0 := by decide +kernel
    rw [this, Nat.xor_zero, IntKind.wrap_i64]
    omega
  · rw [if_neg hp, show u % 2 = 1 from by omega]
    have : (BitVec.ofInt 64 (wrap64 (-wrap64 1))).toNat = 18446744073709551615 := by decide +kernel
    rw [this, nat_xor_all (by omega), IntKind.wrap_i64]
    omega

theorem fold_any (v : Int) (w : World) (h0 : -9223372036854775808 ≤ v) (h1 : v ≤ 9223372036854775807) :
    Calls Try.prog 41 #[.int .i64 v] w fun e w' => e = .returned (.int .u64 (foldS v)) ∧ w = w' := by
  have H := Lib.hid (fold_bits h0 h1)
  go_enter Try.func41, Try.ntmps41
  go_wp2
  go_ret
  exact ⟨ret_int H.out, rfl⟩
theorem unfold_any (u : Int) (w : World) (h0 : 0 ≤ u) (h1 : u ≤ 18446744073709551615) :
    Calls Try.prog 64 #[.int .u64 u] w fun e w' => e = .returned (.int .i64 (unfS u)) ∧ w = w' := by
  have H := Lib.hid (unfold_bits h0 h1)
  go_enter Try.func64, Try.ntmps64
  go_wp2
  go_ret
  exact ⟨ret_int H.out, rfl⟩

end Go.Proofs.Ytoefhblojoaikaa
