/-
  Plain mathematics of the program's check sum: going on from a sum; the product of two registers, bit by bit; a length's power by squaring.
-/
import Derived.Test.YtgmjpilinhmjoaaK1s
namespace Go.Proofs.Ytgmjpilinhmjoaa

/-- What Extend says: the sum of what had the sum s, with b behind. -/
def ext (s : Nat) (b : List Nat) : Nat := creg (s ^^^ 4294967295) b ^^^ 4294967295
theorem ext_zero (b : List Nat) : ext 0 b = crc b := by rw [ext, Nat.zero_xor]; rfl
theorem ext_crc {a : List Nat} (ha : U8 a) (b : List Nat) : ext (crc a) b = crc (a ++ b) := by rw [ext, crc_reg, ← creg_append ha]; rfl
theorem ext_lt {s : Nat} (hs : s < 4294967296) {b : List Nat} (hb : U8 b) : ext s b < 4294967296 := xor_lt32 (creg_lt hb (xor_lt32 hs (by decide))) (by decide)

/-- The product's first k steps: for each bit of a, from the highest on, b moved on so often. -/
def pr (a b : Nat) : Nat → Nat
  | 0 => 0
  | k + 1 => pr a b k ^^^ (if a / 2 ^ (31 - k) % 2 = 1 then cN k b else 0)

theorem pr_lt {b : Nat} (hb : b < 4294967296) (a k : Nat) : pr a b k < 4294967296 := by
  induction k with
  | zero => show 0 < 4294967296; decide
  | succ k ih =>
    refine xor_lt32 ih ?_
    split
    · exact cN_lt k hb
    · decide

theorem pr_cN (a b m k : Nat) : pr a (cN m b) k = cN m (pr a b k) := by
  induction k with
  | zero => exact (cN_zero m).symm
  | succ k ih =>
    rw [pr, pr, ih, cN_xor]
    congr 1
    split
    · rw [← cN_add, Nat.add_comm, cN_add]
    · exact (cN_zero m).symm

theorem pr_one {a k : Nat} (hk : k ≤ 32) (ha : a < 4294967296) : pr a 2147483648 k = 2 ^ (32 - k) * (a / 2 ^ (32 - k)) := by
  induction k with
  | zero =>
    have : a / 2 ^ (32 - 0) = 0 := Nat.div_eq_of_lt (by simpa using ha)
    rw [this]
    rfl
  | succ k ih =>
    obtain ⟨j, hj⟩ : ∃ j, 31 - k = j := ⟨_, rfl⟩
    have h1 : 32 - k = j + 1 := by omega
    have h2 : 32 - (k + 1) = j := by omega
    have hs : cN k 2147483648 = 2 ^ j := by
      have : (2147483648 : Nat) = 2 ^ k * 2 ^ j := by rw [← Nat.pow_add, show k + j = 31 from by omega]
      rw [this, cN_shift]
    rw [pr, ih (by omega), hs, hj, h1, h2]
    have hd : a / 2 ^ (j + 1) = a / 2 ^ j / 2 := by rw [Nat.pow_succ, Nat.div_div_eq_div_mul]
    rw [hd]
    obtain ⟨q, hq⟩ : ∃ q, q = a / 2 ^ j := ⟨_, rfl⟩
    rw [← hq]
    by_cases ho : q % 2 = 1
    · rw [if_pos ho, Nat.xor_comm, ← lowhigh (w := j + 1) (v := 2 ^ j) (Nat.pow_lt_pow_right (by omega) (by omega))]
      have : q = 2 * (q / 2) + 1 := by omega
      calc 2 ^ j + 2 ^ (j + 1) * (q / 2) = 2 ^ j * (2 * (q / 2) + 1) := by rw [Nat.pow_succ, Nat.mul_add, Nat.mul_one, Nat.mul_assoc, Nat.add_comm]
        _ = 2 ^ j * q := by rw [← this]
    · rw [if_neg ho, Nat.xor_zero]
      have : q = 2 * (q / 2) := by omega
      calc 2 ^ (j + 1) * (q / 2) = 2 ^ j * (2 * (q / 2)) := by rw [Nat.pow_succ, Nat.mul_assoc]
        _ = 2 ^ j * q := by rw [← this]

/-- The product with the power of a length moves on by that length. -/
theorem pr_pow {a : Nat} (ha : a < 4294967296) (E : Nat) : pr a (cN E 2147483648) 32 = cN E a := by
  rw [pr_cN, pr_one (Nat.le_refl _) ha]
  simp

theorem pow_twice (E : Nat) : pr (cN E 2147483648) (cN E 2147483648) 32 = cN (E + E) 2147483648 := by
  rw [pr_pow (cN_lt E (by decide)), ← cN_add]

theorem join_odd (E m F : Nat) : cN ((E + E) * m) (cN E F) = cN (E * (2 * m + 1)) F := by
  rw [← cN_add]
  congr 1
  rw [Nat.mul_add, Nat.mul_one, Nat.add_mul, ← Nat.mul_assoc, Nat.mul_comm E 2, Nat.mul_assoc, Nat.two_mul]
  omega
theorem join_even (E m F : Nat) : cN ((E + E) * m) F = cN (E * (2 * m)) F := by
  congr 1
  rw [← Nat.mul_assoc, Nat.mul_comm E 2, Nat.two_mul]

/-- The power that stands for one byte. -/
theorem pow_byte : cN 8 2147483648 = 8388608 := by decide

/-- One step, in Go's words. -/
theorem moved_bits {r : Nat} (hr : r < 4294967296) : bits .xor .u32 ((r : Int) / 2) (bits .and .u32 2197175160 (IntKind.u32.wrap (-(bits .and .u32 (r : Int) 1)))) = ((cb r : Nat) : Int) := by
  have h1 : bits .and .u32 (r : Int) 1 = ((r % 2 : Nat) : Int) := by
    rw [show (1 : Int) = ((1 : Nat) : Int) from rfl, u32_and_nat _ _ hr (by decide), Nat.and_one_is_mod]
  rw [h1, show (r : Int) / 2 = ((r / 2 : Nat) : Int) from rfl]
  rcases Nat.mod_two_eq_zero_or_one r with h | h
  · rw [h, cb_even h, show IntKind.u32.wrap (-((0 : Nat) : Int)) = ((0 : Nat) : Int) from by decide, show (2197175160 : Int) = ((2197175160 : Nat) : Int) from rfl, u32_and_nat _ _ (by decide) (by decide), Nat.and_zero, u32_xor_nat _ _ (by omega) (by decide), Nat.xor_zero]
  · rw [h, cb_odd h, show IntKind.u32.wrap (-((1 : Nat) : Int)) = ((4294967295 : Nat) : Int) from by decide, show (2197175160 : Int) = ((2197175160 : Nat) : Int) from rfl, u32_and_nat _ _ (by decide) (by decide), show 2197175160 &&& 4294967295 = 2197175160 from by decide, u32_xor_nat _ _ (by omega) (by decide)]

theorem not_bits {s : Nat} (hs : s < 4294967296) : bits .xor .u32 IntKind.u32.max (s : Int) = ((s ^^^ 4294967295 : Nat) : Int) := by
  rw [show IntKind.u32.max = ((4294967295 : Nat) : Int) from rfl, u32_xor_nat _ _ (by decide) hs, Nat.xor_comm]

end Go.Proofs.Ytgmjpilinhmjoaa
