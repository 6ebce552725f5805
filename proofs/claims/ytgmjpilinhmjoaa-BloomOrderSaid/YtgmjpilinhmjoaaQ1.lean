/-
  Layer 13: the hash and a key's bits, as mathematics; both sides' Hash; the reference's place.
-/
import Derived.Test.YtgmjpilinhmjoaaP2s
import Derived.Laws.BitsAllLaws
import Derived.Laws.Bits64
namespace Go.Proofs.Ytgmjpilinhmjoaa
open Go.RowKit
set_option maxRecDepth 100000

def fnvS (h c : Nat) : Nat := (h ^^^ c) * 1099511628211 % 18446744073709551616
def fnv (bs : List Nat) : Nat := bs.foldl fnvS 14695981039346656037
theorem fnv_nil : fnv [] = 14695981039346656037 := List.foldl_nil
theorem fnv_snoc (bs : List Nat) (c : Nat) : fnv (bs ++ [c]) = fnvS (fnv bs) c := by unfold fnv; rw [List.foldl_append, List.foldl_cons, List.foldl_nil]
theorem fnvS_lt (h c : Nat) : fnvS h c < 18446744073709551616 := Nat.mod_lt _ (by decide)
theorem fnv_lt (bs : List Nat) : fnv bs < 18446744073709551616 := by
  rcases List.eq_nil_or_concat bs with rfl | ⟨l, c, rfl⟩
  · rw [fnv_nil]; decide
  · rw [List.concat_eq_append, fnv_snoc]; exact fnvS_lt _ _

/-- The highest 32 bits, the lowest of them made 1. -/
def hb (h : Nat) : Nat := h / 4294967296 ||| 1
theorem hb_lt {h : Nat} (hh : h < 18446744073709551616) : hb h < 4294967296 := Nat.or_lt_two_pow (n := 32) (by omega) (by decide)
theorem or_one (b : Nat) : b ||| 1 = if b % 2 = 0 then b + 1 else b := by
  have h2 : b = 2 * (b / 2) + b % 2 := (Nat.div_add_mod b 2).symm
  apply Nat.eq_of_testBit_eq
  intro i
  rw [Nat.testBit_or]
  cases i with
  | zero =>
    simp only [Nat.testBit_zero]
    split <;> rename_i hz
    · have : (b + 1) % 2 = 1 := by omega
      simp [this]
    · have : b % 2 = 1 := by omega
      simp [this]
  | succ i =>
    rw [Nat.testBit_succ, Nat.testBit_succ, Nat.testBit_succ]
    have h1 : (1 : Nat) / 2 = 0 := rfl
    rw [h1, Nat.zero_testBit, Bool.or_false]
    split <;> rename_i hz
    · rw [show (b + 1) / 2 = b / 2 from by omega]
    · rfl
/-- The key's bit number i among m. -/
def kk (h m i : Nat) : Nat := (h % 4294967296 + i * hb h) % m
theorem kk_lt {h m i : Nat} (hm : 0 < m) : kk h m i < m := Nat.mod_lt _ hm

theorem mul_fnv {x : Nat} : IntKind.u64.wrap ((x : Int) * 1099511628211) = ((x * 1099511628211 % 18446744073709551616 : Nat) : Int) := by
  rw [IntKind.wrap_u64]; omega

set_option maxHeartbeats 400000 in
theorem hash_any (A : Option Addr) (n c : Nat) (bs : List Nat) (w : World) (hx : Rd .u8 w A n bs) (hu : U8 bs) (hn : n ≤ 281474976710656) :
    Calls Try.prog 20 #[.slice A n c] w fun e w' => e = .returned (.int .u64 (fnv bs : Nat)) ∧ w = w' := by
  have hl := hx.len
  have Hl := Lib.hid hl
  clear hl
  go_enter Try.func20, Try.ntmps20
  go_wp2
  go_loop [3, 8] (fun s i => ∃ j : Nat, j ≤ n ∧ i = .int .i64 j ∧ s = .int .u64 (fnv (bs.take j) : Nat)) (fun _ i => n - (intOf i).toNat)
  case atStart => exact ⟨0, Nat.zero_le _, rfl, by rw [List.take_zero, fnv_nil]; rfl⟩
  case round =>
    obtain ⟨j, hj, rfl, rfl⟩ := hrel
    have hR : fnv (bs.take j) < 18446744073709551616 := fnv_lt _
    by_cases hlt : j < n
    · obtain ⟨b, o, rfl, hbl, hc⟩ := hx.at_ hlt
      have hv := hu.at_ j
      have hnext : fnv (bs.take (j + 1)) = fnvS (fnv (bs.take j)) (bs.getD j 0) := by
        rw [take_next _ _ (by have := Hl.out; omega), fnv_snoc]
      obtain ⟨x, hx'⟩ : ∃ x, x = bs.getD j 0 := ⟨_, rfl⟩
      obtain ⟨R, hR'⟩ : ∃ R, R = fnv (bs.take j) := ⟨_, rfl⟩
      rw [← hx'] at hc hv hnext
      rw [← hR'] at hR hnext ⊢
      have hxo : bits .xor .u64 (R : Int) (x : Int) = ((R ^^^ x : Nat) : Int) := u64_xor_nat _ _ hR (by omega)
      have hm := mul_fnv (x := R ^^^ x)
      rw [fnvS, ← Int.natCast_inj, ← hm] at hnext
      obtain ⟨T, hT⟩ : ∃ T, T = R ^^^ x := ⟨_, rfl⟩
      rw [← hT] at hxo hnext
      have Hn := Lib.hid hnext
      clear hnext hT hR' hx' hm
      go_wp2
      go_round
      case rel => exact ⟨j + 1, by omega, by go_num, by rw [Hn.out]⟩
      case measure => simp [intOf]; omega
    · obtain rfl : j = n := by omega
      rw [List.take_of_length_le (Nat.le_of_eq Hl.out)]
      go_wp2
      go_ret
      exact ⟨rfl, rfl⟩

set_option maxHeartbeats 400000 in
theorem refHash_any (A : Option Addr) (n c : Nat) (bs : List Nat) (w : World) (hx : Rd .u8 w A n bs) (hu : U8 bs) (hn : n ≤ 281474976710656) :
    Calls Try.prog 21 #[.slice A n c] w fun e w' => e = .returned (.int .u64 (fnv bs : Nat)) ∧ w = w' := by
  have hl := hx.len
  have Hl := Lib.hid hl
  clear hl
  go_enter Try.func21, Try.ntmps21
  go_wp2
  go_loop [3, 4] (fun s i => ∃ j : Nat, j ≤ n ∧ i = .int .i64 j ∧ s = .int .u64 (fnv (bs.take j) : Nat)) (fun _ i => n - (intOf i).toNat)
  case atStart => exact ⟨0, Nat.zero_le _, rfl, by rw [List.take_zero, fnv_nil]; rfl⟩
  case round =>
    obtain ⟨j, hj, rfl, rfl⟩ := hrel
    have hR : fnv (bs.take j) < 18446744073709551616 := fnv_lt _
    by_cases hlt : j < n
    · obtain ⟨b, o, rfl, hbl, hc⟩ := hx.at_ hlt
      have hv := hu.at_ j
      have hnext : fnv (bs.take (j + 1)) = fnvS (fnv (bs.take j)) (bs.getD j 0) := by
        rw [take_next _ _ (by have := Hl.out; omega), fnv_snoc]
      obtain ⟨x, hx'⟩ : ∃ x, x = bs.getD j 0 := ⟨_, rfl⟩
      obtain ⟨R, hR'⟩ : ∃ R, R = fnv (bs.take j) := ⟨_, rfl⟩
      rw [← hx'] at hc hv hnext
      rw [← hR'] at hR hnext ⊢
      have hxo : bits .xor .u64 (R : Int) (x : Int) = ((R ^^^ x : Nat) : Int) := u64_xor_nat _ _ hR (by omega)
      have hm := mul_fnv (x := R ^^^ x)
      rw [fnvS, ← Int.natCast_inj, ← hm] at hnext
      obtain ⟨T, hT⟩ : ∃ T, T = R ^^^ x := ⟨_, rfl⟩
      rw [← hT] at hxo hnext
      have Hn := Lib.hid hnext
      clear hnext hT hR' hx' hm
      go_wp2
      go_round
      case rel => exact ⟨j + 1, by omega, by go_num, by rw [Hn.out]⟩
      case measure => simp [intOf]; omega
    · obtain rfl : j = n := by omega
      rw [List.take_of_length_le (Nat.le_of_eq Hl.out)]
      go_wp2
      go_ret
      exact ⟨rfl, rfl⟩

theorem kk_lin {h i : Nat} (hh : h < 18446744073709551616) (hi : i ≤ 5) : i * hb h < 25769803776 := by
  have h1 : hb h ≤ 4294967295 := by have := hb_lt hh; omega
  calc i * hb h ≤ 5 * hb h := Nat.mul_le_mul_right _ hi
    _ ≤ 5 * 4294967295 := Nat.mul_le_mul_left _ h1
    _ < 25769803776 := by decide

end Go.Proofs.Ytgmjpilinhmjoaa
