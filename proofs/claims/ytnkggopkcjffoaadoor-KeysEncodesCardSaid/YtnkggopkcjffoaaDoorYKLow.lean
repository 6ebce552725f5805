import Derived.Test.YtnkggopkcjffoaaDoorG1

/-
  The document's Low.
-/
namespace Go.Proofs.YtnkggopkcjffoaaDoor
open Go.RowKit

set_option maxHeartbeats 400000 in
theorem low_any (v m : Nat) (w : World) (hv : v < 18446744073709551616) (hm : m ≤ 64) :
    Calls Tryd.prog 56 #[.int .u64 v, .int .i64 m] w fun e w' => ∃ A' c', e = .returned (.slice A' m c') ∧ Own .u8 5 w' w.heap.size A' c' (upk 8 m v) ∧ Ext w w' := by
  have Hs := Lib.hid (fun j => upk_snoc 8 j v)
  have Hv := Lib.hid hv
  clear hv
  go_enter Tryd.func56, Tryd.ntmps56
  go_wp2
  go_loopw [0, 5, 6] (fun y o i wr => ∃ (j : Nat) (A' : Option Addr) (c' : Nat), j ≤ m ∧ i = .int .i64 j ∧ y = .int .u64 (v / 2 ^ (8 * j) : Nat) ∧ o = .slice A' j c' ∧ Own .u8 5 wr w.heap.size A' c' (upk 8 j v) ∧ Below w.heap.size w wr) (fun _ _ i _ => m - (intOf i).toNat)
  case atStart => exact ⟨0, _, _, Nat.zero_le _, rfl, by rw [Nat.mul_zero, Nat.pow_zero, Nat.div_one], rfl, Own.made _ _ _ (Nat.le_refl _), (Ext.refl w).alloc _⟩
  case round =>
    obtain ⟨j, A', c', hj, rfl, rfl, rfl, hown, hb⟩ := hrel
    have hz := hb.size
    have hs := Hs.out j
    have hd : v / 2 ^ (8 * (j + 1)) = v / 2 ^ (8 * j) / 256 := by rw [Nat.mul_succ, Nat.pow_add, Nat.div_div_eq_div_mul]
    have hy : v / 2 ^ (8 * j) < 18446744073709551616 := Nat.lt_of_le_of_lt (Nat.div_le_self _ _) Hv.out
    obtain ⟨y, hy'⟩ : ∃ y, y = v / 2 ^ (8 * j) := ⟨_, rfl⟩
    rw [← hy'] at hs hd hy ⊢
    have HS := Lib.hid hs
    have HD := Lib.hid hd
    have Htl := Lib.hid (upk_len 8 j v)
    clear hs hd hy'
    by_cases hlt : j < m
    · have hmm : IntKind.u8.wrap ((y : Int) % 256) = (y : Int) % 256 := IntWalk.u8_in _ (by omega)
      go_wp2_with (at_builtin; refine wpList_push .u8 (y % 2 ^ 8) 5 rfl _ _ 28 rfl _ 1 Tryd.underlying28 Tryd.infoU8 rfl hown j Htl.out rfl rfl (by omega) (by omega) (by omega) hb hz ?_; intro A1 c1 w1 hown1 hb1 hz1)
      go_roundw
      case rel => exact ⟨j + 1, A1, c1, by omega, by go_num, by rw [HD.out]; go_num, rfl, by rw [HS.out]; exact hown1, hb1⟩
      case measure => simp [intOf]; omega
    · obtain rfl : j = m := by omega
      go_wp2
      go_ret
      exact ⟨_, _, rfl, hown, hb⟩

end Go.Proofs.YtnkggopkcjffoaaDoor
