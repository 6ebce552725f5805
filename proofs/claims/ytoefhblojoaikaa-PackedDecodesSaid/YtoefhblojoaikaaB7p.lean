import Derived.Test.YtoefhblojoaikaaB6p
import Derived.RegionTactic
import Derived.BigRegion
namespace Go.Proofs.Ytoefhblojoaikaa
open Go.RowKit

theorem lay_step {M v a j : Nat} (hM : M < 2 ^ a) :
    let P := M + 2 ^ a * (v % 2 ^ j)
    let d := v / 2 ^ j % 2 ^ (8 - (a + j) % 8) * 2 ^ ((a + j) % 8)
    P / 2 ^ (8 * ((a + j) / 8)) % 2 ^ 8 < 2 ^ ((a + j) % 8) ∧ d < 256 ∧ P / 2 ^ (8 * ((a + j) / 8)) % 2 ^ 8 + d < 256 ∧ M + 2 ^ a * (v % 2 ^ (j + (8 - (a + j) % 8))) = P + 2 ^ (8 * ((a + j) / 8)) * d := by
  intro P d
  have hs : (a + j) % 8 < 8 := Nat.mod_lt _ (by omega)
  have hk : 8 * ((a + j) / 8) + (a + j) % 8 = a + j := by omega
  have hP : P < 2 ^ (a + j) := by
    have h1 := Nat.mod_lt v (Nat.two_pow_pos j)
    rw [Nat.pow_add]
    calc P < 2 ^ a + 2 ^ a * (v % 2 ^ j) := by omega
      _ = 2 ^ a * (v % 2 ^ j + 1) := by rw [Nat.mul_succ, Nat.add_comm]
      _ ≤ 2 ^ a * 2 ^ j := Nat.mul_le_mul_left _ h1
  have hx : P / 2 ^ (8 * ((a + j) / 8)) < 2 ^ ((a + j) % 8) := by
    apply Nat.div_lt_of_lt_mul
    rw [← Nat.pow_add, hk]
    exact hP
  have hx2 := Nat.lt_of_le_of_lt (Nat.mod_le _ (2 ^ 8)) hx
  have h256 : 2 ^ (8 - (a + j) % 8) * 2 ^ ((a + j) % 8) = 256 := by rw [← Nat.pow_add, show 8 - (a + j) % 8 + (a + j) % 8 = 8 from by omega]
  have hd1 := Nat.mod_lt (v / 2 ^ j) (Nat.two_pow_pos (8 - (a + j) % 8))
  have hd2 : d + 2 ^ ((a + j) % 8) ≤ 256 := by
    have := Nat.mul_le_mul_right (2 ^ ((a + j) % 8)) (show v / 2 ^ j % 2 ^ (8 - (a + j) % 8) + 1 ≤ 2 ^ (8 - (a + j) % 8) from hd1)
    rw [h256, Nat.add_mul, Nat.one_mul] at this
    exact this
  refine ⟨hx2, by have := Nat.two_pow_pos ((a + j) % 8); omega, by omega, ?_⟩
  show _ = M + 2 ^ a * (v % 2 ^ j) + _
  rw [Nat.pow_add, Nat.mod_mul, Nat.mul_add, Nat.add_assoc]
  congr 2
  rw [← Nat.mul_assoc, ← Nat.pow_add]
  show 2 ^ (a + j) * _ = 2 ^ (8 * ((a + j) / 8)) * (v / 2 ^ j % 2 ^ (8 - (a + j) % 8) * 2 ^ ((a + j) % 8))
  rw [Nat.mul_comm (v / 2 ^ j % 2 ^ (8 - (a + j) % 8)), ← Nat.mul_assoc, ← Nat.pow_add, hk]

theorem lay_or {x v j s : Nat} (hs : s < 8) (hx : x < 2 ^ s) :
    bits .or .u8 (x : Int) (IntKind.u64.wrap ((v : Int) / 2 ^ j * 2 ^ s) % 256) = ((x + v / 2 ^ j % 2 ^ (8 - s) * 2 ^ s : Nat) : Int) := by
  have e1 : ((v : Int) / 2 ^ j * 2 ^ s) = ((v / 2 ^ j * 2 ^ s : Nat) : Int) := by norm_cast
  rw [e1, IntKind.wrap_u64]
  have h256 : (256 : Nat) = 2 ^ (8 - s) * 2 ^ s := by rw [← Nat.pow_add, show 8 - s + s = 8 from by omega]
  have e2 : v / 2 ^ j * 2 ^ s % 256 = v / 2 ^ j % 2 ^ (8 - s) * 2 ^ s := by rw [h256, Nat.mul_mod_mul_right]
  have hx8 : x < 256 := Nat.lt_of_lt_of_le hx (Nat.pow_le_pow_right (n := 2) (by omega) (show s ≤ 8 by omega))
  have hd : v / 2 ^ j % 2 ^ (8 - s) * 2 ^ s < 256 := by rw [← e2]; omega
  have hdm : v / 2 ^ j % 2 ^ (8 - s) * 2 ^ s % 2 ^ s = 0 := Nat.mul_mod_left _ _
  generalize v / 2 ^ j * 2 ^ s = Z at *
  generalize v / 2 ^ j % 2 ^ (8 - s) * 2 ^ s = d at *
  have e3 : (Z : Int) % 18446744073709551616 % 256 = (d : Int) := by omega
  rw [e3, u8_or_nat x d hx8 hd, Nat.or_comm, nat_join s d x hdm hx, Nat.add_comm]

set_option maxHeartbeats 1600000 in
theorem lay_any (A : Option Addr) (n c base a wd v M : Nat) (w : World) (hx : Own .u8 5 w base A c (upk 8 n M)) (hn : n ≤ 140737488355328) (hw : wd ≤ 64) (hk : a + wd ≤ 8 * n) (hv : v < 2 ^ wd) (hM : M < 2 ^ a) :
    Calls Try.prog 68 #[.slice A n c, .int .u64 a, .int .i64 wd, .int .u64 v] w fun e w' => e = .returned (.tuple #[]) ∧ Own .u8 5 w' base A c (upk 8 n (M + 2 ^ a * v)) ∧ w.grownBy w' (A.map (·.block)) := by
  have HM := Lib.hid hM
  have hv64 : v < 18446744073709551616 := Nat.lt_of_lt_of_le hv (Nat.pow_le_pow_right (by omega) hw)
  have Hv := Lib.hid hv
  clear hM hv
  go_enter Try.func68, Try.ntmps68
  go_wp2_with fail
  go_loopw [8, 9] (fun i _ wr => ∃ j : Nat, j ≤ wd + 7 ∧ i = .int .i64 j ∧ Own .u8 5 wr base A c (upk 8 n (M + 2 ^ a * (v % 2 ^ j))) ∧ w.grownBy wr (A.map (·.block))) (fun i _ _ => wd + 7 - (intOf i).toNat)
  case atStart => exact ⟨0, by omega, rfl, by rw [Nat.pow_zero, Nat.mod_one, Nat.mul_zero, Nat.add_zero]; exact hx, World.grownBy.refl _ _⟩
  case round =>
    obtain ⟨j, hj, rfl, hown, hg⟩ := hrel
    by_cases hlt : j < wd
    · obtain ⟨h1, h2, h3, h4⟩ := lay_step (M := M) (v := v) (a := a) (j := j) HM.out
      have hkn : (a + j) / 8 < n := by omega
      obtain ⟨b, rfl, hbb, hbl, hc, hf, hset⟩ := hown.at_ (show (a + j) / 8 < (upk 8 n (M + 2 ^ a * (v % 2 ^ j))).length by rw [upk_len]; exact hkn)
      rw [upk_at _ _ _ _ hkn] at hc
      obtain ⟨d, hd⟩ : ∃ d, d = v / 2 ^ j % 2 ^ (8 - (a + j) % 8) * 2 ^ ((a + j) % 8) := ⟨_, rfl⟩
      rw [← hd] at h2 h3 h4
      have hnew := upk_add (w := 8) (n := n) (N := M + 2 ^ a * (v % 2 ^ j)) hkn h3
      obtain ⟨x, hx'⟩ : ∃ x, x = (M + 2 ^ a * (v % 2 ^ j)) / 2 ^ (8 * ((a + j) / 8)) % 2 ^ 8 := ⟨_, rfl⟩
      rw [← hx'] at hc h1 h3 hnew
      have hor := lay_or (x := x) (v := v) (j := j) (Nat.mod_lt (a + j) (show 0 < 8 by omega)) h1
      rw [← hd] at hor
      obtain ⟨hs1, hs2⟩ := hset (x + d)
      rw [← hnew, ← h4] at hs1
      have Hs1 := Lib.hid hs1
      have Hg := Lib.hid (World.grownBy.trans hg hs2)
      have Hor := Lib.hid hor
      have f1 : IntKind.u64.wrap (((a : Int) + (j : Int)) / 8) = ((a : Int) + (j : Int)) / 8 := IntWalk.u64_in _ (by omega)
      have f2 : (((a : Int) + (j : Int)) / 8).toNat = (a + j) / 8 := by omega
      have f3 : (0 : Int) ≤ ((a : Int) + (j : Int)) / 8 := by omega
      have f4 : ((a : Int) + (j : Int)) / 8 < (n : Int) := by omega
      have f5 : ((a : Int) + (j : Int)).tmod 8 = ((a : Int) + (j : Int)) % 8 := Int.tmod_eq_emod_of_nonneg (by omega)
      have f6 : (((a : Int) + (j : Int)) % 8).toNat = (a + j) % 8 := by omega
      have f7 : (0 : Int) ≤ ((a : Int) + (j : Int)) % 8 := by omega
      clear hor hs1 hs2 hset hnew hx' hd hown hg h1 h2 h3 h4
      go_wp2_with fail
      go_region
      rw [Hor.out]
      go_wp2
      go_roundw
      case rel => exact ⟨j + (8 - (a + j) % 8), by omega, by go_num, Hs1.out.ext ((Ext.refl _).drew), ⟨Hg.out.os, Hg.out.tape, Hg.out.output, Hg.out.size, Hg.out.block⟩⟩
      case measure => simp [intOf]; omega
    · have hvm : v % 2 ^ j = v := Nat.mod_eq_of_lt (Nat.lt_of_lt_of_le Hv.out (Nat.pow_le_pow_right (by omega) (by omega)))
      rw [hvm] at hown
      go_wp2
      go_end0
      exact ⟨rfl, hown, hg⟩

end Go.Proofs.Ytoefhblojoaikaa
