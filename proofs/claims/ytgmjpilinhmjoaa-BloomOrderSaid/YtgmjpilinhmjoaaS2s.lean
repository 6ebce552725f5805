/-
  The document's answers of layer 3, by definition: numbers read from bytes, sealed bytes.
-/
import Derived.Test.YtgmjpilinhmjoaaS1
namespace Go.Proofs.Ytgmjpilinhmjoaa
open Go.RowKit

theorem digit_up {N i : Nat} : N / 2 ^ (8 * i) = N / 2 ^ (8 * (i + 1)) * 256 + N / 2 ^ (8 * i) % 2 ^ 8 := by
  have h : N / 2 ^ (8 * (i + 1)) = N / 2 ^ (8 * i) / 256 := by rw [Nat.mul_succ, Nat.pow_add, Nat.div_div_eq_div_mul]
  rw [h]
  omega

set_option maxHeartbeats 400000 in
theorem value_any (A : Option Addr) (n c a m : Nat) (bs : List Nat) (w : World) (hx : Rd .u8 w A n bs) (hu : U8 bs) (hn : n ≤ 180000000000000) (ha : a + m ≤ n) (hm : m ≤ 8) :
    Calls Try.prog 58 #[.slice A n c, .int .i64 a, .int .i64 m] w fun e w' => e = .returned (.tuple #[.int .u64 (pk 8 (cut bs a m) : Nat), .bool true]) ∧ w = w' := by
  have hl := hx.len
  have hcl := cut_len (bs := bs) (a := a) (m := m) (by omega)
  have hcu := cut_u8 hu a m
  obtain ⟨N, hN⟩ : ∃ N, N = pk 8 (cut bs a m) := ⟨_, rfl⟩
  have hNl : N < 2 ^ (8 * m) := by have := pk_lt (U8_wd.1 hcu); rwa [hcl, ← hN] at this
  have hN64 : N < 18446744073709551616 := Nat.lt_of_lt_of_le hNl (by have := Nat.pow_le_pow_right (show 0 < 2 by omega) (show 8 * m ≤ 64 by omega); simpa using this)
  have hdig : ∀ i, i < m → N / 2 ^ (8 * i) % 2 ^ 8 = bs.getD (a + i) 0 := fun i hi => by rw [hN, pk_at (U8_wd.1 hcu), cut_at hi]
  rw [← hN]
  have Hl := Lib.hid hl
  have HN := Lib.hid hNl
  have H64 := Lib.hid hN64
  have Hd := Lib.hid hdig
  clear hl hcl hcu hN hNl hN64 hdig
  have b1 : decide ((a : Int) < 0) = false := by simp
  go_enter Try.func58, Try.ntmps58
  go_wp2
  go_loop [8, 9] (fun v i => ∃ j : Nat, j ≤ m ∧ i = .int .i64 ((j : Int) - 1) ∧ v = .int .u64 (N / 2 ^ (8 * j) : Nat)) (fun _ i => (intOf i + 1).toNat)
  case atStart => exact ⟨m, Nat.le_refl _, by go_num, by rw [Nat.div_eq_of_lt HN.out]; rfl⟩
  case round =>
    obtain ⟨j, hj, rfl, rfl⟩ := hrel
    by_cases hpos : 0 < j
    · obtain ⟨i, rfl⟩ : ∃ i, j = i + 1 := ⟨j - 1, by omega⟩
      obtain ⟨b, o, rfl, hbl, hc⟩ := hx.at_ (show a + i < n by omega)
      have hup := digit_up (N := N) (i := i)
      rw [Hd.out i (by omega)] at hup
      have hv := hu.at_ (a + i)
      have hle : N / 2 ^ (8 * i) < 18446744073709551616 := Nat.lt_of_le_of_lt (Nat.div_le_self _ _) H64.out
      obtain ⟨x, hx'⟩ : ∃ x, x = bs.getD (a + i) 0 := ⟨_, rfl⟩
      obtain ⟨V, hV⟩ : ∃ V, V = N / 2 ^ (8 * (i + 1)) := ⟨_, rfl⟩
      rw [← hx'] at hc hup hv
      rw [← hV] at hup ⊢
      rw [hup] at hle
      have Hup := Lib.hid hup
      clear hup hx' hV
      go_wp2
      go_round
      case rel => exact ⟨i, by omega, by go_num, by rw [Hup.out]; go_num⟩
      case measure => simp [intOf]
    · obtain rfl : j = 0 := by omega
      rw [Nat.mul_zero, Nat.pow_zero, Nat.div_one]
      go_wp2
      go_ret2
      exact ⟨rfl, rfl⟩

/-- The bytes with their sum behind them. -/
def sl (bs : List Nat) : List Nat := bs ++ upk 8 4 (crc bs)
theorem sl_len (bs : List Nat) : (sl bs).length = bs.length + 4 := by rw [sl, List.length_append, upk_len]
theorem sl_u8 {bs : List Nat} (h : U8 bs) : U8 (sl bs) := u8_append h (U8_wd.2 (upk_wd _ _ _))

set_option maxHeartbeats 400000 in
theorem refSeal_any (A : Option Addr) (n c : Nat) (bs : List Nat) (w : World) (hx : Rd .u8 w A n bs) (hu : U8 bs) (hn : n + 4 ≤ 180000000000000) :
    Calls Try.prog 41 #[.slice A n c] w fun e w' => ∃ A' c', e = .returned (.slice A' (n + 4 : Nat) c') ∧ Own .u8 5 w' w.heap.size A' c' (sl bs) ∧ Ext w w' := by
  have hcr := crc_lt hu
  go_enter Try.func41, Try.ntmps41
  go_wp2_with fail
  refine (refSum_any _ _ _ _ _ hx hu (by omega)).mono ?_
  rintro e w1 ⟨rfl, rfl⟩
  go_wp2_with fail
  refine (low_any (crc bs) 4 _ (by omega) (by omega)).mono ?_
  rintro e w1 ⟨A1, c1, rfl, hown1, he1⟩
  go_wp2_with fail
  refine (cat_any _ _ _ _ _ _ _ _ _ (hx.ext he1) hown1.rd (by rw [upk_len]; exact hn)).mono ?_
  rintro e w2 ⟨A2, c2, rfl, hown2, he2⟩
  go_wp2
  go_ret
  exact ⟨_, _, rfl, hown2.mono he1.size, he1.trans he2⟩

set_option maxHeartbeats 400000 in
theorem refSealed_any (A : Option Addr) (n c : Nat) (bs : List Nat) (w : World) (hx : Rd .u8 w A n bs) (hu : U8 bs) (hn : n ≤ 140737488355328) :
    Calls Try.prog 45 #[.slice A n c] w fun e w' => e = .returned (.bool (decide (sld bs))) ∧ Ext w w' := by
  have hl := hx.len
  by_cases h4 : 4 ≤ n
  · obtain ⟨m, rfl⟩ : ∃ m, n = m + 4 := ⟨n - 4, by omega⟩
    have hc1 : cut bs m 4 = bs.drop m := by rw [cut]; exact List.take_of_length_le (by rw [List.length_drop]; omega)
    have hp1 : piece bs 0 m = bs.take m := by unfold piece; simp
    have hs : sld bs ↔ pk 8 (bs.drop m) = crc (bs.take m) := by
      unfold sld
      rw [hl, Nat.add_sub_cancel]
      exact ⟨fun h => h.2, fun h => ⟨by omega, h⟩⟩
    have hdl : (bs.drop m).length = 4 := by rw [List.length_drop]; omega
    have hv : pk 8 (bs.drop m) < 4294967296 := by have := pk_lt (U8_wd.1 (u8_drop hu m)); rwa [hdl] at this
    have hcr := crc_lt (u8_take hu m)
    have hlt : (bs.take m).length ≤ 140737488355328 := by rw [List.length_take]; omega
    obtain ⟨V, hV⟩ : ∃ V, V = pk 8 (bs.drop m) := ⟨_, rfl⟩
    rw [← hV] at hs hv
    have Hs := Lib.hid hs
    have HV := Lib.hid hV
    have Hc := Lib.hid hc1
    have Hp := Lib.hid hp1
    clear hs hV hc1 hp1 hl
    go_enter Try.func45, Try.ntmps45
    go_wp2_with fail
    refine (value_any _ _ _ m 4 bs _ hx hu (by omega) (by omega) (by omega)).mono ?_
    rintro e w1 ⟨rfl, rfl⟩
    rw [Hc.out, ← HV.out]
    go_wp2_with fail
    refine (piece_any _ _ _ _ _ bs _ hx (by omega) (by omega)).mono ?_
    rintro e w1 ⟨A1, c1, rfl, hown1, he1⟩
    rw [Hp.out] at hown1
    go_wp2_with fail
    rw [Hp.out]
    refine (refSum_any _ _ _ (bs.take m) _ hown1.rd (u8_take hu m) (by omega)).mono ?_
    rintro e w2 ⟨rfl, rfl⟩
    obtain ⟨C, hC⟩ : ∃ C, C = crc (bs.take m) := ⟨_, rfl⟩
    rw [← hC] at hcr Hs ⊢
    have hd : decide (sld bs) = decide (V = C) := by simp [Hs.out]
    have Hd := Lib.hid hd
    clear hC hd
    go_wp2
    go_ret
    have hbe : ((V : Int) == (C : Int)) = decide (V = C) := by
      by_cases h : V = C
      · subst h; simp
      · have h2 : (V : Int) ≠ (C : Int) := by omega
        simp [h, h2]
    exact ⟨by rw [Hd.out]; exact congrArg (fun b => Ending.returned (.bool b)) hbe, he1⟩
  · have hf : ¬ sld bs := fun h => by have := h.1; omega
    rw [decide_eq_false hf]
    go_enter Try.func45, Try.ntmps45
    go_wp2
    go_ret
    exact ⟨rfl, Ext.refl _⟩

end Go.Proofs.Ytgmjpilinhmjoaa
