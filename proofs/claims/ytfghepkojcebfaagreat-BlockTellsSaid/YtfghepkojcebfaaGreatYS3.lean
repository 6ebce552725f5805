import Derived.Test.YtfghepkojcebfaaGreatG6

/-
  The document's answers of layer 3, by definition: a run of bits turned.
-/
namespace Go.Proofs.YtfghepkojcebfaaGreat
open Go.RowKit
set_option maxRecDepth 100000

/-- What Turn answers. -/
def trn (bs : List Nat) (at_ : Int) (p : Nat) : List Nat :=
  if 0 ≤ at_ ∧ at_ < 8 * (bs.length : Int) ∧ p * 2 ^ at_.toNat < 2 ^ (8 * bs.length) then tn bs (p * 2 ^ at_.toNat) else bs

theorem trn_in {bs : List Nat} {a p : Nat} (h1 : a < 8 * bs.length) (h2 : p * 2 ^ a < 2 ^ (8 * bs.length)) : trn bs a p = tn bs (p * 2 ^ a) := by
  rw [trn, if_pos ⟨by omega, by omega, by simpa using h2⟩]
  simp
theorem trn_out {bs : List Nat} {at_ : Int} {p : Nat} (h : at_ < 0 ∨ 8 * (bs.length : Int) ≤ at_) : trn bs at_ p = bs := by
  rw [trn, if_neg (by omega)]
theorem trn_far {bs : List Nat} {a p : Nat} (h : 2 ^ (8 * bs.length) ≤ p * 2 ^ a) : trn bs a p = bs := by
  rw [trn, if_neg]
  rintro ⟨_, _, h3⟩
  rw [Int.toNat_natCast] at h3
  omega
theorem trn_len (bs : List Nat) (at_ : Int) (p : Nat) : (trn bs at_ p).length = bs.length := by
  unfold trn
  split
  · exact tn_len _ _
  · rfl
theorem trn_u8 {bs : List Nat} (h : U8 bs) (at_ : Int) (p : Nat) : U8 (trn bs at_ p) := by
  unfold trn
  split
  · exact tn_u8 _ _
  · exact h

/-- One bit of the run more, that is not turned. -/
theorem run_even {p t : Nat} (h : p / 2 ^ t % 2 = 0) : p % 2 ^ (t + 1) = p % 2 ^ t := by
  rw [Nat.pow_succ, Nat.mod_mul, h, Nat.mul_zero, Nat.add_zero]
/-- One bit of the run more, that is turned. -/
theorem run_odd {p t a : Nat} (h : p / 2 ^ t % 2 = 1) : (p % 2 ^ (t + 1)) * 2 ^ a = (p % 2 ^ t * 2 ^ a) ^^^ 2 ^ (a + t) := by
  have h1 : p % 2 ^ t * 2 ^ a < 2 ^ (a + t) := by
    rw [Nat.pow_add, Nat.mul_comm]
    exact Nat.mul_lt_mul_of_pos_left (Nat.mod_lt _ (Nat.two_pow_pos t)) (Nat.two_pow_pos a)
  have h2 := lowhigh (x := 1) h1
  rw [Nat.mul_one] at h2
  rw [Nat.pow_succ, Nat.mod_mul, h, Nat.mul_one, Nat.add_mul, ← h2, ← Nat.pow_add, Nat.add_comm t a]
theorem tn_more {bs : List Nat} {e k : Nat} (h : k < 8 * bs.length) : tn bs (e ^^^ 2 ^ k) = (tn bs e).set (k / 8) ((tn bs e).getD (k / 8) 0 ^^^ pw (k % 8)) := by
  unfold tn pw
  rw [← Nat.xor_assoc, upk_bit h]
theorem run_end {p t a m : Nat} (h : p / 2 ^ t = 0) (hm : a + t ≤ m) : p % 2 ^ t = p ∧ p * 2 ^ a < 2 ^ m := by
  have h1 : p < 2 ^ t := by
    rcases Nat.lt_or_ge p (2 ^ t) with h2 | h2
    · exact h2
    · have := Nat.div_pos h2 (Nat.two_pow_pos t); omega
  refine ⟨Nat.mod_eq_of_lt h1, ?_⟩
  calc p * 2 ^ a < 2 ^ t * 2 ^ a := Nat.mul_lt_mul_of_pos_right h1 (Nat.two_pow_pos a)
    _ = 2 ^ (a + t) := by rw [← Nat.pow_add, Nat.add_comm]
    _ ≤ 2 ^ m := Nat.pow_le_pow_right (by omega) hm
theorem run_far {p t a m : Nat} (h : 0 < p / 2 ^ t) (hm : m ≤ a + t) : 2 ^ m ≤ p * 2 ^ a := by
  have h1 : 2 ^ t ≤ p := by
    rcases Nat.lt_or_ge p (2 ^ t) with h2 | h2
    · rw [Nat.div_eq_of_lt h2] at h; omega
    · exact h2
  calc 2 ^ m ≤ 2 ^ (a + t) := Nat.pow_le_pow_right (by omega) hm
    _ = 2 ^ t * 2 ^ a := by rw [← Nat.pow_add, Nat.add_comm]
    _ ≤ p * 2 ^ a := Nat.mul_le_mul_right _ h1

set_option maxHeartbeats 1000000 in
theorem turn_any (A : Option Addr) (n c p : Nat) (at_ : Int) (bs : List Nat) (w : World) (hx : Rd .u8 w A n bs) (hu : U8 bs) (hn : n ≤ 140737488355328) (hp : p < 4294967296) :
    Calls Tryz.prog 25 #[.slice A n c, .int .i64 at_, .int .u32 p] w fun e w' => ∃ A' c', e = .returned (.slice A' n c') ∧ Own .u8 5 w' w.heap.size A' c' (trn bs at_ p) ∧ Ext w w' := by
  have hl := hx.len
  have Hl := Lib.hid hl
  by_cases hneg : at_ < 0
  · have HT := Lib.hid (trn_out (bs := bs) (p := p) (.inl hneg))
    clear hl
    go_enter Tryz.func25, Tryz.ntmps25
    go_wp2_with fail
    refine (copy_any _ _ _ _ _ hx hn).mono ?_
    rintro e w1 ⟨A1, c1, rfl, hown1, he1⟩
    go_wp2
    go_ret
    exact ⟨_, _, rfl, by rw [HT.out]; exact hown1, he1⟩
  · obtain ⟨a, rfl⟩ := Int.eq_ofNat_of_zero_le (show 0 ≤ at_ by omega)
    have b1 : decide ((a : Int) < 0) = false := by simp
    by_cases hfar : 8 * n ≤ a
    · have HT := Lib.hid (trn_out (bs := bs) (p := p) (at_ := (a : Int)) (.inr (by omega)))
      clear hl
      go_enter Tryz.func25, Tryz.ntmps25
      go_wp2_with fail
      refine (copy_any _ _ _ _ _ hx hn).mono ?_
      rintro e w1 ⟨A1, c1, rfl, hown1, he1⟩
      go_wp2
      go_ret
      exact ⟨_, _, rfl, by rw [HT.out]; exact hown1, he1⟩
    · clear hl
      go_enter Tryz.func25, Tryz.ntmps25
      go_wp2_with fail
      refine (copy_any _ _ _ _ _ hx hn).mono ?_
      rintro e w1 ⟨A1, c1, rfl, hown1, he1⟩
      go_wp2_with fail
      go_loopw [8, 9, 10, 11] (fun y k _ _ wr => ∃ t : Nat, a + t ≤ 8 * n ∧ y = .int .u64 (p / 2 ^ t : Nat) ∧ k = .int .i64 (a + t : Nat) ∧ Own .u8 5 wr w.heap.size A1 c1 (tn bs (p % 2 ^ t * 2 ^ a)) ∧ Ext w wr) (fun y _ _ _ _ => (intOf y).toNat)
      case atStart => exact ⟨0, by omega, by rw [Nat.pow_zero, Nat.div_one], rfl, by rw [Nat.pow_zero, Nat.mod_one, Nat.zero_mul, tn_zero hu]; exact hown1, he1⟩
      case round =>
        clear hown1 he1
        obtain ⟨t, ht, rfl, rfl, hown, he⟩ := hrel
        have hle : p / 2 ^ t < 4294967296 := Nat.lt_of_le_of_lt (Nat.div_le_self _ _) hp
        have hnx : p / 2 ^ (t + 1) = p / 2 ^ t / 2 := by rw [Nat.div_div_eq_div_mul, ← Nat.pow_succ]
        by_cases hpos : 0 < p / 2 ^ t
        · by_cases hend : 8 * n ≤ a + t
          · have HT := Lib.hid (trn_far (bs := bs) (run_far (a := a) (m := 8 * bs.length) hpos (by have := Hl.out; omega)))
            obtain ⟨y, hy⟩ : ∃ y, y = p / 2 ^ t := ⟨_, rfl⟩
            rw [← hy] at hpos hle ⊢
            clear hy hnx
            go_wp2_with fail
            refine (copy_any _ _ _ _ _ (hx.ext he) hn).mono ?_
            rintro e w2 ⟨A2, c2, rfl, hown2, he2⟩
            go_wp2
            go_ret
            exact ⟨_, _, rfl, by rw [HT.out]; exact hown2.mono he.size, he.trans he2⟩
          · have hkn : (a + t) / 8 < n := by omega
            have hev := fun h => congrArg (fun q => tn bs (q * 2 ^ a)) (run_even (p := p) (t := t) h)
            have hod := fun h => (congrArg (tn bs) (run_odd (p := p) (t := t) (a := a) h)).trans (tn_more (by have := Hl.out; omega))
            obtain ⟨D, hD⟩ : ∃ D, D = tn bs (p % 2 ^ t * 2 ^ a) := ⟨_, rfl⟩
            have hDl : D.length = n := by rw [hD, tn_len]; exact Hl.out
            have hDu : U8 D := by rw [hD]; exact tn_u8 _ _
            have hev2 : p / 2 ^ t % 2 = 0 → tn bs (p % 2 ^ (t + 1) * 2 ^ a) = D := fun h => (hev h).trans hD.symm
            clear hev
            rw [← hD] at hod hown
            have hv := hDu.at_ ((a + t) / 8)
            obtain ⟨y, hy⟩ : ∃ y, y = p / 2 ^ t := ⟨_, rfl⟩
            obtain ⟨k, hk⟩ : ∃ k, k = a + t := ⟨_, rfl⟩
            have hk1 : a + (t + 1) = k + 1 := by omega
            rw [← hy] at hpos hle hnx hev2 hod ⊢
            rw [← hk] at hkn hod hend hv ⊢
            have Hnx := Lib.hid hnx
            have Hk1 := Lib.hid hk1
            have Hev := Lib.hid hev2
            have Hod := Lib.hid hod
            have hk8 : k < 8 * n := by omega
            have ht1 : a + (t + 1) ≤ 8 * n := by omega
            clear hy hnx hk hk1 hev2 hod hD hDu ht hend
            by_cases hbit : y % 2 = 1
            · go_wp2_with fail
              go_loop [10, 11] (fun z j => ∃ q : Nat, q ≤ k % 8 ∧ j = .int .i64 q ∧ z = .int .u8 (pw q : Nat)) (fun _ j => k % 8 - (intOf j).toNat)
              case atStart => exact ⟨0, by omega, rfl, rfl⟩
              case round =>
                obtain ⟨q, hq, rfl, rfl⟩ := hrel
                have w3 : (k : Int).tmod 8 = (k : Int) % 8 := Int.tmod_eq_emod_of_nonneg (by omega)
                by_cases hq8 : q < k % 8
                · have hps := pw_succ q
                  have hpl := pw_le (show q + 1 ≤ 7 by omega)
                  rw [show pw 7 = 128 from rfl] at hpl
                  have Hps := Lib.hid hps
                  clear hps
                  have hpl2 : pw q * 2 ≤ 128 := by rw [← Hps.out]; exact hpl
                  go_wp2
                  go_round
                  case rel => exact ⟨q + 1, by omega, by go_num, by rw [Hps.out]; go_num⟩
                  case measure => simp [intOf]; omega
                · obtain rfl : q = k % 8 := by omega
                  obtain ⟨b, rfl, hbb, hbl, hc, hf, hset⟩ := hown.at_ (show k / 8 < D.length by rw [hDl]; exact hkn)
                  have hpl := pw_le (show k % 8 ≤ 7 by omega)
                  rw [show pw 7 = 128 from rfl] at hpl
                  have hnew := Hod.out hbit
                  obtain ⟨z, hz⟩ : ∃ z, z = pw (k % 8) := ⟨_, rfl⟩
                  obtain ⟨v, hv'⟩ : ∃ v, v = D.getD (k / 8) 0 := ⟨_, rfl⟩
                  rw [← hz] at hpl hnew ⊢
                  rw [← hv'] at hc hv hnew
                  have hxor : bits .xor .u8 (v : Int) (z : Int) = ((v ^^^ z : Nat) : Int) := u8_xor_nat _ _ hv (by omega)
                  obtain ⟨hs1, hs2⟩ := hset (v ^^^ z)
                  rw [← hnew] at hs1
                  have Hs1 := Lib.hid hs1
                  have He := Lib.hid (grownBy_ext he hs2 (fun g hg => by injection hg with hg; omega))
                  have f1 : IntKind.i64.wrap ((k : Int) / 8) = (k : Int) / 8 := IntWalk.i64_in _ (by omega)
                  have f2 : ((k : Int) / 8).toNat = k / 8 := by omega
                  have f3 : (0 : Int) ≤ (k : Int) / 8 := by omega
                  have f4 : (k : Int) / 8 < (n : Int) := by omega
                  clear hnew hset hs1 hs2 hz hv' hown he
                  go_wp2
                  go_roundw
                  case rel => exact ⟨t + 1, ht1, by rw [Hnx.out]; go_num, by rw [Hk1.out]; go_num, Hs1.out, He.out⟩
                  case measure => simp [intOf]; omega
            · go_wp2
              go_roundw
              case rel => exact ⟨t + 1, ht1, by rw [Hnx.out]; go_num, by rw [Hk1.out]; go_num, by rw [show tn bs (p % 2 ^ (t + 1) * 2 ^ a) = D from Hev.out (by omega)]; exact hown, he⟩
              case measure => simp [intOf]; omega
        · have h0 : p / 2 ^ t = 0 := Nat.eq_zero_of_not_pos hpos
          obtain ⟨h1, h2⟩ := run_end (a := a) (m := 8 * bs.length) h0 (by have := Hl.out; omega)
          rw [h1, ← trn_in (by have := Hl.out; omega) h2] at hown
          rw [h0]
          clear h0 h1 h2 hle hnx hpos
          go_wp2
          go_ret
          exact ⟨_, _, rfl, hown, he⟩

end Go.Proofs.YtfghepkojcebfaaGreat
