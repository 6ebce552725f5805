/-
  The program's layer 3: one step, going on from a sum, the sum of parts, the product, two sums joined.
-/
import Derived.Test.YtegplcllimoakaaK3
import Derived.Test.YtegplcllimoakaaR1
import Derived.Test.YtegplcllimoakaaS1
namespace Go.Proofs.Ytegplcllimoakaa
open Go.RowKit

theorem moved_any (r : Nat) (w : World) (hr : r < 4294967296) :
    Calls Try.prog 42 #[.int .u32 (r : Int)] w fun e w' => e = .returned (.int .u32 (cb r : Nat)) ∧ w = w' := by
  have H := Lib.hid (moved_bits hr)
  go_enter Try.func42, Try.ntmps42
  go_wp2
  go_ret
  exact ⟨ret_int' H.out, rfl⟩

set_option maxHeartbeats 400000 in
theorem extend_any (s : Nat) (A : Option Addr) (n c : Nat) (bs : List Nat) (w : World) (hs : s < 4294967296) (hx : Rd .u8 w A n bs) (hu : U8 bs) (hn : n ≤ 180000000000000) :
    Calls Try.prog 18 #[.int .u32 (s : Int), .slice A n c] w fun e w' => e = .returned (.int .u32 (ext s bs : Nat)) ∧ w = w' := by
  have hl := hx.len
  have hno := not_bits hs
  obtain ⟨M, hM⟩ : ∃ M : Nat, M = s ^^^ 4294967295 := ⟨_, rfl⟩
  rw [← hM] at hno
  have hfin : ext s bs = creg M bs ^^^ 4294967295 := by rw [hM]; rfl
  have hMl : M < 4294967296 := by rw [hM]; exact xor_lt32 hs (by decide)
  have Hl := Lib.hid hl
  have Hf := Lib.hid hfin
  clear hl hfin hM
  go_enter Try.func18, Try.ntmps18
  go_wp2
  go_loop [5, 7, 12] (fun s _ i => ∃ j : Nat, j ≤ n ∧ i = .int .i64 j ∧ s = .int .u32 (creg M (bs.take j) : Nat)) (fun _ _ i => n - (intOf i).toNat)
  case atStart => exact ⟨0, Nat.zero_le _, rfl, by rw [List.take_zero, creg_nil]⟩
  case round =>
    clear hno
    obtain ⟨j, hj, rfl, rfl⟩ := hrel
    have hR : creg M (bs.take j) < 4294967296 := creg_lt (u8_take hu j) hMl
    by_cases hlt : j < n
    · obtain ⟨b, o, rfl, hbl, hc⟩ := hx.at_ hlt
      have hv := hu.at_ j
      have hnext : creg M (bs.take (j + 1)) = cN 8 (creg M (bs.take j) ^^^ bs.getD j 0) := by
        rw [take_next _ _ (by have := Hl.out; omega), creg_snoc (u8_take hu j) _ hv]
      obtain ⟨x, hx'⟩ : ∃ x, x = bs.getD j 0 := ⟨_, rfl⟩
      obtain ⟨R, hR'⟩ : ∃ R, R = creg M (bs.take j) := ⟨_, rfl⟩
      rw [← hx'] at hc hv hnext
      rw [← hR'] at hR hnext ⊢
      have hxo : bits .xor .u32 (R : Int) (x : Int) = ((R ^^^ x : Nat) : Int) := u32_xor_nat _ _ hR (by omega)
      have hlt2 : R ^^^ x < 4294967296 := xor_lt32 hR (by omega)
      obtain ⟨T, hT⟩ : ∃ T, T = R ^^^ x := ⟨_, rfl⟩
      rw [← hT] at hxo hlt2 hnext
      have Hn := Lib.hid hnext
      clear hnext hT hR' hx'
      go_wp2
      go_loop [5, 20] (fun s k => ∃ t : Nat, t ≤ 8 ∧ k = .int .i64 t ∧ s = .int .u32 (cN t T : Nat)) (fun _ k => 8 - (intOf k).toNat)
      case atStart => exact ⟨0, by omega, rfl, rfl⟩
      case round =>
        obtain ⟨t, ht, rfl, rfl⟩ := hrel
        have hS := cN_lt t hlt2
        have hN := cN_succ t T
        obtain ⟨S, hS'⟩ : ∃ S, S = cN t T := ⟨_, rfl⟩
        rw [← hS'] at hS hN ⊢
        have HS := Lib.hid hS'
        have HN := Lib.hid hN
        clear hS' hN
        by_cases ht8 : t < 8
        · go_wp2_with fail
          refine (moved_any S _ hS).mono ?_
          rintro e w1 ⟨rfl, rfl⟩
          go_wp2_with fail
          go_round
          case rel => exact ⟨t + 1, by omega, by go_num, by rw [HN.out]⟩
          case measure => simp [intOf]; omega
        · obtain rfl : t = 8 := by omega
          go_wp2
          go_round
          case rel => exact ⟨j + 1, by omega, by go_num, by rw [Hn.out, HS.out]⟩
          case measure => simp [intOf]; omega
    · obtain rfl : j = n := by omega
      rw [List.take_of_length_le (Nat.le_of_eq Hl.out)] at hR ⊢
      have hxo := not_bits hR
      rw [← Hf.out] at hxo
      have Hxo := Lib.hid hxo
      clear hxo
      go_wp2
      go_ret
      exact ⟨ret_int' Hxo.out, rfl⟩

set_option maxHeartbeats 400000 in
theorem sum_any (A : Option Addr) (n c : Nat) (xss : List (List Nat)) (w : World) (hx : RdSS w A n xss) (hu : U8s xss) (hn : ∀ xs ∈ xss, xs.length ≤ 180000000000000) (hm : n ≤ 180000000000000) :
    Calls Try.prog 17 #[.slice A n c] w fun e w' => e = .returned (.int .u32 (crc xss.flatten : Nat)) ∧ w = w' := by
  have Hl := Lib.hid hx.len
  go_enter Try.func17, Try.ntmps17
  go_wp2
  go_loop [3, 5, 8] (fun s _ i => ∃ j : Nat, j ≤ n ∧ i = .int .i64 j ∧ s = .int .u32 (crc (cat xss j) : Nat)) (fun _ _ i => n - (intOf i).toNat)
  case atStart => exact ⟨0, Nat.zero_le _, rfl, by rw [cat_zero, crc_nil]; rfl⟩
  case round =>
    obtain ⟨j, hj, rfl, rfl⟩ := hrel
    have hR : crc (cat xss j) < 4294967296 := crc_lt (hu.cat j)
    by_cases hlt : j < n
    · obtain ⟨b, o, a, m, c2, rfl, hbl, hc, hrd⟩ := hx.at_ hlt
      have hjl : j < xss.length := by have := Hl.out; omega
      have hnext : ext (crc (cat xss j)) (xss.getD j []) = crc (cat xss (j + 1)) := by rw [ext_crc (hu.cat j), cat_succ hjl]
      have hle : m ≤ 180000000000000 := by
        have h1 := hn _ (List.getElem_mem hjl)
        have h2 := hrd.len
        rw [show xss.getD j [] = xss[j] from by simp [List.getD, hjl]] at h2
        omega
      have huj := hu.at_ j
      obtain ⟨R, hR'⟩ : ∃ R, R = crc (cat xss j) := ⟨_, rfl⟩
      obtain ⟨ys, hys⟩ : ∃ ys, ys = xss.getD j [] := ⟨_, rfl⟩
      rw [← hR'] at hR hnext ⊢
      rw [← hys] at hnext hrd huj
      have Hn := Lib.hid hnext
      clear hnext hR' hys
      go_wp2_with fail
      refine (extend_any R _ _ _ _ _ hR hrd huj hle).mono ?_
      rintro e w1 ⟨rfl, rfl⟩
      go_wp2_with fail
      go_round
      case rel => exact ⟨j + 1, by omega, by go_num, by rw [Hn.out]⟩
      case measure => simp [intOf]; omega
    · obtain rfl : j = n := by omega
      have hfin : cat xss j = xss.flatten := by rw [← cat_all]; rw [Hl.out]
      rw [hfin] at hR ⊢
      clear hfin
      go_wp2
      go_ret
      exact ⟨rfl, rfl⟩

theorem cast_sh (a i M : Nat) : ((a : Int) * 2 ^ i % (M : Int)) = ((a * 2 ^ i % M : Nat) : Int) := by push_cast; rfl
theorem top_bit {a i : Nat} (hi : i < 32) : a * 2 ^ i % 4294967296 / 2 ^ 31 = a / 2 ^ (31 - i) % 2 := by
  have h1 : (4294967296 : Nat) = 2 ^ 31 * 2 := by decide
  rw [h1, Nat.mod_mul_right_div_self]
  have h2 : (2 : Nat) ^ 31 = 2 ^ (31 - i) * 2 ^ i := by rw [← Nat.pow_add, show 31 - i + i = 31 from by omega]
  rw [h2, Nat.mul_div_mul_right _ _ (Nat.two_pow_pos i)]
theorem and_top (v : Nat) : v &&& 2 ^ 31 = (v / 2 ^ 31 % 2) * 2 ^ 31 := by
  have hb : v.testBit 31 = decide (v / 2 ^ 31 % 2 = 1) := Nat.testBit_eq_decide_div_mod_eq
  apply Nat.eq_of_testBit_eq
  intro k
  rw [Nat.testBit_and, Nat.testBit_two_pow]
  by_cases hk : 31 = k
  · subst hk
    rw [hb]
    rcases Nat.mod_two_eq_zero_or_one (v / 2 ^ 31) with h | h <;> rw [h] <;> rfl
  · rw [decide_eq_false hk, Bool.and_false]
    rcases Nat.mod_two_eq_zero_or_one (v / 2 ^ 31) with h | h <;> rw [h]
    · rw [Nat.zero_mul, Nat.zero_testBit]
    · rw [Nat.one_mul, Nat.testBit_two_pow, decide_eq_false hk]
/-- The lowest bit of a number that isn't negative. -/
theorem i64_low {m : Nat} (h : m < 9223372036854775808) : bits .and .i64 (m : Int) 1 = ((m % 2 : Nat) : Int) := by
  have ha : (BitVec.ofInt 64 (m : Int)).toNat = m := by
    rw [BitVec.ofInt_natCast, BitVec.toNat_ofNat]; exact Nat.mod_eq_of_lt (by omega)
  show IntKind.i64.wrap ((BitVec.ofInt 64 (m : Int) &&& BitVec.ofInt 64 1).toNat : Int) = _
  rw [BitVec.toNat_and, ha, show (BitVec.ofInt 64 1).toNat = 1 from rfl, Nat.and_one_is_mod, IntKind.wrap_i64]
  omega
theorem sel_bits {a i : Nat} (hi : i < 32) :
    bits .and .u32 ((a : Int) * 2 ^ i % 4294967296) 2147483648 = (((a / 2 ^ (31 - i) % 2) * 2 ^ 31 : Nat) : Int) := by
  rw [show (4294967296 : Int) = ((4294967296 : Nat) : Int) from rfl, cast_sh, show (2147483648 : Int) = ((2147483648 : Nat) : Int) from rfl, u32_and_nat _ _ (Nat.mod_lt _ (by decide)) (by decide)]
  rw [show (2147483648 : Nat) = 2 ^ 31 from by decide, and_top, top_bit hi, Nat.mod_mod]

set_option maxHeartbeats 400000 in
theorem product_any (a b : Nat) (w : World) (_ha : a < 4294967296) (hb : b < 4294967296) :
    Calls Try.prog 49 #[.int .u32 (a : Int), .int .u32 (b : Int)] w fun e w' => e = .returned (.int .u32 (pr a b 32 : Nat)) ∧ w = w' := by
  go_enter Try.func49, Try.ntmps49
  go_wp2
  go_loop [1, 5, 6, 7] (fun y p _ i => ∃ j : Nat, j ≤ 32 ∧ i = .int .i64 j ∧ y = .int .u32 (cN j b : Nat) ∧ p = .int .u32 (pr a b j : Nat)) (fun _ _ _ i => 32 - (intOf i).toNat)
  case atStart => exact ⟨0, Nat.zero_le _, rfl, rfl, rfl⟩
  case round =>
    obtain ⟨j, hj, rfl, rfl, rfl⟩ := hrel
    have hB := cN_lt j hb
    have hP := pr_lt hb a j
    by_cases hlt : j < 32
    · have hsel := sel_bits (a := a) hlt
      have hcs := cN_succ j b
      have hps : pr a b (j + 1) = pr a b j ^^^ (if a / 2 ^ (31 - j) % 2 = 1 then cN j b else 0) := rfl
      obtain ⟨B, hB'⟩ : ∃ B, B = cN j b := ⟨_, rfl⟩
      obtain ⟨R, hR'⟩ : ∃ R, R = pr a b j := ⟨_, rfl⟩
      rw [← hB'] at hB hcs hps ⊢
      rw [← hR'] at hP hps ⊢
      have Hcs := Lib.hid hcs
      clear hB' hR' hcs
      by_cases hbit : a / 2 ^ (31 - j) % 2 = 1
      · rw [hbit, show ((1 * 2 ^ 31 : Nat) : Int) = 2147483648 from rfl] at hsel
        rw [if_pos hbit] at hps
        have hxo : bits .xor .u32 (R : Int) (B : Int) = ((R ^^^ B : Nat) : Int) := u32_xor_nat _ _ hP hB
        have Hps := Lib.hid hps
        clear hps hbit
        go_wp2_with fail
        refine (moved_any B _ hB).mono ?_
        rintro e w1 ⟨rfl, rfl⟩
        go_wp2_with fail
        go_round
        case rel => exact ⟨j + 1, by omega, by go_num, by rw [Hcs.out], by rw [Hps.out]⟩
        case measure => simp [intOf]; omega
      · have h0 : a / 2 ^ (31 - j) % 2 = 0 := by omega
        rw [h0, show ((0 * 2 ^ 31 : Nat) : Int) = 0 from rfl] at hsel
        rw [if_neg hbit, Nat.xor_zero] at hps
        have Hps := Lib.hid hps
        clear hps hbit h0
        go_wp2_with fail
        refine (moved_any B _ hB).mono ?_
        rintro e w1 ⟨rfl, rfl⟩
        go_wp2_with fail
        go_round
        case rel => exact ⟨j + 1, by omega, by go_num, by rw [Hcs.out], by rw [Hps.out]⟩
        case measure => simp [intOf]; omega
    · obtain rfl : j = 32 := by omega
      go_wp2
      go_ret
      exact ⟨rfl, rfl⟩

set_option maxHeartbeats 400000 in
theorem join_any (x y : Nat) (n : Int) (w : World) (hx : x < 4294967296) (hy : y < 4294967296) (hn : n ≤ 9223372036854775807) :
    Calls Try.prog 25 #[.int .u32 (x : Int), .int .u32 (y : Int), .int .i64 n] w fun e w' => e = .returned (.int .u32 (joined x y n.toNat : Nat)) ∧ w = w' := by
  obtain ⟨T, hT⟩ : ∃ T, T = cN (8 * n.toNat) x := ⟨_, rfl⟩
  have hTl : T < 4294967296 := by rw [hT]; exact cN_lt _ hx
  have hj : joined x y n.toNat = T ^^^ y := by rw [hT]; rfl
  have HJ := Lib.hid hj
  have HT := Lib.hid hT
  clear hj hT
  by_cases hpos : 0 < n
  · obtain ⟨m0, rfl⟩ := Int.eq_ofNat_of_zero_le (show 0 ≤ n by omega)
    go_enter Try.func25, Try.ntmps25
    go_wp2
    go_loop [0, 2, 7] (fun f i p => ∃ m E F : Nat, m ≤ m0 ∧ F < 4294967296 ∧ i = .int .i64 m ∧ f = .int .u32 (F : Int) ∧ p = .int .u32 (cN E 2147483648 : Nat) ∧ cN (E * m) F = T) (fun _ i _ => (intOf i).toNat)
    case atStart => exact ⟨m0, 8, x, Nat.le_refl _, hx, rfl, rfl, by rw [pow_byte]; rfl, by rw [HT.out]; rfl⟩
    case round =>
      obtain ⟨m, E, F, hm, hF, rfl, rfl, rfl, hc⟩ := hrel
      have hB := cN_lt E (s := 2147483648) (by decide)
      have htw := pow_twice E
      have hpp := pr_pow hF E
      have hFl := cN_lt E hF
      obtain ⟨B, hB'⟩ : ∃ B, B = cN E 2147483648 := ⟨_, rfl⟩
      rw [← hB'] at hB htw hpp ⊢
      have Htw := Lib.hid htw
      have Hpp := Lib.hid hpp
      have Hc := Lib.hid hc
      clear htw hpp hc hB'
      by_cases hm0 : 0 < m
      · have hand : bits .and .i64 (m : Int) 1 = ((m % 2 : Nat) : Int) := by
          exact i64_low (by omega)
        by_cases hodd : m % 2 = 1
        · rw [hodd] at hand
          go_wp2_with fail
          refine (product_any F B _ hF hB).mono ?_
          rintro e w1 ⟨rfl, rfl⟩
          go_wp2_with fail
          refine (product_any B B _ hB hB).mono ?_
          rintro e w1 ⟨rfl, rfl⟩
          go_wp2_with fail
          go_round
          case rel => exact ⟨m / 2, E + E, cN E F, by omega, hFl, by go_num, by rw [Hpp.out], by rw [Htw.out], by rw [join_odd, show 2 * (m / 2) + 1 = m from by omega]; exact Hc.out⟩
          case measure => simp [intOf]; omega
        · have h0 : m % 2 = 0 := by omega
          rw [h0] at hand
          go_wp2_with fail
          refine (product_any B B _ hB hB).mono ?_
          rintro e w1 ⟨rfl, rfl⟩
          go_wp2_with fail
          go_round
          case rel => exact ⟨m / 2, E + E, F, by omega, hF, by go_num, rfl, by rw [Htw.out], by rw [join_even, show 2 * (m / 2) = m from by omega]; exact Hc.out⟩
          case measure => simp [intOf]; omega
      · obtain rfl : m = 0 := by omega
        have hFT : F = T := Hc.out
        subst hFT
        have hxo : bits .xor .u32 (F : Int) (y : Int) = ((F ^^^ y : Nat) : Int) := u32_xor_nat _ _ hF hy
        rw [← HJ.out] at hxo
        have Hxo := Lib.hid hxo
        clear hxo
        go_wp2
        go_ret
        exact ⟨ret_int' Hxo.out, rfl⟩
  · have h0 : n.toNat = 0 := by omega
    rw [h0, Nat.mul_zero] at HT
    have hTx : T = x := HT.out
    subst hTx
    have hxo : bits .xor .u32 (T : Int) (y : Int) = ((T ^^^ y : Nat) : Int) := u32_xor_nat _ _ hTl hy
    rw [← HJ.out] at hxo
    have Hxo := Lib.hid hxo
    clear hxo h0
    go_enter Try.func25, Try.ntmps25
    go_wp2
    go_loop [0, 2, 7] (fun f i _ => f = .int .u32 (T : Int) ∧ i = .int .i64 n) (fun _ _ _ => 0)
    case atStart => exact ⟨rfl, rfl⟩
    case round =>
      obtain ⟨rfl, rfl⟩ := hrel
      go_wp2
      go_ret
      exact ⟨ret_int' Hxo.out, rfl⟩

end Go.Proofs.Ytegplcllimoakaa
