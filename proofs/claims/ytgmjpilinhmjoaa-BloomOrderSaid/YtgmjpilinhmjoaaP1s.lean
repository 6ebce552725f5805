/-
  The program's layer 3: one step, going on from a sum, the sum of parts, the product, two sums joined.
-/
import Derived.Test.YtgmjpilinhmjoaaK3
import Derived.Test.YtgmjpilinhmjoaaR1
import Derived.Test.YtgmjpilinhmjoaaS1
namespace Go.Proofs.Ytgmjpilinhmjoaa
open Go.RowKit

theorem moved_any (r : Nat) (w : World) (hr : r < 4294967296) :
    Calls Try.prog 61 #[.int .u32 (r : Int)] w fun e w' => e = .returned (.int .u32 (cb r : Nat)) ∧ w = w' := by
  have H := Lib.hid (moved_bits hr)
  go_enter Try.func61, Try.ntmps61
  go_wp2
  go_ret
  exact ⟨ret_int' H.out, rfl⟩

set_option maxHeartbeats 400000 in
theorem extend_any (s : Nat) (A : Option Addr) (n c : Nat) (bs : List Nat) (w : World) (hs : s < 4294967296) (hx : Rd .u8 w A n bs) (hu : U8 bs) (hn : n ≤ 180000000000000) :
    Calls Try.prog 59 #[.int .u32 (s : Int), .slice A n c] w fun e w' => e = .returned (.int .u32 (ext s bs : Nat)) ∧ w = w' := by
  have hl := hx.len
  have hno := not_bits hs
  obtain ⟨M, hM⟩ : ∃ M : Nat, M = s ^^^ 4294967295 := ⟨_, rfl⟩
  rw [← hM] at hno
  have hfin : ext s bs = creg M bs ^^^ 4294967295 := by rw [hM]; rfl
  have hMl : M < 4294967296 := by rw [hM]; exact xor_lt32 hs (by decide)
  have Hl := Lib.hid hl
  have Hf := Lib.hid hfin
  clear hl hfin hM
  go_enter Try.func59, Try.ntmps59
  go_wp2
  go_loop [5, 7, 12] (fun s _ i => ∃ j : Nat, j ≤ n ∧ i = .int .i64 j ∧ s = .int .u32 (creg M (bs.take j) : Nat)) (fun _ _ i => n - (intOf i).toNat)
  case atStart => exact ⟨0, Nat.zero_le _, rfl, by rw [List.take_zero, creg_nil]⟩
  case round =>
    clear hno
    obtain ⟨j, hj, rfl, rfl⟩ := hrel
    have hR : creg M (bs.take j) < 4294967296 := creg_lt (u8_take hu j) hMl
    by_cases hlt : j < n
    · obtain ⟨b, o, rfl, hbl, hc⟩ := hx.at_ hlt
      have hv := hu.at_ j
      have hnext : creg M (bs.take (j + 1)) = cN 8 (creg M (bs.take j) ^^^ bs.getD j 0) := by
        rw [take_next _ _ (by have := Hl.out; omega), creg_snoc (u8_take hu j) _ hv]
      obtain ⟨x, hx'⟩ : ∃ x, x = bs.getD j 0 := ⟨_, rfl⟩
      obtain ⟨R, hR'⟩ : ∃ R, R = creg M (bs.take j) := ⟨_, rfl⟩
      rw [← hx'] at hc hv hnext
      rw [← hR'] at hR hnext ⊢
      have hxo : bits .xor .u32 (R : Int) (x : Int) = ((R ^^^ x : Nat) : Int) := u32_xor_nat _ _ hR (by omega)
      have hlt2 : R ^^^ x < 4294967296 := xor_lt32 hR (by omega)
      obtain ⟨T, hT⟩ : ∃ T, T = R ^^^ x := ⟨_, rfl⟩
      rw [← hT] at hxo hlt2 hnext
      have Hn := Lib.hid hnext
      clear hnext hT hR' hx'
      go_wp2
      go_loop [5, 20] (fun s k => ∃ t : Nat, t ≤ 8 ∧ k = .int .i64 t ∧ s = .int .u32 (cN t T : Nat)) (fun _ k => 8 - (intOf k).toNat)
      case atStart => exact ⟨0, by omega, rfl, rfl⟩
      case round =>
        obtain ⟨t, ht, rfl, rfl⟩ := hrel
        have hS := cN_lt t hlt2
        have hN := cN_succ t T
        obtain ⟨S, hS'⟩ : ∃ S, S = cN t T := ⟨_, rfl⟩
        rw [← hS'] at hS hN ⊢
        have HS := Lib.hid hS'
        have HN := Lib.hid hN
        clear hS' hN
        by_cases ht8 : t < 8
        · go_wp2_with fail
          refine (moved_any S _ hS).mono ?_
          rintro e w1 ⟨rfl, rfl⟩
          go_wp2_with fail
          go_round
          case rel => exact ⟨t + 1, by omega, by go_num, by rw [HN.out]⟩
          case measure => simp [intOf]; omega
        · obtain rfl : t = 8 := by omega
          go_wp2
          go_round
          case rel => exact ⟨j + 1, by omega, by go_num, by rw [Hn.out, HS.out]⟩
          case measure => simp [intOf]; omega
    · obtain rfl : j = n := by omega
      rw [List.take_of_length_le (Nat.le_of_eq Hl.out)] at hR ⊢
      have hxo := not_bits hR
      rw [← Hf.out] at hxo
      have Hxo := Lib.hid hxo
      clear hxo
      go_wp2
      go_ret
      exact ⟨ret_int' Hxo.out, rfl⟩

set_option maxHeartbeats 400000 in
theorem sum_any (A : Option Addr) (n c : Nat) (xss : List (List Nat)) (w : World) (hx : RdSS w A n xss) (hu : U8s xss) (hn : ∀ xs ∈ xss, xs.length ≤ 180000000000000) (hm : n ≤ 180000000000000) :
    Calls Try.prog 50 #[.slice A n c] w fun e w' => e = .returned (.int .u32 (crc xss.flatten : Nat)) ∧ w = w' := by
  have Hl := Lib.hid hx.len
  go_enter Try.func50, Try.ntmps50
  go_wp2
  go_loop [3, 5, 8] (fun s _ i => ∃ j : Nat, j ≤ n ∧ i = .int .i64 j ∧ s = .int .u32 (crc (cat xss j) : Nat)) (fun _ _ i => n - (intOf i).toNat)
  case atStart => exact ⟨0, Nat.zero_le _, rfl, by rw [cat_zero, crc_nil]; rfl⟩
  case round =>
    obtain ⟨j, hj, rfl, rfl⟩ := hrel
    have hR : crc (cat xss j) < 4294967296 := crc_lt (hu.cat j)
    by_cases hlt : j < n
    · obtain ⟨b, o, a, m, c2, rfl, hbl, hc, hrd⟩ := hx.at_ hlt
      have hjl : j < xss.length := by have := Hl.out; omega
      have hnext : ext (crc (cat xss j)) (xss.getD j []) = crc (cat xss (j + 1)) := by rw [ext_crc (hu.cat j), cat_succ hjl]
      have hle : m ≤ 180000000000000 := by
        have h1 := hn _ (List.getElem_mem hjl)
        have h2 := hrd.len
        rw [show xss.getD j [] = xss[j] from by simp [List.getD, hjl]] at h2
        omega
      have huj := hu.at_ j
      obtain ⟨R, hR'⟩ : ∃ R, R = crc (cat xss j) := ⟨_, rfl⟩
      obtain ⟨ys, hys⟩ : ∃ ys, ys = xss.getD j [] := ⟨_, rfl⟩
      rw [← hR'] at hR hnext ⊢
      rw [← hys] at hnext hrd huj
      have Hn := Lib.hid hnext
      clear hnext hR' hys
      go_wp2_with fail
      refine (extend_any R _ _ _ _ _ hR hrd huj hle).mono ?_
      rintro e w1 ⟨rfl, rfl⟩
      go_wp2_with fail
      go_round
      case rel => exact ⟨j + 1, by omega, by go_num, by rw [Hn.out]⟩
      case measure => simp [intOf]; omega
    · obtain rfl : j = n := by omega
      have hfin : cat xss j = xss.flatten := by rw [← cat_all]; rw [Hl.out]
      rw [hfin] at hR ⊢
      clear hfin
      go_wp2
      go_ret
      exact ⟨rfl, rfl⟩

end Go.Proofs.Ytgmjpilinhmjoaa
