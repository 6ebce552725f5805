/-
  What was packed is unpacked, and what is unpacked was packed so.
-/
import Derived.Test.YtpdppldkebfikaaBP2
namespace Go.Proofs.Ytpdppldkebfikaa
open Go.RowKit

theorem packB_u8 (wd : Nat) (vs : List Nat) : U8 (packB wd vs) := U8_wd.2 (upk_wd 8 _ _)

theorem unpE_bounds {N len : Nat} {wd cnt : Int} (h : unpE N len wd cnt = 0) : 0 ≤ wd ∧ wd ≤ 64 ∧ 0 ≤ cnt ∧ cnt ≤ 4096 ∧ wd * cnt ≤ 8 * (len : Int) ∧ 8 * (len : Int) - wd * cnt < 8 ∧ N < 2 ^ (wd * cnt).toNat := by
  unfold unpE at h
  by_cases h1 : wd < 0 ∨ 64 < wd ∨ cnt < 0 ∨ 4096 < cnt
  · rw [if_pos h1] at h; omega
  · rw [if_neg h1] at h
    by_cases h2 : 8 * (len : Int) < wd * cnt
    · rw [if_pos h2] at h; omega
    · rw [if_neg h2] at h
      by_cases h3 : 8 ≤ 8 * (len : Int) - wd * cnt
      · rw [if_pos h3] at h; omega
      · rw [if_neg h3] at h
        by_cases h4 : 2 ^ (wd * cnt).toNat ≤ N
        · rw [if_pos h4] at h; omega
        · exact ⟨by omega, by omega, by omega, by omega, by omega, by omega, by omega⟩

theorem unp_pack {wd : Nat} {vs : List Nat} (hw : wd ≤ 64) (hn : vs.length ≤ 4096) (hv : Wd wd vs) :
    unpE (pk 8 (packB wd vs)) (packB wd vs).length (wd : Int) (vs.length : Int) = 0 ∧ unpL (pk 8 (packB wd vs)) (packB wd vs).length (wd : Int) (vs.length : Int) = vs ∧
      ∀ N, unpE N ((packB wd vs).length + 1) (wd : Int) (vs.length : Int) = 3 := by
  have hlt := pk_lt hv
  have hlen : (packB wd vs).length = (wd * vs.length + 7) / 8 := upk_len ..
  have hpk : pk 8 (packB wd vs) = pk wd vs := by
    unfold packB
    rw [pk_upk, Nat.mod_eq_of_lt]
    exact Nat.lt_of_lt_of_le hlt (Nat.pow_le_pow_right (by omega) (by omega))
  have hm : (wd : Int) * (vs.length : Int) = ((wd * vs.length : Nat) : Int) := by norm_cast
  have h0 : unpE (pk wd vs) (packB wd vs).length (wd : Int) (vs.length : Int) = 0 := by
    refine unpE_ok (by omega) (by rw [hm, hlen]; omega) (by rw [hm, hlen]; omega) ?_
    rw [hm, Int.toNat_natCast]
    omega
  rw [hpk]
  refine ⟨h0, ?_, fun N => ?_⟩
  · rw [unp_ok h0, Int.toNat_natCast, Int.toNat_natCast, upk_pk hv]
  · exact unpE_trail (by omega) (by rw [hm, hlen]; omega) (by rw [hm, hlen]; omega)


theorem pack_unp {bs : List Nat} {wd n : Nat} (hw : wd ≤ 64) (hn : n ≤ 4096) (hu : U8 bs) (h : unpE (pk 8 bs) bs.length (wd : Int) (n : Int) = 0) :
    packE (wd : Int) (upk wd n (pk 8 bs)) = 0 ∧ packL (wd : Int) (upk wd n (pk 8 bs)) = bs := by
  obtain ⟨_, _, _, _, h5, h6, h7⟩ := unpE_bounds h
  have hm : (wd : Int) * (n : Int) = ((wd * n : Nat) : Int) := by norm_cast
  rw [hm] at h5 h6 h7
  rw [Int.toNat_natCast] at h7
  have hl := upk_len wd n (pk 8 bs)
  have hwd := wdt_le.2 (upk_wd wd n (pk 8 bs))
  have hE : packE (wd : Int) (upk wd n (pk 8 bs)) = 0 := packE_ok (by omega) (by omega) (by omega)
  refine ⟨hE, ?_⟩
  unfold packL
  rw [if_pos hE, Int.toNat_natCast]
  unfold packB
  rw [hl, pk_upk, Nat.mod_eq_of_lt h7, show (wd * n + 7) / 8 = bs.length from by omega]
  exact upk_pk (U8_wd.1 hu)

end Go.Proofs.Ytpdppldkebfikaa
