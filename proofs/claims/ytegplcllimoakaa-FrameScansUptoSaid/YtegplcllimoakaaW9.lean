/-
  Layer 4: the laws of the only bytes, and of frames put.
-/
import Derived.Test.YtegplcllimoakaaW7
import Derived.Test.YtegplcllimoakaaF1
namespace Go.Proofs.Ytegplcllimoakaa
open Go.RowKit

theorem fget_err0 {bs : List Nat} {at_ : Int} (h : (fget bs at_).2.2.2 ≠ 0) : (fget bs at_).1 = 0 ∧ (fget bs at_).2.1 = [] ∧ (fget bs at_).2.2.1 = 0 := by
  unfold fget at h ⊢
  split
  · exact ⟨rfl, rfl, rfl⟩
  · rename_i h1
    rw [if_neg h1] at h
    generalize at_.toNat = a at *
    unfold fgetN at h ⊢
    split
    · exact ⟨rfl, rfl, rfl⟩
    · rename_i h2
      rw [if_neg h2] at h
      split
      · exact ⟨rfl, rfl, rfl⟩
      · rename_i h3
        rw [if_neg h3] at h
        split
        · exact ⟨rfl, rfl, rfl⟩
        · rename_i h4
          rw [if_neg h4] at h
          split
          · exact ⟨rfl, rfl, rfl⟩
          · rename_i h5
            rw [if_neg h5] at h
            split
            · exact ⟨rfl, rfl, rfl⟩
            · rename_i h6
              rw [if_neg h6] at h
              split
              · exact ⟨rfl, rfl, rfl⟩
              · rename_i h7
                rw [if_neg h7] at h
                exact absurd rfl h

theorem fget_ok0 {bs : List Nat} {at_ : Int} (hu : U8 bs) (h : (fget bs at_).2.2.2 = 0) :
    ∃ (a k : Nat) (body : List Nat), at_ = (a : Int) ∧ fget bs at_ = (k, body, a + (body.length + 13), 0) ∧ 1 ≤ k ∧ k ≤ 255 ∧ body.length ≤ 65536 ∧ a + (body.length + 13) ≤ bs.length ∧ piece bs a (a + (body.length + 13) : Nat) = fr k body ∧ U8 body := by
  by_cases hk : at_ < 0 ∨ (bs.length : Int) < at_
  · rw [fget_arg hk] at h; exact absurd h (by decide)
  · obtain ⟨a, rfl⟩ := Int.eq_ofNat_of_zero_le (show 0 ≤ at_ by omega)
    rw [fget_in (by omega)] at h
    obtain ⟨k, body, h1, h2, h3, h4, h5, h6, h7⟩ := fgetN_only hu h
    refine ⟨a, k, body, rfl, by rw [fget_in (by omega)]; exact h1, h2, h3, h4, h5, ?_, h7⟩
    unfold piece
    rw [Int.toNat_natCast, Int.toNat_natCast, ← h6, cut, List.drop_take]
    congr 1
    omega

set_option maxHeartbeats 1600000 in
theorem walk_FrameOnly (A : Option Addr) (n c : Nat) (bs : List Nat) (at_ : Int) (w : World) (hx : Rd .u8 w A n bs) (hu : U8 bs) (hn : n ≤ 140737488351232) (h1 : -9223372036854775808 ≤ at_) (h2 : at_ ≤ 9223372036854775807) :
    Calls Try.prog 11 #[.slice A n c, .int .i64 at_] w fun e w' => e = .returned (.bool true) ∧ Ext w w' := by
  have Hl := Lib.hid hx.len
  go_enter Try.func11, Try.ntmps11
  go_wp2_with fail
  refine (alive4 _).mono ?_
  rintro e w1 ⟨rfl, he1⟩
  go_wp2_with fail
  refine (copy_any _ _ _ _ _ (hx.ext he1) (by omega)).mono ?_
  rintro e w2 ⟨A2, c2, rfl, hown2, he2⟩
  obtain ⟨hcap, hcm⟩ := hown2.cap
  rw [Hl.out] at hcap
  have hr2 := hown2.rd' Hl.out
  have hx2 := (hx.ext he1).ext he2
  have hsh := hown2.shape
  go_wp2_with fail
  refine (fget_any _ _ _ at_ bs _ hr2 hu hsh (by omega) hcap hcm).mono ?_
  rintro e w3 ⟨A3, c3, rfl, hown3, he3⟩
  have hE3 := (he1.trans he2).trans he3
  have hx3 := hx2.ext he3
  clear hx hx2 hr2 hown2
  by_cases hr : (fget bs at_).2.2.2 = 0
  · obtain ⟨a, k, body, rfl, hg, hk1, hk2, hb, hle, hpc, hbu⟩ := fget_ok0 hu hr
    obtain ⟨t, ht⟩ : ∃ t, t = a + (body.length + 13) := ⟨_, rfl⟩
    rw [← ht] at hg hpc hle
    have g1 : a < t := by omega
    have g2 : t ≤ n := by rw [← Hl.out]; exact hle
    have Ht := Lib.hid ht
    clear ht
    rw [hg] at hown3 ⊢
    simp only at hown3 ⊢
    have hE : fputE (k : Int) body = 0 := fputE_ok (by omega) (by omega)
    have hL : fputL (k : Int) body = fr k body := by rw [fputL, if_pos hE]; rfl
    have hfl : (fr k body).length = body.length + 13 := fr_len k body
    have hX := (Ext.refl w3).alloc (.cells #[.int .i64 (k : Int), .slice A3 body.length c3] 45)
    have HE := Lib.hid hE
    have HL := Lib.hid hL
    have Hfl := Lib.hid hfl
    have Hpc := Lib.hid hpc
    have hbl : body.length ≤ 65536 := hb
    clear hr hg hE hL hfl hpc hle
    go_wp2_with fail
    refine (fput_any k _ _ _ body _ (hown3.rd.ext hX) hbu).mono ?_
    rintro e w4 ⟨A4, c4, rfl, hown4, he4⟩
    rw [HL.out] at hown4 ⊢
    rw [HE.out, Hfl.out]
    have hr4 := hown4.rd' Hfl.out
    have hE4 := (hE3.trans hX).trans he4
    clear hown4 hown3
    go_wp2_with fail
    refine (piece_any _ _ _ a t bs _ ((hx3.ext hX).ext he4) (by omega) (by omega)).mono ?_
    rintro e w5 ⟨A5, c5, rfl, hown5, he5⟩
    rw [Hpc.out] at hown5 ⊢
    rw [Hfl.out]
    go_wp2_with fail
    refine (same_yes (hr4.ext he5) (hown5.rd' Hfl.out) (by omega)).mono ?_
    rintro e w6 ⟨rfl, q, rfl⟩
    go_wp2_with fail
    go_ret
    exact ⟨rfl, (hE4.trans he5).drewN _⟩
  · obtain ⟨h3, h4, h5⟩ := fget_err0 hr
    obtain ⟨r, hr'⟩ : ∃ r, r = (fget bs at_).2.2.2 := ⟨_, rfl⟩
    have hrb : (r != 0) = true := by rw [hr']; simpa using hr
    rw [h3, h4, h5, ← hr']
    clear hr' h3 h4 h5 hr hown3
    go_wp2_with fail
    go_ret
    exact ⟨rfl, hE3.trans ((Ext.refl w3).alloc _)⟩

set_option maxHeartbeats 1600000 in
theorem walk_FramePuts (kind : Int) (A : Option Addr) (n c : Nat) (bs : List Nat) (m : Int) (w : World) (_hk0 : -9223372036854775808 ≤ kind) (_hk1 : kind ≤ 9223372036854775807) (hx : Rd .u8 w A n bs) (hu : U8 bs) (hn : n ≤ 140737488351232) (_h1 : -9223372036854775808 ≤ m) (_h2 : m ≤ 9223372036854775807) :
    Calls Try.prog 8 #[.int .i64 kind, .slice A n c, .int .i64 m] w fun e w' => e = .returned (.bool true) ∧ Ext w w' := by
  have Hl := Lib.hid hx.len
  have hLu : U8 (fputL kind bs) := by
    unfold fputL
    split
    · exact fr_u8 hu _
    · intro v hv; cases hv
  have hLl : (fputL kind bs).length ≤ 65549 := by
    by_cases hE : fputE kind bs = 0
    · have hb : bs.length ≤ 65536 := by
        rcases Nat.lt_or_ge 65536 bs.length with h | h
        · by_cases h1 : kind < 1 ∨ 255 < kind
          · rw [fputE_arg h1] at hE; exact absurd hE (by decide)
          · rw [fputE_long h1 h] at hE; exact absurd hE (by decide)
        · exact h
      rw [fputL, if_pos hE, fr_len]
      omega
    · rw [fputL, if_neg hE]
      simp
  go_enter Try.func8, Try.ntmps8
  go_wp2_with fail
  refine (alive4 _).mono ?_
  rintro e w1 ⟨rfl, he1⟩
  go_wp2_with fail
  refine (wide_any _ _ _ _ _ (hx.ext he1) (by omega)).mono ?_
  rintro e w2 ⟨A2, c2, rfl, hown2, he2⟩
  have hr2 := hown2.rd_take (n := n) (by rw [List.length_append, hx.len]; omega)
  rw [List.take_left' hx.len] at hr2
  have hri := hown2.rd' (n := n + 64) (by rw [List.length_append, hx.len]; rfl)
  obtain ⟨b, rfl, _, hb, hcap, hcm⟩ := hown2.form (by rw [List.length_append, marks_len]; omega)
  rw [List.length_append, hx.len, marks_len] at hcap
  have hx2 := (hx.ext he1).ext he2
  have hE2 := he1.trans he2
  have hnc : (n : Int) ≤ (c2 : Int) := by omega
  clear hown2 hx
  go_wp2_with fail
  refine (refFPut_any kind _ _ _ bs _ hx2 hu).mono ?_
  rintro e w3 ⟨A3, c3, rfl, hown3, he3⟩
  go_wp2_with fail
  refine (fput_any kind _ n _ bs _ (hr2.ext he3) hu).mono ?_
  rintro e w4 ⟨A4, c4, rfl, hown4, he4⟩
  go_wp2_with fail
  refine (fput_any kind _ n _ bs _ ((hr2.ext he3).ext he4) hu).mono ?_
  rintro e w5 ⟨A5, c5, rfl, hown5, he5⟩
  obtain ⟨L, hL⟩ : ∃ L, L = fputL kind bs := ⟨_, rfl⟩
  obtain ⟨E, hE⟩ : ∃ E, E = fputE kind bs := ⟨_, rfl⟩
  rw [← hL] at hown3 hown4 hown5 hLu hLl ⊢
  rw [← hE]
  have hEE : (E != E) = false := by simp
  have hE5 := ((Ext.trans he3 he4).trans he5)
  clear hL hE
  go_wp2_with fail
  refine (intact_yes (ys := bs) (hri.ext hE5) (hx2.ext hE5) (by omega) (by omega)).mono ?_
  rintro e w6 ⟨rfl, q, hw⟩
  have he6 : Ext w5 w6 := by rw [hw]; exact (Ext.refl w5).drewN q
  clear hw
  go_wp2_with fail
  refine (apart_any A4 A5 A3 L.length c4 c5 c3 w3.heap.size L w2 w6 ((hown4.ext he5).ext he6) rfl hLu ((hown5.ext he6).rd) (((hown3.ext he4).ext he5).ext he6).rd ?_ ?_ (hE5.trans he6) he3.size ?_ (by omega)).mono ?_
  · intro a a2 ha ha2
    have := (hown4.block a ha).2
    have := (hown5.block a2 ha2).1
    omega
  · intro a a3 ha ha3
    have := (hown4.block a ha).1
    have := (hown3.block a3 ha3).2
    omega
  · have := he4.size; have := he5.size; have := he6.size; omega
  rintro e w7 ⟨rfl, he7⟩
  by_cases hm : 0 ≤ m ∧ m ≤ 65536
  · have hm0 := hm.1
    have hm1 := hm.2
    have Hf := Lib.hid (fsz_in hm)
    go_wp2_with fail
    refine (fsize_any m _).mono ?_
    rintro e w8 ⟨rfl, rfl⟩
    rw [Hf.out]
    go_wp2_with fail
    refine (intact_yes (ys := bs) (hri.ext he7) (hx2.ext he7) (by omega) (by omega)).mono ?_
    rintro e w8 ⟨rfl, q2, rfl⟩
    go_wp2_with fail
    go_ret
    exact ⟨rfl, (hE2.trans he7).drewN _⟩
  · have Hf := Lib.hid (fsz_out hm)
    by_cases hm0 : m < 0
    · have b1 : decide (0 ≤ m) = false := by simp; omega
      go_wp2_with fail
      refine (fsize_any m _).mono ?_
      rintro e w8 ⟨rfl, rfl⟩
      rw [Hf.out]
      go_wp2_with fail
      refine (intact_yes (ys := bs) (hri.ext he7) (hx2.ext he7) (by omega) (by omega)).mono ?_
      rintro e w8 ⟨rfl, q2, rfl⟩
      go_wp2_with fail
      go_ret
      exact ⟨rfl, (hE2.trans he7).drewN _⟩
    · have b0 : 0 ≤ m := by omega
      have b1 : decide (m ≤ 65536) = false := by simp; omega
      go_wp2_with fail
      refine (fsize_any m _).mono ?_
      rintro e w8 ⟨rfl, rfl⟩
      rw [Hf.out]
      go_wp2_with fail
      refine (intact_yes (ys := bs) (hri.ext he7) (hx2.ext he7) (by omega) (by omega)).mono ?_
      rintro e w8 ⟨rfl, q2, rfl⟩
      go_wp2_with fail
      go_ret
      exact ⟨rfl, (hE2.trans he7).drewN _⟩

end Go.Proofs.Ytegplcllimoakaa
