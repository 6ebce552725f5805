/-
  Layer 4: the law of there and back.
-/
import Derived.Test.YtegplcllimoakaaW7
import Derived.Test.YtegplcllimoakaaF1
namespace Go.Proofs.Ytegplcllimoakaa
open Go.RowKit

/-- A frame without its last byte is short. -/
theorem fget_less {k : Nat} {body : List Nat} (hk : 1 ≤ k) (hk2 : k ≤ 255) (hb : body.length ≤ 65536) : fget ((fr k body).take (body.length + 12)) 0 = (0, [], 0, 2) := by
  have e0 : ∀ bs : List Nat, fget bs 0 = fgetN bs 0 := fun bs => fget_in (bs := bs) (a := 0) (Nat.zero_le _)
  rw [e0]
  have hfl := fr_len k body
  have hl : ((fr k body).take (body.length + 12)).length = body.length + 12 := by rw [List.length_take]; omega
  have h9 : cut ((fr k body).take (body.length + 12)) 0 9 = sl (fhead k body.length) := by
    rw [← fr_parts.1, cut, List.drop_zero, List.take_take]
    rw [show min 9 (body.length + 12) = 9 from by omega]
  have h4 : cut ((fr k body).take (body.length + 12)) (0 + 1) 4 = cut (sl (fhead k body.length)) 1 4 := by
    have := cut_cut (bs := (fr k body).take (body.length + 12)) (a := 0) (m := 9) (b := 1) (k := 4) (by omega)
    rw [h9] at this
    exact this.symm
  have h0 : ((fr k body).take (body.length + 12)).getD 0 0 = k := by
    have := cut_getD (bs := (fr k body).take (body.length + 12)) (a := 0) (m := 9) (b := 0) (by omega)
    rw [h9, head_kind (by omega)] at this
    exact this.symm
  unfold fgetN
  rw [if_neg (by omega), h9, if_neg (fun q => q (head_sld _ _)), h0, if_neg (by omega), h4, head_size (by omega), if_neg (by omega), if_pos (by omega)]

theorem fget_mid {k : Nat} {body ys zs : List Nat} (hu : U8 body) (hk : 1 ≤ k) (hk2 : k ≤ 255) (hb : body.length ≤ 65536) : fget (ys ++ fr k body ++ zs) (ys.length : Nat) = (k, body, ys.length + (body.length + 13), 0) := by
  have hfl := fr_len k body
  rw [fget_in (by simp)]
  have h := cut_mid (p := ys) (q := fr k body) (r := zs)
  rw [hfl] at h
  rw [fgetN_fr hu hk hk2 hb (by simp; omega) h, show ys.length + 13 + body.length = ys.length + (body.length + 13) from by omega]

set_option maxHeartbeats 1600000 in
theorem walk_FrameBack (kind : Int) (A : Option Addr) (n c : Nat) (bs : List Nat) (A2 : Option Addr) (n2 c2 : Nat) (ys : List Nat) (A3 : Option Addr) (n3 c3 : Nat) (zs : List Nat) (w : World) (_hk0 : -9223372036854775808 ≤ kind) (_hk1 : kind ≤ 9223372036854775807)
    (hx : Rd .u8 w A n bs) (hu : U8 bs) (hn : n ≤ 1048576) (hy : Rd .u8 w A2 n2 ys) (hv : U8 ys) (hn2 : n2 ≤ 1048576) (hz : Rd .u8 w A3 n3 zs) (ht : U8 zs) (hn3 : n3 ≤ 1048576) :
    Calls Try.prog 10 #[.int .i64 kind, .slice A n c, .slice A2 n2 c2, .slice A3 n3 c3] w fun e w' => e = .returned (.bool true) ∧ Ext w w' := by
  have Hl := Lib.hid hx.len
  have Hl2 := Lib.hid hy.len
  have Hl3 := Lib.hid hz.len
  by_cases hbad : (kind < 1 ∨ 255 < kind) ∨ 65536 < n
  · have hE : fputE kind bs ≠ 0 := by
      rcases hbad with h | h
      · rw [fputE_arg h]; decide
      · by_cases h2 : kind < 1 ∨ 255 < kind
        · rw [fputE_arg h2]; decide
        · rw [fputE_long h2 (by rw [Hl.out]; exact h)]; decide
    have hL : fputL kind bs = [] := by rw [fputL, if_neg hE]
    obtain ⟨E, hE'⟩ : ∃ E, E = fputE kind bs := ⟨_, rfl⟩
    rw [← hE'] at hE
    have hEb : (E != 0) = true := by simpa using hE
    have HE := Lib.hid hE'
    have HL := Lib.hid hL
    clear hE hE' hL
    go_enter Try.func10, Try.ntmps10
    go_wp2_with fail
    refine (alive4 _).mono ?_
    rintro e w1 ⟨rfl, he1⟩
    go_wp2_with fail
    refine (copy_any _ _ _ _ _ (hx.ext he1) (by omega)).mono ?_
    rintro e w2 ⟨A4, c4, rfl, hown2, he2⟩
    go_wp2_with fail
    refine (fput_any kind _ n _ bs _ (hown2.rd' Hl.out) hu).mono ?_
    rintro e w3 ⟨A5, c5, rfl, hown3, he3⟩
    rw [← HE.out, HL.out]
    by_cases h1 : kind < 1
    · go_wp2_with fail
      go_ret
      exact ⟨rfl, (he1.trans he2).trans he3⟩
    · have b1 : decide (kind < 1) = false := by simp; omega
      by_cases h2 : 255 < kind
      · go_wp2_with fail
        go_ret
        exact ⟨rfl, (he1.trans he2).trans he3⟩
      · have b2 : decide (255 < kind) = false := by simp; omega
        have h3 : 65536 < n := by omega
        have b3 : decide (65536 < (n : Int)) = true := by simp; omega
        go_wp2_with fail
        go_ret
        exact ⟨rfl, (he1.trans he2).trans he3⟩
  · obtain ⟨k, rfl⟩ := Int.eq_ofNat_of_zero_le (show 0 ≤ kind by omega)
    have hk1 : 1 ≤ k := by omega
    have hk2 : k ≤ 255 := by omega
    have hb : bs.length ≤ 65536 := by rw [hx.len]; omega
    have hE : fputE (k : Int) bs = 0 := fputE_ok (by omega) (by omega)
    have hL : fputL (k : Int) bs = fr k bs := by rw [fputL, if_pos hE]; rfl
    have hfl : (fr k bs).length = n + 13 := by rw [fr_len, hx.len]
    have hfu := fr_u8 hu k
    have hg1 := fget_mid (ys := ys) (zs := zs) hu hk1 hk2 hb
    have hg2 := fget_less hk1 hk2 hb
    rw [hy.len, hx.len] at hg1
    rw [hx.len] at hg2
    obtain ⟨F, hF⟩ : ∃ F, F = fr k bs := ⟨_, rfl⟩
    rw [← hF] at hL hfl hfu hg1 hg2
    have hpc : piece F 0 (((n + 13 : Nat) : Int) - 1) = F.take (n + 12) := by
      unfold piece
      rw [show (((n + 13 : Nat) : Int) - 1).toNat = n + 12 from by omega]
      simp
    have HE := Lib.hid hE
    have HL := Lib.hid hL
    have HFl := Lib.hid hfl
    have Hg1 := Lib.hid hg1
    have Hg2 := Lib.hid hg2
    have Hpc := Lib.hid hpc
    have Hfs := Lib.hid (fsz_in (n := (n : Int)) (by omega))
    clear hE hL hfl hg1 hg2 hF hpc
    go_enter Try.func10, Try.ntmps10
    go_wp2_with fail
    refine (alive4 _).mono ?_
    rintro e w1 ⟨rfl, he1⟩
    go_wp2_with fail
    refine (copy_any _ _ _ _ _ (hx.ext he1) (by omega)).mono ?_
    rintro e w2 ⟨A4, c4, rfl, hown2, he2⟩
    go_wp2_with fail
    refine (fput_any k _ n _ bs _ (hown2.rd' Hl.out) hu).mono ?_
    rintro e w3 ⟨A5, c5, rfl, hown3, he3⟩
    rw [HL.out] at hown3 ⊢
    rw [HE.out, HFl.out]
    have hr3 := hown3.rd' HFl.out
    have hE3 := (he1.trans he2).trans he3
    clear hown2 hown3
    go_wp2_with fail
    refine (cat_any _ _ n2 _ (n + 13) _ ys F _ (hy.ext hE3) hr3 (by omega)).mono ?_
    rintro e w4 ⟨A6, c6, rfl, hown4, he4⟩
    have hr4 := hown4.rd' (n := n2 + (n + 13)) (by rw [List.length_append, Hl2.out, HFl.out])
    clear hown4
    go_wp2_with fail
    refine (cat_any _ _ (n2 + (n + 13)) _ n3 _ (ys ++ F) zs _ hr4 ((hz.ext hE3).ext he4) (by omega)).mono ?_
    rintro e w5 ⟨A7, c7, rfl, hown5, he5⟩
    have hl5 : (ys ++ F ++ zs).length = n2 + (n + 13) + n3 := by rw [List.length_append, List.length_append, Hl2.out, HFl.out, Hl3.out]
    obtain ⟨hcap5, hcm5⟩ := hown5.cap
    rw [hl5] at hcap5
    have hr5 := hown5.rd' hl5
    have hsh5 := hown5.shape
    have hu5 : U8 (ys ++ F ++ zs) := u8_append (u8_append hv hfu) ht
    have hE5 := (hE3.trans he4).trans he5
    have hX5 := (hx.ext hE3).ext (he4.trans he5)
    have hF5 := hr3.ext (he4.trans he5)
    clear hl5 hown5
    go_wp2_with fail
    refine (fget_any _ _ _ n2 (ys ++ F ++ zs) _ hr5 hu5 hsh5 (by omega) hcap5 hcm5).mono ?_
    rintro e w6 ⟨A8, c8, rfl, hown6, he6⟩
    rw [Hg1.out] at hown6 ⊢
    simp only at hown6 ⊢
    rw [Hl.out]
    have hX := (Ext.refl w6).alloc (.cells #[.int .i64 (k : Int), .slice A8 n c8] 45)
    go_wp2_with fail
    refine (piece_any _ (n + 13) _ 0 (((n + 13 : Nat) : Int) - 1) F _ ((hF5.ext he6).ext hX) (by omega) (by omega)).mono ?_
    rintro e w7 ⟨A9, c9, rfl, hown7, he7⟩
    rw [Hpc.out] at hown7 ⊢
    have hl7 : (F.take (n + 12)).length = n + 12 := by rw [List.length_take, HFl.out]; omega
    obtain ⟨hcap7, hcm7⟩ := hown7.cap
    rw [hl7] at hcap7
    have hr7 := hown7.rd' hl7
    have hsh7 := hown7.shape
    have hu7 := u8_take hfu (n + 12)
    have Hl7 := Lib.hid hl7
    clear hl7 hown7
    rw [Hl7.out]
    go_wp2_with fail
    refine (fget_any _ _ _ 0 (F.take (n + 12)) _ hr7 hu7 hsh7 (by omega) hcap7 hcm7).mono ?_
    rintro e w8 ⟨A10, c10, rfl, hown8, he8⟩
    rw [Hg2.out]
    have hX8 := (Ext.refl w8).alloc (.cells #[.int .i64 0, .slice A10 0 c10] 45)
    have hk := Ext.kept ((he7.trans he8).trans hX8)
    have k0 := cell_of_row _ w6.heap.size 0 _ _ (0, 0) hk
    have k1 := cell_of_row _ w6.heap.size 1 _ _ (0, 0) hk
    have k0' : (w8.alloc (.cells #[.int .i64 0, .slice A10 0 c10] 45)).cell? ⟨w6.heap.size, 0, none⟩ = some (.int .i64 (k : Int)) := k0
    have k1' : (w8.alloc (.cells #[.int .i64 0, .slice A10 0 c10] 45)).cell? ⟨w6.heap.size, 1, none⟩ = some (.slice A8 n c8) := k1
    have hE8 := (((hX.trans he7).trans he8).trans hX8)
    have hXf := (hX5.ext he6).ext hE8
    have hBf := (hown6.rd' Hl.out).ext hE8
    have hEf := (hE5.trans he6).trans hE8
    clear k0 k1 hk hown6 hown8
    go_wp2_with fail
    refine (same_yes hBf hXf (by omega)).mono ?_
    rintro e w9 ⟨rfl, q, rfl⟩
    go_wp2_with fail
    refine (fsize_any n _).mono ?_
    rintro e w10 ⟨rfl, rfl⟩
    rw [Hfs.out]
    go_wp2_with fail
    go_ret
    exact ⟨rfl, hEf.drewN _⟩

end Go.Proofs.Ytegplcllimoakaa
