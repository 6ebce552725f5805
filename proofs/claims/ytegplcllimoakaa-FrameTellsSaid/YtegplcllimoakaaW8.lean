/-
  Layer 4: the laws of turned runs and of the only bytes.
-/
import Derived.Test.YtegplcllimoakaaW7
import Derived.Test.YtegplcllimoakaaF1
namespace Go.Proofs.Ytegplcllimoakaa
open Go.RowKit

theorem fgetN_whole {k : Nat} {body : List Nat} (hu : U8 body) (hk : 1 ≤ k) (hk2 : k ≤ 255) (hb : body.length ≤ 65536) : fgetN (fr k body) 0 = (k, body, 0 + 13 + body.length, 0) :=
  fgetN_fr hu hk hk2 hb (by rw [fr_len]; omega) (by have h := cut_all (bs := fr k body); rw [fr_len] at h; exact h)

theorem trn_fget {k p : Nat} {body : List Nat} (hu : U8 body) (hk : 1 ≤ k) (hk2 : k ≤ 255) (hb : body.length ≤ 65536) (hp : p < 4294967296) (at_ : Int) :
    (fget (trn (fr k body) at_ p) 0).2.2.2 = 0 ↔ trn (fr k body) at_ p = fr k body := by
  have e0 : ∀ bs : List Nat, fget bs 0 = fgetN bs 0 := fun bs => fget_in (bs := bs) (a := 0) (Nat.zero_le _)
  rw [e0]
  unfold trn
  split
  · rename_i hc
    have hfl := fr_len k body
    have hfu := fr_u8 hu k
    constructor
    · intro h
      have h0 := fget_tn hu hb hp (by rw [← hfl]; exact hc.2.2) h
      subst h0
      rw [Nat.zero_mul, tn_zero hfu]
    · intro h
      rw [h, fgetN_whole hu hk hk2 hb]
  · exact ⟨fun _ => rfl, fun _ => by rw [fgetN_whole hu hk hk2 hb]⟩

set_option maxHeartbeats 1600000 in
theorem walk_FrameTells (kind : Int) (A : Option Addr) (n c : Nat) (bs : List Nat) (at_ p : Int) (w : World) (_hk0 : -9223372036854775808 ≤ kind) (_hk1 : kind ≤ 9223372036854775807) (hx : Rd .u8 w A n bs) (hu : U8 bs) (hn : n ≤ 140737488351232) (_h1 : -9223372036854775808 ≤ at_) (_h2 : at_ ≤ 9223372036854775807) (hp0 : 0 ≤ p) (hp : p < 4294967296) :
    Calls Try.prog 12 #[.int .i64 kind, .slice A n c, .int .i64 at_, .int .u32 p] w fun e w' => e = .returned (.bool true) ∧ Ext w w' := by
  obtain ⟨p, rfl⟩ := Int.eq_ofNat_of_zero_le hp0
  have hpl : p < 4294967296 := by omega
  have Hl := Lib.hid hx.len
  by_cases hbad : (kind < 1 ∨ 255 < kind) ∨ 65536 < n
  · have hE : fputE kind bs ≠ 0 := by
      rcases hbad with h | h
      · rw [fputE_arg h]; decide
      · by_cases h2 : kind < 1 ∨ 255 < kind
        · rw [fputE_arg h2]; decide
        · rw [fputE_long h2 (by rw [Hl.out]; exact h)]; decide
    obtain ⟨E, hE'⟩ : ∃ E, E = fputE kind bs := ⟨_, rfl⟩
    obtain ⟨L, hL'⟩ : ∃ L, L = fputL kind bs := ⟨_, rfl⟩
    rw [← hE'] at hE
    have hEb : (E != 0) = true := by simpa using hE
    have HE := Lib.hid hE'
    have HL := Lib.hid hL'
    clear hE hE' hL'
    go_enter Try.func12, Try.ntmps12
    go_wp2_with fail
    refine (alive4 _).mono ?_
    rintro e w1 ⟨rfl, he1⟩
    go_wp2_with fail
    refine (copy_any _ _ _ _ _ (hx.ext he1) (by omega)).mono ?_
    rintro e w2 ⟨A2, c2, rfl, hown2, he2⟩
    go_wp2_with fail
    refine (fput_any kind _ n _ bs _ (hown2.rd' Hl.out) hu).mono ?_
    rintro e w3 ⟨A3, c3, rfl, hown3, he3⟩
    rw [← HE.out, ← HL.out]
    by_cases h1 : kind < 1
    · go_wp2_with fail
      go_ret
      exact ⟨rfl, (he1.trans he2).trans he3⟩
    · have b1 : decide (kind < 1) = false := by simp; omega
      by_cases h2 : 255 < kind
      · go_wp2_with fail
        go_ret
        exact ⟨rfl, (he1.trans he2).trans he3⟩
      · have b2 : decide (255 < kind) = false := by simp; omega
        have h3 : 65536 < n := by omega
        have b3 : decide (65536 < (n : Int)) = true := by simp; omega
        go_wp2_with fail
        go_ret
        exact ⟨rfl, (he1.trans he2).trans he3⟩
  · obtain ⟨k, rfl⟩ := Int.eq_ofNat_of_zero_le (show 0 ≤ kind by omega)
    have hk1 : 1 ≤ k := by omega
    have hk2 : k ≤ 255 := by omega
    have hb : bs.length ≤ 65536 := by rw [hx.len]; omega
    have hE : fputE (k : Int) bs = 0 := fputE_ok (by omega) (by omega)
    have hL : fputL (k : Int) bs = fr k bs := by rw [fputL, if_pos hE]; rfl
    have hfl : (fr k bs).length = n + 13 := by rw [fr_len, hx.len]
    have hfu := fr_u8 hu k
    have hiff := trn_fget hu hk1 hk2 hb hpl at_
    have htl : (trn (fr k bs) at_ p).length = n + 13 := by rw [trn_len, hfl]
    have htu := trn_u8 hfu at_ p
    obtain ⟨F, hF⟩ : ∃ F, F = fr k bs := ⟨_, rfl⟩
    rw [← hF] at hL hfl hfu hiff htl htu
    have HE := Lib.hid hE
    have HL := Lib.hid hL
    have HFl := Lib.hid hfl
    have HTl := Lib.hid htl
    have Hiff := Lib.hid hiff
    clear hE hL hfl hiff htl hF
    go_enter Try.func12, Try.ntmps12
    go_wp2_with fail
    refine (alive4 _).mono ?_
    rintro e w1 ⟨rfl, he1⟩
    go_wp2_with fail
    refine (copy_any _ _ _ _ _ (hx.ext he1) (by omega)).mono ?_
    rintro e w2 ⟨A2, c2, rfl, hown2, he2⟩
    go_wp2_with fail
    refine (fput_any k _ n _ bs _ (hown2.rd' Hl.out) hu).mono ?_
    rintro e w3 ⟨A3, c3, rfl, hown3, he3⟩
    rw [HL.out] at hown3 ⊢
    rw [HE.out, HFl.out]
    have hr3 := hown3.rd' HFl.out
    go_wp2_with fail
    refine (turn_any _ _ _ p at_ F _ hr3 hfu (by omega) hpl).mono ?_
    rintro e w4 ⟨A4, c4, rfl, hown4, he4⟩
    obtain ⟨hcap4, hcm4⟩ := hown4.cap
    rw [HTl.out] at hcap4
    have hr4 := hown4.rd' HTl.out
    have hsh4 := hown4.shape
    obtain ⟨T, hT⟩ : ∃ T, T = trn F at_ p := ⟨_, rfl⟩
    rw [← hT] at hr4 htu Hiff
    have HT := Lib.hid hT
    clear hT hown4 hown3
    go_wp2_with fail
    refine (fget_any _ _ _ 0 T _ hr4 htu hsh4 (by omega) hcap4 hcm4).mono ?_
    rintro e w5 ⟨A5, c5, rfl, hown5, he5⟩
    obtain ⟨g, hg⟩ : ∃ g, fget T 0 = g := ⟨_, rfl⟩
    rw [hg] at hown5 Hiff ⊢
    obtain ⟨gk, gb, gt, gr⟩ := g
    simp only at hown5 Hiff ⊢
    have hE5 := (((he1.trans he2).trans he3).trans he4).trans he5
    have hX := (Ext.refl w5).alloc (.cells #[.int .i64 (gk : Int), .slice A5 gb.length c5] 45)
    clear hg hown5
    by_cases hTF : T = F
    · have hr0 := Hiff.out.2 hTF
      subst hr0
      have hd : decide (T = F) = true := decide_eq_true hTF
      have Hd := Lib.hid hd
      clear hd hTF
      go_wp2_with fail
      refine (same_any _ _ _ _ _ _ T F _ ((hr4.ext he5).ext hX) (((hr3.ext he4).ext he5).ext hX) (by omega) (by omega)).mono ?_
      rintro e w7 ⟨rfl, q, rfl⟩
      rw [Hd.out]
      go_wp2_with fail
      go_ret
      exact ⟨rfl, (hE5.trans hX).drewN _⟩
    · have hr0 : gr ≠ 0 := fun h => hTF (Hiff.out.1 h)
      have hrb : (gr == 0) = false := by simpa using hr0
      have hd : decide (T = F) = false := decide_eq_false hTF
      have Hd := Lib.hid hd
      clear hd hTF hr0
      go_wp2_with fail
      refine (same_any _ _ _ _ _ _ T F _ ((hr4.ext he5).ext hX) (((hr3.ext he4).ext he5).ext hX) (by omega) (by omega)).mono ?_
      rintro e w7 ⟨rfl, q, rfl⟩
      rw [Hd.out]
      go_wp2_with fail
      go_ret
      exact ⟨rfl, (hE5.trans hX).drewN _⟩

end Go.Proofs.Ytegplcllimoakaa
