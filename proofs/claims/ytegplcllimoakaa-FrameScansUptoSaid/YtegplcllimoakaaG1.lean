/-
  The program's layer 4: a frame's size, its head, the frame put together; bytes cloned.
-/
import Derived.Test.YtegplcllimoakaaP2
import Derived.Test.YtegplcllimoakaaK2
import Derived.WalkSpells
import Derived.Deep.RegionHeld3
namespace Go.Proofs.Ytegplcllimoakaa
open Go.RowKit

/-- What Size answers. -/
def fsz (n : Int) : Int := if 0 ≤ n ∧ n ≤ 65536 then n + 13 else 0
theorem fsz_in {n : Int} (h : 0 ≤ n ∧ n ≤ 65536) : fsz n = n + 13 := if_pos h
theorem fsz_out {n : Int} (h : ¬ (0 ≤ n ∧ n ≤ 65536)) : fsz n = 0 := if_neg h

theorem fsize_any (n : Int) (w : World) :
    Calls Try.prog 32 #[.int .i64 n] w fun e w' => e = .returned (.int .i64 (fsz n)) ∧ w = w' := by
  by_cases ha : n < 0
  · have H := Lib.hid (fsz_out (n := n) (by omega))
    go_enter Try.func32, Try.ntmps32
    go_wp2
    go_ret
    exact ⟨ret_int' H.out.symm, rfl⟩
  · have b1 : decide (n < 0) = false := by simp; omega
    by_cases hb : 65536 < n
    · have H := Lib.hid (fsz_out (n := n) (by omega))
      go_enter Try.func32, Try.ntmps32
      go_wp2
      go_ret
      exact ⟨ret_int' H.out.symm, rfl⟩
    · have b2 : decide (65536 < n) = false := by simp; omega
      have H := Lib.hid (fsz_in (n := n) (by omega))
      go_enter Try.func32, Try.ntmps32
      go_wp2
      go_ret
      exact ⟨ret_int' (by rw [H.out]; omega), rfl⟩

theorem fhead_lit {k n : Nat} (hk : k < 256) (hn : n ≤ 65536) : fhead k n = [k, n % 256, n / 256 % 256, n / 65536, n / 16777216] := by
  have h1 : upk 8 1 k = [k] := by simp only [upk]; rw [Nat.mod_eq_of_lt (by simpa using hk)]
  rw [fhead, four_upk, h1]
  have h2 : n / 65536 % 256 = n / 65536 := by omega
  have h3 : n / 16777216 % 256 = n / 16777216 := by omega
  rw [h2, h3]
  rfl

set_option maxHeartbeats 400000 in
theorem head_any (k n : Nat) (w : World) (hk : k < 256) (hn : n ≤ 65536) :
    Calls Try.prog 50 #[.int .i64 (k : Int), .int .i64 (n : Int)] w fun e w' => ∃ A' c', e = .returned (.slice A' 9 c') ∧ Own .u8 5 w' w.heap.size A' c' (sl (fhead k n)) ∧ Ext w w' := by
  have H := Lib.hid (fhead_lit hk hn)
  go_enter Try.func50, Try.ntmps50
  go_wp2_with fail
  have hr := Rd.lit_at .u8 5 w [k, n % 256, n / 256 % 256, n / 65536, n / 16777216] rfl (n := 5) rfl
  refine (seal_any _ 5 _ (fhead k n) _ ?_ (fhead_u8 k n) (by omega)).mono ?_
  · rw [H.out]; exact hr
  rintro e w1 ⟨A1, c1, rfl, hown1, he1⟩
  have hE : Ext w w1 := Ext.trans ((Ext.refl w).alloc _) he1
  have hown := hown1.mono (show w.heap.size ≤ _ by simp)
  clear hr hown1 he1
  go_wp2_with fail
  go_ret
  exact ⟨_, _, rfl, hown, hE⟩

set_option maxHeartbeats 800000 in
theorem fput_any (kind : Int) (A : Option Addr) (n c : Nat) (bs : List Nat) (w : World) (hx : Rd .u8 w A n bs) (hu : U8 bs) :
    Calls Try.prog 31 #[.int .i64 kind, .slice A n c] w (FPutPost kind bs w) := by
  have hl := hx.len
  by_cases hk : kind < 1 ∨ 255 < kind
  · have HE := Lib.hid (fputE_arg (b := bs) hk)
    clear hl
    go_enter Try.func31, Try.ntmps31
    rcases hk with h | h
    · go_wp2
      go_ret2
      exact FPutPost.err HE.out (by decide) (Ext.refl _)
    · by_cases h2 : kind < 1
      all_goals
        go_wp2
        go_ret2
        exact FPutPost.err HE.out (by decide) (Ext.refl _)
  · have h1 : 1 ≤ kind := by omega
    have h2 : kind ≤ 255 := by omega
    have b1 : decide (kind < 1) = false := by simp; omega
    have b2 : decide (255 < kind) = false := by simp; omega
    by_cases hlong : 65536 < n
    · have HE := Lib.hid (fputE_long (b := bs) hk (by omega))
      clear hl hk
      go_enter Try.func31, Try.ntmps31
      go_wp2
      go_ret2
      exact FPutPost.err HE.out (by decide) (Ext.refl _)
    · have HE := Lib.hid (fputE_ok (b := bs) hk (by omega))
      obtain ⟨k, rfl⟩ := Int.eq_ofNat_of_zero_le (show 0 ≤ kind by omega)
      have hfl := fr_len k bs
      have hff : [sl (fhead k n), sl bs].flatten = fr k bs := by rw [fr, hl]; simp
      have hfl2 : [sl (fhead k n), sl bs].flatten.length = n + 13 := by rw [hff, hfl, hl]
      rw [hl] at hfl
      have b3 : decide (65536 < (n : Int)) = false := by simp; omega
      have Hf := Lib.hid hfl
      have Hl := Lib.hid hl
      have Hff := Lib.hid hff
      have Hfl2 := Lib.hid hfl2
      clear hl hk hfl hff hfl2
      go_enter Try.func31, Try.ntmps31
      go_wp2_with fail
      refine (head_any k n _ (by omega) (by omega)).mono ?_
      rintro e w1 ⟨A1, c1, rfl, hown1, he1⟩
      go_wp2_with fail
      refine (seal_any _ _ _ bs _ (hx.ext he1) hu (by omega)).mono ?_
      rintro e w2 ⟨A2, c2, rfl, hown2, he2⟩
      have hr1 : Rd .u8 w2 A1 9 (sl (fhead k n)) := (hown1.ext he2).rd' (by rw [sl_len, fhead_len])
      have hr2 : Rd .u8 w2 A2 (n + 4) (sl bs) := hown2.rd' (by rw [sl_len, Hl.out])
      have hE2 := he1.trans he2
      clear hown1 hown2 he1 he2
      go_wp2_with fail
      refine (concat_any _ _ _ [sl (fhead k n), sl bs] _ ?_ (by rw [Hfl2.out]; omega) (by omega)).mono ?_
      · exact RdSS.two _ _ (by simp) hr1 hr2
      rintro e w3 ⟨A3, c3, rfl, hown3, he3⟩
      have hE3 : Ext w w3 := Ext.trans (hE2.alloc _) he3
      have hown := hown3.mono (show w.heap.size ≤ _ by have := hE2.size; simp; omega)
      rw [Hff.out] at hown
      rw [Hfl2.out]
      clear hown3 he3
      go_wp2
      go_ret2
      exact FPutPost.ok HE.out (by rw [Hf.out]) hown hE3

theorem clone_any (A : Option Addr) (n c : Nat) (bs : List Nat) (w : World) (hx : Rd .u8 w A n bs) (hn : n ≤ 180000000000000) :
    Calls Try.prog 52 #[.slice A n c] w fun e w' => ∃ A' c', e = .returned (.slice A' n c') ∧ Own .u8 5 w' w.heap.size A' c' bs ∧ Ext w w' := by
  have Hl := Lib.hid hx.len
  cases A with
  | none =>
    have h0 : n = 0 := by
      rcases Nat.eq_zero_or_pos n with h | h
      · exact h
      · obtain ⟨b, o, he, _⟩ := hx.2 h
        cases he
    subst h0
    have hb : bs = [] := List.eq_nil_of_length_eq_zero Hl.out
    subst hb
    have hq := fun w => Lib.run_eql_slice_nil (P := Try.prog) w 22 5 none 0 c 0 0 Try.underlying22
    go_enter Try.func52, Try.ntmps52
    go_wp2
    go_ret
    exact ⟨_, _, rfl, Own.nil .., Ext.refl w⟩
  | some a =>
    have hq := fun w => Lib.run_eql_slice_nil (P := Try.prog) w 22 5 (some a) n c 0 0 Try.underlying22
    have hown := Own.made (base := w.heap.size) .u8 5 w (Nat.le_refl _)
    have hrd := hx.ext ((Ext.refl w).alloc (.cells #[] 5))
    go_enter Try.func52, Try.ntmps52
    go_wp2_with (at_builtin; refine wpList_pushes (w0 := w) .u8 5 rfl _ _ 22 rfl _ 1 Try.underlying22 Try.infoU8 rfl hown 0 rfl rfl rfl hrd (by omega) (by omega) ((Ext.refl w).alloc _) (by simp) ?_; intro A1 c1 w1 hown1 hb1 hz1)
    go_ret
    exact ⟨_, _, rfl, by simpa using hown1, hb1⟩

end Go.Proofs.Ytegplcllimoakaa
