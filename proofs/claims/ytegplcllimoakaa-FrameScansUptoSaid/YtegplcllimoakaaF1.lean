/-
  The document's answers of layer 4, by definition: a frame's bytes.
-/
import Derived.Test.YtegplcllimoakaaS3
namespace Go.Proofs.Ytegplcllimoakaa
open Go.RowKit

/-- The head's five bytes. -/
def fhead (kind n : Nat) : List Nat := upk 8 1 kind ++ upk 8 4 n
/-- A frame's bytes. -/
def fr (kind : Nat) (body : List Nat) : List Nat := sl (fhead kind body.length) ++ sl body
/-- Put's error. -/
def fputE (kind : Int) (body : List Nat) : Int := if kind < 1 ∨ 255 < kind then 1 else if 65536 < body.length then 4 else 0
/-- Put's bytes. -/
def fputL (kind : Int) (body : List Nat) : List Nat := if fputE kind body = 0 then fr kind.toNat body else []

theorem fhead_len (k n : Nat) : (fhead k n).length = 5 := by rw [fhead, List.length_append, upk_len, upk_len]
theorem fhead_u8 (k n : Nat) : U8 (fhead k n) := u8_append (U8_wd.2 (upk_wd _ _ _)) (U8_wd.2 (upk_wd _ _ _))
theorem fr_len (k : Nat) (b : List Nat) : (fr k b).length = b.length + 13 := by rw [fr, List.length_append, sl_len, sl_len, fhead_len]; omega
theorem fr_u8 {b : List Nat} (h : U8 b) (k : Nat) : U8 (fr k b) := u8_append (sl_u8 (fhead_u8 _ _)) (sl_u8 h)

/-- What Put, of the program or of the reference, answers. -/
def FPutPost (kind : Int) (body : List Nat) (w : World) (e : Ending) (w' : World) : Prop :=
  ∃ A' c', e = .returned (.tuple #[.slice A' (fputL kind body).length c', .int .i64 (fputE kind body)]) ∧ Own .u8 5 w' w.heap.size A' c' (fputL kind body) ∧ Ext w w'

theorem FPutPost.err {kind r : Int} {b : List Nat} {w w' : World} (h : fputE kind b = r) (hr : r ≠ 0) (he : Ext w w') : FPutPost kind b w (.returned (.tuple #[.slice none 0 0, .int .i64 r])) w' := by
  have h0 : fputL kind b = [] := by unfold fputL; rw [h, if_neg hr]
  refine ⟨none, 0, ?_, ?_, he⟩
  · rw [h0, h]; rfl
  · rw [h0]; exact Own.nil ..

theorem FPutPost.ok {kind m : Nat} {b : List Nat} {w w' : World} {A : Option Addr} {c : Nat} (h : fputE kind b = 0) (hm : m = (fr kind b).length) (ho : Own .u8 5 w' w.heap.size A c (fr kind b)) (he : Ext w w') :
    FPutPost kind b w (.returned (.tuple #[.slice A m c, .int .i64 0])) w' := by
  have h0 : fputL kind b = fr kind b := by unfold fputL; rw [h, if_pos rfl]; rfl
  refine ⟨A, c, ?_, ?_, he⟩
  · rw [h0, h, hm]
  · rw [h0]; exact ho

theorem fputE_arg {kind : Int} {b : List Nat} (h : kind < 1 ∨ 255 < kind) : fputE kind b = 1 := if_pos h
theorem fputE_long {kind : Int} {b : List Nat} (h : ¬ (kind < 1 ∨ 255 < kind)) (h2 : 65536 < b.length) : fputE kind b = 4 := by unfold fputE; rw [if_neg h, if_pos h2]
theorem fputE_ok {kind : Int} {b : List Nat} (h : ¬ (kind < 1 ∨ 255 < kind)) (h2 : ¬ 65536 < b.length) : fputE kind b = 0 := by unfold fputE; rw [if_neg h, if_neg h2]

set_option maxHeartbeats 800000 in
theorem refFPut_any (kind : Int) (A : Option Addr) (n c : Nat) (bs : List Nat) (w : World) (hx : Rd .u8 w A n bs) (hu : U8 bs) :
    Calls Try.prog 30 #[.int .i64 kind, .slice A n c] w (FPutPost kind bs w) := by
  have hl := hx.len
  by_cases hk : kind < 1 ∨ 255 < kind
  · have HE := Lib.hid (fputE_arg (b := bs) hk)
    clear hl
    go_enter Try.func30, Try.ntmps30
    rcases hk with h | h
    · go_wp2
      go_ret2
      exact FPutPost.err HE.out (by decide) (Ext.refl _)
    · by_cases h2 : kind < 1
      all_goals
        go_wp2
        go_ret2
        exact FPutPost.err HE.out (by decide) (Ext.refl _)
  · have h1 : 1 ≤ kind := by omega
    have h2 : kind ≤ 255 := by omega
    have b1 : decide (kind < 1) = false := by simp; omega
    have b2 : decide (255 < kind) = false := by simp; omega
    by_cases hlong : 65536 < n
    · have HE := Lib.hid (fputE_long (b := bs) hk (by omega))
      clear hl hk
      go_enter Try.func30, Try.ntmps30
      go_wp2
      go_ret2
      exact FPutPost.err HE.out (by decide) (Ext.refl _)
    · have HE := Lib.hid (fputE_ok (b := bs) hk (by omega))
      obtain ⟨k, rfl⟩ := Int.eq_ofNat_of_zero_le (show 0 ≤ kind by omega)
      have hfl := fr_len k bs
      rw [hl] at hfl
      have b3 : decide (65536 < (n : Int)) = false := by simp; omega
      have Hf := Lib.hid hfl
      have Hl := Lib.hid hl
      clear hl hk hfl
      go_enter Try.func30, Try.ntmps30
      go_wp2_with fail
      refine (low_any k 1 _ (by omega) (by omega)).mono ?_
      rintro e w1 ⟨A1, c1, rfl, hown1, he1⟩
      go_wp2_with fail
      refine (low_any n 4 _ (by omega) (by omega)).mono ?_
      rintro e w2 ⟨A2, c2, rfl, hown2, he2⟩
      go_wp2_with fail
      refine (cat_any _ _ 1 _ 4 _ _ _ _ ((hown1.ext he2).rd' (upk_len _ _ _)) (hown2.rd' (upk_len _ _ _)) (by omega)).mono ?_
      rintro e w3 ⟨A3, c3, rfl, hown3, he3⟩
      rw [show upk 8 1 k ++ upk 8 4 n = fhead k bs.length from by rw [Hl.out]; rfl] at hown3
      go_wp2_with fail
      refine (refSeal_any _ 5 _ _ _ (hown3.rd' (fhead_len _ _)) (fhead_u8 _ _) (by omega)).mono ?_
      rintro e w4 ⟨A4, c4, rfl, hown4, he4⟩
      have hE3 := (he1.trans he2).trans he3
      go_wp2_with fail
      refine (refSeal_any _ _ _ _ _ ((hx.ext hE3).ext he4) hu (by omega)).mono ?_
      rintro e w5 ⟨A5, c5, rfl, hown5, he5⟩
      go_wp2_with fail
      refine (cat_any _ _ 9 _ (n + 4) _ _ _ _ ((hown4.ext he5).rd' (by rw [sl_len, fhead_len])) (hown5.rd' (by rw [sl_len, Hl.out])) (by omega)).mono ?_
      rintro e w6 ⟨A6, c6, rfl, hown6, he6⟩
      have hE6 := ((hE3.trans he4).trans he5).trans he6
      have hb : w.heap.size ≤ w5.heap.size := by have := hE3.size; have := he4.size; have := he5.size; omega
      go_wp2
      go_ret2
      exact FPutPost.ok HE.out (by rw [Hf.out]; omega) (hown6.mono hb) hE6

end Go.Proofs.Ytegplcllimoakaa
