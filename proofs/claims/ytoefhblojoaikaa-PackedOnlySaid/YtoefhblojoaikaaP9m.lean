/-
  Layer 9: the statement PackedOnly, walked.
-/
import Derived.Test.YtoefhblojoaikaaP9l
namespace Go.Proofs.Ytoefhblojoaikaa
open Go.RowKit

set_option maxHeartbeats 3200000 in
theorem walk_PackedOnly (A : Option Addr) (n c : Nat) (bs : List Nat) (w : World) (hx : Rd .u8 w A n bs) (hu : U8 bs) (hn : n * 1 ≤ 140737488351232) :
    Calls Try.prog 11 #[.slice A n c] w fun e w' => e = .returned (.bool true) ∧ Ext w w' := by
  have Hl := Lib.hid hx.len
  have hz := fun h => only9 hu h
  have hze := decode9_err (bs := bs)
  have hzl := decode9_len bs
  obtain ⟨⟨Z, E⟩, hZ⟩ : ∃ R, R = decode9 bs := ⟨_, rfl⟩
  rw [← hZ] at hz hze hzl
  simp only at hz hze hzl
  obtain ⟨z, hzz⟩ : ∃ z, z = Z.length := ⟨_, rfl⟩
  rw [← hzz] at hzl
  have Hz := Lib.hid hzz.symm
  have HD3 : Hid (∀ (B : Option Addr) (cb : Nat) (W : World), Rd .u8 W B n bs → n ≤ cb → cb ≤ 9223372036854775807 → Calls Try.prog 34 #[.slice B n cb] W fun e w' => ∃ A' c', e = .returned (.tuple #[.slice A' z c', .int .i64 E]) ∧ OwnG shZ 2 w' W.heap.size A' c' Z ∧ Ext W w') := Lib.hid (fun B cb W h1 h2 h3 => by
    have h := pdecode_any B n cb bs W h1 hu (by omega) h2 h3
    unfold Dec9Post at h
    rw [← hZ] at h
    simp only [← hzz] at h
    exact h)
  have HE3 : E = 0 → Hid (∀ (B : Option Addr) (cb : Nat) (W : World), RdG shZ W B z Z → Calls Try.prog 32 #[.slice B z cb] W fun e w' => ∃ A' c', e = .returned (.tuple #[.slice A' n c', .int .i64 0]) ∧ Own .u8 5 w' W.heap.size A' c' bs ∧ Ext W w') := fun h0 => Lib.hid (fun B cb W h1 => by
    have h := pencode_any B z cb Z W h1 (hz h0).2
    unfold Enc9Post at h
    rw [(hz h0).1] at h
    simp only [Hl.out] at h
    exact h)
  have HZE := Lib.hid hze
  clear hz hze hZ hzz hu
  go_enter Try.func11, Try.ntmps11
  go_wp2_with fail
  refine (alive9 _).mono ?_
  rintro e w1 ⟨rfl, he1⟩
  have hy10 := hx.ext he1
  go_wp2_with fail
  refine (copy_any _ _ _ bs _ hy10 (by omega)).mono ?_
  rintro e w11 ⟨A11, c11, rfl, hown11, he11⟩
  obtain ⟨q5, q6⟩ := hown11.cap
  rw [Hl.out] at q5
  go_wp2_with fail
  refine (HD3.out _ _ _ (hown11.rd' Hl.out) q5 q6).mono ?_
  rintro e w12 ⟨A12, c12, rfl, hown12, he12⟩
  by_cases h0 : E = 0
  · have HE4 := HE3 h0
    subst h0
    go_wp2_with fail
    refine (HE4.out _ _ _ (hown12.rd' Hz.out)).mono ?_
    rintro e w13 ⟨A13, c13, rfl, hown13, he13⟩
    go_wp2_with fail
    refine (same_any _ _ n _ n _ bs bs _ (hown13.rd' Hl.out) (((hy10.ext he11).ext he12).ext he13) (by omega) (by omega)).mono ?_
    rintro e w14 ⟨rfl, q14, rfl⟩
    rw [decide_eq_true rfl]
    go_wp2_with fail
    go_ret
    exact ⟨rfl, (((he1.trans he11).trans he12).trans he13).drewN _⟩
  · have hz0 := HZE.out h0
    have hzn : z = 0 := by rw [← Hz.out, hz0]; rfl
    subst hzn
    have hb0 : (E != 0) = true := by simpa using h0
    clear h0 hz0
    go_wp2_with fail
    go_ret
    exact ⟨rfl, (he1.trans he11).trans he12⟩

end Go.Proofs.Ytoefhblojoaikaa
