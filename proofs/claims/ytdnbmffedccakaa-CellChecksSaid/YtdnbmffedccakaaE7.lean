/-
  The program's order of two cells.
-/
import Derived.Test.YtdnbmffedccakaaE6
namespace Go.Proofs.Ytdnbmffedccakaa
open Go.RowKit

theorem chk_kind {k : Int} {ok nul : Bool} {num : Int} {txt : List Nat} (h : chk k ok nul num txt = 0) : 1 ≤ k ∧ k ≤ 8 := by
  by_cases hk : 1 ≤ k ∧ k ≤ 8
  · exact hk
  · rw [chk_arg hk] at h; exact absurd h (by decide)
theorem chk_num0 {k : Int} {ok : Bool} {num : Int} {txt : List Nat} (hk : 1 ≤ k ∧ k ≤ 6) (h : chk k ok false num txt = 0) : txt = [] ∧ least k ≤ num ∧ num ≤ great k := by
  rw [chk_num hk] at h
  by_cases h1 : 0 < txt.length
  · rw [if_pos h1] at h; exact absurd h (by decide)
  · rw [if_neg h1] at h
    by_cases h2 : least k ≤ num ∧ num ≤ great k
    · exact ⟨List.eq_nil_of_length_eq_zero (by omega), h2⟩
    · rw [if_neg h2] at h; exact absurd h (by decide)
theorem chk_txt0 {k : Int} {ok : Bool} {num : Int} {txt : List Nat} (hk : k = 7 ∨ k = 8) (h : chk k ok false num txt = 0) : num = 0 ∧ txt.length ≤ 200 ∧ (k = 7 → ¬ 0 ∈ txt) := by
  rw [chk_txt hk] at h
  by_cases h1 : num = 0
  · rw [if_neg (fun q => q h1)] at h
    by_cases h2 : 200 < txt.length
    · rw [if_pos h2] at h; exact absurd h (by decide)
    · rw [if_neg h2] at h
      by_cases h3 : k = 7 ∧ 0 ∈ txt
      · rw [if_pos h3] at h; exact absurd h (by decide)
      · exact ⟨h1, by omega, fun q q2 => h3 ⟨q, q2⟩⟩
  · rw [if_pos h1] at h; exact absurd h (by decide)
theorem chk_nul0 {k : Int} {ok : Bool} {num : Int} {txt : List Nat} (h : chk k ok true num txt = 0) : ok = true ∧ num = 0 ∧ txt = [] := by
  rw [chk_null (chk_kind h)] at h
  by_cases h0 : ok = true
  · rw [if_pos h0] at h
    by_cases h1 : num ≠ 0 ∨ 0 < txt.length
    · rw [if_pos h1] at h; exact absurd h (by decide)
    · exact ⟨h0, by omega, List.eq_nil_of_length_eq_zero (by omega)⟩
  · rw [if_neg h0] at h; exact absurd h (by decide)

theorem rnk_ff {num : Int} {txt : List Nat} {num2 : Int} {txt2 : List Nat} : rnk false num txt false num2 txt2 = if num < num2 then -1 else if num2 < num then 1 else ordT txt txt2 := by
  unfold rnk; rw [if_neg (by decide), if_neg (by decide)]

set_option maxHeartbeats 1600000 in
theorem compare_any (k : Int) (nul : Bool) (num : Int) (A : Option Addr) (n c : Nat) (txt : List Nat) (nul2 : Bool) (num2 : Int) (A2 : Option Addr) (n2 c2 : Nat) (txt2 : List Nat) (w : World)
    (hx : Rd .u8 w A n txt) (hy : Rd .u8 w A2 n2 txt2) (hu : U8 txt) (hu2 : U8 txt2) (hn : n ≤ 140737488355328) (hn2 : n2 ≤ 140737488355328) (h0 : -9223372036854775808 ≤ num) (h1 : num ≤ 9223372036854775807) (h02 : -9223372036854775808 ≤ num2) (h12 : num2 ≤ 9223372036854775807) :
    Calls Try.prog 32 #[.int .i64 k, .agg #[.bool nul, .int .i64 num, .slice A n c], .agg #[.bool nul2, .int .i64 num2, .slice A2 n2 c2]] w fun e w' => e = .returned (.tuple #[.int .i64 (cmpO k nul num txt nul2 num2 txt2), .int .i64 (cmpE k nul num txt nul2 num2 txt2)]) ∧ Ext w w' := by
  have hE : Ext w ((w.alloc (.cells #[.bool nul, .int .i64 num, .slice A n c] 24)).alloc (.cells #[.bool nul2, .int .i64 num2, .slice A2 n2 c2] 24)) := ((Ext.refl w).alloc _).alloc _
  have hx2 := hx.ext hE
  have hy2 := hy.ext hE
  obtain ⟨O, hO⟩ : ∃ O, O = cmpO k nul num txt nul2 num2 txt2 := ⟨_, rfl⟩
  obtain ⟨E, hEe⟩ : ∃ E, E = cmpE k nul num txt nul2 num2 txt2 := ⟨_, rfl⟩
  rw [← hO, ← hEe]
  obtain ⟨R, hR⟩ : ∃ R, R = chk k true nul num txt := ⟨_, rfl⟩
  obtain ⟨R2, hR2⟩ : ∃ R2, R2 = chk k true nul2 num2 txt2 := ⟨_, rfl⟩
  unfold cmpO at hO
  unfold cmpE at hEe
  rw [← hR, ← hR2] at hO
  rw [← hR, ← hR2] at hEe
  have HR := Lib.hid hR
  have HR2 := Lib.hid hR2
  clear hR hR2
  by_cases r0 : R = 0
  · by_cases r2 : R2 = 0
    · rw [if_pos ⟨r0, r2⟩] at hO
      rw [if_neg (fun q => q r0), r2] at hEe
      have hk8 := chk_kind (HR.out.symm.trans r0)
      have b1 : (R != 0) = false := by simp [r0]
      have b2 : (R2 != 0) = false := by simp [r2]
      have HO := Lib.hid hO
      have HE := Lib.hid hEe
      have Hr0 := Lib.hid r0
      have Hr2 := Lib.hid r2
      clear r0 r2 hO hEe
      have start : ∀ {Q : Ending → World → Prop}, True := fun {_} => trivial
      by_cases hnn : nul = false ∧ nul2 = false
      · obtain ⟨rfl, rfl⟩ := hnn
        by_cases hk6 : k ≤ 6
        · have Hk := Lib.hid (numK_yes (k := k) ⟨hk8.1, hk6⟩)
          have hO2 : O = if num < num2 then -1 else if num2 < num then 1 else 0 := by
            have e1 := (chk_num0 ⟨hk8.1, hk6⟩ (HR.out.symm.trans Hr0.out)).1
            have e2 := (chk_num0 ⟨hk8.1, hk6⟩ (HR2.out.symm.trans Hr2.out)).1
            rw [HO.out, rnk_ff, e1, e2]; rfl
          have HO2 := Lib.hid hO2
          clear hO2 hk6 hk8 start
          go_enter Try.func32, Try.ntmps32
          go_wp2_with fail
          refine (check_any k true false num A n c txt _ hx2 hu h0 h1 hn).mono ?_
          rintro e w1 ⟨rfl, he1⟩
          rw [← HR.out]
          have hc1 := he1.cells
          have hy3 := hy2.ext he1
          have hE1 := hE.trans he1
          go_wp2_with fail
          refine (check_any k true false num2 A2 n2 c2 txt2 _ hy3 hu2 h02 h12 hn2).mono ?_
          rintro e w2 ⟨rfl, he2⟩
          rw [← HR2.out]
          have hc2 := (he1.trans he2).cells
          have hE2 := hE1.trans he2
          clear hc1
          go_wp2_with fail
          refine (number_any _ _).mono ?_
          rintro e w3 ⟨rfl, rfl⟩
          rw [Hk.out]
          go_wp2_with fail
          refine (cmpI_any _ _ _).mono ?_
          rintro e w3 ⟨rfl, rfl⟩
          rw [← HO2.out]
          go_wp2
          go_ret2
          exact ⟨by rw [HE.out]; rfl, hE2⟩
        · have Hk := Lib.hid (numK_no (k := k) (by omega))
          have hk7 : k = 7 ∨ k = 8 := by omega
          have hO2 : O = ordT txt txt2 := by
            have e1 := (chk_txt0 hk7 (HR.out.symm.trans Hr0.out)).1
            have e2 := (chk_txt0 hk7 (HR2.out.symm.trans Hr2.out)).1
            rw [HO.out, rnk_ff, e1, e2]; rfl
          have HO2 := Lib.hid hO2
          clear hO2 hk6 hk7 hk8 start
          go_enter Try.func32, Try.ntmps32
          go_wp2_with fail
          refine (check_any k true false num A n c txt _ hx2 hu h0 h1 hn).mono ?_
          rintro e w1 ⟨rfl, he1⟩
          rw [← HR.out]
          have hc1 := he1.cells
          have hy3 := hy2.ext he1
          have hx3 := hx2.ext he1
          have hE1 := hE.trans he1
          go_wp2_with fail
          refine (check_any k true false num2 A2 n2 c2 txt2 _ hy3 hu2 h02 h12 hn2).mono ?_
          rintro e w2 ⟨rfl, he2⟩
          rw [← HR2.out]
          have hc2 := (he1.trans he2).cells
          have hy4 := hy3.ext he2
          have hx4 := hx3.ext he2
          have hE2 := hE1.trans he2
          clear hc1
          go_wp2_with fail
          refine (number_any _ _).mono ?_
          rintro e w3 ⟨rfl, rfl⟩
          rw [Hk.out]
          go_wp2_with fail
          refine (compareT_any A A2 n c n2 c2 txt txt2 _ hx4 hy4 hu hu2).mono ?_
          rintro e w3 ⟨rfl, rfl⟩
          rw [← HO2.out]
          go_wp2
          go_ret2
          exact ⟨by rw [HE.out]; rfl, hE2⟩
      · clear start hk8
        cases nul <;> cases nul2
        case false.false => exact absurd ⟨rfl, rfl⟩ hnn
        all_goals
          have hO2 : O = _ := HO.out.trans (by unfold rnk; simp only [if_true, if_false, Bool.false_eq_true]; rfl)
          have HO2 := Lib.hid hO2
          clear hO2 hnn
          go_enter Try.func32, Try.ntmps32
          go_wp2_with fail
          refine (check_any k true _ num A n c txt _ hx2 hu h0 h1 hn).mono ?_
          rintro e w1 ⟨rfl, he1⟩
          rw [← HR.out]
          have hc1 := he1.cells
          have hy3 := hy2.ext he1
          have hE1 := hE.trans he1
          go_wp2_with fail
          refine (check_any k true _ num2 A2 n2 c2 txt2 _ hy3 hu2 h02 h12 hn2).mono ?_
          rintro e w2 ⟨rfl, he2⟩
          rw [← HR2.out]
          have hc2 := (he1.trans he2).cells
          have hE2 := hE1.trans he2
          clear hc1
          go_wp2
          go_ret2
          exact ⟨by rw [HE.out, HO2.out]; rfl, hE2⟩
    · rw [if_neg (fun q => r2 q.2)] at hO
      rw [if_neg (fun q => q r0)] at hEe
      have b1 : (R != 0) = false := by simp [r0]
      have b2 : (R2 != 0) = true := by simp [r2]
      have HO := Lib.hid hO
      have HE := Lib.hid hEe
      clear r0 r2 hO hEe
      go_enter Try.func32, Try.ntmps32
      go_wp2_with fail
      refine (check_any k true nul num A n c txt _ hx2 hu h0 h1 hn).mono ?_
      rintro e w1 ⟨rfl, he1⟩
      rw [← HR.out]
      have hc1 := he1.cells
      have hy3 := hy2.ext he1
      have hE1 := hE.trans he1
      go_wp2_with fail
      refine (check_any k true nul2 num2 A2 n2 c2 txt2 _ hy3 hu2 h02 h12 hn2).mono ?_
      rintro e w2 ⟨rfl, he2⟩
      rw [← HR2.out]
      have hE2 := hE1.trans he2
      clear hc1
      go_wp2
      go_ret2
      exact ⟨by rw [HE.out, HO.out]; rfl, hE2⟩
  · rw [if_neg (fun q => r0 q.1)] at hO
    rw [if_pos r0] at hEe
    have b1 : (R != 0) = true := by simp [r0]
    have HO := Lib.hid hO
    have HE := Lib.hid hEe
    clear r0 hO hEe
    go_enter Try.func32, Try.ntmps32
    go_wp2_with fail
    refine (check_any k true nul num A n c txt _ hx2 hu h0 h1 hn).mono ?_
    rintro e w1 ⟨rfl, he1⟩
    rw [← HR.out]
    go_wp2
    go_ret2
    exact ⟨by rw [HE.out, HO.out]; rfl, hE.trans he1⟩

end Go.Proofs.Ytdnbmffedccakaa
