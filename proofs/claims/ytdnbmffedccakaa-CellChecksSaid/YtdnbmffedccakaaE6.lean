/-
  Two cells compared: their order, the program's and the document's.
-/
import Derived.Test.YtdnbmffedccakaaE5
namespace Go.Proofs.Ytdnbmffedccakaa
open Go.RowKit

/-- Which of two cells without error stands ahead. -/
def rnk (nul : Bool) (num : Int) (txt : List Nat) (nul2 : Bool) (num2 : Int) (txt2 : List Nat) : Int :=
  if nul = true then (if nul2 = true then 0 else -1) else if nul2 = true then 1 else if num < num2 then -1 else if num2 < num then 1 else ordT txt txt2

set_option maxHeartbeats 800000 in
theorem rank_any (nul : Bool) (num : Int) (A : Option Addr) (n c : Nat) (txt : List Nat) (nul2 : Bool) (num2 : Int) (A2 : Option Addr) (n2 c2 : Nat) (txt2 : List Nat) (w : World)
    (hx : Rd .u8 w A n txt) (hy : Rd .u8 w A2 n2 txt2) (hn : n ≤ 140737488355328) (hn2 : n2 ≤ 140737488355328) :
    Calls Try.prog 87 #[.agg #[.bool nul, .int .i64 num, .slice A n c], .agg #[.bool nul2, .int .i64 num2, .slice A2 n2 c2]] w fun e w' => e = .returned (.int .i64 (rnk nul num txt nul2 num2 txt2)) ∧ Ext w w' := by
  have hE : Ext w ((w.alloc (.cells #[.bool nul, .int .i64 num, .slice A n c] 24)).alloc (.cells #[.bool nul2, .int .i64 num2, .slice A2 n2 c2] 24)) := ((Ext.refl w).alloc _).alloc _
  have hx2 := hx.ext hE
  have hy2 := hy.ext hE
  cases nul <;> cases nul2
  case false.false =>
    by_cases h1 : num < num2
    · rw [show rnk false num txt false num2 txt2 = -1 from by unfold rnk; rw [if_neg (by decide), if_neg (by decide), if_pos h1]]
      go_enter Try.func87, Try.ntmps87
      go_wp2
      go_ret
      exact ⟨rfl, hE⟩
    · by_cases h2 : num2 < num
      · rw [show rnk false num txt false num2 txt2 = 1 from by unfold rnk; rw [if_neg (by decide), if_neg (by decide), if_neg h1, if_pos h2]]
        go_enter Try.func87, Try.ntmps87
        go_wp2
        go_ret
        exact ⟨rfl, hE⟩
      · rw [show rnk false num txt false num2 txt2 = ordT txt txt2 from by unfold rnk; rw [if_neg (by decide), if_neg (by decide), if_neg h1, if_neg h2]]
        go_enter Try.func87, Try.ntmps87
        go_wp2_with fail
        refine (order_any A A2 n c n2 c2 txt txt2 _ hx2 hy2 hn hn2).mono ?_
        rintro e w1 ⟨rfl, q, rfl⟩
        go_wp2
        go_ret
        exact ⟨rfl, hE.drewN q⟩
  all_goals
    go_enter Try.func87, Try.ntmps87
    go_wp2
    go_ret
    exact ⟨rfl, hE⟩

/-- The order of two cells, and the error's number. -/
def cmpO (k : Int) (nul : Bool) (num : Int) (txt : List Nat) (nul2 : Bool) (num2 : Int) (txt2 : List Nat) : Int :=
  if chk k true nul num txt = 0 ∧ chk k true nul2 num2 txt2 = 0 then rnk nul num txt nul2 num2 txt2 else 0
def cmpE (k : Int) (nul : Bool) (num : Int) (txt : List Nat) (nul2 : Bool) (num2 : Int) (txt2 : List Nat) : Int :=
  if chk k true nul num txt ≠ 0 then chk k true nul num txt else chk k true nul2 num2 txt2

set_option maxHeartbeats 800000 in
theorem refCompare_any (k : Int) (nul : Bool) (num : Int) (A : Option Addr) (n c : Nat) (txt : List Nat) (nul2 : Bool) (num2 : Int) (A2 : Option Addr) (n2 c2 : Nat) (txt2 : List Nat) (w : World)
    (hx : Rd .u8 w A n txt) (hy : Rd .u8 w A2 n2 txt2) (hn : n ≤ 140737488355328) (hn2 : n2 ≤ 140737488355328) (h0 : -9223372036854775808 ≤ num) (h1 : num ≤ 9223372036854775807) (h02 : -9223372036854775808 ≤ num2) (h12 : num2 ≤ 9223372036854775807) :
    Calls Try.prog 33 #[.int .i64 k, .agg #[.bool nul, .int .i64 num, .slice A n c], .agg #[.bool nul2, .int .i64 num2, .slice A2 n2 c2]] w fun e w' => e = .returned (.tuple #[.int .i64 (cmpO k nul num txt nul2 num2 txt2), .int .i64 (cmpE k nul num txt nul2 num2 txt2)]) ∧ Ext w w' := by
  have hE : Ext w ((w.alloc (.cells #[.bool nul, .int .i64 num, .slice A n c] 24)).alloc (.cells #[.bool nul2, .int .i64 num2, .slice A2 n2 c2] 24)) := ((Ext.refl w).alloc _).alloc _
  have hx2 := hx.ext hE
  have hy2 := hy.ext hE
  obtain ⟨O, hO⟩ : ∃ O, O = cmpO k nul num txt nul2 num2 txt2 := ⟨_, rfl⟩
  obtain ⟨E, hEe⟩ : ∃ E, E = cmpE k nul num txt nul2 num2 txt2 := ⟨_, rfl⟩
  rw [← hO, ← hEe]
  obtain ⟨R, hR⟩ : ∃ R, R = chk k true nul num txt := ⟨_, rfl⟩
  obtain ⟨R2, hR2⟩ : ∃ R2, R2 = chk k true nul2 num2 txt2 := ⟨_, rfl⟩
  unfold cmpO at hO
  unfold cmpE at hEe
  rw [← hR, ← hR2] at hO
  rw [← hR, ← hR2] at hEe
  have HR := Lib.hid hR
  have HR2 := Lib.hid hR2
  clear hR hR2
  by_cases r0 : R = 0
  · by_cases r2 : R2 = 0
    · rw [if_pos ⟨r0, r2⟩] at hO
      rw [if_neg (fun q => q r0), r2] at hEe
      have b1 : (R != 0) = false := by simp [r0]
      have b2 : (R2 != 0) = false := by simp [r2]
      have HO := Lib.hid hO
      have HE := Lib.hid hEe
      clear r0 r2 hO hEe
      go_enter Try.func33, Try.ntmps33
      go_wp2_with fail
      refine (refCheck_any k true nul num A n c txt _ hx2 h0 h1 hn).mono ?_
      rintro e w1 ⟨rfl, he1⟩
      rw [← HR.out]
      have hc1 := he1.cells
      have hy3 := hy2.ext he1
      have hx3 := hx2.ext he1
      have hE1 := hE.trans he1
      go_wp2_with fail
      refine (refCheck_any k true nul2 num2 A2 n2 c2 txt2 _ hy3 h02 h12 hn2).mono ?_
      rintro e w2 ⟨rfl, he2⟩
      rw [← HR2.out]
      have hc2 := (he1.trans he2).cells
      have hy4 := hy3.ext he2
      have hx4 := hx3.ext he2
      have hE2 := hE1.trans he2
      clear hc1
      go_wp2_with fail
      refine (rank_any nul num A n c txt nul2 num2 A2 n2 c2 txt2 _ hx4 hy4 hn hn2).mono ?_
      rintro e w3 ⟨rfl, he3⟩
      rw [← HO.out]
      go_wp2
      go_ret2
      exact ⟨by rw [HE.out]; rfl, hE2.trans he3⟩
    · rw [if_neg (fun q => r2 q.2)] at hO
      rw [if_neg (fun q => q r0)] at hEe
      have b1 : (R != 0) = false := by simp [r0]
      have b2 : (R2 != 0) = true := by simp [r2]
      have HO := Lib.hid hO
      have HE := Lib.hid hEe
      clear r0 r2 hO hEe
      go_enter Try.func33, Try.ntmps33
      go_wp2_with fail
      refine (refCheck_any k true nul num A n c txt _ hx2 h0 h1 hn).mono ?_
      rintro e w1 ⟨rfl, he1⟩
      rw [← HR.out]
      have hc1 := he1.cells
      have hy3 := hy2.ext he1
      have hE1 := hE.trans he1
      go_wp2_with fail
      refine (refCheck_any k true nul2 num2 A2 n2 c2 txt2 _ hy3 h02 h12 hn2).mono ?_
      rintro e w2 ⟨rfl, he2⟩
      rw [← HR2.out]
      have hE2 := hE1.trans he2
      clear hc1
      go_wp2
      go_ret2
      exact ⟨by rw [HE.out, HO.out]; rfl, hE2⟩
  · rw [if_neg (fun q => r0 q.1)] at hO
    rw [if_pos r0] at hEe
    have b1 : (R != 0) = true := by simp [r0]
    have HO := Lib.hid hO
    have HE := Lib.hid hEe
    clear r0 hO hEe
    go_enter Try.func33, Try.ntmps33
    go_wp2_with fail
    refine (refCheck_any k true nul num A n c txt _ hx2 h0 h1 hn).mono ?_
    rintro e w1 ⟨rfl, he1⟩
    rw [← HR.out]
    go_wp2
    go_ret2
    exact ⟨by rw [HE.out, HO.out]; rfl, hE.trans he1⟩

theorem nan_any (v : Int) (w : World) :
    Calls Try.prog 109 #[.int .i64 v] w fun e w' => e = .returned (.bool false) ∧ w = w' := by
  have b1 : (v != v) = false := by simp
  go_enter Try.func109, Try.ntmps109
  go_wp2
  go_ret
  exact ⟨rfl, rfl⟩

theorem cmpI_any (a b : Int) (w : World) :
    Calls Try.prog 85 #[.int .i64 a, .int .i64 b] w fun e w' => e = .returned (.int .i64 (if a < b then -1 else if b < a then 1 else 0)) ∧ w = w' := by
  obtain ⟨R, hR⟩ : ∃ R : Int, R = if a < b then -1 else if b < a then 1 else 0 := ⟨_, rfl⟩
  rw [← hR]
  have HR := Lib.hid hR
  clear hR
  by_cases h1 : a < b
  · have HE := Lib.hid (show R = -1 by rw [HR.out, if_pos h1])
    go_enter Try.func85, Try.ntmps85
    go_wp2_with (refine (nan_any _ _).mono ?_; rintro e w1 ⟨rfl, rfl⟩)
    go_ret
    exact ⟨by rw [HE.out]; rfl, rfl⟩
  · by_cases h2 : b < a
    · have HE := Lib.hid (show R = 1 by rw [HR.out, if_neg h1, if_pos h2])
      go_enter Try.func85, Try.ntmps85
      go_wp2_with (refine (nan_any _ _).mono ?_; rintro e w1 ⟨rfl, rfl⟩)
      go_ret
      exact ⟨by rw [HE.out]; rfl, rfl⟩
    · have HE := Lib.hid (show R = 0 by rw [HR.out, if_neg h1, if_neg h2])
      go_enter Try.func85, Try.ntmps85
      go_wp2_with (refine (nan_any _ _).mono ?_; rintro e w1 ⟨rfl, rfl⟩)
      go_ret
      exact ⟨by rw [HE.out]; rfl, rfl⟩

end Go.Proofs.Ytdnbmffedccakaa
