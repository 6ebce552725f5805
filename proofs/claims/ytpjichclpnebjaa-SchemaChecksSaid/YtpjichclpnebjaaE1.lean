/-
  The program's layer 5: kinds, and a cell's first error.
-/
import Derived.Test.YtpjichclpnebjaaE0
namespace Go.Proofs.Ytpjichclpnebjaa
open Go.RowKit

theorem number_any (k : Int) (w : World) :
    Calls Try.prog 87 #[.int .i64 k] w fun e w' => e = .returned (.bool (numK k)) ∧ w = w' := by
  by_cases h : 1 ≤ k ∧ k ≤ 6
  · rw [numK_yes h]
    have h' : k = 1 ∨ k = 2 ∨ k = 3 ∨ k = 4 ∨ k = 5 ∨ k = 6 := by omega
    clear h
    rcases h' with rfl | rfl | rfl | rfl | rfl | rfl
    all_goals
      go_enter Try.func87, Try.ntmps87
      go_wp2
      go_ret
      exact ⟨rfl, rfl⟩
  · rw [numK_no h]
    have h1 : (k == 1) = false := by rw [beq_eq_false_iff_ne]; omega
    have h2 : (k == 2) = false := by rw [beq_eq_false_iff_ne]; omega
    have h3 : (k == 3) = false := by rw [beq_eq_false_iff_ne]; omega
    have h4 : (k == 4) = false := by rw [beq_eq_false_iff_ne]; omega
    have h5 : (k == 5) = false := by rw [beq_eq_false_iff_ne]; omega
    have h6 : (k == 6) = false := by rw [beq_eq_false_iff_ne]; omega
    clear h
    go_enter Try.func87, Try.ntmps87
    go_wp2
    go_ret
    exact ⟨rfl, rfl⟩

theorem isKind_any (k : Int) (w : World) :
    Calls Try.prog 85 #[.int .i64 k] w fun e w' => e = .returned (.bool (kindK k)) ∧ w = w' := by
  by_cases h : 1 ≤ k ∧ k ≤ 6
  · rw [kindK_yes (by omega)]
    have Hn := Lib.hid (numK_yes h)
    clear h
    go_enter Try.func85, Try.ntmps85
    go_wp2_with fail
    refine (number_any _ _).mono ?_
    rintro e w1 ⟨rfl, rfl⟩
    rw [Hn.out]
    go_wp2
    go_ret
    exact ⟨rfl, rfl⟩
  · have Hn := Lib.hid (numK_no h)
    by_cases h7 : k = 7
    · subst h7
      rw [kindK_yes (by omega)]
      clear h
      go_enter Try.func85, Try.ntmps85
      go_wp2_with fail
      refine (number_any _ _).mono ?_
      rintro e w1 ⟨rfl, rfl⟩
      rw [Hn.out]
      go_wp2
      go_ret
      exact ⟨rfl, rfl⟩
    · by_cases h8 : k = 8
      · subst h8
        rw [kindK_yes (by omega)]
        clear h
        go_enter Try.func85, Try.ntmps85
        go_wp2_with fail
        refine (number_any _ _).mono ?_
        rintro e w1 ⟨rfl, rfl⟩
        rw [Hn.out]
        go_wp2
        go_ret
        exact ⟨rfl, rfl⟩
      · rw [kindK_no (by omega)]
        have e7 : (k == 7) = false := by rw [beq_eq_false_iff_ne]; omega
        have e8 : (k == 8) = false := by rw [beq_eq_false_iff_ne]; omega
        clear h h7 h8
        go_enter Try.func85, Try.ntmps85
        go_wp2_with fail
        refine (number_any _ _).mono ?_
        rintro e w1 ⟨rfl, rfl⟩
        rw [Hn.out]
        go_wp2
        go_ret
        exact ⟨rfl, rfl⟩

set_option maxRecDepth 100000 in
theorem index_any (A : Option Addr) (n c : Nat) (xs : List Nat) (w : World) (hx : Rd .u8 w A n xs) :
    Calls Try.prog 96 #[.slice A n c, .int .u8 0] w fun e w' => e = .returned (.int .i64 (Lib.indexByte (u8s xs) 0)) ∧ w = w' := by
  have Hx := Lib.hid hx
  go_enter Try.func96, Try.ntmps96
  go_wp2
  rw [run_callFunc_extern Try.func101 (by kernel_rfl) (by kernel_rfl) (by kernel_rfl) (e := Extern.BytealgIndexByte.indexByte) (by kernel_rfl), run_index Hx.out]
  simp only [Result.andThen]
  rw [Oper.upon_value]
  go_wp2
  go_ret
  exact ⟨rfl, rfl⟩

theorem holds_any (k v : Int) (w : World) (hk : 1 ≤ k ∧ k ≤ 6) (h0 : -9223372036854775808 ≤ v) (h1 : v ≤ 9223372036854775807) :
    Calls Try.prog 95 #[.int .i64 k, .int .i64 v] w fun e w' => e = .returned (.bool (fitsK k v)) ∧ w = w' := by
  have h' : k = 1 ∨ k = 2 ∨ k = 3 ∨ k = 4 ∨ k = 5 ∨ k = 6 := by omega
  clear hk
  rcases h' with rfl | rfl | rfl | rfl | rfl | rfl
  · rw [← narB_1]
    go_enter Try.func95, Try.ntmps95
    go_wp2_with fail
    refine (narrow_any v 1 _ h0 h1).mono ?_
    rintro e w1 ⟨rfl, rfl⟩
    go_wp2
    go_ret
    exact ⟨rfl, rfl⟩
  · rw [← narB_2]
    go_enter Try.func95, Try.ntmps95
    go_wp2_with fail
    refine (narrow_any v 2 _ h0 h1).mono ?_
    rintro e w1 ⟨rfl, rfl⟩
    go_wp2
    go_ret
    exact ⟨rfl, rfl⟩
  · rw [← narB_4]
    go_enter Try.func95, Try.ntmps95
    go_wp2_with fail
    refine (narrow_any v 4 _ h0 h1).mono ?_
    rintro e w1 ⟨rfl, rfl⟩
    go_wp2
    go_ret
    exact ⟨rfl, rfl⟩
  · rw [show fitsK 4 v = true from fitsK_iff.2 ⟨h0, h1⟩]
    go_enter Try.func95, Try.ntmps95
    go_wp2
    go_ret
    exact ⟨rfl, rfl⟩
  · have hf : fitsK 5 v = decide (0 ≤ v ∧ v ≤ 65535) := rfl
    rw [hf]
    by_cases c1 : 0 ≤ v
    · by_cases c2 : v ≤ 65535
      · rw [decide_eq_true (⟨c1, c2⟩ : 0 ≤ v ∧ v ≤ 65535)]
        go_enter Try.func95, Try.ntmps95
        go_wp2
        go_ret
        exact ⟨rfl, rfl⟩
      · rw [decide_eq_false (fun q : 0 ≤ v ∧ v ≤ 65535 => c2 q.2)]
        have b2 : decide (v ≤ 65535) = false := decide_eq_false c2
        clear c2
        go_enter Try.func95, Try.ntmps95
        go_wp2
        go_ret
        exact ⟨rfl, rfl⟩
    · rw [decide_eq_false (fun q : 0 ≤ v ∧ v ≤ 65535 => c1 q.1)]
      have b2 : decide (0 ≤ v) = false := decide_eq_false c1
      clear c1
      go_enter Try.func95, Try.ntmps95
      go_wp2
      go_ret
      exact ⟨rfl, rfl⟩
  · have hf : fitsK 6 v = decide (0 ≤ v ∧ v ≤ 1) := rfl
    rw [hf]
    by_cases c1 : v = 0
    · subst c1
      go_enter Try.func95, Try.ntmps95
      go_wp2
      go_ret
      exact ⟨rfl, rfl⟩
    · by_cases c2 : v = 1
      · subst c2
        go_enter Try.func95, Try.ntmps95
        go_wp2
        go_ret
        exact ⟨rfl, rfl⟩
      · rw [decide_eq_false (fun q : 0 ≤ v ∧ v ≤ 1 => by omega)]
        have b1 : (v == 0) = false := by rw [beq_eq_false_iff_ne]; exact c1
        have b2 : (v == 1) = false := by rw [beq_eq_false_iff_ne]; exact c2
        clear c1 c2
        go_enter Try.func95, Try.ntmps95
        go_wp2
        go_ret
        exact ⟨rfl, rfl⟩

end Go.Proofs.Ytpjichclpnebjaa
