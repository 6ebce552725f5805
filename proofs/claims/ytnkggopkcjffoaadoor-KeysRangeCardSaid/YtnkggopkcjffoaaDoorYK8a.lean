import Derived.Test.YtnkggopkcjffoaaDoorG8
import Derived.Test.YtnkggopkcjffoaaDoorG7
import Derived.Test.YtnkggopkcjffoaaDoorYKLow

/-
  Layer 7: the document's size; a number written by the document.
-/
namespace Go.Proofs.YtnkggopkcjffoaaDoor
open Go.RowKit

set_option maxHeartbeats 800000 in
theorem refSize_any (k : Int) (w : World) (h1 : 1 ≤ k) (h6 : k ≤ 6) :
    Calls Tryd.prog 57 #[.int .i64 k] w fun e w' => e = .returned (.int .i64 (ksize k : Nat)) ∧ w = w' := by
  obtain rfl | rfl | rfl | rfl | rfl | rfl : k = 1 ∨ k = 2 ∨ k = 3 ∨ k = 4 ∨ k = 5 ∨ k = 6 := by omega
  all_goals
    go_enter Tryd.func57, Tryd.ntmps57
    go_wp2
    go_ret
    exact ⟨rfl, rfl⟩

theorem be_upk : ∀ (s u : Nat), be s u = (upk 8 s u).reverse
  | 0, _ => rfl
  | s + 1, u => by
    rw [be, be_upk s (u / 256)]
    show _ = (u % 2 ^ 8 :: upk 8 s (u / 2 ^ 8)).reverse
    rw [List.reverse_cons]

theorem rev_step {L : List Nat} {j : Nat} (h : j < L.length) : L.reverse.take (j + 1) = L.reverse.take j ++ [L.getD (L.length - 1 - j) 0] := by
  rw [take_next _ _ (by rw [List.length_reverse]; exact h)]
  congr 1
  simp only [List.getD_eq_getElem?_getD]
  rw [List.getElem?_reverse h]

theorem least_wrap {k num : Int} (hk : 1 ≤ k ∧ k ≤ 6) (h1 : least k ≤ num) (h2 : num ≤ great k) :
    (num - least k).toNat < 18446744073709551616 := by
  have h := knum_lt hk h1 h2
  have h8 := ksize_le k
  have : 256 ^ ksize k ≤ 256 ^ 8 := Nat.pow_le_pow_right (by decide) h8.2
  omega

theorem sub_wrap {k num : Int} (hk : 1 ≤ k ∧ k ≤ 6) (h1 : least k ≤ num) (h2 : num ≤ great k) :
    IntKind.u64.wrap (IntKind.u64.wrap num - IntKind.u64.wrap (least k)) = (((num - least k).toNat : Nat) : Int) := by
  have := least_wrap hk h1 h2
  rw [IntKind.wrap_u64, IntKind.wrap_u64, IntKind.wrap_u64]
  omega

theorem plain_wrap {k num : Int} (hk : 4 < k ∧ k ≤ 6) (h1 : least k ≤ num) (h2 : num ≤ great k) :
    IntKind.u64.wrap num = (((num - least k).toNat : Nat) : Int) := by
  have := least_wrap ⟨by omega, hk.2⟩ h1 h2
  have h0 : least k = 0 := by
    unfold least
    rw [if_neg (by omega), if_neg (by omega), if_neg (by omega), if_neg (by omega)]
  rw [h0] at h1 this ⊢
  rw [IntKind.wrap_u64]
  omega

end Go.Proofs.YtnkggopkcjffoaaDoor
