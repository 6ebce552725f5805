/-
  Two cells compared: alike, and their order, the program's and the document's.
-/
import Derived.Test.YtpjichclpnebjaaE4
namespace Go.Proofs.Ytpjichclpnebjaa
open Go.RowKit

def alk (nul : Bool) (num : Int) (txt : List Nat) (nul2 : Bool) (num2 : Int) (txt2 : List Nat) : Bool := decide (nul = nul2 ∧ num = num2 ∧ txt = txt2)
theorem alk_iff {nul : Bool} {num : Int} {txt : List Nat} {nul2 : Bool} {num2 : Int} {txt2 : List Nat} : alk nul num txt nul2 num2 txt2 = true ↔ nul = nul2 ∧ num = num2 ∧ txt = txt2 := decide_eq_true_iff

set_option maxHeartbeats 800000 in
theorem alike_any (nul : Bool) (num : Int) (A : Option Addr) (n c : Nat) (txt : List Nat) (nul2 : Bool) (num2 : Int) (A2 : Option Addr) (n2 c2 : Nat) (txt2 : List Nat) (w : World)
    (hx : Rd .u8 w A n txt) (hy : Rd .u8 w A2 n2 txt2) (hn : n ≤ 281474976710656) (hn2 : n2 ≤ 281474976710656) :
    Calls Try.prog 47 #[.agg #[.bool nul, .int .i64 num, .slice A n c], .agg #[.bool nul2, .int .i64 num2, .slice A2 n2 c2]] w fun e w' => e = .returned (.bool (alk nul num txt nul2 num2 txt2)) ∧ Ext w w' := by
  have hE : Ext w ((w.alloc (.cells #[.bool nul, .int .i64 num, .slice A n c] 82)).alloc (.cells #[.bool nul2, .int .i64 num2, .slice A2 n2 c2] 82)) := ((Ext.refl w).alloc _).alloc _
  have hx2 := hx.ext hE
  have hy2 := hy.ext hE
  by_cases hb : nul = nul2
  · subst hb
    by_cases hi : num = num2
    · subst hi
      rw [show alk nul num txt nul num txt2 = decide (txt = txt2) from by unfold alk; simp]
      obtain ⟨D, hD⟩ : ∃ D, D = decide (txt = txt2) := ⟨_, rfl⟩
      rw [← hD]
      have HD := Lib.hid hD
      clear hD
      have b1 : (nul == nul) = true := by simp
      have b2 : (num == num) = true := by simp
      go_enter Try.func47, Try.ntmps47
      go_wp2_with fail
      refine (same_any A A2 n c n2 c2 txt txt2 _ hx2 hy2 hn hn2).mono ?_
      rintro e w1 ⟨rfl, q, rfl⟩
      rw [← HD.out]
      go_wp2
      go_ret
      exact ⟨rfl, hE.drewN q⟩
    · rw [show alk nul num txt nul num2 txt2 = false from decide_eq_false (fun q => hi q.2.1)]
      have b1 : (nul == nul) = true := by simp
      have b2 : (num == num2) = false := by rw [beq_eq_false_iff_ne]; exact hi
      clear hi
      go_enter Try.func47, Try.ntmps47
      go_wp2
      go_ret
      exact ⟨rfl, hE⟩
  · rw [show alk nul num txt nul2 num2 txt2 = false from decide_eq_false (fun q => hb q.1)]
    have b1 : (nul == nul2) = false := by rw [beq_eq_false_iff_ne]; exact hb
    clear hb
    go_enter Try.func47, Try.ntmps47
    go_wp2
    go_ret
    exact ⟨rfl, hE⟩

theorem alike_yes (nul : Bool) (num : Int) (A : Option Addr) (n c : Nat) (txt : List Nat) (A2 : Option Addr) (n2 c2 : Nat) (w : World)
    (hx : Rd .u8 w A n txt) (hy : Rd .u8 w A2 n2 txt) (hn : n ≤ 281474976710656) :
    Calls Try.prog 47 #[.agg #[.bool nul, .int .i64 num, .slice A n c], .agg #[.bool nul, .int .i64 num, .slice A2 n2 c2]] w fun e w' => e = .returned (.bool true) ∧ Ext w w' :=
  (alike_any nul num A n c txt nul num A2 n2 c2 txt w hx hy hn (by rw [← hy.len, hx.len]; exact hn)).mono fun e w' ⟨h1, h2⟩ => ⟨by rw [h1, alk_iff.2 ⟨rfl, rfl, rfl⟩], h2⟩

/-- The order of two texts: an order. -/
theorem ordT_nil_nil : ordT [] [] = 0 := rfl
theorem ordT_nil_cons {y : Nat} {s : List Nat} : ordT [] (y :: s) = -1 := rfl
theorem ordT_cons_nil {x : Nat} {r : List Nat} : ordT (x :: r) [] = 1 := rfl
theorem ordT_lt {x y : Nat} {r s : List Nat} (h : x < y) : ordT (x :: r) (y :: s) = -1 := by rw [ordT, if_pos h]
theorem ordT_gt {x y : Nat} {r s : List Nat} (h : y < x) : ordT (x :: r) (y :: s) = 1 := by rw [ordT, if_neg (by omega), if_pos h]
theorem ordT_eq {x y : Nat} {r s : List Nat} (h : x = y) : ordT (x :: r) (y :: s) = ordT r s := by rw [ordT, if_neg (by omega), if_neg (by omega)]

theorem ordT_end {xs ys : List Nat} {j : Nat} (h : xs.length ≤ j ∨ ys.length ≤ j) (h2 : j ≤ xs.length) (h3 : j ≤ ys.length) :
    ordT (xs.drop j) (ys.drop j) = if xs.length < ys.length then -1 else if ys.length < xs.length then 1 else 0 := by
  by_cases hx : xs.length ≤ j
  · rw [List.drop_of_length_le hx]
    by_cases hy : ys.length ≤ j
    · rw [List.drop_of_length_le hy, if_neg (by omega), if_neg (by omega)]; rfl
    · rw [drop_cons (by omega), if_pos (by omega)]; rfl
  · have hy : ys.length ≤ j := by omega
    rw [List.drop_of_length_le hy, drop_cons (by omega), if_neg (by omega), if_pos (by omega)]; rfl

/-- Behind what only adds, all that there was reads as before. -/
theorem Ext.cells {a b : World} (h : Ext a b) : ∀ g o, g < a.heap.size → b.cell? ⟨g, o, none⟩ = a.cell? ⟨g, o, none⟩ := fun g o hg => Below.cell h (p := ⟨g, o, none⟩) hg

theorem drew3 (w : World) (a b c : Nat) : ((w.drewN a).drewN b).drewN c = w.drewN (a + b + c) := by rw [World.drewN_drewN, World.drewN_drewN, Nat.add_assoc]

end Go.Proofs.Ytpjichclpnebjaa
