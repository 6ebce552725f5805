/-
  Two cells compared: alike, and their order, the program's and the document's.
-/
import Derived.Test.YtdnbmffedccakaaE4
namespace Go.Proofs.Ytdnbmffedccakaa
open Go.RowKit

def alk (nul : Bool) (num : Int) (txt : List Nat) (nul2 : Bool) (num2 : Int) (txt2 : List Nat) : Bool := decide (nul = nul2 ∧ num = num2 ∧ txt = txt2)
theorem alk_iff {nul : Bool} {num : Int} {txt : List Nat} {nul2 : Bool} {num2 : Int} {txt2 : List Nat} : alk nul num txt nul2 num2 txt2 = true ↔ nul = nul2 ∧ num = num2 ∧ txt = txt2 := decide_eq_true_iff

set_option maxHeartbeats 800000 in
theorem alike_any (nul : Bool) (num : Int) (A : Option Addr) (n c : Nat) (txt : List Nat) (nul2 : Bool) (num2 : Int) (A2 : Option Addr) (n2 c2 : Nat) (txt2 : List Nat) (w : World)
    (hx : Rd .u8 w A n txt) (hy : Rd .u8 w A2 n2 txt2) (hn : n ≤ 281474976710656) (hn2 : n2 ≤ 281474976710656) :
    Calls Try.prog 20 #[.agg #[.bool nul, .int .i64 num, .slice A n c], .agg #[.bool nul2, .int .i64 num2, .slice A2 n2 c2]] w fun e w' => e = .returned (.bool (alk nul num txt nul2 num2 txt2)) ∧ Ext w w' := by
  have hE : Ext w ((w.alloc (.cells #[.bool nul, .int .i64 num, .slice A n c] 24)).alloc (.cells #[.bool nul2, .int .i64 num2, .slice A2 n2 c2] 24)) := ((Ext.refl w).alloc _).alloc _
  have hx2 := hx.ext hE
  have hy2 := hy.ext hE
  by_cases hb : nul = nul2
  · subst hb
    by_cases hi : num = num2
    · subst hi
      rw [show alk nul num txt nul num txt2 = decide (txt = txt2) from by unfold alk; simp]
      obtain ⟨D, hD⟩ : ∃ D, D = decide (txt = txt2) := ⟨_, rfl⟩
      rw [← hD]
      have HD := Lib.hid hD
      clear hD
      have b1 : (nul == nul) = true := by simp
      have b2 : (num == num) = true := by simp
      go_enter Try.func20, Try.ntmps20
      go_wp2_with fail
      refine (same_any A A2 n c n2 c2 txt txt2 _ hx2 hy2 hn hn2).mono ?_
      rintro e w1 ⟨rfl, q, rfl⟩
      rw [← HD.out]
      go_wp2
      go_ret
      exact ⟨rfl, hE.drewN q⟩
    · rw [show alk nul num txt nul num2 txt2 = false from decide_eq_false (fun q => hi q.2.1)]
      have b1 : (nul == nul) = true := by simp
      have b2 : (num == num2) = false := by rw [beq_eq_false_iff_ne]; exact hi
      clear hi
      go_enter Try.func20, Try.ntmps20
      go_wp2
      go_ret
      exact ⟨rfl, hE⟩
  · rw [show alk nul num txt nul2 num2 txt2 = false from decide_eq_false (fun q => hb q.1)]
    have b1 : (nul == nul2) = false := by rw [beq_eq_false_iff_ne]; exact hb
    clear hb
    go_enter Try.func20, Try.ntmps20
    go_wp2
    go_ret
    exact ⟨rfl, hE⟩

theorem alike_yes (nul : Bool) (num : Int) (A : Option Addr) (n c : Nat) (txt : List Nat) (A2 : Option Addr) (n2 c2 : Nat) (w : World)
    (hx : Rd .u8 w A n txt) (hy : Rd .u8 w A2 n2 txt) (hn : n ≤ 281474976710656) :
    Calls Try.prog 20 #[.agg #[.bool nul, .int .i64 num, .slice A n c], .agg #[.bool nul, .int .i64 num, .slice A2 n2 c2]] w fun e w' => e = .returned (.bool true) ∧ Ext w w' :=
  (alike_any nul num A n c txt nul num A2 n2 c2 txt w hx hy hn (by rw [← hy.len, hx.len]; exact hn)).mono fun e w' ⟨h1, h2⟩ => ⟨by rw [h1, alk_iff.2 ⟨rfl, rfl, rfl⟩], h2⟩

/-- The order of two texts: an order. -/
theorem ordT_nil_nil : ordT [] [] = 0 := rfl
theorem ordT_nil_cons {y : Nat} {s : List Nat} : ordT [] (y :: s) = -1 := rfl
theorem ordT_cons_nil {x : Nat} {r : List Nat} : ordT (x :: r) [] = 1 := rfl
theorem ordT_lt {x y : Nat} {r s : List Nat} (h : x < y) : ordT (x :: r) (y :: s) = -1 := by rw [ordT, if_pos h]
theorem ordT_gt {x y : Nat} {r s : List Nat} (h : y < x) : ordT (x :: r) (y :: s) = 1 := by rw [ordT, if_neg (by omega), if_pos h]
theorem ordT_eq {x y : Nat} {r s : List Nat} (h : x = y) : ordT (x :: r) (y :: s) = ordT r s := by rw [ordT, if_neg (by omega), if_neg (by omega)]

theorem ordT_end {xs ys : List Nat} {j : Nat} (h : xs.length ≤ j ∨ ys.length ≤ j) (h2 : j ≤ xs.length) (h3 : j ≤ ys.length) :
    ordT (xs.drop j) (ys.drop j) = if xs.length < ys.length then -1 else if ys.length < xs.length then 1 else 0 := by
  by_cases hx : xs.length ≤ j
  · rw [List.drop_of_length_le hx]
    by_cases hy : ys.length ≤ j
    · rw [List.drop_of_length_le hy, if_neg (by omega), if_neg (by omega)]; rfl
    · rw [drop_cons (by omega), if_pos (by omega)]; rfl
  · have hy : ys.length ≤ j := by omega
    rw [List.drop_of_length_le hy, drop_cons (by omega), if_neg (by omega), if_pos (by omega)]; rfl

/-- Behind what only adds, all that there was reads as before. -/
theorem Ext.cells {a b : World} (h : Ext a b) : ∀ g o, g < a.heap.size → b.cell? ⟨g, o, none⟩ = a.cell? ⟨g, o, none⟩ := fun g o hg => Below.cell h (p := ⟨g, o, none⟩) hg

theorem drew3 (w : World) (a b c : Nat) : ((w.drewN a).drewN b).drewN c = w.drewN (a + b + c) := by rw [World.drewN_drewN, World.drewN_drewN, Nat.add_assoc]

set_option maxHeartbeats 800000 in
theorem order_any (A A2 : Option Addr) (n c n2 c2 : Nat) (xs ys : List Nat) (w : World) (hx : Rd .u8 w A n xs) (hy : Rd .u8 w A2 n2 ys) (hn : n ≤ 140737488355328) (hn2 : n2 ≤ 140737488355328) :
    Calls Try.prog 111 #[.slice A n c, .slice A2 n2 c2] w fun e w' => e = .returned (.int .i64 (ordT xs ys)) ∧ ∃ q, w' = w.drewN q := by
  have hl := hx.len
  have hl2 := hy.len
  obtain ⟨R, hR⟩ : ∃ R, R = ordT xs ys := ⟨_, rfl⟩
  rw [← hR]
  have HR := Lib.hid hR
  have Hl := Lib.hid hl
  have Hl2 := Lib.hid hl2
  clear hR hl hl2
  go_enter Try.func111, Try.ntmps111
  go_wp2
  go_loopw [5] (fun i wr => ∃ j q : Nat, j ≤ n ∧ j ≤ n2 ∧ i = .int .i64 j ∧ wr = w.drewN q ∧ Hid (R = ordT (xs.drop j) (ys.drop j))) (fun i _ => n - (intOf i).toNat)
  case atStart => exact ⟨0, 0, Nat.zero_le _, Nat.zero_le _, rfl, rfl, HR.out⟩
  case round =>
    obtain ⟨j, q, hj, hj2, rfl, hw, Hj⟩ := hrel
    subst hw
    by_cases hlt : j < n ∧ j < n2
    · obtain ⟨hlt1, hlt2⟩ := hlt
      obtain ⟨b, o, rfl, hbl, hc⟩ := hx.at_ hlt1
      obtain ⟨b', o', rfl, hbl', hc'⟩ := hy.at_ hlt2
      have hd1 := drop_cons (bs := xs) (k := j) (by have := Hl.out; omega)
      have hd2 := drop_cons (bs := ys) (k := j) (by have := Hl2.out; omega)
      obtain ⟨u, hu⟩ : ∃ u, u = xs.getD j 0 := ⟨_, rfl⟩
      obtain ⟨v, hv⟩ : ∃ v, v = ys.getD j 0 := ⟨_, rfl⟩
      rw [← hu] at hc hd1
      rw [← hv] at hc' hd2
      have Hd1 := Lib.hid hd1
      have Hd2 := Lib.hid hd2
      clear hu hv hd1 hd2
      have hji : (j : Int) < (n : Int) := by omega
      have hji2 : (j : Int) < (n2 : Int) := by omega
      by_cases h1 : u < v
      · have HE := Lib.hid (show R = -1 by rw [Hj.out, Hd1.out, Hd2.out, ordT_lt h1])
        have d1 : decide (u < v) = true := decide_eq_true h1
        have d1' : decide ((u : Int) < (v : Int)) = true := decide_eq_true (by omega)
        clear h1
        go_wp2_with fail
        go_quiet (fail)
        go_wp2
        go_ret
        exact ⟨by rw [HE.out]; rfl, _, World.drewN_drewN ..⟩
      · by_cases h2 : v < u
        · have HE := Lib.hid (show R = 1 by rw [Hj.out, Hd1.out, Hd2.out, ordT_gt h2])
          have d1 : decide (u < v) = false := decide_eq_false h1
          have d1' : decide ((u : Int) < (v : Int)) = false := decide_eq_false (by omega)
          have d2 : decide (v < u) = true := decide_eq_true h2
          have d2' : decide ((v : Int) < (u : Int)) = true := decide_eq_true (by omega)
          clear h1 h2
          go_wp2_with fail
          go_quiet (fail)
          go_wp2_with fail
          go_quiet (fail)
          go_wp2
          go_ret
          exact ⟨by rw [HE.out]; rfl, _, drew3 ..⟩
        · have HN := Lib.hid (show R = ordT (xs.drop (j + 1)) (ys.drop (j + 1)) by rw [Hj.out, Hd1.out, Hd2.out, ordT_eq (by omega)])
          have d1 : decide (u < v) = false := decide_eq_false h1
          have d1' : decide ((u : Int) < (v : Int)) = false := decide_eq_false (by omega)
          have d2 : decide (v < u) = false := decide_eq_false h2
          have d2' : decide ((v : Int) < (u : Int)) = false := decide_eq_false (by omega)
          clear h1 h2
          go_wp2_with fail
          go_quiet (fail)
          go_wp2_with fail
          go_quiet (fail)
          go_wp2
          go_roundw
          case rel => exact ⟨j + 1, _, by omega, by omega, by go_num, rfl, HN.out⟩
          case measure => simp [intOf]; omega
    · have HE := Lib.hid (show R = if n < n2 then -1 else if n2 < n then 1 else 0 by
        rw [Hj.out, ordT_end (by have := Hl.out; have := Hl2.out; omega) (by have := Hl.out; omega) (by have := Hl2.out; omega), Hl.out, Hl2.out])
      have h3 : ¬ (j : Int) < (n : Int) ∨ ¬ (j : Int) < (n2 : Int) := by omega
      clear hlt
      rcases Nat.lt_trichotomy n n2 with h4 | h4 | h4
      · have e3 := HE.out
        rw [if_pos h4] at e3
        have He3 := Lib.hid e3
        obtain rfl : j = n := by omega
        clear HE e3 h3
        go_wp2
        go_ret
        exact ⟨by rw [He3.out]; rfl, _, rfl⟩
      · subst h4
        obtain rfl : j = n := by omega
        have e3 := HE.out
        rw [if_neg (by omega), if_neg (by omega)] at e3
        have He3 := Lib.hid e3
        clear HE e3 h3
        go_wp2
        go_ret
        exact ⟨by rw [He3.out]; rfl, _, rfl⟩
      · have e3 := HE.out
        rw [if_neg (by omega), if_pos h4] at e3
        have He3 := Lib.hid e3
        obtain rfl : j = n2 := by omega
        clear HE e3 h3
        go_wp2
        go_ret
        exact ⟨by rw [He3.out]; rfl, _, rfl⟩

end Go.Proofs.Ytdnbmffedccakaa
