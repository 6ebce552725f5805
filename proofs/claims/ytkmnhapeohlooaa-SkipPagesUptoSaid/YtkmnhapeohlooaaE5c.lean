/-
  The document's order of two texts.
-/
import Derived.Test.YtkmnhapeohlooaaOT
namespace Go.Proofs.Ytkmnhapeohlooaa
open Go.RowKit

set_option maxHeartbeats 800000 in
theorem order_any (A A2 : Option Addr) (n c n2 c2 : Nat) (xs ys : List Nat) (w : World) (hx : Rd .u8 w A n xs) (hy : Rd .u8 w A2 n2 ys) (hn : n ≤ 140737488355328) (hn2 : n2 ≤ 140737488355328) :
    Calls Try.prog 86 #[.slice A n c, .slice A2 n2 c2] w fun e w' => e = .returned (.int .i64 (ordT xs ys)) ∧ ∃ q, w' = w.drewN q := by
  have hl := hx.len
  have hl2 := hy.len
  obtain ⟨R, hR⟩ : ∃ R, R = ordT xs ys := ⟨_, rfl⟩
  rw [← hR]
  have HR := Lib.hid hR
  have Hl := Lib.hid hl
  have Hl2 := Lib.hid hl2
  clear hR hl hl2
  go_enter Try.func86, Try.ntmps86
  go_wp2
  go_loopw [5] (fun i wr => ∃ j q : Nat, j ≤ n ∧ j ≤ n2 ∧ i = .int .i64 j ∧ wr = w.drewN q ∧ Hid (R = ordT (xs.drop j) (ys.drop j))) (fun i _ => n - (intOf i).toNat)
  case atStart => exact ⟨0, 0, Nat.zero_le _, Nat.zero_le _, rfl, rfl, HR.out⟩
  case round =>
    obtain ⟨j, q, hj, hj2, rfl, hw, Hj⟩ := hrel
    subst hw
    by_cases hlt : j < n ∧ j < n2
    · obtain ⟨hlt1, hlt2⟩ := hlt
      obtain ⟨b, o, rfl, hbl, hc⟩ := hx.at_ hlt1
      obtain ⟨b', o', rfl, hbl', hc'⟩ := hy.at_ hlt2
      have hd1 := drop_cons (bs := xs) (k := j) (by have := Hl.out; omega)
      have hd2 := drop_cons (bs := ys) (k := j) (by have := Hl2.out; omega)
      obtain ⟨u, hu⟩ : ∃ u, u = xs.getD j 0 := ⟨_, rfl⟩
      obtain ⟨v, hv⟩ : ∃ v, v = ys.getD j 0 := ⟨_, rfl⟩
      rw [← hu] at hc hd1
      rw [← hv] at hc' hd2
      have Hd1 := Lib.hid hd1
      have Hd2 := Lib.hid hd2
      clear hu hv hd1 hd2
      have hji : (j : Int) < (n : Int) := by omega
      have hji2 : (j : Int) < (n2 : Int) := by omega
      by_cases h1 : u < v
      · have HE := Lib.hid (show R = -1 by rw [Hj.out, Hd1.out, Hd2.out, ordT_lt h1])
        have d1 : decide (u < v) = true := decide_eq_true h1
        have d1' : decide ((u : Int) < (v : Int)) = true := decide_eq_true (by omega)
        clear h1
        go_wp2_with fail
        go_quiet (fail)
        go_wp2
        go_ret
        exact ⟨by rw [HE.out]; rfl, _, World.drewN_drewN ..⟩
      · by_cases h2 : v < u
        · have HE := Lib.hid (show R = 1 by rw [Hj.out, Hd1.out, Hd2.out, ordT_gt h2])
          have d1 : decide (u < v) = false := decide_eq_false h1
          have d1' : decide ((u : Int) < (v : Int)) = false := decide_eq_false (by omega)
          have d2 : decide (v < u) = true := decide_eq_true h2
          have d2' : decide ((v : Int) < (u : Int)) = true := decide_eq_true (by omega)
          clear h1 h2
          go_wp2_with fail
          go_quiet (fail)
          go_wp2_with fail
          go_quiet (fail)
          go_wp2
          go_ret
          exact ⟨by rw [HE.out]; rfl, _, drew3 ..⟩
        · have HN := Lib.hid (show R = ordT (xs.drop (j + 1)) (ys.drop (j + 1)) by rw [Hj.out, Hd1.out, Hd2.out, ordT_eq (by omega)])
          have d1 : decide (u < v) = false := decide_eq_false h1
          have d1' : decide ((u : Int) < (v : Int)) = false := decide_eq_false (by omega)
          have d2 : decide (v < u) = false := decide_eq_false h2
          have d2' : decide ((v : Int) < (u : Int)) = false := decide_eq_false (by omega)
          clear h1 h2
          go_wp2_with fail
          go_quiet (fail)
          go_wp2_with fail
          go_quiet (fail)
          go_wp2
          go_roundw
          case rel => exact ⟨j + 1, _, by omega, by omega, by go_num, rfl, HN.out⟩
          case measure => simp [intOf]; omega
    · have HE := Lib.hid (show R = if n < n2 then -1 else if n2 < n then 1 else 0 by
        rw [Hj.out, ordT_end (by have := Hl.out; have := Hl2.out; omega) (by have := Hl.out; omega) (by have := Hl2.out; omega), Hl.out, Hl2.out])
      have h3 : ¬ (j : Int) < (n : Int) ∨ ¬ (j : Int) < (n2 : Int) := by omega
      clear hlt
      rcases Nat.lt_trichotomy n n2 with h4 | h4 | h4
      · have e3 := HE.out
        rw [if_pos h4] at e3
        have He3 := Lib.hid e3
        obtain rfl : j = n := by omega
        clear HE e3 h3
        go_wp2
        go_ret
        exact ⟨by rw [He3.out]; rfl, _, rfl⟩
      · subst h4
        obtain rfl : j = n := by omega
        have e3 := HE.out
        rw [if_neg (by omega), if_neg (by omega)] at e3
        have He3 := Lib.hid e3
        clear HE e3 h3
        go_wp2
        go_ret
        exact ⟨by rw [He3.out]; rfl, _, rfl⟩
      · have e3 := HE.out
        rw [if_neg (by omega), if_pos h4] at e3
        have He3 := Lib.hid e3
        obtain rfl : j = n2 := by omega
        clear HE e3 h3
        go_wp2
        go_ret
        exact ⟨by rw [He3.out]; rfl, _, rfl⟩

end Go.Proofs.Ytkmnhapeohlooaa
