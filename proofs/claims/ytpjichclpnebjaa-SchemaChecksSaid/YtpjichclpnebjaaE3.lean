/-
  The document's layer 5: a cell's first error, and the order of two cells; the program's order.
-/
import Derived.Test.YtpjichclpnebjaaE2
namespace Go.Proofs.Ytpjichclpnebjaa
open Go.RowKit

theorem quietL {P : Program} {f : FuncId} {args : Array Value} {w : World} {n : Nat} {v : Value}
    (h : ∀ W : World, Calls P f args W fun e w' => e = .returned v ∧ W = w') : Calls P f args (w.drewN n) fun e w'' => e = .returned v ∧ ∃ m, w'' = w.drewN m :=
  (h _).mono fun _ _ ⟨he, hm⟩ => ⟨he, n, hm.symm⟩
theorem quietL2 {P : Program} {f : FuncId} {args : Array Value} {w : World} {a n : Nat} {v : Value}
    (h : ∀ W : World, Calls P f args W fun e w' => e = .returned v ∧ W = w') : Calls P f args (w.drewN (a + n)) fun e w'' => e = .returned v ∧ ∃ m, w'' = w.drewN (a + m) :=
  (h _).mono fun _ _ ⟨he, hm⟩ => ⟨he, n, hm.symm⟩

theorem least_any (k : Int) (w : World) :
    Calls Try.prog 76 #[.int .i64 k] w fun e w' => e = .returned (.int .i64 (least k)) ∧ w = w' := by
  by_cases h : k = 1 ∨ k = 2 ∨ k = 3 ∨ k = 4
  · rcases h with rfl | rfl | rfl | rfl
    all_goals
      go_enter Try.func76, Try.ntmps76
      go_wp2
      go_ret
      exact ⟨rfl, rfl⟩
  · rw [show least k = 0 by unfold least; rw [if_neg (by omega), if_neg (by omega), if_neg (by omega), if_neg (by omega)]]
    have h1 : (k == 1) = false := by rw [beq_eq_false_iff_ne]; omega
    have h2 : (k == 2) = false := by rw [beq_eq_false_iff_ne]; omega
    have h3 : (k == 3) = false := by rw [beq_eq_false_iff_ne]; omega
    have h4 : (k == 4) = false := by rw [beq_eq_false_iff_ne]; omega
    clear h
    go_enter Try.func76, Try.ntmps76
    go_wp2
    go_ret
    exact ⟨rfl, rfl⟩

theorem great_any (k : Int) (w : World) :
    Calls Try.prog 77 #[.int .i64 k] w fun e w' => e = .returned (.int .i64 (great k)) ∧ w = w' := by
  by_cases h : k = 1 ∨ k = 2 ∨ k = 3 ∨ k = 4 ∨ k = 5
  · rcases h with rfl | rfl | rfl | rfl | rfl
    all_goals
      go_enter Try.func77, Try.ntmps77
      go_wp2
      go_ret
      exact ⟨rfl, rfl⟩
  · rw [show great k = 1 by unfold great; rw [if_neg (by omega), if_neg (by omega), if_neg (by omega), if_neg (by omega), if_neg (by omega)]]
    have h1 : (k == 1) = false := by rw [beq_eq_false_iff_ne]; omega
    have h2 : (k == 2) = false := by rw [beq_eq_false_iff_ne]; omega
    have h3 : (k == 3) = false := by rw [beq_eq_false_iff_ne]; omega
    have h4 : (k == 4) = false := by rw [beq_eq_false_iff_ne]; omega
    have h5 : (k == 5) = false := by rw [beq_eq_false_iff_ne]; omega
    clear h
    go_enter Try.func77, Try.ntmps77
    go_wp2
    go_ret
    exact ⟨rfl, rfl⟩

theorem zero_any (A : Option Addr) (n c : Nat) (xs : List Nat) (w : World) (hx : Rd .u8 w A n xs) (hn : n ≤ 140737488355328) :
    Calls Try.prog 78 #[.slice A n c] w fun e w' => e = .returned (.bool (decide (0 ∈ xs))) ∧ w = w' := by
  have hl := hx.len
  have Hl := Lib.hid hl
  clear hl
  go_enter Try.func78, Try.ntmps78
  go_wp2
  go_loop [3] (fun i => ∃ j : Nat, j ≤ n ∧ i = .int .i64 j ∧ Hid (∀ t, t < j → xs.getD t 0 ≠ 0)) (fun i => n - (intOf i).toNat)
  case atStart => exact ⟨0, Nat.zero_le _, rfl, fun t ht => absurd ht (by omega)⟩
  case round =>
    obtain ⟨j, hj, rfl, Hs⟩ := hrel
    by_cases hlt : j < n
    · obtain ⟨b, o, rfl, hbl, hc⟩ := hx.at_ hlt
      obtain ⟨u, hu⟩ : ∃ u, u = xs.getD j 0 := ⟨_, rfl⟩
      rw [← hu] at hc
      have Hu := Lib.hid hu
      clear hu
      by_cases h0 : u = 0
      · subst h0
        go_wp2
        go_ret
        have hm : 0 ∈ xs := by
          have h1 : j < xs.length := by have := Hl.out; omega
          have h2 : xs.getD j 0 = xs[j] := by simp [List.getD, h1]
          have h3 := Hu.out
          rw [h2] at h3
          rw [h3]
          exact List.getElem_mem h1
        exact ⟨by rw [decide_eq_true hm]; rfl, rfl⟩
      · have hne : ((u : Int) == 0) = false := by rw [beq_eq_false_iff_ne]; omega
        have H0 := Lib.hid h0
        clear h0
        go_wp2
        go_round
        case rel => exact ⟨j + 1, by omega, by go_num, fun t ht => by
          by_cases h : t < j
          · exact Hs.out t h
          · obtain rfl : t = j := by omega
            rw [← Hu.out]; exact H0.out⟩
        case measure => simp [intOf]; omega
    · obtain rfl : j = n := by omega
      go_wp2
      go_ret
      have hm : ¬ 0 ∈ xs := by
        intro hm
        obtain ⟨i, hi, he⟩ := List.getElem_of_mem hm
        have h1 := Hs.out i (by have := Hl.out; omega)
        apply h1
        simp [List.getD, hi, he]
      exact ⟨by rw [decide_eq_false hm]; rfl, rfl⟩

set_option maxHeartbeats 1600000 in
theorem refCheck_any (k : Int) (ok nul : Bool) (num : Int) (A : Option Addr) (n c : Nat) (txt : List Nat) (w : World) (hx : Rd .u8 w A n txt) (h0 : -9223372036854775808 ≤ num) (h1 : num ≤ 9223372036854775807) (hn : n ≤ 140737488355328) :
    Calls Try.prog 58 #[.int .i64 k, .bool ok, .agg #[.bool nul, .int .i64 num, .slice A n c]] w fun e w' => e = .returned (.int .i64 (chk k ok nul num txt)) ∧ Ext w w' := by
  have hl := hx.len
  by_cases hk : 1 ≤ k ∧ k ≤ 8
  · have hk1 : 1 ≤ k := hk.1
    have hk8 : k ≤ 8 := hk.2
    have b1 : decide (k < 1) = false := decide_eq_false (by omega)
    have b2 : decide (8 < k) = false := decide_eq_false (by omega)
    cases nul with
    | true =>
      rw [chk_null hk, hl]
      clear hl hk
      cases ok with
      | false =>
        go_enter Try.func58, Try.ntmps58
        go_wp2
        go_ret
        exact ⟨rfl, (Ext.refl w).alloc _⟩
      | true =>
        rw [if_pos rfl]
        by_cases h2 : num = 0
        · subst h2
          by_cases h3 : 0 < n
          · rw [if_pos (.inr h3)]
            go_enter Try.func58, Try.ntmps58
            go_wp2
            go_ret
            exact ⟨rfl, (Ext.refl w).alloc _⟩
          · obtain rfl : n = 0 := by omega
            go_enter Try.func58, Try.ntmps58
            go_wp2
            go_ret
            exact ⟨rfl, (Ext.refl w).alloc _⟩
        · rw [if_pos (.inl h2)]
          have b0 : (num != 0) = true := by rw [bne_iff_ne]; exact h2
          clear h2
          go_enter Try.func58, Try.ntmps58
          go_wp2
          go_ret
          exact ⟨rfl, (Ext.refl w).alloc _⟩
    | false =>
      by_cases hs : k ≤ 6
      · have hk6 : 1 ≤ k ∧ k ≤ 6 := by omega
        rw [chk_num hk6, hl]
        clear hl hk
        by_cases h3 : 0 < n
        · rw [if_pos h3]
          go_enter Try.func58, Try.ntmps58
          go_wp2
          go_ret
          exact ⟨rfl, (Ext.refl w).alloc _⟩
        · obtain rfl : n = 0 := by omega
          rw [if_neg (by omega)]
          clear h3
          by_cases hc1 : num < least k
          · rw [if_neg (by omega)]
            have d1 : decide (num < least k) = true := decide_eq_true hc1
            clear hc1
            go_enter Try.func58, Try.ntmps58
            go_wp2_with fail
            go_quiet ((first | (go_at_call 76; exact quietL (least_any _)) | (go_at_call 77; exact quietL (great_any _)) | fail))
            go_wp2
            go_ret
            exact ⟨rfl, ((Ext.refl w).alloc _).drewN _⟩
          · have d1 : decide (num < least k) = false := decide_eq_false hc1
            by_cases hc2 : great k < num
            · rw [if_neg (by omega)]
              have d2 : decide (great k < num) = true := decide_eq_true hc2
              clear hc1 hc2
              go_enter Try.func58, Try.ntmps58
              go_wp2
              go_quiet ((first | (go_at_call 76; exact quietL (least_any _)) | (go_at_call 77; exact quietL (great_any _)) | fail))
              go_wp2
              go_ret
              exact ⟨rfl, ((Ext.refl w).alloc _).drewN _⟩
            · rw [if_pos (by omega)]
              have d2 : decide (great k < num) = false := decide_eq_false hc2
              clear hc1 hc2
              go_enter Try.func58, Try.ntmps58
              go_wp2
              go_quiet ((first | (go_at_call 76; exact quietL (least_any _)) | (go_at_call 77; exact quietL (great_any _)) | fail))
              go_wp2
              go_ret
              exact ⟨rfl, ((Ext.refl w).alloc _).drewN _⟩
      · have hk7 : k = 7 ∨ k = 8 := by omega
        rw [chk_txt hk7, hl]
        have b3 : decide (k ≤ 6) = false := decide_eq_false hs
        clear hl hk hs
        by_cases h2 : num = 0
        · subst h2
          rw [if_neg (fun q => q rfl)]
          by_cases h3 : 200 < n
          · rw [if_pos h3]
            clear hk7
            go_enter Try.func58, Try.ntmps58
            go_wp2
            go_ret
            exact ⟨rfl, (Ext.refl w).alloc _⟩
          · rw [if_neg h3]
            rcases hk7 with rfl | rfl
            · by_cases hz : 0 ∈ txt
              · rw [if_pos ⟨rfl, hz⟩]
                have Hz := Lib.hid (decide_eq_true hz)
                clear hz
                go_enter Try.func58, Try.ntmps58
                go_wp2_with fail
                refine (zero_any _ _ _ txt _ (hx.ext ((Ext.refl w).alloc _)) hn).mono ?_
                rintro e w1 ⟨rfl, rfl⟩
                rw [Hz.out]
                go_wp2
                go_ret
                exact ⟨rfl, (Ext.refl w).alloc _⟩
              · rw [if_neg (fun q => hz q.2)]
                have Hz := Lib.hid (decide_eq_false hz)
                clear hz
                go_enter Try.func58, Try.ntmps58
                go_wp2_with fail
                refine (zero_any _ _ _ txt _ (hx.ext ((Ext.refl w).alloc _)) hn).mono ?_
                rintro e w1 ⟨rfl, rfl⟩
                rw [Hz.out]
                go_wp2
                go_ret
                exact ⟨rfl, (Ext.refl w).alloc _⟩
            · rw [if_neg (fun q => absurd q.1 (by decide))]
              go_enter Try.func58, Try.ntmps58
              go_wp2
              go_ret
              exact ⟨rfl, (Ext.refl w).alloc _⟩
        · rw [if_pos h2]
          have b0 : (num != 0) = true := by rw [bne_iff_ne]; exact h2
          clear h2 hk7
          go_enter Try.func58, Try.ntmps58
          go_wp2
          go_ret
          exact ⟨rfl, (Ext.refl w).alloc _⟩
  · rw [chk_arg hk]
    clear hl
    by_cases hk1 : k < 1
    · clear hk
      go_enter Try.func58, Try.ntmps58
      go_wp2
      go_ret
      exact ⟨rfl, (Ext.refl w).alloc _⟩
    · have b1 : decide (k < 1) = false := decide_eq_false (by omega)
      have b2 : 8 < k := by omega
      clear hk
      go_enter Try.func58, Try.ntmps58
      go_wp2
      go_ret
      exact ⟨rfl, (Ext.refl w).alloc _⟩

end Go.Proofs.Ytpjichclpnebjaa
