/-
  The program's layer 5: a cell's first error.
-/
import Derived.Test.YtpjichclpnebjaaE1
namespace Go.Proofs.Ytpjichclpnebjaa
open Go.RowKit

theorem checkNull_any (ok nul : Bool) (num : Int) (A : Option Addr) (n c : Nat) (w : World) (hn : n ≤ 140737488355328) :
    Calls Try.prog 86 #[.bool ok, .agg #[.bool nul, .int .i64 num, .slice A n c]] w fun e w' => e = .returned (.int .i64 (if ok = true then (if num ≠ 0 ∨ 0 < n then 50 else 0) else 51)) ∧ Ext w w' := by
  cases ok with
  | false =>
    go_enter Try.func86, Try.ntmps86
    go_wp2
    go_ret
    exact ⟨rfl, (Ext.refl w).alloc _⟩
  | true =>
    rw [if_pos rfl]
    by_cases h0 : num = 0
    · subst h0
      by_cases h1 : 0 < n
      · rw [if_pos (.inr h1)]
        go_enter Try.func86, Try.ntmps86
        go_wp2
        go_ret
        exact ⟨rfl, (Ext.refl w).alloc _⟩
      · obtain rfl : n = 0 := by omega
        go_enter Try.func86, Try.ntmps86
        go_wp2
        go_ret
        exact ⟨rfl, (Ext.refl w).alloc _⟩
    · rw [if_pos (.inl h0)]
      have b0 : (num != 0) = true := by rw [bne_iff_ne]; exact h0
      clear h0
      go_enter Try.func86, Try.ntmps86
      go_wp2
      go_ret
      exact ⟨rfl, (Ext.refl w).alloc _⟩

theorem checkNumber_any (k : Int) (nul : Bool) (num : Int) (A : Option Addr) (n c : Nat) (w : World) (hk : 1 ≤ k ∧ k ≤ 6) (h0 : -9223372036854775808 ≤ num) (h1 : num ≤ 9223372036854775807) (hn : n ≤ 140737488355328) :
    Calls Try.prog 88 #[.int .i64 k, .agg #[.bool nul, .int .i64 num, .slice A n c]] w fun e w' => e = .returned (.int .i64 (if 0 < n then 50 else if least k ≤ num ∧ num ≤ great k then 0 else 52)) ∧ Ext w w' := by
  by_cases h2 : 0 < n
  · rw [if_pos h2]
    go_enter Try.func88, Try.ntmps88
    go_wp2
    go_ret
    exact ⟨rfl, (Ext.refl w).alloc _⟩
  · obtain rfl : n = 0 := by omega
    rw [if_neg (by omega)]
    by_cases hf : least k ≤ num ∧ num ≤ great k
    · rw [if_pos hf]
      have Hf := Lib.hid (fitsK_iff.2 hf)
      clear hf
      go_enter Try.func88, Try.ntmps88
      go_wp2_with fail
      refine (holds_any k num _ hk h0 h1).mono ?_
      rintro e w1 ⟨rfl, rfl⟩
      rw [Hf.out]
      go_wp2
      go_ret
      exact ⟨rfl, (Ext.refl w).alloc _⟩
    · rw [if_neg hf]
      have Hf := Lib.hid (show fitsK k num = false by rw [Bool.eq_false_iff]; exact fun q => hf (fitsK_iff.1 q))
      clear hf
      go_enter Try.func88, Try.ntmps88
      go_wp2_with fail
      refine (holds_any k num _ hk h0 h1).mono ?_
      rintro e w1 ⟨rfl, rfl⟩
      rw [Hf.out]
      go_wp2
      go_ret
      exact ⟨rfl, (Ext.refl w).alloc _⟩

theorem checkText_any (k : Int) (nul : Bool) (num : Int) (A : Option Addr) (n c : Nat) (txt : List Nat) (w : World) (hx : Rd .u8 w A n txt) (hu : U8 txt) (hk : k = 7 ∨ k = 8) (hn : n ≤ 140737488355328) :
    Calls Try.prog 89 #[.int .i64 k, .agg #[.bool nul, .int .i64 num, .slice A n c]] w fun e w' => e = .returned (.int .i64 (if num ≠ 0 then 50 else if 200 < n then 4 else if k = 7 ∧ 0 ∈ txt then 5 else 0)) ∧ Ext w w' := by
  by_cases h0 : num = 0
  · subst h0
    rw [if_neg (fun q => q rfl)]
    by_cases h2 : 200 < n
    · rw [if_pos h2]
      clear hk
      go_enter Try.func89, Try.ntmps89
      go_wp2
      go_ret
      exact ⟨rfl, (Ext.refl w).alloc _⟩
    · rw [if_neg h2]
      rcases hk with rfl | rfl
      · have hi := idx_zero hu
        obtain ⟨r, hr⟩ : ∃ r, r = Lib.indexByte (u8s txt) 0 := ⟨_, rfl⟩
        rw [← hr] at hi
        have Hr := Lib.hid hr
        clear hr
        by_cases hz : 0 ∈ txt
        · rw [if_pos ⟨rfl, hz⟩]
          have hr0 : 0 ≤ r := hi.2 hz
          clear hi
          go_enter Try.func89, Try.ntmps89
          go_wp2_with fail
          refine (index_any _ _ _ txt _ (hx.ext ((Ext.refl w).alloc _))).mono ?_
          rintro e w1 ⟨rfl, rfl⟩
          rw [← Hr.out]
          go_wp2
          go_ret
          exact ⟨rfl, (Ext.refl w).alloc _⟩
        · rw [if_neg (fun q => hz q.2)]
          have hr0 : ¬ 0 ≤ r := fun q => hz (hi.1 q)
          have b0 : decide (0 ≤ r) = false := decide_eq_false hr0
          clear hi hr0
          go_enter Try.func89, Try.ntmps89
          go_wp2_with fail
          refine (index_any _ _ _ txt _ (hx.ext ((Ext.refl w).alloc _))).mono ?_
          rintro e w1 ⟨rfl, rfl⟩
          rw [← Hr.out]
          go_wp2
          go_ret
          exact ⟨rfl, (Ext.refl w).alloc _⟩
      · rw [if_neg (fun q => absurd q.1 (by decide))]
        go_enter Try.func89, Try.ntmps89
        go_wp2
        go_ret
        exact ⟨rfl, (Ext.refl w).alloc _⟩
  · rw [if_pos h0]
    have b0 : (num != 0) = true := by rw [bne_iff_ne]; exact h0
    clear h0 hk
    go_enter Try.func89, Try.ntmps89
    go_wp2
    go_ret
    exact ⟨rfl, (Ext.refl w).alloc _⟩

theorem check_any (k : Int) (ok nul : Bool) (num : Int) (A : Option Addr) (n c : Nat) (txt : List Nat) (w : World) (hx : Rd .u8 w A n txt) (hu : U8 txt) (h0 : -9223372036854775808 ≤ num) (h1 : num ≤ 9223372036854775807) (hn : n ≤ 140737488355328) :
    Calls Try.prog 75 #[.int .i64 k, .bool ok, .agg #[.bool nul, .int .i64 num, .slice A n c]] w fun e w' => e = .returned (.int .i64 (chk k ok nul num txt)) ∧ Ext w w' := by
  have hl := hx.len
  by_cases hk : 1 ≤ k ∧ k ≤ 8
  · have Hk := Lib.hid (kindK_yes hk)
    cases nul with
    | true =>
      obtain ⟨R, hR⟩ : ∃ R, R = chk k ok true num txt := ⟨_, rfl⟩
      rw [← hR]
      rw [chk_null hk, hl] at hR
      have HR := Lib.hid hR
      clear hR
      clear hl hk
      go_enter Try.func75, Try.ntmps75
      go_wp2_with fail
      refine (isKind_any _ _).mono ?_
      rintro e w1 ⟨rfl, rfl⟩
      rw [Hk.out]
      go_wp2_with fail
      refine (checkNull_any _ _ _ _ _ _ _ hn).mono ?_
      rintro e w1 ⟨rfl, he1⟩
      rw [← HR.out]
      go_wp2
      go_ret
      exact ⟨rfl, ((Ext.refl w).alloc _).trans he1⟩
    | false =>
      by_cases hs : k ≤ 6
      · have hk6 : 1 ≤ k ∧ k ≤ 6 := by omega
        obtain ⟨R, hR⟩ : ∃ R, R = chk k ok false num txt := ⟨_, rfl⟩
        rw [← hR]
        rw [chk_num hk6, hl] at hR
        have HR := Lib.hid hR
        clear hR
        have Hs := Lib.hid (numK_yes hk6)
        clear hl hk hs
        go_enter Try.func75, Try.ntmps75
        go_wp2_with fail
        refine (isKind_any _ _).mono ?_
        rintro e w1 ⟨rfl, rfl⟩
        rw [Hk.out]
        go_wp2_with fail
        refine (number_any _ _).mono ?_
        rintro e w1 ⟨rfl, rfl⟩
        rw [Hs.out]
        go_wp2_with fail
        refine (checkNumber_any _ _ _ _ _ _ _ hk6 h0 h1 hn).mono ?_
        rintro e w1 ⟨rfl, he1⟩
        rw [← HR.out]
        go_wp2
        go_ret
        exact ⟨rfl, ((Ext.refl w).alloc _).trans he1⟩
      · have hk7 : k = 7 ∨ k = 8 := by omega
        obtain ⟨R, hR⟩ : ∃ R, R = chk k ok false num txt := ⟨_, rfl⟩
        rw [← hR]
        rw [chk_txt hk7, hl] at hR
        have HR := Lib.hid hR
        clear hR
        have Hs := Lib.hid (numK_no (k := k) (by omega))
        have Hk7 := Lib.hid hk7
        clear hl hk hs hk7
        go_enter Try.func75, Try.ntmps75
        go_wp2_with fail
        refine (isKind_any _ _).mono ?_
        rintro e w1 ⟨rfl, rfl⟩
        rw [Hk.out]
        go_wp2_with fail
        refine (number_any _ _).mono ?_
        rintro e w1 ⟨rfl, rfl⟩
        rw [Hs.out]
        go_wp2_with fail
        refine (checkText_any _ _ _ _ _ _ txt _ (hx.ext ((Ext.refl w).alloc _)) hu Hk7.out hn).mono ?_
        rintro e w1 ⟨rfl, he1⟩
        rw [← HR.out]
        go_wp2
        go_ret
        exact ⟨rfl, ((Ext.refl w).alloc _).trans he1⟩
  · rw [chk_arg hk]
    have Hk := Lib.hid (kindK_no hk)
    clear hl hk
    go_enter Try.func75, Try.ntmps75
    go_wp2_with fail
    refine (isKind_any _ _).mono ?_
    rintro e w1 ⟨rfl, rfl⟩
    rw [Hk.out]
    go_wp2
    go_ret
    exact ⟨rfl, (Ext.refl w).alloc _⟩

end Go.Proofs.Ytpjichclpnebjaa
