/-
  Layer 17: the document's clock: its calls without lists.
-/
import Derived.Test.YtkmnhapeohlooaaMV8
namespace Go.Proofs.Ytkmnhapeohlooaa
open Go.RowKit Go.Maps
set_option maxRecDepth 100000

/-- The document's clock as a value. -/
abbrev cval (now last mark : Int) (fl pn : Value) : Value := .agg #[.int .i64 now, .int .i64 last, .int .i64 mark, fl, pn]

theorem rtick_any (now last mark : Int) (A : Option Addr) (n c : Nat) (A2 : Option Addr) (n2 c2 : Nat) (t : Int) (w : World) (hn : 0 ≤ now ∧ now ≤ 1099511627777) (ht : R64 t) :
    Calls Try.prog 49 #[cval now last mark (.slice A n c) (.slice A2 n2 c2), .int .i64 t] w fun e w' => e = .returned (cval (if t > 1099511627777 - now then 1099511627777 else if t > 0 then now + t else now) last mark (.slice A n c) (.slice A2 n2 c2)) ∧ Ext w w' := by
  obtain ⟨hn1, hn2⟩ := hn
  obtain ⟨ht1, ht2⟩ := ht
  by_cases q1 : 1099511627777 - now < t
  · have d1 : decide (1099511627777 - now < t) = true := decide_eq_true q1
    rw [if_pos q1]
    clear q1
    go_enter Try.func49, Try.ntmps49
    go_wp2_with fail
    refine bodyPost_ret (v := cval 1099511627777 last mark (.slice A n c) (.slice A2 n2 c2)) (by simp [results, Try.results49, go_sem]) rfl ⟨rfl, ?_⟩
    exact ((Ext.refl w).alloc _).alloc _
  · have d1 : decide (1099511627777 - now < t) = false := decide_eq_false q1
    rw [if_neg q1]
    by_cases q2 : 0 < t
    · have d2 : decide (0 < t) = true := decide_eq_true q2
      have hb : now + t ≤ 1099511627777 := by omega
      rw [if_pos q2]
      clear q1 q2
      go_enter Try.func49, Try.ntmps49
      go_wp2_with fail
      refine bodyPost_ret (v := cval (now + t) last mark (.slice A n c) (.slice A2 n2 c2)) (by simp [results, Try.results49, go_sem]) rfl ⟨rfl, ?_⟩
      exact ((Ext.refl w).alloc _).alloc _
    · have d2 : decide (0 < t) = false := decide_eq_false q2
      rw [if_neg q2]
      clear q1 q2
      go_enter Try.func49, Try.ntmps49
      go_wp2_with fail
      refine bodyPost_ret (v := cval now last mark (.slice A n c) (.slice A2 n2 c2)) (by simp [results, Try.results49, go_sem]) rfl ⟨rfl, ?_⟩
      exact ((Ext.refl w).alloc _).alloc _


theorem rnew_any (w : World) : Calls Try.prog 13 #[] w fun e w' => e = .returned (cval 0 (-1) 0 (.slice none 0 0) (.slice none 0 0)) ∧ Ext w w' := by
  go_enter Try.func13, Try.ntmps13
  go_wp2_with fail
  refine bodyPost_ret (v := cval 0 (-1) 0 (.slice none 0 0) (.slice none 0 0)) (by simp [results, Try.results13, go_sem]) rfl ⟨rfl, ?_⟩
  exact (Ext.refl w).alloc _

theorem rnext_any (now last mark : Int) (A : Option Addr) (n c : Nat) (A2 : Option Addr) (n2 c2 : Nat) (w : World) (hl : -1 ≤ last ∧ last ≤ 1099511627776) :
    Calls Try.prog 61 #[cval now last mark (.slice A n c) (.slice A2 n2 c2)] w fun e w' => e = .returned (.int .i64 (if last + 1 > now then last + 1 else now)) ∧ Ext w w' := by
  obtain ⟨hl1, hl2⟩ := hl
  by_cases q1 : now < last + 1
  · have d1 : decide (now < last + 1) = true := decide_eq_true q1
    rw [if_pos q1]
    clear q1
    go_enter Try.func61, Try.ntmps61
    go_wp2_with fail
    go_ret
    exact ⟨rfl, (Ext.refl w).alloc _⟩
  · have d1 : decide (now < last + 1) = false := decide_eq_false q1
    rw [if_neg q1]
    clear q1
    go_enter Try.func61, Try.ntmps61
    go_wp2_with fail
    go_ret
    exact ⟨rfl, (Ext.refl w).alloc _⟩

theorem rraise_any (now last mark : Int) (A : Option Addr) (n c : Nat) (A2 : Option Addr) (n2 c2 : Nat) (t : Int) (w : World) :
    Calls Try.prog 53 #[cval now last mark (.slice A n c) (.slice A2 n2 c2), .int .i64 t] w fun e w' => e = .returned (cval now (if (if t > 1099511627776 then 1099511627776 else t) > last then (if t > 1099511627776 then 1099511627776 else t) else last) mark (.slice A n c) (.slice A2 n2 c2)) ∧ Ext w w' := by
  by_cases q1 : 1099511627776 < t
  · have d1 : decide (1099511627776 < t) = true := decide_eq_true q1
    rw [if_pos q1]
    clear q1
    by_cases q2 : last < 1099511627776
    · have d2 : decide (last < 1099511627776) = true := decide_eq_true q2
      rw [if_pos q2]
      clear q2
      go_enter Try.func53, Try.ntmps53
      go_wp2_with fail
      refine bodyPost_ret (v := cval now 1099511627776 mark (.slice A n c) (.slice A2 n2 c2)) (by simp [results, Try.results53, go_sem]) rfl ⟨rfl, ?_⟩
      exact ((Ext.refl w).alloc _).alloc _
    · have d2 : decide (last < 1099511627776) = false := decide_eq_false q2
      rw [if_neg q2]
      clear q2
      go_enter Try.func53, Try.ntmps53
      go_wp2_with fail
      refine bodyPost_ret (v := cval now last mark (.slice A n c) (.slice A2 n2 c2)) (by simp [results, Try.results53, go_sem]) rfl ⟨rfl, ?_⟩
      exact ((Ext.refl w).alloc _).alloc _
  · have d1 : decide (1099511627776 < t) = false := decide_eq_false q1
    rw [if_neg q1]
    clear q1
    by_cases q2 : last < t
    · have d2 : decide (last < t) = true := decide_eq_true q2
      rw [if_pos q2]
      clear q2
      go_enter Try.func53, Try.ntmps53
      go_wp2_with fail
      refine bodyPost_ret (v := cval now t mark (.slice A n c) (.slice A2 n2 c2)) (by simp [results, Try.results53, go_sem]) rfl ⟨rfl, ?_⟩
      exact ((Ext.refl w).alloc _).alloc _
    · have d2 : decide (last < t) = false := decide_eq_false q2
      rw [if_neg q2]
      clear q2
      go_enter Try.func53, Try.ntmps53
      go_wp2_with fail
      refine bodyPost_ret (v := cval now last mark (.slice A n c) (.slice A2 n2 c2)) (by simp [results, Try.results53, go_sem]) rfl ⟨rfl, ?_⟩
      exact ((Ext.refl w).alloc _).alloc _

theorem rmove_any (now last mark : Int) (A : Option Addr) (n c : Nat) (A2 : Option Addr) (n2 c2 : Nat) (t : Int) (w : World) :
    Calls Try.prog 54 #[cval now last mark (.slice A n c) (.slice A2 n2 c2), .int .i64 t] w fun e w' => e = .returned (.tuple #[cval now last (if t < mark ∨ t > 1099511627776 then mark else t) (.slice A n c) (.slice A2 n2 c2), .int .i64 (if t < mark ∨ t > 1099511627776 then 1 else 0)]) ∧ Ext w w' := by
  by_cases q1 : t < mark
  · have d1 : decide (t < mark) = true := decide_eq_true q1
    rw [if_pos (.inl q1), if_pos (.inl q1)]
    clear q1
    go_enter Try.func54, Try.ntmps54
    go_wp2_with fail
    refine bodyPost_ret (v := .tuple #[cval now last mark (.slice A n c) (.slice A2 n2 c2), .int .i64 1]) (by simp [results, Try.results54, go_sem]) rfl ⟨rfl, ?_⟩
    exact ((Ext.refl w).alloc _).alloc _
  · have d1 : decide (t < mark) = false := decide_eq_false q1
    by_cases q2 : 1099511627776 < t
    · have d2 : decide (1099511627776 < t) = true := decide_eq_true q2
      rw [if_pos (.inr q2), if_pos (.inr q2)]
      clear q1 q2
      go_enter Try.func54, Try.ntmps54
      go_wp2_with fail
      refine bodyPost_ret (v := .tuple #[cval now last mark (.slice A n c) (.slice A2 n2 c2), .int .i64 1]) (by simp [results, Try.results54, go_sem]) rfl ⟨rfl, ?_⟩
      exact ((Ext.refl w).alloc _).alloc _
    · have d2 : decide (1099511627776 < t) = false := decide_eq_false q2
      have q : ¬ (t < mark ∨ t > 1099511627776) := by omega
      rw [if_neg q, if_neg q]
      clear q1 q2 q
      go_enter Try.func54, Try.ntmps54
      go_wp2_with fail
      refine bodyPost_ret (v := .tuple #[cval now last t (.slice A n c) (.slice A2 n2 c2), .int .i64 0]) (by simp [results, Try.results54, go_sem]) rfl ⟨rfl, ?_⟩
      exact ((Ext.refl w).alloc _).alloc _

end Go.Proofs.Ytkmnhapeohlooaa
