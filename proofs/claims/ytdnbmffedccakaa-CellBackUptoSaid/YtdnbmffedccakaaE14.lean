/-
  Layer 5: the statements CellPuts and CellOrders, walked.
-/
import Derived.Test.YtdnbmffedccakaaE12
namespace Go.Proofs.Ytdnbmffedccakaa
open Go.RowKit

/-- A cell lies at block g. -/
structure AtC (w : World) (g : Nat) (nul : Bool) (num : Int) (A : Option Addr) (n c : Nat) : Prop where
  c0 : w.cell? ⟨g, 0, none⟩ = some (.bool nul)
  c1 : w.cell? ⟨g, 1, none⟩ = some (.int .i64 num)
  c2 : w.cell? ⟨g, 2, none⟩ = some (.slice A n c)
  lt : g < w.heap.size
theorem AtC.ext {w w' : World} {g : Nat} {nul : Bool} {num : Int} {A : Option Addr} {n c : Nat} (h : AtC w g nul num A n c) (he : Ext w w') : AtC w' g nul num A n c :=
  ⟨(he.cells g 0 h.lt).trans h.c0, (he.cells g 1 h.lt).trans h.c1, (he.cells g 2 h.lt).trans h.c2, Nat.lt_of_lt_of_le h.lt he.size⟩
theorem AtC.box (w : World) (nul : Bool) (num : Int) (A : Option Addr) (n c : Nat) : AtC (w.alloc (.cells #[.bool nul, .int .i64 num, .slice A n c] 24)) w.heap.size nul num A n c :=
  ⟨cell_of_row _ w.heap.size 0 _ _ (0, 0) (heap_alloc_new w _), cell_of_row _ w.heap.size 1 _ _ (0, 0) (heap_alloc_new w _), cell_of_row _ w.heap.size 2 _ _ (0, 0) (heap_alloc_new w _), by simp⟩

theorem cputL_u8 {k : Int} {nul : Bool} {num : Int} {txt : List Nat} (hu : U8 txt) : U8 (cputL k nul num txt) := by
  unfold cputL cby
  have h1 : U8 [0] := by decide
  have h2 : ∀ u, U8 (1 :: vput u) := fun u v hv => by
    rcases List.mem_cons.1 hv with rfl | h
    · omega
    · exact vput_u8 u v h
  have h3 : U8 (1 :: (vput txt.length ++ txt)) := fun v hv => by
    rcases List.mem_cons.1 hv with rfl | h
    · omega
    · rcases List.mem_append.1 h with h | h
      · exact vput_u8 _ v h
      · exact hu v h
  split
  · split
    · exact h1
    · split
      · exact h2 _
      · exact h3
  · intro v hv; cases hv
theorem cputL_len {k : Int} {nul : Bool} {num : Int} {txt : List Nat} (h0 : -9223372036854775808 ≤ num) (h1 : num ≤ 9223372036854775807) : (cputL k nul num txt).length ≤ 300 := by
  unfold cputL
  by_cases h : chk k true nul num txt = 0
  · rw [if_pos h]
    have hk := chk_kind h
    cases nul with
    | true => unfold cby; simp
    | false =>
      by_cases hk6 : k ≤ 6
      · obtain ⟨U, hU, hl⟩ := foldS_nat h0 h1
        rw [cby_num hk6 hU]
        have := vsize_le hl
        simp [vput_len]; omega
      · have h2 := chk_txt0 (by omega) h
        rw [cby_txt hk6]
        have := vsize_le (u := txt.length) (by omega)
        simp [vput_len]; omega
  · rw [if_neg h]; simp

set_option maxHeartbeats 3200000 in
set_option maxRecDepth 100000 in
theorem walk_CellPuts (k : Int) (x : Ci) (w : World) (hx : x.In w) :
    Calls Try.prog 4 #[.int .i64 k, x.v] w fun e w' => e = .returned (.bool true) ∧ Ext w w' := by
  obtain ⟨nul, num, A, c, txt⟩ := x
  obtain ⟨hrd, hu, h0, h1, hlen⟩ := hx
  simp only [Ci.v] at *
  obtain ⟨n, hn⟩ : ∃ n, n = txt.length := ⟨_, rfl⟩
  rw [← hn] at hrd hlen ⊢
  clear hn
  have hn1 : n ≤ 140737488355328 := by omega
  have hn2 : n ≤ 281474976710656 := by omega
  obtain ⟨R, hR⟩ : ∃ R, R = chk k true nul num txt := ⟨_, rfl⟩
  obtain ⟨L, hL⟩ : ∃ L, L = cputL k nul num txt := ⟨_, rfl⟩
  have hLu : U8 L := by rw [hL]; exact cputL_u8 hu
  have hLl : L.length ≤ 300 := by rw [hL]; exact cputL_len h0 h1
  obtain ⟨m, hm⟩ : ∃ m, L.length = m := ⟨_, rfl⟩
  rw [hm] at hLl
  have Hm := Lib.hid hm
  have HPp : Hid (∀ (B : Option Addr) (cb : Nat) (W : World), Rd .u8 W B n txt → Calls Try.prog 22 #[.int .i64 k, .agg #[.bool nul, .int .i64 num, .slice B n cb]] W fun e w' => ∃ A' c', e = .returned (.tuple #[.slice A' m c', .int .i64 R]) ∧ Own .u8 5 w' W.heap.size A' c' L ∧ Ext W w') := Lib.hid (fun B cb W hW => by
    have h := cput_any k nul num B n cb txt W hW hu hn1 h0 h1
    rw [← hL, ← hR] at h
    unfold CPutPost at h
    rw [hm] at h
    exact h)
  have HPr : Hid (∀ (B : Option Addr) (cb : Nat) (W : World), Rd .u8 W B n txt → Calls Try.prog 21 #[.int .i64 k, .agg #[.bool nul, .int .i64 num, .slice B n cb]] W fun e w' => ∃ A' c', e = .returned (.tuple #[.slice A' m c', .int .i64 R]) ∧ Own .u8 5 w' W.heap.size A' c' L ∧ Ext W w') := Lib.hid (fun B cb W hW => by
    have h := refCPut_any k nul num B n cb txt W hW hn1 h0 h1
    rw [← hL, ← hR] at h
    unfold CPutPost at h
    rw [hm] at h
    exact h)
  have bR : (R == R) = true := by simp
  clear hR hL hm
  have hE : Ext w (w.alloc (.cells #[.bool nul, .int .i64 num, .slice A n c] 24)) := (Ext.refl w).alloc _
  go_enter Try.func4, Try.ntmps4
  go_wp2_with fail
  refine (alive5 _).mono ?_
  rintro e w1 ⟨rfl, he1⟩
  have a5 := (AtC.box w nul num A n c).ext he1
  have hA1 := (hrd.ext hE).ext he1
  have hE1 := hE.trans he1
  obtain ⟨f0, f1, f2, z5⟩ := a5
  go_wp2_with fail
  refine (twin_any nul num A n c txt _ hA1 hn1).mono ?_
  rintro e w2 ⟨A2, c2, rfl, hown2, he2⟩
  have a5 := (AtC.mk f0 f1 f2 z5).ext he2
  clear f0 f1 f2 z5
  have hX : Ext w2 (w2.alloc (.cells #[.bool nul, .int .i64 num, .slice A2 n c2] 24)) := (Ext.refl w2).alloc _
  have a7 := AtC.box w2 nul num A2 n c2
  have hA2 := (hA1.ext he2).ext hX
  have hB2 := (hown2.rd' (n := n) (hrd.len)).ext hX
  have hE2 := (hE1.trans he2).trans hX
  have a6 := a5.ext hX
  obtain ⟨f0, f1, f2, z5⟩ := a5
  go_wp2_with fail
  refine (HPr.out A c _ hA2).mono ?_
  rintro e w3 ⟨A3, c3, rfl, hown3, he3⟩
  have b5 := a6.ext he3
  have b7 := a7.ext he3
  have hA3 := hA2.ext he3
  have hB3 := hB2.ext he3
  have hE3 := hE2.trans he3
  have HB5 := Lib.hid b5
  have HB7 := Lib.hid b7
  clear f0 f1 f2 z5 a6 a7 hX hA2 hB2 hA1 hown2 he1 he2 hE1
  obtain ⟨f0, f1, f2, z5⟩ := b7
  go_wp2_with fail
  refine (HPp.out A2 c2 _ hB3).mono ?_
  rintro e w4 ⟨A4, c4, rfl, hown4, he4⟩
  have c5 := b5.ext he4
  have c7 := (AtC.mk f0 f1 f2 z5).ext he4
  have hA4 := hA3.ext he4
  have hB4 := hB3.ext he4
  have hE4 := hE3.trans he4
  clear f0 f1 f2 z5 b5
  obtain ⟨f0, f1, f2, z5⟩ := c7
  go_wp2_with fail
  refine (HPp.out A2 c2 _ hB4).mono ?_
  rintro e w5 ⟨A5, c5', rfl, hown5, he5⟩
  have d5 := c5.ext he5
  have d7 := (AtC.mk f0 f1 f2 z5).ext he5
  have hA5 := hA4.ext he5
  have hB5 := hB4.ext he5
  have hE5 := hE4.trans he5
  clear f0 f1 f2 z5 c5
  obtain ⟨f0, f1, f2, z5⟩ := d7
  obtain ⟨g0, g1, g2, y5⟩ := d5
  go_wp2_with fail
  refine (alike_yes nul num A2 n c2 txt A n c _ hB5 hA5 hn2).mono ?_
  rintro e w6 ⟨rfl, he6⟩
  have d5 := (AtC.mk g0 g1 g2 y5).ext he6
  have d7 := (AtC.mk f0 f1 f2 z5).ext he6
  clear f0 f1 f2 z5 g0 g1 g2 y5
  have n4 : ∀ a a2, A4 = some a → A5 = some a2 → a2.block ≠ a.block := fun a a2 ha ha2 => by have := (hown4.block a ha).2; have := (hown5.block a2 ha2).1; omega
  have n3 : ∀ a a2, A4 = some a → A3 = some a2 → a2.block ≠ a.block := fun a a2 ha ha2 => by have := (hown4.block a ha).1; have := (hown3.block a2 ha2).2; omega
  go_wp2_with fail
  refine (apart_any A4 A5 A3 m c4 c5' c3 w3.heap.size L w3 w6 ((hown4.ext he5).ext he6) Hm.out hLu ((hown5.ext he6).rd' Hm.out) ((((hown3.ext he4).ext he5).ext he6).rd' Hm.out) n4 n3 ((he4.trans he5).trans he6) (Nat.le_refl _) ((he4.trans he5).trans he6).size (by omega)).mono ?_
  rintro e w7 ⟨rfl, he7⟩
  obtain ⟨f0, f1, f2, z5⟩ := HB7.out.ext he7
  obtain ⟨g0, g1, g2, y5⟩ := HB5.out.ext he7
  have hA7 := hA3.ext he7
  have hB7 := hB3.ext he7
  clear d5 d7 hA5 hB5 hA4 hB4 hown3 hown4 hown5 he4 he5 he6 n3 n4
  go_wp2_with fail
  refine (alike_yes nul num A2 n c2 txt A n c _ hB7 hA7 hn2).mono ?_
  rintro e w8 ⟨rfl, he8⟩
  go_wp2
  go_ret
  exact ⟨rfl, (hE3.trans he7).trans he8⟩

theorem ordT_neg : ∀ {xs ys : List Nat}, ordT ys xs = - ordT xs ys
  | [], [] => rfl
  | [], _ :: _ => rfl
  | _ :: _, [] => rfl
  | x :: r, y :: s => by
    rcases Nat.lt_trichotomy x y with h | h | h
    · rw [ordT_lt h, ordT_gt h]; rfl
    · subst h; rw [ordT_eq rfl, ordT_eq rfl]; exact ordT_neg
    · rw [ordT_gt h, ordT_lt h]
theorem ordT_zero : ∀ {xs ys : List Nat}, ordT xs ys = 0 ↔ xs = ys
  | [], [] => by simp [ordT]
  | [], _ :: _ => by simp [ordT]
  | _ :: _, [] => by simp [ordT]
  | x :: r, y :: s => by
    rcases Nat.lt_trichotomy x y with h | h | h
    · rw [ordT_lt h]; simp; omega
    · subst h; rw [ordT_eq rfl, ordT_zero]; simp
    · rw [ordT_gt h]; simp; omega
theorem ordT_trans : ∀ {xs ys zs : List Nat}, ordT xs ys ≤ 0 → ordT ys zs ≤ 0 → ordT xs zs ≤ 0
  | [], _, [], _, _ => Int.le_refl _
  | [], _, _ :: _, _, _ => by rw [ordT_nil_cons]; decide
  | _ :: _, [], _, h, _ => by rw [ordT_cons_nil] at h; omega
  | _ :: _, _ :: _, [], _, h => by rw [ordT_cons_nil] at h; omega
  | x :: r, y :: s, z :: t, h, h2 => by
    have hxy : x ≤ y := by
      rcases Nat.lt_or_ge y x with q | q
      · rw [ordT_gt q] at h; omega
      · exact q
    have hyz : y ≤ z := by
      rcases Nat.lt_or_ge z y with q | q
      · rw [ordT_gt q] at h2; omega
      · exact q
    rcases Nat.lt_or_ge x z with q | q
    · rw [ordT_lt q]; decide
    · obtain rfl : x = y := by omega
      obtain rfl : x = z := by omega
      rw [ordT_eq rfl] at h h2 ⊢
      exact ordT_trans h h2

theorem rnk_neg {nul : Bool} {num : Int} {txt : List Nat} {nul2 : Bool} {num2 : Int} {txt2 : List Nat} : rnk nul2 num2 txt2 nul num txt = - rnk nul num txt nul2 num2 txt2 := by
  cases nul <;> cases nul2 <;> simp only [rnk, if_true, if_false, Bool.false_eq_true]
  · rcases Int.lt_trichotomy num num2 with h | h | h
    · rw [if_neg (by omega), if_pos h, if_pos h]; rfl
    · subst h; rw [if_neg (by omega), if_neg (by omega), if_neg (by omega), if_neg (by omega)]; exact ordT_neg
    · rw [if_pos h, if_neg (by omega), if_pos h]
  all_goals rfl
theorem rnk_trans {nul : Bool} {num : Int} {txt : List Nat} {nul2 : Bool} {num2 : Int} {txt2 : List Nat} {nul3 : Bool} {num3 : Int} {txt3 : List Nat}
    (h : rnk nul num txt nul2 num2 txt2 ≤ 0) (h2 : rnk nul2 num2 txt2 nul3 num3 txt3 ≤ 0) : rnk nul num txt nul3 num3 txt3 ≤ 0 := by
  cases nul <;> cases nul2 <;> cases nul3 <;> simp only [rnk, if_true, if_false, Bool.false_eq_true] at h h2 ⊢ <;> try omega
  · rcases Int.lt_trichotomy num num2 with q | q | q
    · rcases Int.lt_trichotomy num2 num3 with q2 | q2 | q2
      · rw [if_pos (by omega)]; decide
      · subst q2; rw [if_pos q]; decide
      · rw [if_neg (by omega), if_pos q2] at h2; omega
    · subst q
      rw [if_neg (by omega), if_neg (by omega)] at h
      rcases Int.lt_trichotomy num num3 with q2 | q2 | q2
      · rw [if_pos q2]; decide
      · subst q2
        rw [if_neg (by omega), if_neg (by omega)] at h2 ⊢
        exact ordT_trans h h2
      · rw [if_neg (by omega), if_pos q2] at h2; omega
    · rw [if_neg (by omega), if_pos q] at h; omega

/-- Cells without an error are alike just where neither stands ahead. -/
theorem rnk_zero {k : Int} {nul : Bool} {num : Int} {txt : List Nat} {nul2 : Bool} {num2 : Int} {txt2 : List Nat} (h : chk k true nul num txt = 0) (h2 : chk k true nul2 num2 txt2 = 0) :
    rnk nul num txt nul2 num2 txt2 = 0 ↔ alk nul num txt nul2 num2 txt2 = true := by
  rw [alk_iff]
  cases nul <;> cases nul2 <;> simp only [rnk, if_true, if_false, Bool.false_eq_true]
  · rcases Int.lt_trichotomy num num2 with q | q | q
    · rw [if_pos q]; simp; omega
    · subst q; rw [if_neg (by omega), if_neg (by omega), ordT_zero]; simp
    · rw [if_neg (by omega), if_pos q]; simp; omega
  · simp
  · simp
  · obtain ⟨_, e1, e2⟩ := chk_nul0 h
    obtain ⟨_, e3, e4⟩ := chk_nul0 h2
    simp [e1, e2, e3, e4]

end Go.Proofs.Ytdnbmffedccakaa
