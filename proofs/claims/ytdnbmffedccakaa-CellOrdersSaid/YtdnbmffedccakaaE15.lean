/-
  Layer 5: the statement CellOrders, walked.
-/
import Derived.Test.YtdnbmffedccakaaE14
namespace Go.Proofs.Ytdnbmffedccakaa
open Go.RowKit

/-- What four comparisons of three cells tell. -/
structure Told (a b c : Ci) (k O1 E1 O2 E2 O3 E3 O4 E4 : Int) (D : Bool) : Prop where
  o1 : O1 = cmpO k a.nul a.num a.txt b.nul b.num b.txt
  e1 : E1 = cmpE k a.nul a.num a.txt b.nul b.num b.txt
  o2 : O2 = cmpO k b.nul b.num b.txt a.nul a.num a.txt
  e2 : E2 = cmpE k b.nul b.num b.txt a.nul a.num a.txt
  o3 : O3 = cmpO k b.nul b.num b.txt c.nul c.num c.txt
  e3 : E3 = cmpE k b.nul b.num b.txt c.nul c.num c.txt
  o4 : O4 = cmpO k a.nul a.num a.txt c.nul c.num c.txt
  e4 : E4 = cmpE k a.nul a.num a.txt c.nul c.num c.txt
  d : D = alk a.nul a.num a.txt b.nul b.num b.txt

theorem rnk_range {nul : Bool} {num : Int} {txt : List Nat} {nul2 : Bool} {num2 : Int} {txt2 : List Nat} : -1 ≤ rnk nul num txt nul2 num2 txt2 ∧ rnk nul num txt nul2 num2 txt2 ≤ 1 := by
  have ho : ∀ xs ys : List Nat, -1 ≤ ordT xs ys ∧ ordT xs ys ≤ 1 := by
    intro xs
    induction xs with
    | nil => intro ys; cases ys <;> simp [ordT]
    | cons x r ih => intro ys; cases ys with
      | nil => simp [ordT]
      | cons y s => rw [ordT]; have := ih s; split <;> (try split) <;> omega
  unfold rnk
  have := ho txt txt2
  repeat' split
  all_goals omega

theorem told_facts {a b c : Ci} {k O1 E1 O2 E2 O3 E3 O4 E4 : Int} {D : Bool} (h : Told a b c k O1 E1 O2 E2 O3 E3 O4 E4 D) :
    (-1 ≤ O1 ∧ O1 ≤ 1) ∧ (E1 ≠ 0 ∨ (E1 = 0 ∧ E3 ≠ 0) ∨ (E1 = 0 ∧ E3 = 0 ∧ E2 = 0 ∧ E4 = 0 ∧ O2 = -O1 ∧ D = decide (O1 = 0) ∧ (0 < O1 ∨ (O1 ≤ 0 ∧ 0 < O3) ∨ (O1 ≤ 0 ∧ O3 ≤ 0 ∧ O4 ≤ 0)))) := by
  obtain ⟨o1, e1, o2, e2, o3, e3, o4, e4, d⟩ := h
  constructor
  · rw [o1]; unfold cmpO; split
    · exact rnk_range
    · omega
  unfold cmpO at o1 o2 o3 o4
  unfold cmpE at e1 e2 e3 e4
  by_cases ha : chk k true a.nul a.num a.txt = 0
  · rw [if_neg (fun q => q ha)] at e1 e4
    by_cases hb : chk k true b.nul b.num b.txt = 0
    · rw [if_neg (fun q => q hb)] at e2 e3
      rw [if_pos ⟨ha, hb⟩] at o1
      rw [if_pos ⟨hb, ha⟩] at o2
      by_cases hc : chk k true c.nul c.num c.txt = 0
      · rw [if_pos ⟨hb, hc⟩] at o3
        rw [if_pos ⟨ha, hc⟩] at o4
        refine .inr (.inr ⟨e1.trans hb, e3.trans hc, e2.trans ha, e4.trans hc, by rw [o2, o1]; exact rnk_neg, ?_, ?_⟩)
        · have hz := rnk_zero ha hb
          rw [← o1, ← d] at hz
          rw [Bool.eq_iff_iff, decide_eq_true_iff]
          exact hz.symm
        · rcases Int.lt_or_le 0 O1 with q | q
          · exact .inl q
          · rcases Int.lt_or_le 0 O3 with q2 | q2
            · exact .inr (.inl ⟨q, q2⟩)
            · exact .inr (.inr ⟨q, q2, by rw [o4]; exact rnk_trans (by rw [← o1]; exact q) (by rw [← o3]; exact q2)⟩)
      · exact .inr (.inl ⟨e1.trans hb, by rw [e3]; exact hc⟩)
    · exact .inl (by rw [e1]; exact hb)
  · rw [if_pos ha] at e1
    exact .inl (by rw [e1]; exact ha)

set_option maxHeartbeats 6400000 in
set_option maxRecDepth 100000 in
theorem walk_CellOrders (k : Int) (a b c : Ci) (w : World) (ha : a.In w) (hb : b.In w) (hc : c.In w) :
    Calls Try.prog 8 #[.int .i64 k, a.v, b.v, c.v] w fun e w' => e = .returned (.bool true) ∧ Ext w w' := by
  obtain ⟨O1, o1⟩ : ∃ O, O = cmpO k a.nul a.num a.txt b.nul b.num b.txt := ⟨_, rfl⟩
  obtain ⟨E1, e1⟩ : ∃ O, O = cmpE k a.nul a.num a.txt b.nul b.num b.txt := ⟨_, rfl⟩
  obtain ⟨O2, o2⟩ : ∃ O, O = cmpO k b.nul b.num b.txt a.nul a.num a.txt := ⟨_, rfl⟩
  obtain ⟨E2, e2⟩ : ∃ O, O = cmpE k b.nul b.num b.txt a.nul a.num a.txt := ⟨_, rfl⟩
  obtain ⟨O3, o3⟩ : ∃ O, O = cmpO k b.nul b.num b.txt c.nul c.num c.txt := ⟨_, rfl⟩
  obtain ⟨E3, e3⟩ : ∃ O, O = cmpE k b.nul b.num b.txt c.nul c.num c.txt := ⟨_, rfl⟩
  obtain ⟨O4, o4⟩ : ∃ O, O = cmpO k a.nul a.num a.txt c.nul c.num c.txt := ⟨_, rfl⟩
  obtain ⟨E4, e4⟩ : ∃ O, O = cmpE k a.nul a.num a.txt c.nul c.num c.txt := ⟨_, rfl⟩
  obtain ⟨D, d⟩ : ∃ D, D = alk a.nul a.num a.txt b.nul b.num b.txt := ⟨_, rfl⟩
  obtain ⟨hO, hcase⟩ := told_facts (a := a) (b := b) (c := c) ⟨o1, e1, o2, e2, o3, e3, o4, e4, d⟩
  obtain ⟨an, ai, aA, ac, at_⟩ := a
  obtain ⟨bn, bi, bA, bc, bt⟩ := b
  obtain ⟨cn, ci, cA, cc, ct⟩ := c
  obtain ⟨ard, au, a0, a1, al⟩ := ha
  obtain ⟨brd, bu, b0, b1, bl⟩ := hb
  obtain ⟨crd, cu, c0, c1, cl⟩ := hc
  simp only [Ci.v] at *
  obtain ⟨na, hna⟩ : ∃ n, n = at_.length := ⟨_, rfl⟩
  obtain ⟨nb, hnb⟩ : ∃ n, n = bt.length := ⟨_, rfl⟩
  obtain ⟨nc, hnc⟩ : ∃ n, n = ct.length := ⟨_, rfl⟩
  rw [← hna] at ard al ⊢
  rw [← hnb] at brd bl ⊢
  rw [← hnc] at crd cl ⊢
  clear hna hnb hnc
  have an1 : na ≤ 140737488355328 := by omega
  have bn1 : nb ≤ 140737488355328 := by omega
  have cn1 : nc ≤ 140737488355328 := by omega
  have H1 : Hid (∀ W, Ext w W → Calls Try.prog 32 #[.int .i64 k, .agg #[.bool an, .int .i64 ai, .slice aA na ac], .agg #[.bool bn, .int .i64 bi, .slice bA nb bc]] W fun e w' => e = .returned (.tuple #[.int .i64 O1, .int .i64 E1]) ∧ Ext W w') := Lib.hid (fun W hW => by
    rw [o1, e1]; exact compare_any k an ai aA na ac at_ bn bi bA nb bc bt W (ard.ext hW) (brd.ext hW) au bu an1 bn1 a0 a1 b0 b1)
  have H1r : Hid (∀ W, Ext w W → Calls Try.prog 33 #[.int .i64 k, .agg #[.bool an, .int .i64 ai, .slice aA na ac], .agg #[.bool bn, .int .i64 bi, .slice bA nb bc]] W fun e w' => e = .returned (.tuple #[.int .i64 O1, .int .i64 E1]) ∧ Ext W w') := Lib.hid (fun W hW => by
    rw [o1, e1]; exact refCompare_any k an ai aA na ac at_ bn bi bA nb bc bt W (ard.ext hW) (brd.ext hW) an1 bn1 a0 a1 b0 b1)
  have H2 : Hid (∀ W, Ext w W → Calls Try.prog 32 #[.int .i64 k, .agg #[.bool bn, .int .i64 bi, .slice bA nb bc], .agg #[.bool an, .int .i64 ai, .slice aA na ac]] W fun e w' => e = .returned (.tuple #[.int .i64 O2, .int .i64 E2]) ∧ Ext W w') := Lib.hid (fun W hW => by
    rw [o2, e2]; exact compare_any k bn bi bA nb bc bt an ai aA na ac at_ W (brd.ext hW) (ard.ext hW) bu au bn1 an1 b0 b1 a0 a1)
  have H3 : Hid (∀ W, Ext w W → Calls Try.prog 32 #[.int .i64 k, .agg #[.bool bn, .int .i64 bi, .slice bA nb bc], .agg #[.bool cn, .int .i64 ci, .slice cA nc cc]] W fun e w' => e = .returned (.tuple #[.int .i64 O3, .int .i64 E3]) ∧ Ext W w') := Lib.hid (fun W hW => by
    rw [o3, e3]; exact compare_any k bn bi bA nb bc bt cn ci cA nc cc ct W (brd.ext hW) (crd.ext hW) bu cu bn1 cn1 b0 b1 c0 c1)
  have H4 : Hid (∀ W, Ext w W → Calls Try.prog 32 #[.int .i64 k, .agg #[.bool an, .int .i64 ai, .slice aA na ac], .agg #[.bool cn, .int .i64 ci, .slice cA nc cc]] W fun e w' => e = .returned (.tuple #[.int .i64 O4, .int .i64 E4]) ∧ Ext W w') := Lib.hid (fun W hW => by
    rw [o4, e4]; exact compare_any k an ai aA na ac at_ cn ci cA nc cc ct W (ard.ext hW) (crd.ext hW) au cu an1 cn1 a0 a1 c0 c1)
  have HD : Hid (∀ W, Ext w W → Calls Try.prog 20 #[.agg #[.bool an, .int .i64 ai, .slice aA na ac], .agg #[.bool bn, .int .i64 bi, .slice bA nb bc]] W fun e w' => e = .returned (.bool D) ∧ Ext W w') := Lib.hid (fun W hW => by
    rw [d]; exact alike_any an ai aA na ac at_ bn bi bA nb bc bt W (ard.ext hW) (brd.ext hW) (by omega) (by omega))
  have k1 : (O1 != O1) = false := by simp
  have k2 : (E1 != E1) = false := by simp
  obtain ⟨hO1, hO2⟩ := hO
  have hE : Ext w (((w.alloc (.cells #[.bool an, .int .i64 ai, .slice aA na ac] 24)).alloc (.cells #[.bool bn, .int .i64 bi, .slice bA nb bc] 24)).alloc (.cells #[.bool cn, .int .i64 ci, .slice cA nc cc] 24)) := (((Ext.refl w).alloc _).alloc _).alloc _
  have s1 : (w.alloc (.cells #[.bool an, .int .i64 ai, .slice aA na ac] 24)).heap.size = w.heap.size + 1 := by simp
  have s2 : ((w.alloc (.cells #[.bool an, .int .i64 ai, .slice aA na ac] 24)).alloc (.cells #[.bool bn, .int .i64 bi, .slice bA nb bc] 24)).heap.size = w.heap.size + 1 + 1 := by simp
  have qa := ((AtC.box w an ai aA na ac).ext ((Ext.refl _).alloc (.cells #[.bool bn, .int .i64 bi, .slice bA nb bc] 24))).ext ((Ext.refl _).alloc (.cells #[.bool cn, .int .i64 ci, .slice cA nc cc] 24))
  have qb := (AtC.box (w.alloc (.cells #[.bool an, .int .i64 ai, .slice aA na ac] 24)) bn bi bA nb bc).ext ((Ext.refl _).alloc (.cells #[.bool cn, .int .i64 ci, .slice cA nc cc] 24))
  have qc := AtC.box ((w.alloc (.cells #[.bool an, .int .i64 ai, .slice aA na ac] 24)).alloc (.cells #[.bool bn, .int .i64 bi, .slice bA nb bc] 24)) cn ci cA nc cc
  rw [s1] at qb
  rw [s2] at qc
  clear ard brd crd al bl cl a0 a1 b0 b1 c0 c1 o1 e1 o2 e2 o3 e3 o4 e4 d au bu cu s1 s2
  rcases hcase with q1 | ⟨q1, q3⟩ | ⟨q1, q3, q2, q4, qo, qd, qz⟩
  · have b1 : (E1 != 0) = true := by rw [bne_iff_ne]; exact q1
    clear q1
    go_enter Try.func8, Try.ntmps8
    go_wp2_with fail
    refine (alive5 _).mono ?_
    rintro e w1 ⟨rfl, he1⟩
    have qa := qa.ext he1
    have qb := qb.ext he1
    have qc := qc.ext he1
    have hE := hE.trans he1
    clear he1
    obtain ⟨xa0, xa1, xa2, xa3⟩ := qa
    obtain ⟨xb0, xb1, xb2, xb3⟩ := qb
    obtain ⟨xc0, xc1, xc2, xc3⟩ := qc
    go_wp2_with fail
    refine (H1.out _ hE).mono ?_
    rintro e w2 ⟨rfl, he⟩
    have qa := (AtC.mk xa0 xa1 xa2 xa3).ext he
    have qb := (AtC.mk xb0 xb1 xb2 xb3).ext he
    have qc := (AtC.mk xc0 xc1 xc2 xc3).ext he
    have hE := hE.trans he
    clear he xa0 xa1 xa2 xa3 xb0 xb1 xb2 xb3 xc0 xc1 xc2 xc3
    obtain ⟨xa0, xa1, xa2, xa3⟩ := qa
    obtain ⟨xb0, xb1, xb2, xb3⟩ := qb
    obtain ⟨xc0, xc1, xc2, xc3⟩ := qc
    go_wp2_with fail
    refine (H1r.out _ hE).mono ?_
    rintro e w3 ⟨rfl, he⟩
    have qa := (AtC.mk xa0 xa1 xa2 xa3).ext he
    have qb := (AtC.mk xb0 xb1 xb2 xb3).ext he
    have qc := (AtC.mk xc0 xc1 xc2 xc3).ext he
    have hE := hE.trans he
    clear he xa0 xa1 xa2 xa3 xb0 xb1 xb2 xb3 xc0 xc1 xc2 xc3
    obtain ⟨xa0, xa1, xa2, xa3⟩ := qa
    obtain ⟨xb0, xb1, xb2, xb3⟩ := qb
    obtain ⟨xc0, xc1, xc2, xc3⟩ := qc
    go_wp2_with fail
    refine (H2.out _ hE).mono ?_
    rintro e w4 ⟨rfl, he⟩
    have qa := (AtC.mk xa0 xa1 xa2 xa3).ext he
    have qb := (AtC.mk xb0 xb1 xb2 xb3).ext he
    have qc := (AtC.mk xc0 xc1 xc2 xc3).ext he
    have hE := hE.trans he
    clear he xa0 xa1 xa2 xa3 xb0 xb1 xb2 xb3 xc0 xc1 xc2 xc3
    obtain ⟨xa0, xa1, xa2, xa3⟩ := qa
    obtain ⟨xb0, xb1, xb2, xb3⟩ := qb
    obtain ⟨xc0, xc1, xc2, xc3⟩ := qc
    go_wp2_with fail
    refine (H3.out _ hE).mono ?_
    rintro e w5 ⟨rfl, he⟩
    have qa := (AtC.mk xa0 xa1 xa2 xa3).ext he
    have qb := (AtC.mk xb0 xb1 xb2 xb3).ext he
    have qc := (AtC.mk xc0 xc1 xc2 xc3).ext he
    have hE := hE.trans he
    clear he xa0 xa1 xa2 xa3 xb0 xb1 xb2 xb3 xc0 xc1 xc2 xc3
    obtain ⟨xa0, xa1, xa2, xa3⟩ := qa
    obtain ⟨xb0, xb1, xb2, xb3⟩ := qb
    obtain ⟨xc0, xc1, xc2, xc3⟩ := qc
    go_wp2_with fail
    refine (H4.out _ hE).mono ?_
    rintro e w6 ⟨rfl, he⟩
    have qa := (AtC.mk xa0 xa1 xa2 xa3).ext he
    have qb := (AtC.mk xb0 xb1 xb2 xb3).ext he
    have qc := (AtC.mk xc0 xc1 xc2 xc3).ext he
    have hE := hE.trans he
    clear he xa0 xa1 xa2 xa3 xb0 xb1 xb2 xb3 xc0 xc1 xc2 xc3
    obtain ⟨xa0, xa1, xa2, xa3⟩ := qa
    obtain ⟨xb0, xb1, xb2, xb3⟩ := qb
    obtain ⟨xc0, xc1, xc2, xc3⟩ := qc
    go_wp2
    go_ret
    exact ⟨rfl, hE⟩
  · have b1 : (E3 != 0) = true := by rw [bne_iff_ne]; exact q3
    subst q1
    clear q3
    go_enter Try.func8, Try.ntmps8
    go_wp2_with fail
    refine (alive5 _).mono ?_
    rintro e w1 ⟨rfl, he1⟩
    have qa := qa.ext he1
    have qb := qb.ext he1
    have qc := qc.ext he1
    have hE := hE.trans he1
    clear he1
    obtain ⟨xa0, xa1, xa2, xa3⟩ := qa
    obtain ⟨xb0, xb1, xb2, xb3⟩ := qb
    obtain ⟨xc0, xc1, xc2, xc3⟩ := qc
    go_wp2_with fail
    refine (H1.out _ hE).mono ?_
    rintro e w2 ⟨rfl, he⟩
    have qa := (AtC.mk xa0 xa1 xa2 xa3).ext he
    have qb := (AtC.mk xb0 xb1 xb2 xb3).ext he
    have qc := (AtC.mk xc0 xc1 xc2 xc3).ext he
    have hE := hE.trans he
    clear he xa0 xa1 xa2 xa3 xb0 xb1 xb2 xb3 xc0 xc1 xc2 xc3
    obtain ⟨xa0, xa1, xa2, xa3⟩ := qa
    obtain ⟨xb0, xb1, xb2, xb3⟩ := qb
    obtain ⟨xc0, xc1, xc2, xc3⟩ := qc
    go_wp2_with fail
    refine (H1r.out _ hE).mono ?_
    rintro e w3 ⟨rfl, he⟩
    have qa := (AtC.mk xa0 xa1 xa2 xa3).ext he
    have qb := (AtC.mk xb0 xb1 xb2 xb3).ext he
    have qc := (AtC.mk xc0 xc1 xc2 xc3).ext he
    have hE := hE.trans he
    clear he xa0 xa1 xa2 xa3 xb0 xb1 xb2 xb3 xc0 xc1 xc2 xc3
    obtain ⟨xa0, xa1, xa2, xa3⟩ := qa
    obtain ⟨xb0, xb1, xb2, xb3⟩ := qb
    obtain ⟨xc0, xc1, xc2, xc3⟩ := qc
    go_wp2_with fail
    refine (H2.out _ hE).mono ?_
    rintro e w4 ⟨rfl, he⟩
    have qa := (AtC.mk xa0 xa1 xa2 xa3).ext he
    have qb := (AtC.mk xb0 xb1 xb2 xb3).ext he
    have qc := (AtC.mk xc0 xc1 xc2 xc3).ext he
    have hE := hE.trans he
    clear he xa0 xa1 xa2 xa3 xb0 xb1 xb2 xb3 xc0 xc1 xc2 xc3
    obtain ⟨xa0, xa1, xa2, xa3⟩ := qa
    obtain ⟨xb0, xb1, xb2, xb3⟩ := qb
    obtain ⟨xc0, xc1, xc2, xc3⟩ := qc
    go_wp2_with fail
    refine (H3.out _ hE).mono ?_
    rintro e w5 ⟨rfl, he⟩
    have qa := (AtC.mk xa0 xa1 xa2 xa3).ext he
    have qb := (AtC.mk xb0 xb1 xb2 xb3).ext he
    have qc := (AtC.mk xc0 xc1 xc2 xc3).ext he
    have hE := hE.trans he
    clear he xa0 xa1 xa2 xa3 xb0 xb1 xb2 xb3 xc0 xc1 xc2 xc3
    obtain ⟨xa0, xa1, xa2, xa3⟩ := qa
    obtain ⟨xb0, xb1, xb2, xb3⟩ := qb
    obtain ⟨xc0, xc1, xc2, xc3⟩ := qc
    go_wp2_with fail
    refine (H4.out _ hE).mono ?_
    rintro e w6 ⟨rfl, he⟩
    have qa := (AtC.mk xa0 xa1 xa2 xa3).ext he
    have qb := (AtC.mk xb0 xb1 xb2 xb3).ext he
    have qc := (AtC.mk xc0 xc1 xc2 xc3).ext he
    have hE := hE.trans he
    clear he xa0 xa1 xa2 xa3 xb0 xb1 xb2 xb3 xc0 xc1 xc2 xc3
    obtain ⟨xa0, xa1, xa2, xa3⟩ := qa
    obtain ⟨xb0, xb1, xb2, xb3⟩ := qb
    obtain ⟨xc0, xc1, xc2, xc3⟩ := qc
    go_wp2
    go_ret
    exact ⟨rfl, hE⟩
  · subst q1 q3 q2 q4
    have hq : ∃ b, b = decide (O1 = 0) ∧ (O1 == 0) = b := ⟨_, rfl, beq_dec O1 0⟩
    obtain ⟨B, hB, hB2⟩ := hq
    rw [← hB] at qd
    subst qd
    clear hB
    have k3 : (D != D) = false := by simp
    have k4 : (O2 != -O1) = false := by simp [qo]
    subst qo
    rcases qz with z1 | ⟨z1, z2⟩ | ⟨z1, z2, z3⟩
    · have d1 : decide (0 < O1) = true := decide_eq_true z1
      go_enter Try.func8, Try.ntmps8
      go_wp2_with fail
      refine (alive5 _).mono ?_
      rintro e w1 ⟨rfl, he1⟩
      have qa := qa.ext he1
      have qb := qb.ext he1
      have qc := qc.ext he1
      have hE := hE.trans he1
      clear he1
      obtain ⟨xa0, xa1, xa2, xa3⟩ := qa
      obtain ⟨xb0, xb1, xb2, xb3⟩ := qb
      obtain ⟨xc0, xc1, xc2, xc3⟩ := qc
      go_wp2_with fail
      refine (H1.out _ hE).mono ?_
      rintro e w2 ⟨rfl, he⟩
      have qa := (AtC.mk xa0 xa1 xa2 xa3).ext he
      have qb := (AtC.mk xb0 xb1 xb2 xb3).ext he
      have qc := (AtC.mk xc0 xc1 xc2 xc3).ext he
      have hE := hE.trans he
      clear he xa0 xa1 xa2 xa3 xb0 xb1 xb2 xb3 xc0 xc1 xc2 xc3
      obtain ⟨xa0, xa1, xa2, xa3⟩ := qa
      obtain ⟨xb0, xb1, xb2, xb3⟩ := qb
      obtain ⟨xc0, xc1, xc2, xc3⟩ := qc
      go_wp2_with fail
      refine (H1r.out _ hE).mono ?_
      rintro e w3 ⟨rfl, he⟩
      have qa := (AtC.mk xa0 xa1 xa2 xa3).ext he
      have qb := (AtC.mk xb0 xb1 xb2 xb3).ext he
      have qc := (AtC.mk xc0 xc1 xc2 xc3).ext he
      have hE := hE.trans he
      clear he xa0 xa1 xa2 xa3 xb0 xb1 xb2 xb3 xc0 xc1 xc2 xc3
      obtain ⟨xa0, xa1, xa2, xa3⟩ := qa
      obtain ⟨xb0, xb1, xb2, xb3⟩ := qb
      obtain ⟨xc0, xc1, xc2, xc3⟩ := qc
      go_wp2_with fail
      refine (H2.out _ hE).mono ?_
      rintro e w4 ⟨rfl, he⟩
      have qa := (AtC.mk xa0 xa1 xa2 xa3).ext he
      have qb := (AtC.mk xb0 xb1 xb2 xb3).ext he
      have qc := (AtC.mk xc0 xc1 xc2 xc3).ext he
      have hE := hE.trans he
      clear he xa0 xa1 xa2 xa3 xb0 xb1 xb2 xb3 xc0 xc1 xc2 xc3
      obtain ⟨xa0, xa1, xa2, xa3⟩ := qa
      obtain ⟨xb0, xb1, xb2, xb3⟩ := qb
      obtain ⟨xc0, xc1, xc2, xc3⟩ := qc
      go_wp2_with fail
      refine (H3.out _ hE).mono ?_
      rintro e w5 ⟨rfl, he⟩
      have qa := (AtC.mk xa0 xa1 xa2 xa3).ext he
      have qb := (AtC.mk xb0 xb1 xb2 xb3).ext he
      have qc := (AtC.mk xc0 xc1 xc2 xc3).ext he
      have hE := hE.trans he
      clear he xa0 xa1 xa2 xa3 xb0 xb1 xb2 xb3 xc0 xc1 xc2 xc3
      obtain ⟨xa0, xa1, xa2, xa3⟩ := qa
      obtain ⟨xb0, xb1, xb2, xb3⟩ := qb
      obtain ⟨xc0, xc1, xc2, xc3⟩ := qc
      go_wp2_with fail
      refine (H4.out _ hE).mono ?_
      rintro e w6 ⟨rfl, he⟩
      have qa := (AtC.mk xa0 xa1 xa2 xa3).ext he
      have qb := (AtC.mk xb0 xb1 xb2 xb3).ext he
      have qc := (AtC.mk xc0 xc1 xc2 xc3).ext he
      have hE := hE.trans he
      clear he xa0 xa1 xa2 xa3 xb0 xb1 xb2 xb3 xc0 xc1 xc2 xc3
      obtain ⟨xa0, xa1, xa2, xa3⟩ := qa
      obtain ⟨xb0, xb1, xb2, xb3⟩ := qb
      obtain ⟨xc0, xc1, xc2, xc3⟩ := qc
      go_wp2_with fail
      refine (HD.out _ hE).mono ?_
      rintro e w7 ⟨rfl, he⟩
      have qa := (AtC.mk xa0 xa1 xa2 xa3).ext he
      have qb := (AtC.mk xb0 xb1 xb2 xb3).ext he
      have qc := (AtC.mk xc0 xc1 xc2 xc3).ext he
      have hE := hE.trans he
      clear he xa0 xa1 xa2 xa3 xb0 xb1 xb2 xb3 xc0 xc1 xc2 xc3
      obtain ⟨xa0, xa1, xa2, xa3⟩ := qa
      obtain ⟨xb0, xb1, xb2, xb3⟩ := qb
      obtain ⟨xc0, xc1, xc2, xc3⟩ := qc
      go_wp2
      go_ret
      exact ⟨rfl, hE⟩
    · have d1 : decide (0 < O1) = false := decide_eq_false (by omega)
      have d2 : decide (0 < O3) = true := decide_eq_true z2
      go_enter Try.func8, Try.ntmps8
      go_wp2_with fail
      refine (alive5 _).mono ?_
      rintro e w1 ⟨rfl, he1⟩
      have qa := qa.ext he1
      have qb := qb.ext he1
      have qc := qc.ext he1
      have hE := hE.trans he1
      clear he1
      obtain ⟨xa0, xa1, xa2, xa3⟩ := qa
      obtain ⟨xb0, xb1, xb2, xb3⟩ := qb
      obtain ⟨xc0, xc1, xc2, xc3⟩ := qc
      go_wp2_with fail
      refine (H1.out _ hE).mono ?_
      rintro e w2 ⟨rfl, he⟩
      have qa := (AtC.mk xa0 xa1 xa2 xa3).ext he
      have qb := (AtC.mk xb0 xb1 xb2 xb3).ext he
      have qc := (AtC.mk xc0 xc1 xc2 xc3).ext he
      have hE := hE.trans he
      clear he xa0 xa1 xa2 xa3 xb0 xb1 xb2 xb3 xc0 xc1 xc2 xc3
      obtain ⟨xa0, xa1, xa2, xa3⟩ := qa
      obtain ⟨xb0, xb1, xb2, xb3⟩ := qb
      obtain ⟨xc0, xc1, xc2, xc3⟩ := qc
      go_wp2_with fail
      refine (H1r.out _ hE).mono ?_
      rintro e w3 ⟨rfl, he⟩
      have qa := (AtC.mk xa0 xa1 xa2 xa3).ext he
      have qb := (AtC.mk xb0 xb1 xb2 xb3).ext he
      have qc := (AtC.mk xc0 xc1 xc2 xc3).ext he
      have hE := hE.trans he
      clear he xa0 xa1 xa2 xa3 xb0 xb1 xb2 xb3 xc0 xc1 xc2 xc3
      obtain ⟨xa0, xa1, xa2, xa3⟩ := qa
      obtain ⟨xb0, xb1, xb2, xb3⟩ := qb
      obtain ⟨xc0, xc1, xc2, xc3⟩ := qc
      go_wp2_with fail
      refine (H2.out _ hE).mono ?_
      rintro e w4 ⟨rfl, he⟩
      have qa := (AtC.mk xa0 xa1 xa2 xa3).ext he
      have qb := (AtC.mk xb0 xb1 xb2 xb3).ext he
      have qc := (AtC.mk xc0 xc1 xc2 xc3).ext he
      have hE := hE.trans he
      clear he xa0 xa1 xa2 xa3 xb0 xb1 xb2 xb3 xc0 xc1 xc2 xc3
      obtain ⟨xa0, xa1, xa2, xa3⟩ := qa
      obtain ⟨xb0, xb1, xb2, xb3⟩ := qb
      obtain ⟨xc0, xc1, xc2, xc3⟩ := qc
      go_wp2_with fail
      refine (H3.out _ hE).mono ?_
      rintro e w5 ⟨rfl, he⟩
      have qa := (AtC.mk xa0 xa1 xa2 xa3).ext he
      have qb := (AtC.mk xb0 xb1 xb2 xb3).ext he
      have qc := (AtC.mk xc0 xc1 xc2 xc3).ext he
      have hE := hE.trans he
      clear he xa0 xa1 xa2 xa3 xb0 xb1 xb2 xb3 xc0 xc1 xc2 xc3
      obtain ⟨xa0, xa1, xa2, xa3⟩ := qa
      obtain ⟨xb0, xb1, xb2, xb3⟩ := qb
      obtain ⟨xc0, xc1, xc2, xc3⟩ := qc
      go_wp2_with fail
      refine (H4.out _ hE).mono ?_
      rintro e w6 ⟨rfl, he⟩
      have qa := (AtC.mk xa0 xa1 xa2 xa3).ext he
      have qb := (AtC.mk xb0 xb1 xb2 xb3).ext he
      have qc := (AtC.mk xc0 xc1 xc2 xc3).ext he
      have hE := hE.trans he
      clear he xa0 xa1 xa2 xa3 xb0 xb1 xb2 xb3 xc0 xc1 xc2 xc3
      obtain ⟨xa0, xa1, xa2, xa3⟩ := qa
      obtain ⟨xb0, xb1, xb2, xb3⟩ := qb
      obtain ⟨xc0, xc1, xc2, xc3⟩ := qc
      go_wp2_with fail
      refine (HD.out _ hE).mono ?_
      rintro e w7 ⟨rfl, he⟩
      have qa := (AtC.mk xa0 xa1 xa2 xa3).ext he
      have qb := (AtC.mk xb0 xb1 xb2 xb3).ext he
      have qc := (AtC.mk xc0 xc1 xc2 xc3).ext he
      have hE := hE.trans he
      clear he xa0 xa1 xa2 xa3 xb0 xb1 xb2 xb3 xc0 xc1 xc2 xc3
      obtain ⟨xa0, xa1, xa2, xa3⟩ := qa
      obtain ⟨xb0, xb1, xb2, xb3⟩ := qb
      obtain ⟨xc0, xc1, xc2, xc3⟩ := qc
      go_wp2
      go_ret
      exact ⟨rfl, hE⟩
    · have d1 : decide (0 < O1) = false := decide_eq_false (by omega)
      have d2 : decide (0 < O3) = false := decide_eq_false (by omega)
      have d3 : decide (O4 ≤ 0) = true := decide_eq_true z3
      go_enter Try.func8, Try.ntmps8
      go_wp2_with fail
      refine (alive5 _).mono ?_
      rintro e w1 ⟨rfl, he1⟩
      have qa := qa.ext he1
      have qb := qb.ext he1
      have qc := qc.ext he1
      have hE := hE.trans he1
      clear he1
      obtain ⟨xa0, xa1, xa2, xa3⟩ := qa
      obtain ⟨xb0, xb1, xb2, xb3⟩ := qb
      obtain ⟨xc0, xc1, xc2, xc3⟩ := qc
      go_wp2_with fail
      refine (H1.out _ hE).mono ?_
      rintro e w2 ⟨rfl, he⟩
      have qa := (AtC.mk xa0 xa1 xa2 xa3).ext he
      have qb := (AtC.mk xb0 xb1 xb2 xb3).ext he
      have qc := (AtC.mk xc0 xc1 xc2 xc3).ext he
      have hE := hE.trans he
      clear he xa0 xa1 xa2 xa3 xb0 xb1 xb2 xb3 xc0 xc1 xc2 xc3
      obtain ⟨xa0, xa1, xa2, xa3⟩ := qa
      obtain ⟨xb0, xb1, xb2, xb3⟩ := qb
      obtain ⟨xc0, xc1, xc2, xc3⟩ := qc
      go_wp2_with fail
      refine (H1r.out _ hE).mono ?_
      rintro e w3 ⟨rfl, he⟩
      have qa := (AtC.mk xa0 xa1 xa2 xa3).ext he
      have qb := (AtC.mk xb0 xb1 xb2 xb3).ext he
      have qc := (AtC.mk xc0 xc1 xc2 xc3).ext he
      have hE := hE.trans he
      clear he xa0 xa1 xa2 xa3 xb0 xb1 xb2 xb3 xc0 xc1 xc2 xc3
      obtain ⟨xa0, xa1, xa2, xa3⟩ := qa
      obtain ⟨xb0, xb1, xb2, xb3⟩ := qb
      obtain ⟨xc0, xc1, xc2, xc3⟩ := qc
      go_wp2_with fail
      refine (H2.out _ hE).mono ?_
      rintro e w4 ⟨rfl, he⟩
      have qa := (AtC.mk xa0 xa1 xa2 xa3).ext he
      have qb := (AtC.mk xb0 xb1 xb2 xb3).ext he
      have qc := (AtC.mk xc0 xc1 xc2 xc3).ext he
      have hE := hE.trans he
      clear he xa0 xa1 xa2 xa3 xb0 xb1 xb2 xb3 xc0 xc1 xc2 xc3
      obtain ⟨xa0, xa1, xa2, xa3⟩ := qa
      obtain ⟨xb0, xb1, xb2, xb3⟩ := qb
      obtain ⟨xc0, xc1, xc2, xc3⟩ := qc
      go_wp2_with fail
      refine (H3.out _ hE).mono ?_
      rintro e w5 ⟨rfl, he⟩
      have qa := (AtC.mk xa0 xa1 xa2 xa3).ext he
      have qb := (AtC.mk xb0 xb1 xb2 xb3).ext he
      have qc := (AtC.mk xc0 xc1 xc2 xc3).ext he
      have hE := hE.trans he
      clear he xa0 xa1 xa2 xa3 xb0 xb1 xb2 xb3 xc0 xc1 xc2 xc3
      obtain ⟨xa0, xa1, xa2, xa3⟩ := qa
      obtain ⟨xb0, xb1, xb2, xb3⟩ := qb
      obtain ⟨xc0, xc1, xc2, xc3⟩ := qc
      go_wp2_with fail
      refine (H4.out _ hE).mono ?_
      rintro e w6 ⟨rfl, he⟩
      have qa := (AtC.mk xa0 xa1 xa2 xa3).ext he
      have qb := (AtC.mk xb0 xb1 xb2 xb3).ext he
      have qc := (AtC.mk xc0 xc1 xc2 xc3).ext he
      have hE := hE.trans he
      clear he xa0 xa1 xa2 xa3 xb0 xb1 xb2 xb3 xc0 xc1 xc2 xc3
      obtain ⟨xa0, xa1, xa2, xa3⟩ := qa
      obtain ⟨xb0, xb1, xb2, xb3⟩ := qb
      obtain ⟨xc0, xc1, xc2, xc3⟩ := qc
      go_wp2_with fail
      refine (HD.out _ hE).mono ?_
      rintro e w7 ⟨rfl, he⟩
      have qa := (AtC.mk xa0 xa1 xa2 xa3).ext he
      have qb := (AtC.mk xb0 xb1 xb2 xb3).ext he
      have qc := (AtC.mk xc0 xc1 xc2 xc3).ext he
      have hE := hE.trans he
      clear he xa0 xa1 xa2 xa3 xb0 xb1 xb2 xb3 xc0 xc1 xc2 xc3
      obtain ⟨xa0, xa1, xa2, xa3⟩ := qa
      obtain ⟨xb0, xb1, xb2, xb3⟩ := qb
      obtain ⟨xc0, xc1, xc2, xc3⟩ := qc
      go_wp2
      go_ret
      exact ⟨rfl, hE⟩

end Go.Proofs.Ytdnbmffedccakaa
