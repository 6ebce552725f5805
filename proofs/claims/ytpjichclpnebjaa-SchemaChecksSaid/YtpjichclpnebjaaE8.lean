/-
  Layer 5: a cell written, by the program and by the document.
-/
import Derived.Test.YtpjichclpnebjaaE7m
import Derived.Test.YtpjichclpnebjaaCT
namespace Go.Proofs.Ytpjichclpnebjaa
open Go.RowKit

theorem foldS_nat {v : Int} (h0 : -9223372036854775808 ≤ v) (h1 : v ≤ 9223372036854775807) : ∃ U : Nat, foldS v = (U : Int) ∧ U < 18446744073709551616 := by
  unfold foldS
  by_cases h : v < 0
  · rw [if_pos h]; exact ⟨(-2 * v - 1).toNat, by omega, by omega⟩
  · rw [if_neg h]; exact ⟨(2 * v).toNat, by omega, by omega⟩

/-- A cell's bytes. -/
def cby (k : Int) (nul : Bool) (num : Int) (txt : List Nat) : List Nat :=
  if nul = true then [0] else if k ≤ 6 then 1 :: vput (foldS num).toNat else 1 :: (vput txt.length ++ txt)
/-- What Put answers. -/
def cputL (k : Int) (nul : Bool) (num : Int) (txt : List Nat) : List Nat := if chk k true nul num txt = 0 then cby k nul num txt else []

theorem refFold_any (v : Int) (w : World) (h0 : -9223372036854775808 ≤ v) (h1 : v ≤ 9223372036854775807) :
    Calls Try.prog 80 #[.int .i64 v] w fun e w' => e = .returned (.int .u64 (foldS v)) ∧ w = w' := by
  obtain ⟨R, hR⟩ : ∃ R, R = foldS v := ⟨_, rfl⟩
  rw [← hR]
  unfold foldS at hR
  have HR := Lib.hid hR
  clear hR
  by_cases h : v < 0
  · have b1 : decide (0 ≤ v) = false := decide_eq_false (by omega)
    have h3 := HR.out
    rw [if_pos h] at h3
    have H3 := Lib.hid h3
    clear h3
    go_enter Try.func80, Try.ntmps80
    go_wp2
    go_ret
    refine ⟨ret_int ?_, rfl⟩
    have := H3.out
    omega
  · have h2 : 0 ≤ v := by omega
    have h3 := HR.out
    rw [if_neg h] at h3
    have H3 := Lib.hid h3
    clear h3
    go_enter Try.func80, Try.ntmps80
    go_wp2
    go_ret
    refine ⟨ret_int ?_, rfl⟩
    have := H3.out
    omega

theorem cby_num {k num : Int} {txt : List Nat} {U : Nat} (hk : k ≤ 6) (hU : foldS num = (U : Int)) : cby k false num txt = 1 :: vput U := by
  unfold cby; rw [if_neg (by decide), if_pos hk, hU, Int.toNat_natCast]
theorem cby_txt {k num : Int} {txt : List Nat} (hk : ¬ k ≤ 6) : cby k false num txt = 1 :: (vput txt.length ++ txt) := by
  unfold cby; rw [if_neg (by decide), if_neg hk]

/-- What Put leaves. -/
def CPutPost (L : List Nat) (E : Int) (w : World) (e : Ending) (w' : World) : Prop :=
  ∃ A' c', e = .returned (.tuple #[.slice A' L.length c', .int .i64 E]) ∧ Own .u8 5 w' w.heap.size A' c' L ∧ Ext w w'

set_option maxHeartbeats 1600000 in
theorem cput_any (k : Int) (nul : Bool) (num : Int) (A : Option Addr) (n c : Nat) (txt : List Nat) (w : World)
    (hx : Rd .u8 w A n txt) (hu : U8 txt) (hn : n ≤ 140737488355328) (h0 : -9223372036854775808 ≤ num) (h1 : num ≤ 9223372036854775807) :
    Calls Try.prog 81 #[.int .i64 k, .agg #[.bool nul, .int .i64 num, .slice A n c]] w (CPutPost (cputL k nul num txt) (chk k true nul num txt) w) := by
  have hE : Ext w (w.alloc (.cells #[.bool nul, .int .i64 num, .slice A n c] 82)) := (Ext.refl w).alloc _
  have hx2 := hx.ext hE
  have hl := hx.len
  obtain ⟨L, hL⟩ : ∃ L, L = cputL k nul num txt := ⟨_, rfl⟩
  rw [← hL]
  unfold cputL at hL
  obtain ⟨R, hR⟩ : ∃ R, R = chk k true nul num txt := ⟨_, rfl⟩
  rw [← hR] at hL ⊢
  have HR := Lib.hid hR
  have Hl := Lib.hid hl
  clear hR hl
  by_cases r0 : R = 0
  · rw [if_pos r0] at hL
    have hk8 := chk_kind (HR.out.symm.trans r0)
    have b1 : (R != 0) = false := by simp [r0]
    have Hr0 := Lib.hid r0
    have HL := Lib.hid hL
    clear r0 hL
    cases nul with
    | true =>
      have hL2 : L = [0] := HL.out
      clear HL
      subst hL2
      go_enter Try.func81, Try.ntmps81
      go_wp2_with fail
      refine (check_any k true true num A n c txt _ hx2 hu h0 h1 hn).mono ?_
      rintro e w1 ⟨rfl, he1⟩
      rw [← HR.out]
      have hc1 := he1.cells
      have hE1 := hE.trans he1
      go_wp2
      go_ret2
      exact ⟨_, _, by rw [Hr0.out]; rfl, (ownLit w1 [0] (by decide)).mono hE1.size, hE1.alloc _⟩
    | false =>
      by_cases hk6 : k ≤ 6
      · have Hk := Lib.hid (numK_yes (k := k) ⟨hk8.1, hk6⟩)
        obtain ⟨U, hU, hUl⟩ := foldS_nat h0 h1
        have hL2 : L = [[1], vput U].flatten := HL.out.trans ((cby_num hk6 hU).trans (by simp))
        have HL2 := Lib.hid hL2
        have HU := Lib.hid hU
        have hvs := vsize_le hUl
        have hLl : ([[1], vput U] : List (List Nat)).flatten.length = vsize U + 1 := by simp [vput_len]
        have HLl := Lib.hid hLl
        clear hL2 hU hk6 hk8 hLl HL
        go_enter Try.func81, Try.ntmps81
        go_wp2_with fail
        refine (check_any k true false num A n c txt _ hx2 hu h0 h1 hn).mono ?_
        rintro e w1 ⟨rfl, he1⟩
        rw [← HR.out]
        have hc1 := he1.cells
        have hE1 := hE.trans he1
        have hz1 : w.heap.size < w1.heap.size := by have := he1.size; simp at this; omega
        go_wp2_with fail
        refine (number_any _ _).mono ?_
        rintro e w2 ⟨rfl, rfl⟩
        rw [Hk.out]
        go_wp2_with fail
        refine (fold_any _ _ h0 h1).mono ?_
        rintro e w2 ⟨rfl, rfl⟩
        rw [HU.out]
        go_wp2_with fail
        refine (put_any U _ hUl).mono ?_
        rintro e w2 ⟨A2, c2, rfl, hown2, he2⟩
        have hr1 : Rd .u8 w2 (some ⟨w1.heap.size, 0, none⟩) 1 [1] := (Rd.lit .u8 5 w1 [1]).ext he2
        have hr2 := hown2.rd
        have hss := RdSS.two 59 w2 (c := 1) (c2 := c2) rfl hr1 hr2
        go_wp2_with fail
        refine (concat_any _ 2 _ _ _ hss (by rw [HLl.out]; omega) (by omega)).mono ?_
        rintro e w3 ⟨A3, c3, rfl, hown3, he3⟩
        rw [← HL2.out] at hown3 ⊢
        have hE3 := (((hE1.alloc _).trans he2).alloc _).trans he3
        go_wp2
        go_ret2
        exact ⟨_, _, by rw [Hr0.out]; rfl, hown3.mono (((hE1.alloc _).trans he2).alloc _).size, hE3⟩
      · have Hk := Lib.hid (numK_no (k := k) (by omega))
        have hk7 : k = 7 ∨ k = 8 := by omega
        have h200 : n ≤ 200 := by have := (chk_txt0 hk7 (HR.out.symm.trans Hr0.out)).2.1; have := Hl.out; omega
        have hL2 : L = [[1], vput n, txt].flatten := HL.out.trans ((cby_txt hk6).trans (by rw [Hl.out]; simp))
        have HL2 := Lib.hid hL2
        have hvs := vsize_le (u := n) (by omega)
        have hLl : ([[1], vput n, txt] : List (List Nat)).flatten.length ≤ 300 := by have := Hl.out; simp [vput_len]; omega
        clear hL2 hk6 hk8 HL hk7
        go_enter Try.func81, Try.ntmps81
        go_wp2_with fail
        refine (check_any k true false num A n c txt _ hx2 hu h0 h1 hn).mono ?_
        rintro e w1 ⟨rfl, he1⟩
        rw [← HR.out]
        have hc1 := he1.cells
        have hE1 := hE.trans he1
        have hz1 : w.heap.size < w1.heap.size := by have := he1.size; simp at this; omega
        go_wp2_with fail
        refine (number_any _ _).mono ?_
        rintro e w2 ⟨rfl, rfl⟩
        rw [Hk.out]
        obtain ⟨W2, hW2⟩ : ∃ W2, W2 = w1.alloc (.cells #[.int .u8 1] 5) := ⟨_, rfl⟩
        have hE2 : Ext w1 W2 := by rw [hW2]; exact (Ext.refl _).alloc _
        have hr1 : Rd .u8 W2 (some ⟨w1.heap.size, 0, none⟩) 1 [1] := by rw [hW2]; exact Rd.lit .u8 5 w1 [1]
        have hx4 := (hx2.ext he1).ext hE2
        have K : Hid (∀ w', Ext W2 w' → w'.cell? ⟨w.heap.size, 2, none⟩ = some (.slice A n c)) := Lib.hid (fun w' he => by
          rw [((he1.trans hE2).trans he).cells _ _ (by simp)]
          exact cell_of_row _ w.heap.size 2 _ _ (0, 0) (heap_alloc_new w _))
        have hw64 : IntKind.u64.wrap (n : Int) = (n : Int) := IntWalk.u64_in _ (by omega)
        have hn64 : n < 18446744073709551616 := by omega
        have h300 : ([[1], vput n, txt] : List (List Nat)).flatten.length ≤ 180000000000000 := by omega
        have h33 : 3 ≤ 180000000000000 := by omega
        have HLn := Lib.hid (show L.length = (vput n).length + txt.length + 1 by rw [HL2.out]; simp)
        go_wp2_with fail
        rw [← hW2]
        have g2 := K.out _ (Ext.refl W2)
        clear hW2 hc1 hx hx2 hz1
        go_region_held3 (fun w' => w'.cell? ⟨w.heap.size, 2, none⟩ = some (.slice A n c))
          (first | exact g2 | exact K.out _ he2.undrew' | exact K.out _ he2 | exact K.out _ (he2.undrew'.alloc _) | exact K.out _ (he2.alloc _) | exact K.out _ ((he2.undrew'.alloc _).trans he3.undrew') | exact K.out _ ((he2.undrew'.alloc _).trans he3) | fail)
          (first
            | (go_at_call 68; refine (put_any n _ hn64).mono ?_; rintro e w2 ⟨A2, c2, rfl, hown2, he2⟩)
            | (go_at_call 90; refine (concat_any _ 3 3 [[1], vput n, txt] _ ?_ h300 h33).mono ?_; exact RdSS.three 59 w2 rfl (hr1.ext he2.undrew') hown2.rd (hx4.ext he2.undrew'); rintro e w3 ⟨A3, c3, rfl, hown3, he3⟩)
            | fail)
        rw [← HL2.out] at hown3
        rw [← HLn.out]
        have hE3 : Ext w w3 := ((((hE1.trans hE2).trans he2.undrew')).alloc (.cells #[.slice (some ⟨w1.heap.size, 0, none⟩) 1 1, .slice A2 (vput n).length c2, .slice A n c] 59)).trans (by first | exact he3 | exact he3.undrew')
        have hb3 : w.heap.size ≤ w2.heap.size + 1 := by have := ((hE1.trans hE2).trans he2.undrew').size; omega
        go_wp2
        go_ret2
        exact ⟨_, _, by rw [Hr0.out]; rfl, hown3.mono (by simpa using hb3), hE3⟩
  · rw [if_neg r0] at hL
    have b1 : (R != 0) = true := by simp [r0]
    clear r0
    subst hL
    go_enter Try.func81, Try.ntmps81
    go_wp2_with fail
    refine (check_any k true nul num A n c txt _ hx2 hu h0 h1 hn).mono ?_
    rintro e w1 ⟨rfl, he1⟩
    rw [← HR.out]
    go_wp2
    go_ret2
    exact ⟨_, _, rfl, Own.nil .., hE.trans he1⟩

set_option maxHeartbeats 1600000 in
set_option maxRecDepth 100000 in
theorem refCPut_any (k : Int) (nul : Bool) (num : Int) (A : Option Addr) (n c : Nat) (txt : List Nat) (w : World)
    (hx : Rd .u8 w A n txt) (hn : n ≤ 140737488355328) (h0 : -9223372036854775808 ≤ num) (h1 : num ≤ 9223372036854775807) :
    Calls Try.prog 65 #[.int .i64 k, .agg #[.bool nul, .int .i64 num, .slice A n c]] w (CPutPost (cputL k nul num txt) (chk k true nul num txt) w) := by
  have hE : Ext w (w.alloc (.cells #[.bool nul, .int .i64 num, .slice A n c] 82)) := (Ext.refl w).alloc _
  have hx2 := hx.ext hE
  have hl := hx.len
  obtain ⟨L, hL⟩ : ∃ L, L = cputL k nul num txt := ⟨_, rfl⟩
  rw [← hL]
  unfold cputL at hL
  obtain ⟨R, hR⟩ : ∃ R, R = chk k true nul num txt := ⟨_, rfl⟩
  rw [← hR] at hL ⊢
  have HR := Lib.hid hR
  have Hl := Lib.hid hl
  clear hR hl
  by_cases r0 : R = 0
  · rw [if_pos r0] at hL
    have hk8 := chk_kind (HR.out.symm.trans r0)
    have b1 : (R != 0) = false := by simp [r0]
    have Hr0 := Lib.hid r0
    have HL := Lib.hid hL
    clear r0 hL
    cases nul with
    | true =>
      have hL2 : L = [0] := HL.out
      clear HL
      subst hL2
      go_enter Try.func65, Try.ntmps65
      go_wp2_with fail
      refine (refCheck_any k true true num A n c txt _ hx2 h0 h1 hn).mono ?_
      rintro e w1 ⟨rfl, he1⟩
      rw [← HR.out]
      have hc1 := he1.cells
      have hE1 := hE.trans he1
      go_wp2
      go_ret2
      exact ⟨_, _, by rw [Hr0.out]; rfl, (ownLit w1 [0] (by decide)).mono hE1.size, hE1.alloc _⟩
    | false =>
      by_cases hk6 : k ≤ 6
      · obtain ⟨U, hU, hUl⟩ := foldS_nat h0 h1
        have hL2 : L = [1] ++ vput U := HL.out.trans ((cby_num hk6 hU).trans (by simp))
        have HL2 := Lib.hid hL2
        have HU := Lib.hid hU
        have hvs := vsize_le hUl
        have hLl : L.length = 1 + (vput U).length := by rw [hL2]; simp; omega
        have HLl := Lib.hid hLl
        have hvl := vput_len U
        have hb : 1 + (vput U).length ≤ 180000000000000 := by omega
        clear hL2 hU hk8 hLl HL hvl
        go_enter Try.func65, Try.ntmps65
        go_wp2_with fail
        refine (refCheck_any k true false num A n c txt _ hx2 h0 h1 hn).mono ?_
        rintro e w1 ⟨rfl, he1⟩
        rw [← HR.out]
        have hc1 := he1.cells
        have hE1 := hE.trans he1
        have hz1 : w.heap.size < w1.heap.size := by have := he1.size; simp at this; omega
        go_wp2_with fail
        refine (refFold_any _ _ h0 h1).mono ?_
        rintro e w2 ⟨rfl, rfl⟩
        rw [HU.out]
        go_wp2_with fail
        refine (refPut_any U _ hUl).mono ?_
        rintro e w2 ⟨A2, c2, rfl, hown2, he2⟩
        have hr1 : Rd .u8 w2 (some ⟨w1.heap.size, 0, none⟩) 1 [1] := (Rd.lit .u8 5 w1 [1]).ext he2
        go_wp2_with fail
        refine (cat_any _ _ 1 1 (vput U).length c2 [1] (vput U) _ hr1 hown2.rd hb).mono ?_
        rintro e w3 ⟨A3, c3, rfl, hown3, he3⟩
        rw [← HL2.out] at hown3
        rw [← HLl.out]
        have hE3 := ((hE1.alloc _).trans he2).trans he3
        go_wp2
        go_ret2
        exact ⟨_, _, by rw [Hr0.out]; rfl, hown3.mono ((hE1.alloc _).trans he2).size, hE3⟩
      · have hk7 : k = 7 ∨ k = 8 := by omega
        have b6 : decide (k ≤ 6) = false := decide_eq_false hk6
        have h200 : n ≤ 200 := by have := (chk_txt0 hk7 (HR.out.symm.trans Hr0.out)).2.1; have := Hl.out; omega
        have hL2 : L = ([1] ++ vput n) ++ txt := HL.out.trans ((cby_txt hk6).trans (by rw [Hl.out]; simp))
        have HL2 := Lib.hid hL2
        have hvs := vsize_le (u := n) (by omega)
        have hn64 : n < 18446744073709551616 := by omega
        obtain ⟨V, hV⟩ : ∃ V, V = vput n := ⟨_, rfl⟩
        obtain ⟨m, hm⟩ : ∃ m, m = V.length := ⟨_, rfl⟩
        have hm10 : m ≤ 10 := by rw [hm, hV, vput_len]; exact hvs
        have hP : ∀ W : World, Calls Try.prog 67 #[.int .u64 n] W fun e w' => ∃ A' c', e = .returned (.slice A' m c') ∧ Own .u8 5 w' W.heap.size A' c' V ∧ Ext W w' := fun W => by
          have h := refPut_any n W hn64
          rw [← hV, ← hm] at h
          exact h
        have HP := Lib.hid hP
        rw [← hV] at HL2
        have hLl : L.length = 1 + m + n := by rw [HL2.out, List.length_append, List.length_append, Hl.out, hm]; rfl
        have HLl := Lib.hid hLl
        have Hm := Lib.hid hm.symm
        have hb1 : 1 + m ≤ 180000000000000 := by omega
        have hb2 : 1 + m + n ≤ 180000000000000 := by omega
        have hm1 : ([1] ++ V).length = 1 + m := by rw [List.length_append, hm]; rfl
        have Hm1 := Lib.hid hm1
        clear hm1
        clear hL2 hk6 hk8 HL hk7 hV hm hP hLl hvs
        go_enter Try.func65, Try.ntmps65
        go_wp2_with fail
        refine (refCheck_any k true false num A n c txt _ hx2 h0 h1 hn).mono ?_
        rintro e w1 ⟨rfl, he1⟩
        rw [← HR.out]
        have hc1 := he1.cells
        have hE1 := hE.trans he1
        have hx4 := hx2.ext he1
        have K : Hid (∀ w', Ext w1 w' → w'.cell? ⟨w.heap.size, 2, none⟩ = some (.slice A n c)) := Lib.hid (fun w' he => by
          rw [(he1.trans he).cells _ _ (by simp)]
          exact cell_of_row _ w.heap.size 2 _ _ (0, 0) (heap_alloc_new w _))
        have hw64 : IntKind.u64.wrap (n : Int) = (n : Int) := IntWalk.u64_in _ (by omega)
        go_wp2_with fail
        have g2 := K.out _ (Ext.refl w1)
        clear hc1 hx hx2
        have hl1 : Rd .u8 (w1.alloc (.cells #[.int .u8 1] 5)) (some ⟨w1.heap.size, 0, none⟩) 1 [1] := Rd.lit .u8 5 w1 [1]
        go_region_held3 (fun w' => w'.cell? ⟨w.heap.size, 2, none⟩ = some (.slice A n c))
          (first | exact g2 | (refine K.out _ ?_; (repeat (first | exact Ext.refl _ | (with_reducible refine Ext.trans ?_ he5) | (with_reducible refine Ext.trans ?_ he3) | (with_reducible refine Ext.trans ?_ he2) | apply Ext.drew | apply Ext.alloc | fail))) | fail)
          (first
            | (go_at_call 67; refine (HP.out _).mono ?_; rintro e w2 ⟨A2, c2, rfl, hown2, he2⟩)
            | (go_at_call 46; (with_reducible refine (cat_any _ _ 1 1 m _ [1] V _ ?_ ?_ hb1).mono ?_); (first | (focus ((with_reducible refine Rd.ext hl1 ?_); (repeat (first | exact Ext.refl _ | (with_reducible refine Ext.trans ?_ he5) | (with_reducible refine Ext.trans ?_ he3) | (with_reducible refine Ext.trans ?_ he2) | apply Ext.drew | apply Ext.alloc | fail)); done)) | (focus ((with_reducible refine Rd.ext (Rd.lit .u8 5 w2 [1]) ?_); (repeat (first | exact Ext.refl _ | (with_reducible refine Ext.trans ?_ he5) | (with_reducible refine Ext.trans ?_ he3) | (with_reducible refine Ext.trans ?_ he2) | apply Ext.drew | apply Ext.alloc | fail)); done)) | fail); (focus (refine Rd.ext (hown2.rd' Hm.out) ?_; (repeat (first | exact Ext.refl _ | (with_reducible refine Ext.trans ?_ he5) | (with_reducible refine Ext.trans ?_ he3) | (with_reducible refine Ext.trans ?_ he2) | apply Ext.drew | apply Ext.alloc | fail)); done)); rintro e w3 ⟨A3, c3, rfl, hown3, he3⟩)
            | (go_at_call 46; (with_reducible refine (cat_any _ _ (1 + m) _ n _ ([1] ++ V) txt _ ?_ ?_ hb2).mono ?_); (focus (refine Rd.ext (hown3.rd' Hm1.out) ?_; (repeat (first | exact Ext.refl _ | (with_reducible refine Ext.trans ?_ he5) | (with_reducible refine Ext.trans ?_ he3) | (with_reducible refine Ext.trans ?_ he2) | apply Ext.drew | apply Ext.alloc | fail)); done)); (focus (refine Rd.ext hx4 ?_; (repeat (first | exact Ext.refl _ | (with_reducible refine Ext.trans ?_ he5) | (with_reducible refine Ext.trans ?_ he3) | (with_reducible refine Ext.trans ?_ he2) | apply Ext.drew | apply Ext.alloc | fail)); done)); rintro e w5 ⟨A5, c5, rfl, hown5, he5⟩)
            | fail)
        all_goals
          rw [← HL2.out] at hown5
          rw [← HLl.out]
          have hE5 : Ext w w5 := by
            refine hE1.trans ?_
            (repeat (first | exact Ext.refl _ | (with_reducible refine Ext.trans ?_ he5) | (with_reducible refine Ext.trans ?_ he3) | (with_reducible refine Ext.trans ?_ he2) | apply Ext.drew | apply Ext.alloc | fail))
          have ho5 : Own .u8 5 w5 w.heap.size A5 c5 L := by
            refine hown5.mono (Ext.size (a := w) ?_)
            refine hE1.trans ?_
            (repeat (first | exact Ext.refl _ | (with_reducible refine Ext.trans ?_ he5) | (with_reducible refine Ext.trans ?_ he3) | (with_reducible refine Ext.trans ?_ he2) | apply Ext.drew | apply Ext.alloc | fail))
          go_wp2
          go_ret2
          exact ⟨_, _, by rw [Hr0.out]; rfl, ho5, hE5⟩
  · rw [if_neg r0] at hL
    have b1 : (R != 0) = true := by simp [r0]
    clear r0
    subst hL
    go_enter Try.func65, Try.ntmps65
    go_wp2_with fail
    refine (refCheck_any k true nul num A n c txt _ hx2 h0 h1 hn).mono ?_
    rintro e w1 ⟨rfl, he1⟩
    rw [← HR.out]
    go_wp2
    go_ret2
    exact ⟨_, _, rfl, Own.nil .., hE.trans he1⟩

end Go.Proofs.Ytpjichclpnebjaa
