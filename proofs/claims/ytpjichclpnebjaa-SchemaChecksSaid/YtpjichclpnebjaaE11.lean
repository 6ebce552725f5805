/-
  The document's layer 5: a cell read.
-/
import Derived.Test.YtpjichclpnebjaaE10
namespace Go.Proofs.Ytpjichclpnebjaa
open Go.RowKit

theorem refUnfold_any (u : Int) (w : World) (h0 : 0 ≤ u) (h1 : u ≤ 18446744073709551615) :
    Calls Try.prog 94 #[.int .u64 u] w fun e w' => e = .returned (.int .i64 (unfS u)) ∧ w = w' := by
  obtain ⟨R, hR⟩ : ∃ R, R = unfS u := ⟨_, rfl⟩
  rw [← hR]
  unfold unfS at hR
  have HR := Lib.hid hR
  clear hR
  by_cases h : u % 2 = 0
  · have b1 : (u % 2 == 0) = true := by rw [beq_iff_eq]; exact h
    have h3 := HR.out
    rw [if_pos h] at h3
    have H3 := Lib.hid h3
    clear h3
    go_enter Try.func94, Try.ntmps94
    go_wp2
    go_ret
    exact ⟨ret_int (by have := H3.out; omega), rfl⟩
  · have b1 : (u % 2 == 0) = false := by rw [beq_eq_false_iff_ne]; exact h
    have h3 := HR.out
    rw [if_neg h] at h3
    have H3 := Lib.hid h3
    clear h3
    go_enter Try.func94, Try.ntmps94
    go_wp2
    go_ret
    exact ⟨ret_int (by have := H3.out; omega), rfl⟩

set_option maxHeartbeats 3200000 in
set_option maxRecDepth 100000 in
theorem refCGet_val (b o n c a : Nat) (k : Int) (bs : List Nat) (w : World) (hx : Rd .u8 w (some ⟨b, o, none⟩) n bs) (hu : U8 bs) (hn : n ≤ 140737488355328) (ha : a < n) (hk : 1 ≤ k ∧ k ≤ 8) (h1 : bs.getD a 0 = 1) :
    Calls Try.prog 84 #[.int .i64 k, .slice (some ⟨b, o, none⟩) n c, .int .i64 (a : Int)] w (CGetPost (cval k bs (a + 1)) w) := by
  have hl := hx.len
  have hE : Ext w (w.alloc (.cells #[.bool false, .int .i64 0, .slice none 0 0] 82)) := (Ext.refl w).alloc _
  have hx2 := hx.ext hE
  obtain ⟨r, hr⟩ : ∃ r, r = cval k bs (a + 1) := ⟨_, rfl⟩
  rw [← hr]
  have Hr := Lib.hid hr
  clear hr
  obtain ⟨b', o', e', hb', hcell⟩ := hx.at_ ha
  injection e' with e'
  injection e' with e1 e2
  subst e1 e2
  rw [h1] at hcell
  rcases hg : vget bs ((a + 1 : Nat) : Int) with ⟨u, nx, e⟩
  have Hg := Lib.hid hg
  have hk1 := hk.1
  have hk8 := hk.2
  have k1 : decide (k < 1) = false := decide_eq_false (by omega)
  have k2 : decide (8 < k) = false := decide_eq_false (by omega)
  have a1 : decide ((a : Int) < 0) = false := by simp
  have a2 : decide (n < a) = false := by simp; omega
  have a2' : decide ((n : Int) < (a : Int)) = false := by simp; omega
  have a3 : ((a : Int) == (n : Int)) = false := by rw [beq_eq_false_iff_ne]; omega
  have Hgc : Hid (∀ W : World, Ext w W → Calls Try.prog 73 #[.slice (some ⟨b, o, none⟩) n c, .int .i64 ((a : Int) + 1)] W fun e' w' => e' = .returned (.tuple #[.int .u64 u, .int .i64 nx, .int .i64 e]) ∧ W = w') := Lib.hid (fun W hW => by
    have h := refGet_any (some ⟨b, o, none⟩) n c ((a + 1 : Nat) : Int) bs W (hx.ext hW) hu hn
    unfold GetPost at h
    rw [Hg.out] at h
    exact h)
  by_cases he0 : e = 0
  · subst he0
    obtain ⟨_, hv1, hv2, hu64, _⟩ := vget_at hu hg
    obtain ⟨m, rfl⟩ := Int.eq_ofNat_of_zero_le (show 0 ≤ nx by omega)
    have hmn : m ≤ n := by omega
    clear hg
    by_cases hk6 : k ≤ 6
    · have hun := unfS_range hu64
      obtain ⟨v, hv⟩ : ∃ v, v = unfS (u : Int) := ⟨_, rfl⟩
      rw [← hv] at hun
      obtain ⟨R, hR⟩ : ∃ R, R = chk k true false v [] := ⟨_, rfl⟩
      have hr2 : r = if R ≠ 0 then crE R else ⟨false, v, [], (m : Int), 0⟩ := by rw [Hr.out, cval_num Hg.out hk6, ← hv, ← hR]
      have Hv := Lib.hid hv
      have HR := Lib.hid hR
      have Hr2 := Lib.hid hr2
      have hu0 : (0 : Int) ≤ (u : Int) := by omega
      have hu1 : (u : Int) ≤ 18446744073709551615 := by omega
      clear hv hR hr2 hl hv1 hv2 hu64 hk
      go_enter Try.func84, Try.ntmps84
      go_wp2_with fail
      refine (Hgc.out _ hE).mono ?_
      rintro e w1 ⟨rfl, rfl⟩
      go_wp2_with fail
      refine (refUnfold_any _ _ hu0 hu1).mono ?_
      rintro e w1 ⟨rfl, rfl⟩
      rw [← Hv.out]
      go_wp2_with fail
      refine (refCheck_any k true false v none 0 0 [] _ (Rd.nil ..) hun.1 hun.2 (by omega)).mono ?_
      rintro e w1 ⟨rfl, he1⟩
      rw [← HR.out]
      have HK := Lib.hid (Ext.kept (((Ext.refl _).alloc _).trans he1))
      have hc1 := he1.cells
      have hE1 := (hE.alloc _).trans he1
      by_cases r0 : R = 0
      · have e2 := Hr2.out
        rw [if_neg (fun q => q r0)] at e2
        have He2 := Lib.hid e2
        have b1 : (R != 0) = false := by simp [r0]
        clear r0 e2
        go_wp2_with (refine wpList_store_cell rfl (.tmp 6) (.tmp 98) rfl w.heap.size (.bool false) (.int .i64 v) (.slice none 0 0) rfl rfl HK.out rfl rfl rfl ?_)
        apply bodyPost_ret
        · exact results_cell3 rfl _ _ w.heap.size 82 #[.bool false, .int .i64 v, .slice none 0 0] (0, 0) _ rfl (setRow_heap w1 w.heap.size _ _ 82 (0, 0) HK.out) Try.underlying82 rfl (by kernel_rfl)
        · rfl
        exact CGetPost.of He2.out (hE1.setRow (Nat.le_refl _) _)
      · have e2 := Hr2.out
        rw [if_pos r0] at e2
        have He2 := Lib.hid e2
        have b1 : (R != 0) = true := by simp [r0]
        clear r0 e2
        go_wp2_with (refine wpList_store_cell rfl (.tmp 6) (.tmp 96) rfl w.heap.size (.bool false) (.int .i64 0) (.slice none 0 0) rfl rfl HK.out rfl rfl rfl ?_)
        apply bodyPost_ret
        · exact results_cell3 rfl _ _ w.heap.size 82 #[.bool false, .int .i64 0, .slice none 0 0] (0, 0) _ rfl (setRow_heap w1 w.heap.size _ _ 82 (0, 0) HK.out) Try.underlying82 rfl (by kernel_rfl)
        · rfl
        exact CGetPost.of He2.out (hE1.setRow (Nat.le_refl _) _)
    · have k3 : decide (k ≤ 6) = false := decide_eq_false hk6
      by_cases hlong : 200 < u
      · have He2 := Lib.hid (Hr.out.trans (cval_long Hg.out hk6 hlong))
        have b1 : decide ((200 : Int) < (u : Int)) = true := decide_eq_true (by omega)
        clear hk6 hl hv1 hv2 hu64 hk
        go_enter Try.func84, Try.ntmps84
        go_wp2_with fail
        refine (Hgc.out _ hE).mono ?_
        rintro e w1 ⟨rfl, rfl⟩
        go_wp2
        refine bodyPost_ret (v := .tuple #[.agg #[.bool false, .int .i64 0, .slice none 0 0], .int .i64 0, .int .i64 4]) (by simp [results, Try.results84, go_sem]) rfl ?_
        exact CGetPost.of He2.out (hE.alloc _)
      · by_cases hshort : n < m + u
        · have He2 := Lib.hid (Hr.out.trans (cval_short Hg.out hk6 hlong (by rw [hl]; exact hshort)))
          have hu200 : u ≤ 200 := by omega
          have hmn0 : (0 : Int) ≤ (n : Int) - (m : Int) := by omega
          have b5 : (n : Int) - (m : Int) < (u : Int) := by omega
          clear hk6 hl hv1 hv2 hu64 hlong hk
          go_enter Try.func84, Try.ntmps84
          go_wp2_with fail
          refine (Hgc.out _ hE).mono ?_
          rintro e w1 ⟨rfl, rfl⟩
          go_wp2
          refine bodyPost_ret (v := .tuple #[.agg #[.bool false, .int .i64 0, .slice none 0 0], .int .i64 0, .int .i64 2]) (by simp [results, Try.results84, go_sem]) rfl ?_
          exact CGetPost.of He2.out (hE.alloc _)
        · have hmu : m + u ≤ n := by omega
          have hu200 : u ≤ 200 := by omega
          have hmn0 : (0 : Int) ≤ (n : Int) - (m : Int) := by omega
          have b5 : decide ((n : Int) - (m : Int) < (u : Int)) = false := decide_eq_false (by omega)
          obtain ⟨t, ht⟩ : ∃ t, t = cut bs m u := ⟨_, rfl⟩
          have htl : t.length = u := by rw [ht]; exact cut_len (by omega)
          obtain ⟨R, hR⟩ : ∃ R, R = chk k true false 0 t := ⟨_, rfl⟩
          have hr2 : r = if R ≠ 0 then crE R else ⟨false, 0, t, (m : Int) + (u : Int), 0⟩ := by rw [Hr.out, cval_txt Hg.out hk6 hlong (by rw [hl]; omega), ← ht, ← hR]
          have HR := Lib.hid hR
          have Hr2 := Lib.hid hr2
          have Htl := Lib.hid htl
          have hpc : Hid (∀ W : World, Ext w W → Calls Try.prog 50 #[.slice (some ⟨b, o, none⟩) n c, .int .i64 (m : Int), .int .i64 ((m : Int) + (u : Int))] W fun e' w' => ∃ A' c', e' = .returned (.slice A' u c') ∧ Own .u8 5 w' W.heap.size A' c' t ∧ Ext W w') := Lib.hid (fun W hW => by
            have h := piece_any (some ⟨b, o, none⟩) n c (m : Int) ((m : Int) + (u : Int)) bs W (hx.ext hW) hn (by omega)
            rw [piece_cutm, ← ht, htl] at h
            exact h)
          clear hR hr2 ht htl hk6 hl hv1 hv2 hu64 hlong hshort hk
          go_enter Try.func84, Try.ntmps84
          go_wp2_with fail
          refine (Hgc.out _ hE).mono ?_
          rintro e w1 ⟨rfl, rfl⟩
          go_wp2_with fail
          refine (hpc.out _ (hE.alloc _)).mono ?_
          rintro e w2 ⟨A2, c2, rfl, hown2, he2⟩
          have hK2 : w2.heap[w.heap.size + 1]? = some (.cells #[.bool false, .int .i64 0, .slice none 0 0] 82) := by
            have h := Ext.kept he2
            simpa using h
          have hK1 := Ext.kept (((Ext.refl _).alloc _).trans he2)
          have hz2 : w.heap.size + 1 < w2.heap.size := (Array.getElem?_eq_some_iff.1 hK2).1
          have kc0 := cell_of_row w2 (w.heap.size + 1) 0 _ _ (0, 0) hK2
          have kc1 := cell_of_row w2 (w.heap.size + 1) 1 _ _ (0, 0) hK2
          have kc2 := cell_of_row w2 (w.heap.size + 1) 2 _ _ (0, 0) hK2
          have kf2 := frozen_of_row w2 (w.heap.size + 1) 2 _ _ hK2
          simp only [List.getElem?_toArray, List.getElem?_cons_zero, List.getElem?_cons_succ] at kc0 kc1 kc2
          have HK1 := Lib.hid hK1
          have hEs : Ext w (w2.setCell ⟨w.heap.size + 1, 2, none⟩ (.slice A2 u c2)) := ((hE.alloc _).trans he2).setCell (p := ⟨w.heap.size + 1, 2, none⟩) (Nat.le_succ _) _
          have hos := hown2.far (grown_setCell w2 (w.heap.size + 1) 2 (.slice A2 u c2)) (by simp)
          have hsz : (w2.setCell ⟨w.heap.size + 1, 2, none⟩ (.slice A2 u c2)).heap.size = w2.heap.size := by simp [World.setCell]
          have HKs := Lib.hid ((heap_setCell_other w2 ⟨w.heap.size + 1, 2, none⟩ w.heap.size (.slice A2 u c2) (by simp)).trans HK1.out)
          have Hsz := Lib.hid hsz
          clear hK1 hK2 hsz
          go_wp2_with fail
          refine (refCheck_any k true false 0 A2 u c2 t _ (hos.rd' Htl.out) (by omega) (by omega) (by omega)).mono ?_
          rintro e w3 ⟨rfl, he3⟩
          rw [← HR.out]
          have HK := Lib.hid ((he3.block w.heap.size (by rw [Hsz.out]; omega)).trans HKs.out)
          have hc3 := he3.cells
          rw [Hsz.out] at hc3
          have hE3 := hEs.trans he3
          have ho3 := hos.ext he3
          by_cases r0 : R = 0
          · have e2 := Hr2.out
            rw [if_neg (fun q => q r0)] at e2
            have He2 := Lib.hid e2
            have b1 : (R != 0) = false := by simp [r0]
            clear r0 e2
            go_wp2_with (refine wpList_store_cell rfl (.tmp 6) (.tmp 98) rfl w.heap.size (.bool false) (.int .i64 0) (.slice A2 u c2) rfl rfl HK.out rfl rfl rfl ?_)
            apply bodyPost_ret
            · exact results_cell3 rfl _ _ w.heap.size 82 #[.bool false, .int .i64 0, .slice A2 u c2] (0, 0) _ rfl (setRow_heap w3 w.heap.size _ _ 82 (0, 0) HK.out) Try.underlying82 rfl (by kernel_rfl)
            · rfl
            have hof := (ho3.far (grown_setRow w3 w.heap.size #[.bool false, .int .i64 0, .slice A2 u c2]) (by simp; omega)).mono (base' := w.heap.size) (by simp; omega)
            refine ⟨A2, c2, ?_, ?_, hE3.setRow (Nat.le_refl _) _⟩
            · rw [He2.out]
              simp only [Htl.out]
              rfl
            · rw [He2.out]; exact hof
          · have e2 := Hr2.out
            rw [if_pos r0] at e2
            have He2 := Lib.hid e2
            have b1 : (R != 0) = true := by simp [r0]
            clear r0 e2
            go_wp2_with (refine wpList_store_cell rfl (.tmp 6) (.tmp 96) rfl w.heap.size (.bool false) (.int .i64 0) (.slice none 0 0) rfl rfl HK.out rfl rfl rfl ?_)
            apply bodyPost_ret
            · exact results_cell3 rfl _ _ w.heap.size 82 #[.bool false, .int .i64 0, .slice none 0 0] (0, 0) _ rfl (setRow_heap w3 w.heap.size _ _ 82 (0, 0) HK.out) Try.underlying82 rfl (by kernel_rfl)
            · rfl
            exact CGetPost.of He2.out (hE3.setRow (Nat.le_refl _) _)
  · have He2 := Lib.hid (Hr.out.trans (cval_err Hg.out he0))
    obtain ⟨hu0, hn0⟩ := vget_zero hg he0
    subst hu0 hn0
    have b1 : (e != 0) = true := by simp [he0]
    clear he0 hg hl hk
    go_enter Try.func84, Try.ntmps84
    go_wp2_with fail
    refine (Hgc.out _ hE).mono ?_
    rintro e1 w1 ⟨rfl, rfl⟩
    go_wp2
    refine bodyPost_ret (v := .tuple #[.agg #[.bool false, .int .i64 0, .slice none 0 0], .int .i64 0, .int .i64 e]) (by simp [results, Try.results84, go_sem]) rfl ?_
    exact CGetPost.of He2.out hE

set_option maxHeartbeats 1600000 in
set_option maxRecDepth 100000 in
theorem refCGet_any (A : Option Addr) (n c : Nat) (at_ : Int) (k : Int) (bs : List Nat) (w : World) (hx : Rd .u8 w A n bs) (hu : U8 bs) (hn : n ≤ 140737488355328) :
    Calls Try.prog 84 #[.int .i64 k, .slice A n c, .int .i64 at_] w (CGetPost (cget k bs at_) w) := by
  have hl := hx.len
  have hE : Ext w (w.alloc (.cells #[.bool false, .int .i64 0, .slice none 0 0] 82)) := (Ext.refl w).alloc _
  obtain ⟨r, hr⟩ : ∃ r, r = cget k bs at_ := ⟨_, rfl⟩
  by_cases hbad : ¬ (1 ≤ k ∧ k ≤ 8) ∨ at_ < 0 ∨ (n : Int) < at_
  · rw [← hr]
    have He2 := Lib.hid (hr.trans (cget_arg (by rw [hl]; exact hbad)))
    have key : (decide (k < 1) = true) ∨ (decide (k < 1) = false ∧ decide (8 < k) = true) ∨ (decide (k < 1) = false ∧ decide (8 < k) = false ∧ decide (at_ < 0) = true) ∨ (decide (k < 1) = false ∧ decide (8 < k) = false ∧ decide (at_ < 0) = false ∧ decide ((n : Int) < at_) = true) := by
      simp only [decide_eq_true_eq, decide_eq_false_iff_not]
      omega
    clear hr hl hbad
    rcases key with q1 | ⟨q1, q2⟩ | ⟨q1, q2, q3⟩ | ⟨q1, q2, q3, q4⟩
    all_goals
      go_enter Try.func84, Try.ntmps84
      go_wp2
      refine bodyPost_ret (v := .tuple #[.agg #[.bool false, .int .i64 0, .slice none 0 0], .int .i64 0, .int .i64 1]) (by simp [results, Try.results84, go_sem]) rfl ?_
      exact CGetPost.of He2.out hE
  · obtain ⟨a, rfl⟩ := Int.eq_ofNat_of_zero_le (show 0 ≤ at_ by omega)
    have hk : 1 ≤ k ∧ k ≤ 8 := by omega
    have han : a ≤ n := by omega
    clear hbad
    have k1 : decide (k < 1) = false := decide_eq_false (by omega)
    have k2 : decide (8 < k) = false := decide_eq_false (by omega)
    have a1 : decide ((a : Int) < 0) = false := by simp
    have a2 : decide (n < a) = false := by simp; omega
    have a2' : decide ((n : Int) < (a : Int)) = false := by simp; omega
    rcases Nat.lt_or_ge a n with hlt | hge
    · obtain ⟨b, o, rfl, hb, hc⟩ := hx.at_ hlt
      by_cases x1 : bs.getD a 0 = 1
      · rw [cget_val hk (by omega) x1]
        exact refCGet_val b o n c a k bs w hx hu hn hlt hk x1
      · have hcu := hu.at_ a
        have a3 : ((a : Int) == (n : Int)) = false := by rw [beq_eq_false_iff_ne]; omega
        have R0 := fun q => cget_null (k := k) (bs := bs) (a := a) hk (by omega) q
        have R1 := fun q => cget_form (k := k) (bs := bs) (a := a) hk (by omega) q x1
        rw [← hr] at R0 R1 ⊢
        obtain ⟨x, hx'⟩ : ∃ x, x = bs.getD a 0 := ⟨_, rfl⟩
        rw [← hx'] at R0 R1 hc hcu x1
        clear hx' hr hl
        by_cases x0 : x = 0
        · have He2 := Lib.hid (R0 x0)
          subst x0
          clear R0 R1 x1
          go_enter Try.func84, Try.ntmps84
          go_wp2
          refine bodyPost_ret (v := .tuple #[.agg #[.bool true, .int .i64 0, .slice none 0 0], .int .i64 ((a : Int) + 1), .int .i64 0]) (by simp [results, Try.results84, go_sem]) rfl ?_
          exact CGetPost.of He2.out ((Ext.refl w).alloc _)
        · have He2 := Lib.hid (R1 x0)
          have b4 : ((x : Int) == 0) = false := by rw [beq_eq_false_iff_ne]; omega
          have b5 : ((x : Int) != 1) = true := by rw [bne_iff_ne]; omega
          clear R0 R1 x0 x1
          go_enter Try.func84, Try.ntmps84
          go_wp2
          refine bodyPost_ret (v := .tuple #[.agg #[.bool false, .int .i64 0, .slice none 0 0], .int .i64 0, .int .i64 5]) (by simp [results, Try.results84, go_sem]) rfl ?_
          exact CGetPost.of He2.out hE
    · obtain rfl : a = n := by omega
      have hq := cget_end (bs := bs) hk
      rw [hl] at hq
      rw [← hr]
      have He2 := Lib.hid (hr.trans hq)
      clear hr hl hq hk
      go_enter Try.func84, Try.ntmps84
      go_wp2
      refine bodyPost_ret (v := .tuple #[.agg #[.bool false, .int .i64 0, .slice none 0 0], .int .i64 0, .int .i64 2]) (by simp [results, Try.results84, go_sem]) rfl ?_
      exact CGetPost.of He2.out hE

end Go.Proofs.Ytpjichclpnebjaa
