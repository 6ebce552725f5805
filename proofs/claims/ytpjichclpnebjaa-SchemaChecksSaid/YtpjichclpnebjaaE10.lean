/-
  The program's layer 5: a cell read.
-/
import Derived.Test.YtpjichclpnebjaaE9
namespace Go.Proofs.Ytpjichclpnebjaa
open Go.RowKit

set_option maxHeartbeats 1600000 in
set_option maxRecDepth 100000 in
theorem getValue_any (b o n c a : Nat) (k : Int) (bs : List Nat) (w : World) (hx : Rd .u8 w (some ⟨b, o, none⟩) n bs) (hu : U8 bs) (hn : n ≤ 140737488355328) (ha : a ≤ n) (hk : 1 ≤ k ∧ k ≤ 8) (hcap : n ≤ c) (hcm : c ≤ 9223372036854775807) :
    Calls Try.prog 93 #[.int .i64 k, .slice (some ⟨b, o, none⟩) n c, .int .i64 (a : Int)] w (CGetPost (cval k bs a) w) := by
  have hl := hx.len
  have hE : Ext w (w.alloc (.cells #[.bool false, .int .i64 0, .slice none 0 0] 82)) := (Ext.refl w).alloc _
  have hx2 := hx.ext hE
  obtain ⟨r, hr⟩ : ∃ r, r = cval k bs a := ⟨_, rfl⟩
  rw [← hr]
  have Hr := Lib.hid hr
  clear hr
  rcases hg : vget bs (a : Int) with ⟨u, nx, e⟩
  have Hg := Lib.hid hg
  by_cases he0 : e = 0
  · subst he0
    obtain ⟨_, hv1, hv2, hu64, _⟩ := vget_at hu hg
    obtain ⟨m, rfl⟩ := Int.eq_ofNat_of_zero_le (show 0 ≤ nx by omega)
    have hmn : m ≤ n := by omega
    clear hg
    by_cases hk6 : k ≤ 6
    · have Hk := Lib.hid (numK_yes (k := k) ⟨hk.1, hk6⟩)
      have hun := unfS_range hu64
      obtain ⟨v, hv⟩ : ∃ v, v = unfS (u : Int) := ⟨_, rfl⟩
      rw [← hv] at hun
      obtain ⟨R, hR⟩ : ∃ R, R = chk k true false v [] := ⟨_, rfl⟩
      have hr2 : r = if R ≠ 0 then crE R else ⟨false, v, [], (m : Int), 0⟩ := by rw [Hr.out, cval_num Hg.out hk6, ← hv, ← hR]
      have Hv := Lib.hid hv
      have HR := Lib.hid hR
      have Hr2 := Lib.hid hr2
      have hu0 : (0 : Int) ≤ (u : Int) := by omega
      have hu1 : (u : Int) ≤ 18446744073709551615 := by omega
      clear hv hR hr2 hk6 hl hv1 hv2 hu64
      go_enter Try.func93, Try.ntmps93
      go_wp2_with fail
      refine (get_any _ n c a bs _ hx2 hu hn hcap hcm).mono ?_
      rintro e w1 ⟨rfl, rfl⟩
      rw [Hg.out]
      go_wp2_with fail
      refine (number_any _ _).mono ?_
      rintro e w1 ⟨rfl, rfl⟩
      rw [Hk.out]
      go_wp2_with fail
      refine (unfold_any _ _ hu0 hu1).mono ?_
      rintro e w1 ⟨rfl, rfl⟩
      rw [← Hv.out]
      go_wp2_with fail
      refine (check_any k false false v none 0 0 [] _ (Rd.nil ..) (by decide) hun.1 hun.2 (by omega)).mono ?_
      rintro e w1 ⟨rfl, he1⟩
      rw [chk_ok (ok2 := true), ← HR.out]
      have HK := Lib.hid (Ext.kept (((Ext.refl _).alloc _).trans he1))
      have hc1 := he1.cells
      have hE1 := (hE.alloc _).trans he1
      by_cases r0 : R = 0
      · have e2 := Hr2.out
        rw [if_neg (fun q => q r0)] at e2
        have He2 := Lib.hid e2
        have b1 : (R != 0) = false := by simp [r0]
        clear r0 e2
        go_wp2_with (refine wpList_store_cell rfl (.tmp 6) (.tmp 61) rfl w.heap.size (.bool false) (.int .i64 v) (.slice none 0 0) rfl rfl HK.out rfl rfl rfl ?_)
        apply bodyPost_ret
        · exact results_cell3 rfl _ _ w.heap.size 82 #[.bool false, .int .i64 v, .slice none 0 0] (0, 0) _ rfl (setRow_heap w1 w.heap.size _ _ 82 (0, 0) HK.out) Try.underlying82 rfl (by kernel_rfl)
        · rfl
        exact CGetPost.of He2.out (hE1.setRow (Nat.le_refl _) _)
      · have e2 := Hr2.out
        rw [if_pos r0] at e2
        have He2 := Lib.hid e2
        have b1 : (R != 0) = true := by simp [r0]
        clear r0 e2
        go_wp2_with (refine wpList_store_cell rfl (.tmp 6) (.tmp 59) rfl w.heap.size (.bool false) (.int .i64 0) (.slice none 0 0) rfl rfl HK.out rfl rfl rfl ?_)
        apply bodyPost_ret
        · exact results_cell3 rfl _ _ w.heap.size 82 #[.bool false, .int .i64 0, .slice none 0 0] (0, 0) _ rfl (setRow_heap w1 w.heap.size _ _ 82 (0, 0) HK.out) Try.underlying82 rfl (by kernel_rfl)
        · rfl
        exact CGetPost.of He2.out (hE1.setRow (Nat.le_refl _) _)
    · have Hk := Lib.hid (numK_no (k := k) (by omega))
      have hw : IntKind.i64.wrap (u : Int) = IntKind.i64.wrap (u : Int) := rfl
      by_cases hlong : 200 < u
      · have He2 := Lib.hid (Hr.out.trans (cval_long Hg.out hk6 hlong))
        have b1 : decide ((200 : Int) < (u : Int)) = true := decide_eq_true (by omega)
        clear hk6 hl hv1 hv2 hu64 hw
        go_enter Try.func93, Try.ntmps93
        go_wp2_with fail
        refine (get_any _ n c a bs _ hx2 hu hn hcap hcm).mono ?_
        rintro e w1 ⟨rfl, rfl⟩
        rw [Hg.out]
        go_wp2_with fail
        refine (number_any _ _).mono ?_
        rintro e w1 ⟨rfl, rfl⟩
        rw [Hk.out]
        go_wp2
        refine bodyPost_ret (v := .tuple #[.agg #[.bool false, .int .i64 0, .slice none 0 0], .int .i64 0, .int .i64 4]) (by simp [results, Try.results93, go_sem]) rfl ?_
        exact CGetPost.of He2.out (hE.alloc _)
      · by_cases hshort : n < m + u
        · have He2 := Lib.hid (Hr.out.trans (cval_short Hg.out hk6 hlong (by rw [hl]; exact hshort)))
          have hu200 : u ≤ 200 := by omega
          clear hk6 hl hv1 hv2 hu64 hw hlong
          go_enter Try.func93, Try.ntmps93
          go_wp2_with fail
          refine (get_any _ n c a bs _ hx2 hu hn hcap hcm).mono ?_
          rintro e w1 ⟨rfl, rfl⟩
          rw [Hg.out]
          go_wp2_with fail
          refine (number_any _ _).mono ?_
          rintro e w1 ⟨rfl, rfl⟩
          rw [Hk.out]
          go_wp2
          refine bodyPost_ret (v := .tuple #[.agg #[.bool false, .int .i64 0, .slice none 0 0], .int .i64 0, .int .i64 2]) (by simp [results, Try.results93, go_sem]) rfl ?_
          exact CGetPost.of He2.out (hE.alloc _)
        · have hmu : m + u ≤ n := by omega
          have hu200 : u ≤ 200 := by omega
          obtain ⟨t, ht⟩ : ∃ t, t = cut bs m u := ⟨_, rfl⟩
          have htl : t.length = u := by rw [ht]; exact cut_len (by omega)
          have htu : U8 t := by rw [ht]; exact cut_u8 hu m u
          obtain ⟨R, hR⟩ : ∃ R, R = chk k true false 0 t := ⟨_, rfl⟩
          have hr2 : r = if R ≠ 0 then crE R else ⟨false, 0, t, (m : Int) + (u : Int), 0⟩ := by rw [Hr.out, cval_txt Hg.out hk6 hlong (by rw [hl]; omega), ← ht, ← hR]
          have HR := Lib.hid hR
          have Hr2 := Lib.hid hr2
          have Ht := Lib.hid ht
          have Htl := Lib.hid htl
          clear hR hr2 ht htl hk6 hl hv1 hv2 hu64 hw hlong hshort
          rcases Nat.lt_or_ge m c with hlt | hge
          · have hcm2 : ¬ c = m := by omega
            have i1 : (m : Int) + (u : Int) ≤ (n : Int) := by omega
            have hrd : Hid (∀ W, Ext w W → Rd .u8 W (some ⟨b, o + m, none⟩) u t) := Lib.hid (fun W hW => by
              refine ⟨Htl.out, fun h0 => ?_⟩
              obtain ⟨b', o', e', hb', hc'⟩ := (hx.ext hW).2 (show 0 < n by omega)
              injection e' with e'
              injection e' with e1 e2
              subst e1 e2
              exact ⟨b, o + m, rfl, hb', fun j hj => by rw [Nat.add_assoc, hc' (m + j) (by omega), Ht.out, cut_at hj]⟩)
            go_enter Try.func93, Try.ntmps93
            go_wp2_with fail
            refine (get_any _ n c a bs _ hx2 hu hn hcap hcm).mono ?_
            rintro e w1 ⟨rfl, rfl⟩
            rw [Hg.out]
            go_wp2_with fail
            refine (number_any _ _).mono ?_
            rintro e w1 ⟨rfl, rfl⟩
            rw [Hk.out]
            go_wp2_with fail
            have hrdW : Rd .u8 ((w.alloc (.cells #[.bool false, .int .i64 0, .slice none 0 0] 82)).alloc (.cells #[.bool false, .int .i64 0, .slice none 0 0] 82)) (some ⟨b, o + m, none⟩) u t := hrd.out _ (((Ext.refl w).alloc _).alloc _)
            refine (clone_any (some ⟨b, o + m, none⟩) u _ t _ hrdW (by omega)).mono ?_
            rintro e w2 ⟨A2, c2, rfl, hown2, he2⟩
            have hK2 : w2.heap[w.heap.size + 1]? = some (.cells #[.bool false, .int .i64 0, .slice none 0 0] 82) := by
              have h := Ext.kept he2
              simpa using h
            have hK1 := Ext.kept (((Ext.refl _).alloc _).trans he2)
            have hz2 : w.heap.size + 1 < w2.heap.size := (Array.getElem?_eq_some_iff.1 hK2).1
            have kc0 := cell_of_row w2 (w.heap.size + 1) 0 _ _ (0, 0) hK2
            have kc1 := cell_of_row w2 (w.heap.size + 1) 1 _ _ (0, 0) hK2
            have kc2 := cell_of_row w2 (w.heap.size + 1) 2 _ _ (0, 0) hK2
            have kf2 := frozen_of_row w2 (w.heap.size + 1) 2 _ _ hK2
            simp only [List.getElem?_toArray, List.getElem?_cons_zero, List.getElem?_cons_succ] at kc0 kc1 kc2
            have HK1 := Lib.hid hK1
            have hEs : Ext w (w2.setCell ⟨w.heap.size + 1, 2, none⟩ (.slice A2 u c2)) := ((hE.alloc _).trans he2).setCell (p := ⟨w.heap.size + 1, 2, none⟩) (Nat.le_succ _) _
            have hos := hown2.far (grown_setCell w2 (w.heap.size + 1) 2 (.slice A2 u c2)) (by simp)
            have hsz : (w2.setCell ⟨w.heap.size + 1, 2, none⟩ (.slice A2 u c2)).heap.size = w2.heap.size := by simp [World.setCell]
            have HKs := Lib.hid ((heap_setCell_other w2 ⟨w.heap.size + 1, 2, none⟩ w.heap.size (.slice A2 u c2) (by simp)).trans HK1.out)
            have Hsz := Lib.hid hsz
            clear hK1 hK2 hsz
            go_wp2_with fail
            refine (check_any k false false 0 A2 u c2 t _ (hos.rd' Htl.out) htu (by omega) (by omega) (by omega)).mono ?_
            rintro e w3 ⟨rfl, he3⟩
            rw [chk_ok (ok2 := true), ← HR.out]
            have HK := Lib.hid ((he3.block w.heap.size (by rw [Hsz.out]; omega)).trans HKs.out)
            have hc3 := he3.cells
            rw [Hsz.out] at hc3
            have hE3 := hEs.trans he3
            have ho3 := hos.ext he3
            by_cases r0 : R = 0
            · have e2 := Hr2.out
              rw [if_neg (fun q => q r0)] at e2
              have He2 := Lib.hid e2
              have b1 : (R != 0) = false := by simp [r0]
              clear r0 e2
              go_wp2_with (refine wpList_store_cell rfl (.tmp 6) (.tmp 61) rfl w.heap.size (.bool false) (.int .i64 0) (.slice A2 u c2) rfl rfl HK.out rfl rfl rfl ?_)
              apply bodyPost_ret
              · exact results_cell3 rfl _ _ w.heap.size 82 #[.bool false, .int .i64 0, .slice A2 u c2] (0, 0) _ rfl (setRow_heap w3 w.heap.size _ _ 82 (0, 0) HK.out) Try.underlying82 rfl (by kernel_rfl)
              · rfl
              have hof := (ho3.far (grown_setRow w3 w.heap.size #[.bool false, .int .i64 0, .slice A2 u c2]) (by simp; omega)).mono (base' := w.heap.size) (by simp; omega)
              refine ⟨A2, c2, ?_, ?_, hE3.setRow (Nat.le_refl _) _⟩
              · rw [He2.out]
                simp only [Htl.out]
                rfl
              · rw [He2.out]; exact hof
            · have e2 := Hr2.out
              rw [if_pos r0] at e2
              have He2 := Lib.hid e2
              have b1 : (R != 0) = true := by simp [r0]
              clear r0 e2
              go_wp2_with (refine wpList_store_cell rfl (.tmp 6) (.tmp 59) rfl w.heap.size (.bool false) (.int .i64 0) (.slice none 0 0) rfl rfl HK.out rfl rfl rfl ?_)
              apply bodyPost_ret
              · exact results_cell3 rfl _ _ w.heap.size 82 #[.bool false, .int .i64 0, .slice none 0 0] (0, 0) _ rfl (setRow_heap w3 w.heap.size _ _ 82 (0, 0) HK.out) Try.underlying82 rfl (by kernel_rfl)
              · rfl
              exact CGetPost.of He2.out (hE3.setRow (Nat.le_refl _) _)
          · obtain rfl : n = c := by omega
            obtain rfl : m = n := by omega
            obtain rfl : u = 0 := by omega
            go_enter Try.func93, Try.ntmps93
            go_wp2_with fail
            refine (get_any _ m m a bs _ hx2 hu hn hcap hcm).mono ?_
            rintro e w1 ⟨rfl, rfl⟩
            rw [Hg.out]
            go_wp2_with fail
            refine (number_any _ _).mono ?_
            rintro e w1 ⟨rfl, rfl⟩
            rw [Hk.out]
            go_wp2_with fail
            have hrdW : Rd .u8 ((w.alloc (.cells #[.bool false, .int .i64 0, .slice none 0 0] 82)).alloc (.cells #[.bool false, .int .i64 0, .slice none 0 0] 82)) (some ⟨b, o, none⟩) 0 t := ⟨Htl.out, fun q => absurd q (by omega)⟩
            refine (clone_any (some ⟨b, o, none⟩) 0 _ t _ hrdW (by omega)).mono ?_
            rintro e w2 ⟨A2, c2, rfl, hown2, he2⟩
            have hK2 : w2.heap[w.heap.size + 1]? = some (.cells #[.bool false, .int .i64 0, .slice none 0 0] 82) := by
              have h := Ext.kept he2
              simpa using h
            have hK1 := Ext.kept (((Ext.refl _).alloc _).trans he2)
            have hz2 : w.heap.size + 1 < w2.heap.size := (Array.getElem?_eq_some_iff.1 hK2).1
            have kc0 := cell_of_row w2 (w.heap.size + 1) 0 _ _ (0, 0) hK2
            have kc1 := cell_of_row w2 (w.heap.size + 1) 1 _ _ (0, 0) hK2
            have kc2 := cell_of_row w2 (w.heap.size + 1) 2 _ _ (0, 0) hK2
            have kf2 := frozen_of_row w2 (w.heap.size + 1) 2 _ _ hK2
            simp only [List.getElem?_toArray, List.getElem?_cons_zero, List.getElem?_cons_succ] at kc0 kc1 kc2
            have HK1 := Lib.hid hK1
            have hEs : Ext w (w2.setCell ⟨w.heap.size + 1, 2, none⟩ (.slice A2 0 c2)) := ((hE.alloc _).trans he2).setCell (p := ⟨w.heap.size + 1, 2, none⟩) (Nat.le_succ _) _
            have hos := hown2.far (grown_setCell w2 (w.heap.size + 1) 2 (.slice A2 0 c2)) (by simp)
            have hsz : (w2.setCell ⟨w.heap.size + 1, 2, none⟩ (.slice A2 0 c2)).heap.size = w2.heap.size := by simp [World.setCell]
            have HKs := Lib.hid ((heap_setCell_other w2 ⟨w.heap.size + 1, 2, none⟩ w.heap.size (.slice A2 0 c2) (by simp)).trans HK1.out)
            have Hsz := Lib.hid hsz
            clear hK1 hK2 hsz
            go_wp2_with fail
            refine (check_any k false false 0 A2 0 c2 t _ (hos.rd' Htl.out) htu (by omega) (by omega) (by omega)).mono ?_
            rintro e w3 ⟨rfl, he3⟩
            rw [chk_ok (ok2 := true), ← HR.out]
            have HK := Lib.hid ((he3.block w.heap.size (by rw [Hsz.out]; omega)).trans HKs.out)
            have hc3 := he3.cells
            rw [Hsz.out] at hc3
            have hE3 := hEs.trans he3
            have ho3 := hos.ext he3
            by_cases r0 : R = 0
            · have e2 := Hr2.out
              rw [if_neg (fun q => q r0)] at e2
              have He2 := Lib.hid e2
              have b1 : (R != 0) = false := by simp [r0]
              clear r0 e2
              go_wp2_with (refine wpList_store_cell rfl (.tmp 6) (.tmp 61) rfl w.heap.size (.bool false) (.int .i64 0) (.slice A2 0 c2) rfl rfl HK.out rfl rfl rfl ?_)
              apply bodyPost_ret
              · exact results_cell3 rfl _ _ w.heap.size 82 #[.bool false, .int .i64 0, .slice A2 0 c2] (0, 0) _ rfl (setRow_heap w3 w.heap.size _ _ 82 (0, 0) HK.out) Try.underlying82 rfl (by kernel_rfl)
              · rfl
              have hof := (ho3.far (grown_setRow w3 w.heap.size #[.bool false, .int .i64 0, .slice A2 0 c2]) (by simp; omega)).mono (base' := w.heap.size) (by simp; omega)
              refine ⟨A2, c2, ?_, ?_, hE3.setRow (Nat.le_refl _) _⟩
              · rw [He2.out]
                simp only [Htl.out]
                rfl
              · rw [He2.out]; exact hof
            · have e2 := Hr2.out
              rw [if_pos r0] at e2
              have He2 := Lib.hid e2
              have b1 : (R != 0) = true := by simp [r0]
              clear r0 e2
              go_wp2_with (refine wpList_store_cell rfl (.tmp 6) (.tmp 59) rfl w.heap.size (.bool false) (.int .i64 0) (.slice none 0 0) rfl rfl HK.out rfl rfl rfl ?_)
              apply bodyPost_ret
              · exact results_cell3 rfl _ _ w.heap.size 82 #[.bool false, .int .i64 0, .slice none 0 0] (0, 0) _ rfl (setRow_heap w3 w.heap.size _ _ 82 (0, 0) HK.out) Try.underlying82 rfl (by kernel_rfl)
              · rfl
              exact CGetPost.of He2.out (hE3.setRow (Nat.le_refl _) _)
  · have He2 := Lib.hid (Hr.out.trans (cval_err Hg.out he0))
    obtain ⟨hu0, hn0⟩ := vget_zero hg he0
    subst hu0 hn0
    have b1 : (e != 0) = true := by simp [he0]
    clear he0 hg hl
    go_enter Try.func93, Try.ntmps93
    go_wp2_with fail
    refine (get_any _ n c a bs _ hx2 hu hn hcap hcm).mono ?_
    rintro e1 w1 ⟨rfl, rfl⟩
    rw [Hg.out]
    go_wp2
    refine bodyPost_ret (v := .tuple #[.agg #[.bool false, .int .i64 0, .slice none 0 0], .int .i64 0, .int .i64 e]) (by simp [results, Try.results93, go_sem]) rfl ?_
    exact CGetPost.of He2.out hE

set_option maxHeartbeats 1600000 in
set_option maxRecDepth 100000 in
theorem cget_any (A : Option Addr) (n c : Nat) (at_ : Int) (k : Int) (bs : List Nat) (w : World) (hx : Rd .u8 w A n bs) (hu : U8 bs) (hn : n ≤ 140737488355328) (hcap : n ≤ c) (hcm : c ≤ 9223372036854775807) :
    Calls Try.prog 83 #[.int .i64 k, .slice A n c, .int .i64 at_] w (CGetPost (cget k bs at_) w) := by
  have hl := hx.len
  have hE : Ext w (w.alloc (.cells #[.bool false, .int .i64 0, .slice none 0 0] 82)) := (Ext.refl w).alloc _
  have hx2 := hx.ext hE
  obtain ⟨r, hr⟩ : ∃ r, r = cget k bs at_ := ⟨_, rfl⟩
  rw [← hr]
  by_cases hk : 1 ≤ k ∧ k ≤ 8
  · have Hk := Lib.hid (kindK_yes hk)
    by_cases hbad : at_ < 0 ∨ (n : Int) < at_
    · have He2 := Lib.hid (hr.trans (cget_arg (.inr (by rw [hl]; exact hbad))))
      clear hr hl hk
      rcases hbad with h | h
      · have b1 : decide (at_ < 0) = true := decide_eq_true h
        go_enter Try.func83, Try.ntmps83
        go_wp2_with fail
        refine (isKind_any _ _).mono ?_
        rintro e w1 ⟨rfl, rfl⟩
        rw [Hk.out]
        go_wp2
        refine bodyPost_ret (v := .tuple #[.agg #[.bool false, .int .i64 0, .slice none 0 0], .int .i64 0, .int .i64 1]) (by simp [results, Try.results83, go_sem]) rfl ?_
        exact CGetPost.of He2.out hE
      · have b1 : decide (at_ < 0) = false := decide_eq_false (by omega)
        have b2 : decide ((n : Int) < at_) = true := decide_eq_true h
        go_enter Try.func83, Try.ntmps83
        go_wp2_with fail
        refine (isKind_any _ _).mono ?_
        rintro e w1 ⟨rfl, rfl⟩
        rw [Hk.out]
        go_wp2
        refine bodyPost_ret (v := .tuple #[.agg #[.bool false, .int .i64 0, .slice none 0 0], .int .i64 0, .int .i64 1]) (by simp [results, Try.results83, go_sem]) rfl ?_
        exact CGetPost.of He2.out hE
    · obtain ⟨a, rfl⟩ := Int.eq_ofNat_of_zero_le (show 0 ≤ at_ by omega)
      have han : a ≤ n := by omega
      have b1 : decide ((a : Int) < 0) = false := by simp
      have b2 : decide (n < a) = false := by simp; omega
      have b2' : decide ((n : Int) < (a : Int)) = false := by simp; omega
      clear hbad
      rcases Nat.lt_or_ge a n with hlt | hge
      · obtain ⟨b, o, rfl, hb, hc⟩ := hx.at_ hlt
        have hcu := hu.at_ a
        have b3 : ((a : Int) == (n : Int)) = false := by rw [beq_eq_false_iff_ne]; omega
        have R0 := fun q => cget_null (k := k) (bs := bs) (a := a) hk (by omega) q
        have R1 := fun q q2 => cget_form (k := k) (bs := bs) (a := a) hk (by omega) q q2
        have R2 := fun q => cget_val (k := k) (bs := bs) (a := a) hk (by omega) q
        rw [← hr] at R0 R1 R2
        obtain ⟨x, hx'⟩ : ∃ x, x = bs.getD a 0 := ⟨_, rfl⟩
        rw [← hx'] at R0 R1 R2 hc hcu
        clear hx' hr hl
        by_cases x0 : x = 0
        · have He2 := Lib.hid (R0 x0)
          subst x0
          clear R0 R1 R2
          go_enter Try.func83, Try.ntmps83
          go_wp2_with fail
          refine (isKind_any _ _).mono ?_
          rintro e w1 ⟨rfl, rfl⟩
          rw [Hk.out]
          go_wp2
          refine bodyPost_ret (v := .tuple #[.agg #[.bool true, .int .i64 0, .slice none 0 0], .int .i64 ((a : Int) + 1), .int .i64 0]) (by simp [results, Try.results83, go_sem]) rfl ?_
          exact CGetPost.of He2.out ((Ext.refl w).alloc _)
        · by_cases x1 : x = 1
          · have He2 := Lib.hid (R2 x1)
            subst x1
            clear R0 R1 R2
            have hk' := Lib.hid hk
            clear hk
            go_enter Try.func83, Try.ntmps83
            go_wp2_with fail
            refine (isKind_any _ _).mono ?_
            rintro e w1 ⟨rfl, rfl⟩
            rw [Hk.out]
            go_wp2_with fail
            refine (getValue_any b o n c (a + 1) k bs _ hx2 hu hn hlt hk'.out hcap hcm).mono ?_
            rw [← He2.out]
            rintro e w1 ⟨A1, c1, rfl, hown1, he1⟩
            have HK := Lib.hid (Ext.kept he1)
            obtain ⟨nul, num, txt, next, err⟩ := r
            simp only at hown1
            go_wp2_with (refine wpList_store_cell rfl (.tmp 6) (.tmp 44) rfl w.heap.size (.bool nul) (.int .i64 num) (.slice A1 txt.length c1) rfl rfl HK.out rfl rfl rfl ?_)
            apply bodyPost_ret
            · exact results_cell3 rfl _ _ w.heap.size 82 #[.bool nul, .int .i64 num, .slice A1 txt.length c1] (0, 0) _ rfl (setRow_heap w1 w.heap.size _ _ 82 (0, 0) HK.out) Try.underlying82 rfl (by kernel_rfl)
            · rfl
            have hof := (hown1.far (grown_setRow w1 w.heap.size #[.bool nul, .int .i64 num, .slice A1 txt.length c1]) (by simp)).mono (base' := w.heap.size) (by simp)
            exact ⟨A1, c1, rfl, hof, (hE.trans he1).setRow (Nat.le_refl _) _⟩
          · have He2 := Lib.hid (R1 x0 x1)
            have b4 : ((x : Int) == 0) = false := by rw [beq_eq_false_iff_ne]; omega
            have b5 : ((x : Int) == 1) = false := by rw [beq_eq_false_iff_ne]; omega
            clear R0 R1 R2 x0 x1
            go_enter Try.func83, Try.ntmps83
            go_wp2_with fail
            refine (isKind_any _ _).mono ?_
            rintro e w1 ⟨rfl, rfl⟩
            rw [Hk.out]
            go_wp2
            refine bodyPost_ret (v := .tuple #[.agg #[.bool false, .int .i64 0, .slice none 0 0], .int .i64 0, .int .i64 5]) (by simp [results, Try.results83, go_sem]) rfl ?_
            exact CGetPost.of He2.out hE
      · obtain rfl : a = n := by omega
        have hq := cget_end (bs := bs) hk
        rw [hl] at hq
        have He2 := Lib.hid (hr.trans hq)
        clear hq
        clear hr hl hk
        go_enter Try.func83, Try.ntmps83
        go_wp2_with fail
        refine (isKind_any _ _).mono ?_
        rintro e w1 ⟨rfl, rfl⟩
        rw [Hk.out]
        go_wp2
        refine bodyPost_ret (v := .tuple #[.agg #[.bool false, .int .i64 0, .slice none 0 0], .int .i64 0, .int .i64 2]) (by simp [results, Try.results83, go_sem]) rfl ?_
        exact CGetPost.of He2.out hE
  · have Hk := Lib.hid (kindK_no hk)
    have He2 := Lib.hid (hr.trans (cget_arg (.inl hk)))
    clear hr hl hk
    go_enter Try.func83, Try.ntmps83
    go_wp2_with fail
    refine (isKind_any _ _).mono ?_
    rintro e w1 ⟨rfl, rfl⟩
    rw [Hk.out]
    go_wp2
    refine bodyPost_ret (v := .tuple #[.agg #[.bool false, .int .i64 0, .slice none 0 0], .int .i64 0, .int .i64 1]) (by simp [results, Try.results83, go_sem]) rfl ?_
    exact CGetPost.of He2.out hE

end Go.Proofs.Ytpjichclpnebjaa
