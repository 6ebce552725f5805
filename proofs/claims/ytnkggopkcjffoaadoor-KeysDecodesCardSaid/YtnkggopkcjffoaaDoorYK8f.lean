import Derived.Test.YtnkggopkcjffoaaDoorYK8e

/-
  Layer 7: texts and bytes read by the document.
-/
namespace Go.Proofs.YtnkggopkcjffoaaDoor
open Go.RowKit

set_option maxHeartbeats 1600000 in
set_option maxRecDepth 100000 in
theorem refRead7_any (A : Option Addr) (n c at_ : Nat) (bs : List Nat) (w : World) (hx : Rd .u8 w A n bs) (hn : n ≤ 140737488355328) (ha : at_ ≤ n) :
    Calls Tryd.prog 46 #[.int .i64 7, .slice A n c, .int .i64 at_] w (RReadPost ((readT (bs.drop at_)).map fun p => (0, p.1, p.2)) n w) := by
  obtain ⟨R, hR⟩ : ∃ R : Option (Int × List Nat × List Nat), R = (readT (bs.drop at_)).map fun p => (0, p.1, p.2) := ⟨_, rfl⟩
  rw [← hR]
  have HR0 : Hid (R = (readT (bs.drop at_)).map fun p => ((0 : Int), ([] : List Nat) ++ p.1, p.2)) := Lib.hid (by simpa using hR)
  have Hl := Lib.hid hx.len
  obtain ⟨W1, hW1⟩ : ∃ W1, W1 = w.alloc (.cells #[.bool false, .int .i64 0, .slice none 0 0] 63) := ⟨_, rfl⟩
  have HE0 : Hid (Ext w W1) := Lib.hid (by rw [hW1]; exact (Ext.refl w).alloc _)
  have hS1 : W1.heap.size = w.heap.size + 1 := by rw [hW1]; simp
  have HK0 : Hid (W1.heap[w.heap.size]? = some (.cells #[.bool false, .int .i64 0, .slice none 0 0] 63)) := Lib.hid (by rw [hW1]; exact heap_alloc_new w _)
  have Hx := Lib.hid (hx.ext HE0.out)
  have H0 := Lib.hid (show Own .u8 5 (W1.alloc (.cells #[] 5)) W1.heap.size (some ⟨w.heap.size + 1, 0, none⟩) 0 [] by rw [← hS1]; exact Own.made .u8 _ W1 (Nat.le_refl _))
  have HW1 := Lib.hid hW1
  have HS1 := Lib.hid hS1
  clear hW1 hR hx hS1
  go_enter Tryd.func46, Tryd.ntmps46
  go_wp2_with fail
  rw [← HW1.out]
  go_loopw [10, 11] (fun v i wr => ∃ (j L : Nat) (A' : Option Addr) (c' : Nat) (T : List Nat), j ≤ n ∧ L ≤ j ∧ i = .int .i64 j ∧ v = .slice A' L c' ∧ Hid (T.length = L) ∧ Own .u8 5 wr W1.heap.size A' c' T ∧ Ext W1 wr ∧ Hid (R = (readT (bs.drop j)).map fun p => ((0 : Int), T ++ p.1, p.2))) (fun _ i _ => n - (intOf i).toNat)
  case atStart => exact ⟨at_, 0, _, _, [], ha, Nat.zero_le _, rfl, rfl, Lib.hid rfl, H0.out, (Ext.refl W1).alloc _, HR0⟩
  case round =>
    clear H0 HR0 ha
    obtain ⟨j, L, A', c', T, hj, hLj, rfl, rfl, HT, hown, hE, HR⟩ := hrel
    have hz := hE.size
    have HK := Lib.hid ((hE.block w.heap.size (by rw [HS1.out]; omega)).trans HK0.out)
    by_cases hlt : j < n
    · obtain ⟨b, o, hA, hbl, hc⟩ := (Hx.out.ext hE).at_ hlt
      have hd : bs.drop j = bs.getD j 0 :: bs.drop (j + 1) := by
        have hjl : j < bs.length := by rw [Hl.out]; exact hlt
        rw [List.drop_eq_getElem_cons hjl]
        simp [List.getD_eq_getElem?_getD, List.getElem?_eq_getElem hjl]
      obtain ⟨x, hxx⟩ : ∃ x, x = bs.getD j 0 := ⟨_, rfl⟩
      rw [← hxx] at hc hd
      have Hd := Lib.hid hd
      have Hx2 := Lib.hid (Hx.out.ext hE)
      subst hA
      clear hd hxx
      by_cases hx0 : x = 0
      · subst hx0
        have HN : Hid (R = some (0, T, bs.drop (j + 1))) := Lib.hid (by rw [HR.out, Hd.out]; simp [readT])
        go_wp2_with (first | (refine wpList_store_cell rfl (.tmp 6) (.tmp 75) rfl w.heap.size (.bool false) (.int .i64 0) (.slice A' L c') rfl rfl HK.out rfl rfl rfl ?_) | fail)
        apply bodyPost_ret
        · exact results_cell2 rfl _ _ w.heap.size 63 #[.bool false, .int .i64 0, .slice A' L c'] (0, 0) _ rfl (setRow_heap wr w.heap.size _ _ 63 (0, 0) HK.out) Tryd.underlying63 rfl (by kernel_rfl)
        · rfl
        rw [HN.out]
        exact ⟨(HE0.out.trans hE).setRow (Nat.le_refl _) _, A', c', by
          dsimp only
          rw [HT.out, List.length_drop, Hl.out, show n - (n - (j + 1)) = j + 1 by omega]
          first | rfl | (go_num) | (congr 3), (hown.far (grown_setRow wr w.heap.size #[.bool false, .int .i64 0, .slice A' L c']) (by rw [HS1.out]; omega)).mono (by rw [HS1.out]; omega)⟩
      · have HN : Hid (R = (readT (bs.drop (j + 1))).map fun p => ((0 : Int), (T ++ [x]) ++ p.1, p.2)) := Lib.hid (by
          rw [HR.out, Hd.out]
          simp only [readT, if_neg hx0, Option.map_map]
          congr 1
          funext p
          simp)
        have hbx : ((x : Int) != 0) = true := by rw [bne_iff_ne]; omega
        have Hl2 := Lib.hid (show (T ++ [x]).length = L + 1 by rw [List.length_append, HT.out]; rfl)
        go_wp2_with (at_builtin; refine wpList_push .u8 x 5 rfl _ _ 28 rfl _ 1 Tryd.underlying28 Tryd.infoU8 rfl hown L HT.out rfl rfl rfl (by omega) (by omega) hE hz ?_; intro A1 c1 w1 hown1 hb1 hz1)
        go_roundw
        case rel => exact ⟨j + 1, L + 1, A1, c1, T ++ [x], by omega, by omega, by go_num, by go_num, Hl2, hown1, hb1, HN⟩
        case measure => simp [intOf]; omega
    · obtain rfl : j = n := by omega
      have HN : Hid (R = none) := Lib.hid (by rw [HR.out, List.drop_of_length_le (Nat.le_of_eq Hl.out)]; rfl)
      go_wp2_with (first | (refine wpList_store_cell rfl (.tmp 6) (.tmp 115) rfl w.heap.size (.bool false) (.int .i64 0) (.slice none 0 0) rfl rfl HK.out rfl rfl rfl ?_) | fail)
      apply bodyPost_ret
      · exact results_cell2 rfl _ _ w.heap.size 63 #[.bool false, .int .i64 0, .slice none 0 0] (0, 0) _ rfl (setRow_heap wr w.heap.size _ _ 63 (0, 0) HK.out) Tryd.underlying63 rfl (by kernel_rfl)
      · rfl
      rw [HN.out]
      exact ⟨(HE0.out.trans hE).setRow (Nat.le_refl _) _, rfl⟩

set_option maxHeartbeats 1600000 in
set_option maxRecDepth 100000 in
theorem refRead8_any (A : Option Addr) (n c at_ : Nat) (bs : List Nat) (w : World) (hx : Rd .u8 w A n bs) (hn : n ≤ 140737488355328) (ha : at_ ≤ n) :
    Calls Tryd.prog 46 #[.int .i64 8, .slice A n c, .int .i64 at_] w (RReadPost ((readB (bs.drop at_)).map fun p => (0, p.1, p.2)) n w) := by
  obtain ⟨R, hR⟩ : ∃ R : Option (Int × List Nat × List Nat), R = (readB (bs.drop at_)).map fun p => (0, p.1, p.2) := ⟨_, rfl⟩
  rw [← hR]
  have HR0 : Hid (R = (readB (bs.drop at_)).map fun p => ((0 : Int), ([] : List Nat) ++ p.1, p.2)) := Lib.hid (by simpa using hR)
  have Hl := Lib.hid hx.len
  obtain ⟨W1, hW1⟩ : ∃ W1, W1 = w.alloc (.cells #[.bool false, .int .i64 0, .slice none 0 0] 63) := ⟨_, rfl⟩
  have HE0 : Hid (Ext w W1) := Lib.hid (by rw [hW1]; exact (Ext.refl w).alloc _)
  have hS1 : W1.heap.size = w.heap.size + 1 := by rw [hW1]; simp
  have HK0 : Hid (W1.heap[w.heap.size]? = some (.cells #[.bool false, .int .i64 0, .slice none 0 0] 63)) := Lib.hid (by rw [hW1]; exact heap_alloc_new w _)
  have Hx := Lib.hid (hx.ext HE0.out)
  have H0 := Lib.hid (show Own .u8 5 (W1.alloc (.cells #[] 5)) W1.heap.size (some ⟨w.heap.size + 1, 0, none⟩) 0 [] by rw [← hS1]; exact Own.made .u8 _ W1 (Nat.le_refl _))
  have HW1 := Lib.hid hW1
  have HS1 := Lib.hid hS1
  clear hW1 hR hx hS1
  go_enter Tryd.func46, Tryd.ntmps46
  go_wp2_with fail
  rw [← HW1.out]
  go_loopw [10, 11] (fun v i wr => ∃ (j L : Nat) (A' : Option Addr) (c' : Nat) (T : List Nat), j ≤ n ∧ L ≤ j ∧ i = .int .i64 j ∧ v = .slice A' L c' ∧ Hid (T.length = L) ∧ Own .u8 5 wr W1.heap.size A' c' T ∧ Ext W1 wr ∧ Hid (R = (readB (bs.drop j)).map fun p => ((0 : Int), T ++ p.1, p.2))) (fun _ i _ => n - (intOf i).toNat)
  case atStart => exact ⟨at_, 0, _, _, [], ha, Nat.zero_le _, rfl, rfl, Lib.hid rfl, H0.out, (Ext.refl W1).alloc _, HR0⟩
  case round =>
    clear H0 HR0 ha
    obtain ⟨j, L, A', c', T, hj, hLj, rfl, rfl, HT, hown, hE, HR⟩ := hrel
    have hz := hE.size
    have HK := Lib.hid ((hE.block w.heap.size (by rw [HS1.out]; omega)).trans HK0.out)
    by_cases hlt : j < n
    · obtain ⟨b, o, hA, hbl, hc⟩ := (Hx.out.ext hE).at_ hlt
      have hd : bs.drop j = bs.getD j 0 :: bs.drop (j + 1) := by
        have hjl : j < bs.length := by rw [Hl.out]; exact hlt
        rw [List.drop_eq_getElem_cons hjl]
        simp [List.getD_eq_getElem?_getD, List.getElem?_eq_getElem hjl]
      obtain ⟨x, hxx⟩ : ∃ x, x = bs.getD j 0 := ⟨_, rfl⟩
      rw [← hxx] at hc hd
      have Hd := Lib.hid hd
      have Hx2 := Lib.hid (Hx.out.ext hE)
      subst hA
      clear hd hxx
      by_cases hx0 : x = 0
      · subst hx0
        by_cases hlast : j + 1 = n
        · have HN : Hid (R = none) := Lib.hid (by
            rw [HR.out, Hd.out, List.drop_of_length_le (by rw [Hl.out]; omega)]
            rfl)
          have i1 : (n : Int) ≤ (j : Int) + 1 := by omega
          have d1 : decide ((n : Int) ≤ (j : Int) + 1) = true := decide_eq_true i1
          go_wp2_with (first | (refine wpList_store_cell rfl (.tmp 6) (.tmp 99) rfl w.heap.size (.bool false) (.int .i64 0) (.slice none 0 0) rfl rfl HK.out rfl rfl rfl ?_) | fail)
          apply bodyPost_ret
          · exact results_cell2 rfl _ _ w.heap.size 63 #[.bool false, .int .i64 0, .slice none 0 0] (0, 0) _ rfl (setRow_heap wr w.heap.size _ _ 63 (0, 0) HK.out) Tryd.underlying63 rfl (by kernel_rfl)
          · rfl
          rw [HN.out]
          exact ⟨(HE0.out.trans hE).setRow (Nat.le_refl _) _, rfl⟩
        · have hlt2 : j + 1 < n := by omega
          have hc1 : wr.cell? ⟨b, o + (j + 1), none⟩ = some (.int .u8 ((bs.getD (j + 1) 0 : Nat) : Int)) := by
            obtain ⟨b2, o2, e2, _, h2⟩ := Hx2.out.at_ hlt2
            injection e2 with e2
            injection e2 with e3 e4
            subst e3 e4
            exact h2
          have hd1 : bs.drop (j + 1) = bs.getD (j + 1) 0 :: bs.drop (j + 2) := by
            have hjl : j + 1 < bs.length := by rw [Hl.out]; exact hlt2
            rw [List.drop_eq_getElem_cons hjl]
            simp [List.getD_eq_getElem?_getD, List.getElem?_eq_getElem hjl]
          obtain ⟨y, hyy⟩ : ∃ y, y = bs.getD (j + 1) 0 := ⟨_, rfl⟩
          rw [← hyy] at hc1 hd1
          have Hd1 := Lib.hid hd1
          have i1 : (j : Int) + 1 < (n : Int) := by omega
          have i2 : ¬ (n : Int) ≤ (j : Int) + 1 := by omega
          have i3 : (0 : Int) ≤ (j : Int) + 1 := by omega
          have i4 : ((j : Int) + 1).toNat = j + 1 := by omega
          clear hd1 hyy hlast
          by_cases hy0 : y = 0
          · subst hy0
            have HN : Hid (R = some (0, T, bs.drop (j + 2))) := Lib.hid (by rw [HR.out, Hd.out, Hd1.out]; simp [readB])
            go_wp2_with (first | (refine wpList_store_cell rfl (.tmp 6) (.tmp 107) rfl w.heap.size (.bool false) (.int .i64 0) (.slice A' L c') rfl rfl HK.out rfl rfl rfl ?_) | fail)
            apply bodyPost_ret
            · exact results_cell2 rfl _ _ w.heap.size 63 #[.bool false, .int .i64 0, .slice A' L c'] (0, 0) _ rfl (setRow_heap wr w.heap.size _ _ 63 (0, 0) HK.out) Tryd.underlying63 rfl (by kernel_rfl)
            · rfl
            rw [HN.out]
            exact ⟨(HE0.out.trans hE).setRow (Nat.le_refl _) _, A', c', by
              dsimp only
              rw [HT.out, List.length_drop, Hl.out, show n - (n - (j + 2)) = j + 2 by omega]
              first | rfl | (go_num) | (congr 3), (hown.far (grown_setRow wr w.heap.size #[.bool false, .int .i64 0, .slice A' L c']) (by rw [HS1.out]; omega)).mono (by rw [HS1.out]; omega)⟩
          · by_cases hyf : y = 255
            · subst hyf
              have HN : Hid (R = (readB (bs.drop (j + 2))).map fun p => ((0 : Int), (T ++ [0]) ++ p.1, p.2)) := Lib.hid (by
                rw [HR.out, Hd.out, Hd1.out]
                simp only [readB, if_true]
                rw [if_neg (by decide)]
                rw [Option.map_map]
                congr 1
                funext p
                simp)
              have Hl2 := Lib.hid (show (T ++ [0]).length = L + 1 by rw [List.length_append, HT.out]; rfl)
              go_wp2_with (at_builtin; refine wpList_push .u8 0 5 rfl _ _ 28 rfl _ 1 Tryd.underlying28 Tryd.infoU8 rfl hown L HT.out rfl rfl rfl (by omega) (by omega) hE hz ?_; intro A1 c1 w1 hown1 hb1 hz1)
              go_roundw
              case rel => exact ⟨j + 2, L + 1, A1, c1, T ++ [0], by omega, by omega, by go_num, by go_num, Hl2, hown1, hb1, HN⟩
              case measure => simp [intOf]; omega
            · have HN : Hid (R = none) := Lib.hid (by rw [HR.out, Hd.out, Hd1.out]; simp [readB, hy0, hyf])
              have b1 : ((y : Int) != 0) = true := by rw [bne_iff_ne]; omega
              have b2 : ((y : Int) != 255) = true := by rw [bne_iff_ne]; omega
              go_wp2_with (first | (refine wpList_store_cell rfl (.tmp 6) (.tmp 99) rfl w.heap.size (.bool false) (.int .i64 0) (.slice none 0 0) rfl rfl HK.out rfl rfl rfl ?_) | fail)
              apply bodyPost_ret
              · exact results_cell2 rfl _ _ w.heap.size 63 #[.bool false, .int .i64 0, .slice none 0 0] (0, 0) _ rfl (setRow_heap wr w.heap.size _ _ 63 (0, 0) HK.out) Tryd.underlying63 rfl (by kernel_rfl)
              · rfl
              rw [HN.out]
              exact ⟨(HE0.out.trans hE).setRow (Nat.le_refl _) _, rfl⟩
      · have HN : Hid (R = (readB (bs.drop (j + 1))).map fun p => ((0 : Int), (T ++ [x]) ++ p.1, p.2)) := Lib.hid (by
          rw [HR.out, Hd.out, readB_pos hx0, Option.map_map]
          congr 1
          funext p
          simp)
        have hbx : ((x : Int) != 0) = true := by rw [bne_iff_ne]; omega
        have Hl2 := Lib.hid (show (T ++ [x]).length = L + 1 by rw [List.length_append, HT.out]; rfl)
        go_wp2_with (at_builtin; refine wpList_push .u8 x 5 rfl _ _ 28 rfl _ 1 Tryd.underlying28 Tryd.infoU8 rfl hown L HT.out rfl rfl rfl (by omega) (by omega) hE hz ?_; intro A1 c1 w1 hown1 hb1 hz1)
        go_roundw
        case rel => exact ⟨j + 1, L + 1, A1, c1, T ++ [x], by omega, by omega, by go_num, by go_num, Hl2, hown1, hb1, HN⟩
        case measure => simp [intOf]; omega
    · obtain rfl : j = n := by omega
      have HN : Hid (R = none) := Lib.hid (by rw [HR.out, List.drop_of_length_le (Nat.le_of_eq Hl.out)]; rfl)
      go_wp2_with (first | (refine wpList_store_cell rfl (.tmp 6) (.tmp 115) rfl w.heap.size (.bool false) (.int .i64 0) (.slice none 0 0) rfl rfl HK.out rfl rfl rfl ?_) | fail)
      apply bodyPost_ret
      · exact results_cell2 rfl _ _ w.heap.size 63 #[.bool false, .int .i64 0, .slice none 0 0] (0, 0) _ rfl (setRow_heap wr w.heap.size _ _ 63 (0, 0) HK.out) Tryd.underlying63 rfl (by kernel_rfl)
      · rfl
      rw [HN.out]
      exact ⟨(HE0.out.trans hE).setRow (Nat.le_refl _) _, rfl⟩

theorem refRead_any (k : Int) (A : Option Addr) (n c at_ : Nat) (bs : List Nat) (w : World) (hx : Rd .u8 w A n bs) (hu : U8 bs) (hn : n ≤ 140737488355328) (ha : at_ ≤ n) (hk : 1 ≤ k ∧ k ≤ 8) :
    Calls Tryd.prog 46 #[.int .i64 k, .slice A n c, .int .i64 at_] w (RReadPost (kread k (bs.drop at_)) n w) := by
  by_cases h6 : k ≤ 6
  · exact refReadN_any k A n c at_ bs w hx hu hn ha ⟨hk.1, h6⟩
  · unfold kread
    rw [if_neg h6]
    by_cases h7 : k = 7
    · subst h7
      rw [if_pos rfl]
      exact refRead7_any A n c at_ bs w hx hn ha
    · obtain rfl : k = 8 := by omega
      rw [if_neg (by decide)]
      exact refRead8_any A n c at_ bs w hx hn ha

end Go.Proofs.YtnkggopkcjffoaaDoor
