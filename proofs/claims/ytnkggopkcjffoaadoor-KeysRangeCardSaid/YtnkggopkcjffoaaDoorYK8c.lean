import Derived.Test.YtnkggopkcjffoaaDoorYK8b

/-
  Layer 7: a cell of text written by the document.
-/
namespace Go.Proofs.YtnkggopkcjffoaaDoor
open Go.RowKit

set_option maxHeartbeats 1600000 in
set_option maxRecDepth 100000 in
theorem refPut7_any (num : Int) (nul : Bool) (A : Option Addr) (n c : Nat) (xs : List Nat) (w : World) (hx : Rd .u8 w A n xs) (hn : n ≤ 140737488355328) :
    Calls Tryd.prog 38 #[.int .i64 7, .agg #[.bool nul, .int .i64 num, .slice A n c]] w fun e w' => ∃ A' c', e = .returned (.slice A' (n + 1 : Nat) c') ∧ Own .u8 5 w' w.heap.size A' c' (xs ++ [0]) ∧ Ext w w' := by
  have Hl := Lib.hid hx.len
  have f2 := cell_of_row _ w.heap.size 2 _ _ (0, 0) (heap_alloc_new w (.cells #[.bool nul, .int .i64 num, .slice A n c] 63))
  have K : Hid (∀ W, Ext (w.alloc (.cells #[.bool nul, .int .i64 num, .slice A n c] 63)) W → W.cell? ⟨w.heap.size, 2, none⟩ = some (.slice A n c)) := Lib.hid (fun W hW => (hW.cells w.heap.size 2 (by simp)).trans f2)
  obtain ⟨W0, hW0⟩ : ∃ W0, W0 = w.alloc (.cells #[.bool nul, .int .i64 num, .slice A n c] 63) := ⟨_, rfl⟩
  have hEb : Ext w W0 := by rw [hW0]; exact (Ext.refl w).alloc _
  rw [← hW0] at K
  have HW0 := Lib.hid hW0
  have hS0 : W0.heap.size = w.heap.size + 1 := by rw [hW0]; simp
  have HS0 := Lib.hid hS0
  have hx0 := hx.ext hEb
  have Hx := Lib.hid hx0
  have HEb := Lib.hid hEb
  have H0 := Lib.hid (show Own .u8 5 (W0.alloc (.cells #[] 5)) W0.heap.size (some ⟨w.heap.size + 1, 0, none⟩) 0 (xs.take 0) by rw [← HS0.out]; exact Own.made .u8 _ W0 (Nat.le_refl _))
  clear hW0 f2 hS0 hx hx0 hEb
  go_enter Tryd.func38, Tryd.ntmps38
  go_wp2
  rw [← HW0.out]
  go_loopw [5, 9] (fun v i wr => ∃ (j : Nat) (A' : Option Addr) (c' : Nat), j ≤ n ∧ i = .int .i64 j ∧ v = .slice A' j c' ∧ Own .u8 5 wr W0.heap.size A' c' (xs.take j) ∧ Ext W0 wr) (fun _ i _ => n - (intOf i).toNat)
  case atStart => exact ⟨0, _, _, Nat.zero_le _, rfl, rfl, H0.out, (Ext.refl W0).alloc _⟩
  case round =>
    clear H0
    obtain ⟨j, A', c', hj, rfl, rfl, hown, hE⟩ := hrel
    have g2 := K.out _ hE
    have hz := hE.size
    by_cases hlt : j < n
    · obtain ⟨b, o, hA, hbl, hc⟩ := (Hx.out.ext hE).at_ hlt
      subst hA
      have htl : (xs.take j).length = j := by rw [List.length_take, Hl.out]; omega
      have Htl := Lib.hid htl
      clear htl
      go_wp2_with (at_builtin; refine wpList_push .u8 (xs.getD j 0) 5 rfl _ _ 28 rfl _ 1 Tryd.underlying28 Tryd.infoU8 rfl hown j Htl.out rfl rfl rfl (by omega) (by omega) hE hz ?_; intro A1 c1 w1 hown1 hb1 hz1)
      go_roundw
      case rel => exact ⟨j + 1, A1, c1, by omega, by go_num, by go_num, by rw [take_next _ _ (by have := Hl.out; omega)]; exact hown1, hb1⟩
      case measure => simp [intOf]; omega
    · obtain rfl : j = n := by omega
      rw [List.take_of_length_le (Nat.le_of_eq Hl.out)] at hown
      go_wp2_with (at_builtin; refine wpList_push .u8 0 5 rfl _ _ 28 rfl _ 1 Tryd.underlying28 Tryd.infoU8 rfl hown j Hl.out rfl rfl rfl (by omega) (by omega) hE hz ?_; intro A1 c1 w1 hown1 hb1 hz1)
      go_ret
      exact ⟨_, _, rfl, hown1.mono HEb.out.size, HEb.out.trans hb1⟩

set_option maxHeartbeats 1600000 in
set_option maxRecDepth 100000 in
theorem refPut8_any (num : Int) (nul : Bool) (A : Option Addr) (n c : Nat) (xs : List Nat) (w : World) (hx : Rd .u8 w A n xs) (hn : n ≤ 65536) :
    Calls Tryd.prog 38 #[.int .i64 8, .agg #[.bool nul, .int .i64 num, .slice A n c]] w fun e w' => ∃ A' c', e = .returned (.slice A' ((esc xs).length + 2 : Nat) c') ∧ Own .u8 5 w' w.heap.size A' c' (esc xs ++ [0, 0]) ∧ Ext w w' := by
  have Hl := Lib.hid hx.len
  have f2 := cell_of_row _ w.heap.size 2 _ _ (0, 0) (heap_alloc_new w (.cells #[.bool nul, .int .i64 num, .slice A n c] 63))
  have K : Hid (∀ W, Ext (w.alloc (.cells #[.bool nul, .int .i64 num, .slice A n c] 63)) W → W.cell? ⟨w.heap.size, 2, none⟩ = some (.slice A n c)) := Lib.hid (fun W hW => (hW.cells w.heap.size 2 (by simp)).trans f2)
  obtain ⟨W0, hW0⟩ : ∃ W0, W0 = w.alloc (.cells #[.bool nul, .int .i64 num, .slice A n c] 63) := ⟨_, rfl⟩
  have hEb : Ext w W0 := by rw [hW0]; exact (Ext.refl w).alloc _
  rw [← hW0] at K
  have HW0 := Lib.hid hW0
  have hS0 : W0.heap.size = w.heap.size + 1 := by rw [hW0]; simp
  have HS0 := Lib.hid hS0
  have hx0 := hx.ext hEb
  have Hx := Lib.hid hx0
  have HEb := Lib.hid hEb
  have H0 := Lib.hid (show Own .u8 5 (W0.alloc (.cells #[] 5)) W0.heap.size (some ⟨w.heap.size + 1, 0, none⟩) 0 (esc (xs.take 0)) by rw [← HS0.out]; exact Own.made .u8 _ W0 (Nat.le_refl _))
  obtain ⟨M, hM⟩ : ∃ M, M = (esc xs).length := ⟨_, rfl⟩
  have hMl := esc_len xs
  rw [← hM, Hl.out] at hMl
  rw [← hM]
  have HM := Lib.hid hM
  clear hW0 f2 hS0 hx hx0 hEb hM
  go_enter Tryd.func38, Tryd.ntmps38
  go_wp2
  rw [← HW0.out]
  go_loopw [5, 9] (fun v i wr => ∃ (j L : Nat) (A' : Option Addr) (c' : Nat), j ≤ n ∧ i = .int .i64 j ∧ v = .slice A' L c' ∧ Hid ((esc (xs.take j)).length = L ∧ L ≤ 2 * j) ∧ Own .u8 5 wr W0.heap.size A' c' (esc (xs.take j)) ∧ Ext W0 wr) (fun _ i _ => n - (intOf i).toNat)
  case atStart => exact ⟨0, 0, _, _, Nat.zero_le _, rfl, rfl, ⟨rfl, Nat.le_refl _⟩, H0.out, (Ext.refl W0).alloc _⟩
  case round =>
    clear H0
    obtain ⟨j, L, A', c', hj, rfl, rfl, HL, hown, hE⟩ := hrel
    have g2 := K.out _ hE
    have hz := hE.size
    have hL2 := HL.out.2
    by_cases hlt : j < n
    · obtain ⟨b, o, hA, hbl, hc⟩ := (Hx.out.ext hE).at_ hlt
      have Hx2 := Lib.hid (Hx.out.ext hE)
      subst hA
      have htk := Lib.hid (take_next xs j (by rw [Hl.out]; exact hlt))
      obtain ⟨x, hxx⟩ : ∃ x, x = xs.getD j 0 := ⟨_, rfl⟩
      rw [← hxx] at hc htk
      have HLl := Lib.hid HL.out.1
      clear hxx
      have HC : Hid (∀ W, Below W0.heap.size W0 W → W.cell? ⟨b, o + j, none⟩ = some (.int .u8 (x : Nat))) := Lib.hid (fun W hW => by
        have hbW : b < W0.heap.size := by
          obtain ⟨b', o', e1, h1, _⟩ := Hx.out.at_ hlt
          injection e1 with e1
          injection e1 with e1
          rw [e1]; exact h1
        exact (Below.cell hW (p := ⟨b, o + j, none⟩) hbW).trans ((Below.cell hE (p := ⟨b, o + j, none⟩) hbW).symm.trans hc))
      by_cases hx0 : x = 0
      · subst hx0
        have He := Lib.hid (show esc (xs.take (j + 1)) = esc (xs.take j) ++ [0] ++ [255] by rw [htk.out, esc_append, List.append_assoc]; rfl)
        have Hl1 := Lib.hid (show (esc (xs.take j) ++ [0]).length = L + 1 by rw [List.length_append, HLl.out]; rfl)
        go_wp2_with (first | (at_builtin; refine wpList_push .u8 0 5 rfl _ _ 28 rfl _ 1 Tryd.underlying28 Tryd.infoU8 rfl hown L HLl.out rfl rfl rfl (by omega) (by omega) hE hz ?_; intro A1 c1 w1 hown1 hb1 hz1; have g2' := K.out _ hb1; have hcc := HC.out _ hb1) | (at_builtin; refine wpList_push .u8 255 5 rfl _ _ 28 rfl _ 1 Tryd.underlying28 Tryd.infoU8 rfl hown1 (L + 1) Hl1.out rfl rfl rfl (by omega) (by omega) hb1 hz1 ?_; intro A3 c3 w3 hown3 hb3 hz3) | fail)
        go_roundw
        case rel => exact ⟨j + 1, L + 2, A3, c3, by omega, by go_num, by go_num, ⟨by rw [He.out, List.length_append, Hl1.out]; rfl, by omega⟩, by rw [He.out]; exact hown3, hb3⟩
        case measure => simp [intOf]; omega
      · have He := Lib.hid (show esc (xs.take (j + 1)) = esc (xs.take j) ++ [x] by rw [htk.out, esc_append]; congr 1; exact esc_pos _ hx0)
        have hbx : ((x : Int) == 0) = false := by rw [beq_eq_false_iff_ne]; omega
        go_wp2_with (first | (at_builtin; refine wpList_push .u8 x 5 rfl _ _ 28 rfl _ 1 Tryd.underlying28 Tryd.infoU8 rfl hown L HLl.out rfl rfl rfl (by omega) (by omega) hE hz ?_; intro A1 c1 w1 hown1 hb1 hz1; have g2' := K.out _ hb1; have hcc := HC.out _ hb1) | fail)
        go_roundw
        case rel => exact ⟨j + 1, L + 1, A1, c1, by omega, by go_num, by go_num, ⟨by rw [He.out, List.length_append, HLl.out]; rfl, by omega⟩, by rw [He.out]; exact hown1, hb1⟩
        case measure => simp [intOf]; omega
    · obtain rfl : j = n := by omega
      rw [List.take_of_length_le (Nat.le_of_eq Hl.out)] at hown HL
      have HLl := Lib.hid HL.out.1
      have Hl1 := Lib.hid (show (esc xs ++ [0]).length = L + 1 by rw [List.length_append, HLl.out]; rfl)
      have HML := Lib.hid (HM.out.trans HLl.out)
      clear HL
      go_wp2_with (first | (at_builtin; refine wpList_push .u8 0 5 rfl _ _ 28 rfl _ 1 Tryd.underlying28 Tryd.infoU8 rfl hown L HLl.out rfl rfl rfl (by omega) (by omega) hE hz ?_; intro A1 c1 w1 hown1 hb1 hz1) | (at_builtin; refine wpList_push .u8 0 5 rfl _ _ 28 rfl _ 1 Tryd.underlying28 Tryd.infoU8 rfl hown1 (L + 1) Hl1.out rfl rfl rfl (by omega) (by omega) hb1 hz1 ?_; intro A3 c3 w3 hown3 hb3 hz3) | fail)
      go_ret
      exact ⟨A3, c3, by rw [HML.out]; first | rfl | go_num, by have := hown3.mono HEb.out.size; rwa [List.append_assoc] at this, HEb.out.trans hb3⟩

end Go.Proofs.YtnkggopkcjffoaaDoor
