/-
  The document's answers of layer 4, by definition: a frame read, at a place with nine bytes or more.
-/
import Derived.Test.YtegplcllimoakaaG3
import Derived.IntWalk
namespace Go.Proofs.Ytegplcllimoakaa
open Go.RowKit

theorem piece_cut {bs : List Nat} (a m : Nat) : piece bs (a : Int) ((a : Int) + (m : Int)) = cut bs a m := by
  unfold piece
  rw [show ((a : Int) + (m : Int)).toNat = a + m from by omega, Int.toNat_natCast, cut, List.drop_take]
  congr 1
  omega

theorem grown_setCell (w : World) (g i : Nat) (v : Value) : w.grownBy (w.setCell ⟨g, i, none⟩ v) (some g) :=
  ⟨rfl, rfl, rfl, by simp [World.setCell], fun k _ hne => heap_setCell_other w ⟨g, i, none⟩ k v (fun e => hne (by rw [e]))⟩

theorem Ext.undrew' {w w' : World} (h : Ext w.drew w') : Ext w w' := ⟨h.os, h.tape, h.output, h.size, h.block⟩

set_option maxHeartbeats 1600000 in
theorem refFGet_good (b o n c a : Nat) (bs : List Nat) (w : World) (hx : Rd .u8 w (some ⟨b, o, none⟩) n bs) (hu : U8 bs) (hn : n ≤ 140737488355328) (ha : a + 9 ≤ n) :
    Calls Try.prog 34 #[.slice (some ⟨b, o, none⟩) n c, .int .i64 (a : Int)] w (FGetPost bs a w) := by
  have hl := hx.len
  have hin := fget_in (bs := bs) (a := a) (by omega)
  obtain ⟨b', o', he, hbl, hcell⟩ := hx.2 (by omega)
  injection he with he
  injection he with he1 he2
  subst he1 he2
  have hca := hcell a (by omega)
  have hcl9 : (cut bs a 9).length = 9 := cut_len (by omega)
  have hp9 := piece_cut (bs := bs) a 9
  have hu9 := cut_u8 hu a 9
  obtain ⟨m, hm⟩ : ∃ m, m = pk 8 (cut bs (a + 1) 4) := ⟨_, rfl⟩
  have hml : m < 4294967296 := by
    have h1 := pk_lt (U8_wd.1 (cut_u8 hu (a + 1) 4))
    rw [cut_len (by omega), ← hm] at h1
    simpa using h1
  have hpr : piece bs ((a : Int) + 9) ((a : Int) + 13 + (m : Int)) = cut bs (a + 9) (m + 4) := by
    rw [show ((a : Int) + 9) = ((a + 9 : Nat) : Int) from by omega, show ((a : Int) + 13 + (m : Int)) = ((a + 9 : Nat) : Int) + ((m + 4 : Nat) : Int) from by omega]
    exact piece_cut _ _
  have hpb : piece bs ((a : Int) + 9) ((a : Int) + 13 + (m : Int) - 4) = cut bs (a + 9) m := by
    rw [show ((a : Int) + 9) = ((a + 9 : Nat) : Int) from by omega, show ((a : Int) + 13 + (m : Int) - 4) = ((a + 9 : Nat) : Int) + (m : Int) from by omega]
    exact piece_cut _ _
  have hfg : fgetN bs a = (if ¬ sld (cut bs a 9) then (0, [], 0, 40) else if bs.getD a 0 = 0 then (0, [], 0, 5) else if 65536 < m then (0, [], 0, 4) else if bs.length < a + 13 + m then (0, [], 0, 2) else if ¬ sld (cut bs (a + 9) (m + 4)) then (0, [], 0, 40) else (bs.getD a 0, cut bs (a + 9) m, a + 13 + m, 0)) := by
    rw [fgetN, if_neg (by omega), hm]
  obtain ⟨x, hx0⟩ : ∃ x, x = bs.getD a 0 := ⟨_, rfl⟩
  have hxl := hu.at_ a
  rw [← hx0] at hca hfg hxl
  rw [hl] at hfg
  have b1 : decide ((a : Int) < 0) = false := by simp
  have b2 : decide ((n : Int) < (a : Int)) = false := by simp; omega
  have b3 : decide ((n : Int) - (a : Int) < 9) = false := by simp; omega
  have Hin := Lib.hid (hin.trans hfg)
  have Hp9 := Lib.hid hp9
  have Hc9 := Lib.hid hcl9
  have Hm := Lib.hid hm
  have Hpr := Lib.hid hpr
  have Hpb := Lib.hid hpb
  have Hcell := Lib.hid hca
  have Hl := Lib.hid hl
  clear hin hfg hp9 hcl9 hm hpr hpb hx0 hca hcell hl
  have hxw := hx.ext ((Ext.refl w).alloc (.cells #[.int .i64 0, .slice none 0 0] 45))
  go_enter Try.func34, Try.ntmps34
  go_wp2_with fail
  refine (piece_any _ n _ a ((a : Int) + 9) bs _ hxw hn (by omega)).mono ?_
  rintro e w1 ⟨A1, c1, rfl, hown1, he1⟩
  have hE1 : Ext w w1 := ((Ext.refl w).alloc _).trans he1
  rw [show ((a : Int) + 9) = (a : Int) + ((9 : Nat) : Int) from rfl, Hp9.out] at hown1
  rw [show ((a : Int) + 9) = (a : Int) + ((9 : Nat) : Int) from rfl, Hp9.out, Hc9.out]
  have hr1 := hown1.rd' Hc9.out
  go_wp2_with fail
  refine (refSealed_any _ 9 _ (cut bs a 9) _ hr1 hu9 (by omega)).mono ?_
  rintro e w2 ⟨rfl, he2⟩
  have he2' := he1.trans he2
  have hE2 := hE1.trans he2
  have hK2 := Lib.hid (Ext.kept he2')
  by_cases hs : sld (cut bs a 9)
  · rw [decide_eq_true hs]
    rw [if_neg (fun q => q hs)] at Hin
    have hc2 : w2.cell? ⟨b, o + a, none⟩ = some (.int .u8 (x : Int)) := (Below.cell hE2 (p := ⟨b, o + a, none⟩) hbl).trans Hcell.out
    have i1 : (a : Int) < (n : Int) := by omega
    by_cases hz : x = 0
    · rw [if_pos hz] at Hin
      have hzb : ((x : Int) == 0) = true := by rw [hz]; rfl
      clear hz
      go_wp2_with (refine wpList_store_frame rfl (.tmp 4) (.tmp 38) rfl w.heap.size (.int .i64 0) (.slice none 0 0) rfl rfl hK2.out rfl rfl ?_)
      apply bodyPost_ret
      · exact results_cell3 rfl _ _ w.heap.size 45 #[.int .i64 0, .slice none 0 0] (0, 0) _ rfl (setRow_heap w2 w.heap.size _ _ 45 (0, 0) hK2.out) Try.underlying45 rfl (by kernel_rfl)
      · rfl
      exact FGetPost.err Hin.out (hE2.setRow (Nat.le_refl _) _)
    · rw [if_neg hz] at Hin
      have hzb : ((x : Int) == 0) = false := by rw [beq_eq_false_iff_ne]; omega
      clear hz
      go_wp2_with fail
      refine (value_any _ n _ (a + 1) 4 bs _ (hx.ext hE2) hu (by omega) (by omega) (by omega)).mono ?_
      rintro e w3 ⟨rfl, rfl⟩
      rw [← Hm.out]
      by_cases hbig : 65536 < m
      · rw [if_pos hbig] at Hin
        go_wp2_with (refine wpList_store_frame rfl (.tmp 4) (.tmp 48) rfl w.heap.size (.int .i64 0) (.slice none 0 0) rfl rfl hK2.out rfl rfl ?_)
        apply bodyPost_ret
        · exact results_cell3 rfl _ _ w.heap.size 45 #[.int .i64 0, .slice none 0 0] (0, 0) _ rfl (setRow_heap w2 w.heap.size _ _ 45 (0, 0) hK2.out) Try.underlying45 rfl (by kernel_rfl)
        · rfl
        exact FGetPost.err Hin.out (hE2.setRow (Nat.le_refl _) _)
      · rw [if_neg hbig] at Hin
        have hm5 : m ≤ 65536 := by omega
        by_cases hsh : n < a + 13 + m
        · rw [if_pos hsh] at Hin
          go_wp2_with (refine wpList_store_frame rfl (.tmp 4) (.tmp 58) rfl w.heap.size (.int .i64 0) (.slice none 0 0) rfl rfl hK2.out rfl rfl ?_)
          apply bodyPost_ret
          · exact results_cell3 rfl _ _ w.heap.size 45 #[.int .i64 0, .slice none 0 0] (0, 0) _ rfl (setRow_heap w2 w.heap.size _ _ 45 (0, 0) hK2.out) Try.underlying45 rfl (by kernel_rfl)
          · rfl
          exact FGetPost.err Hin.out (hE2.setRow (Nat.le_refl _) _)
        · rw [if_neg hsh] at Hin
          have hend : a + 13 + m ≤ n := by omega
          have hclr : (cut bs (a + 9) (m + 4)).length = m + 4 := cut_len (by rw [Hl.out]; omega)
          have hclb : (cut bs (a + 9) m).length = m := cut_len (by rw [Hl.out]; omega)
          have Hclr := Lib.hid hclr
          have Hclb := Lib.hid hclb
          clear hclr hclb
          go_wp2_with fail
          refine (piece_any _ n _ ((a : Int) + 9) ((a : Int) + 13 + (m : Int)) bs _ (hx.ext hE2) hn (by omega)).mono ?_
          rintro e w4 ⟨A4, c4, rfl, hown4, he4⟩
          rw [Hpr.out] at hown4 ⊢
          rw [Hclr.out]
          have hr4 := hown4.rd' Hclr.out
          go_wp2_with fail
          refine (refSealed_any _ (m + 4) _ (cut bs (a + 9) (m + 4)) _ hr4 (cut_u8 hu _ _) (by omega)).mono ?_
          rintro e w5 ⟨rfl, he5⟩
          have he5' := (he2'.trans he4).trans he5
          have hE5 := (hE2.trans he4).trans he5
          have hK5 := Lib.hid (Ext.kept he5')
          by_cases hs2 : sld (cut bs (a + 9) (m + 4))
          · rw [decide_eq_true hs2]
            rw [if_neg (fun q => q hs2)] at Hin
            have hc5 : w5.cell? ⟨b, o + a, none⟩ = some (.int .u8 (x : Int)) := (Below.cell hE5 (p := ⟨b, o + a, none⟩) hbl).trans Hcell.out
            have hx5 := hx.ext hE5
            have i0 : (0 : Int) ≤ (a : Int) := by omega
            have hlt5 : w.heap.size < w5.heap.size := (Array.getElem?_eq_some_iff.1 hK5.out).1
            have hpz : (a : Int) + 9 ≤ 9223372036854775807 := by omega
            have hw1 : IntKind.i64.wrap ((a : Int) + 9) = (a : Int) + 9 := IntWalk.i64_in _ (by omega)
            have hw3 : IntKind.i64.wrap (x : Int) = (x : Int) := IntWalk.i64_in _ (by omega)
            have hw2 : IntKind.i64.wrap ((a : Int) + 13 + (m : Int) - 4) = (a : Int) + 13 + (m : Int) - 4 := IntWalk.i64_in _ (by omega)
            go_wp2_with fail
            go_region_held3 (fun w' => w'.cell? ⟨b, o + a, none⟩ = some (.int .u8 (x : Int)))
              (first | exact (Below.cell (hE5.trans he6.undrew') (p := ⟨b, o + a, none⟩) hbl).trans Hcell.out | exact hc5 | exact (Below.cell (((hE5.trans he6.undrew').setCell (Nat.le_refl _) _).setCell (Nat.le_refl _) _) (p := ⟨b, o + a, none⟩) hbl).trans Hcell.out | fail)
              (first
                | (go_at_call 41; refine (piece_any _ n _ ((a : Int) + 9) ((a : Int) + 13 + (m : Int) - 4) bs _ ?_ hn hpz).mono ?_; exact hx5; rintro e w6 ⟨A6, c6, rfl, hown6, he6⟩; have hK6 := (he6.undrew'.block w.heap.size hlt5).trans hK5.out; have kc0 := cell_of_row w6 w.heap.size 0 _ _ (0, 0) hK6; have kc1 := cell_of_row w6 w.heap.size 1 _ _ (0, 0) hK6; have kf0 := frozen_of_row w6 w.heap.size 0 _ _ hK6; have kf1 := frozen_of_row w6 w.heap.size 1 _ _ hK6; simp only [List.getElem?_toArray, List.getElem?_cons_zero, List.getElem?_cons_succ] at kc0 kc1; have HK6 := Lib.hid hK6; clear hK6)
                | fail)
            rw [Hpb.out] at hown6
            have hE6 := ((hE5.trans he6.undrew').setCell (p := ⟨w.heap.size, 0, none⟩) (Nat.le_refl _) (.int .i64 (x : Int))).setCell (p := ⟨w.heap.size, 1, none⟩) (Nat.le_refl _) (.slice A6 m c6)
            rw [Hpb.out, Hclb.out]
            go_wp2_with fail
            apply bodyPost_ret
            · exact results_cell3 rfl _ _ w.heap.size 45 #[.int .i64 (x : Int), .slice A6 m c6] (0, 0) _ rfl (heap_setCell_same _ w.heap.size 1 #[.int .i64 (x : Int), .slice none 0 0] 45 _ (heap_setCell_same w6 w.heap.size 0 #[.int .i64 0, .slice none 0 0] 45 _ HK6.out)) Try.underlying45 rfl (by kernel_rfl)
            · rfl
            have hown : Own .u8 5 ((w6.setCell ⟨w.heap.size, 0, none⟩ (.int .i64 (x : Int))).setCell ⟨w.heap.size, 1, none⟩ (.slice A6 m c6)) w.heap.size A6 c6 (cut bs (a + 9) m) := by
              have hne : ∀ q, A6 = some q → some q.block ≠ some w.heap.size := fun q hq e => by
                have h1 := (hown6.block q hq).1
                injection e with e
                have h2 : w5.heap.size ≤ q.block := h1
                omega
              exact ((hown6.mono (show w.heap.size ≤ _ from Nat.le_of_lt hlt5)).grown (grown_setCell w6 w.heap.size 0 _) hne).grown (grown_setCell _ w.heap.size 1 _) hne
            refine ⟨A6, c6, ?_, ?_, hE6⟩
            · rw [Hin.out]
              simp only [Hclb.out]
              show Ending.returned (Value.tuple #[_, Value.int .i64 ((a : Int) + 13 + (m : Int)), _]) = _
              rw [show ((a : Int) + 13 + (m : Int)) = ((a + 13 + m : Nat) : Int) from by omega]
              rfl
            · rw [Hin.out]
              exact hown
          · rw [decide_eq_false hs2]
            rw [if_pos hs2] at Hin
            go_wp2_with (refine wpList_store_frame rfl (.tmp 4) (.tmp 66) rfl w.heap.size (.int .i64 0) (.slice none 0 0) rfl rfl hK5.out rfl rfl ?_)
            apply bodyPost_ret
            · exact results_cell3 rfl _ _ w.heap.size 45 #[.int .i64 0, .slice none 0 0] (0, 0) _ rfl (setRow_heap w5 w.heap.size _ _ 45 (0, 0) hK5.out) Try.underlying45 rfl (by kernel_rfl)
            · rfl
            exact FGetPost.err Hin.out (hE5.setRow (Nat.le_refl _) _)
  · rw [decide_eq_false hs]
    rw [if_pos hs] at Hin
    go_wp2_with (refine wpList_store_frame rfl (.tmp 4) (.tmp 32) rfl w.heap.size (.int .i64 0) (.slice none 0 0) rfl rfl hK2.out rfl rfl ?_)
    apply bodyPost_ret
    · exact results_cell3 rfl _ _ w.heap.size 45 #[.int .i64 0, .slice none 0 0] (0, 0) _ rfl (setRow_heap w2 w.heap.size _ _ 45 (0, 0) hK2.out) Try.underlying45 rfl (by kernel_rfl)
    · rfl
    exact FGetPost.err Hin.out (hE2.setRow (Nat.le_refl _) _)

/-- The reference's Get. -/
theorem refFGet_any (A : Option Addr) (n c : Nat) (at_ : Int) (bs : List Nat) (w : World) (hx : Rd .u8 w A n bs) (hu : U8 bs) (hn : n ≤ 140737488355328) (hs : at_ ≤ 9223372036854775807) :
    Calls Try.prog 34 #[.slice A n c, .int .i64 at_] w (FGetPost bs at_ w) := by
  by_cases hk : at_ < 0 ∨ (n : Int) < at_ + 9
  · exact refFGet_bad A n c at_ bs w hx hn hk hs
  · obtain ⟨a, rfl⟩ := Int.eq_ofNat_of_zero_le (show 0 ≤ at_ by omega)
    obtain ⟨b, o, he, _⟩ := hx.2 (by omega)
    subst he
    exact refFGet_good b o n c a bs w hx hu hn (by omega)

end Go.Proofs.Ytegplcllimoakaa
