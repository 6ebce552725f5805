import Derived.Test.YtnkggopkcjffoaaDoorG4
import Derived.Test.YtnkggopkcjffoaaDoorG5
import Derived.Test.YtnkggopkcjffoaaDoorG3

/-
  Layer 7: the document's Within and Rank.
-/
namespace Go.Proofs.YtnkggopkcjffoaaDoor
open Go.RowKit

set_option maxHeartbeats 800000 in
theorem refWithin_any (A A2 A3 : Option Addr) (n c n2 c2 n3 c3 : Nat) (ks lo hi : List Nat) (w : World) (hk : Rd .u8 w A n ks) (hl : Rd .u8 w A2 n2 lo) (hh : Rd .u8 w A3 n3 hi) (u1 : n ≤ 140737488355328) (u2 : n2 ≤ 140737488355328) (u3 : n3 ≤ 140737488355328) :
    Calls Tryd.prog 28 #[.slice A n c, .slice A2 n2 c2, .slice A3 n3 c3] w fun e w' => e = .returned (.bool (withinF ks lo hi)) ∧ Ext w w' := by
  have hlen := hh.len
  have e1 : withinF ks lo hi = if ordT ks lo < 0 then false else (decide (n3 = 0) || decide (ordT ks hi < 0)) := by rw [withinF, hlen]
  rw [e1]
  clear e1 hlen
  obtain ⟨p, hp⟩ : ∃ p, p = ordT ks lo := ⟨_, rfl⟩
  obtain ⟨q, hq⟩ : ∃ q, q = ordT ks hi := ⟨_, rfl⟩
  have C1 := Lib.hid (fun w (h1 : Rd .u8 w A n ks) (h2 : Rd .u8 w A2 n2 lo) => order_any A A2 n c n2 c2 ks lo w h1 h2 u1 u2)
  have C2 := Lib.hid (fun w (h1 : Rd .u8 w A n ks) (h2 : Rd .u8 w A3 n3 hi) => order_any A A3 n c n3 c3 ks hi w h1 h2 u1 u3)
  rw [← hp] at C1
  rw [← hq] at C2
  rw [← hp, ← hq]
  clear hp hq
  by_cases h1 : p < 0
  · rw [if_pos h1]
    have h0 : ¬ 0 ≤ p := by omega
    go_enter Tryd.func28, Tryd.ntmps28
    go_wp2_with fail
    refine (C1.out _ hk hl).mono ?_
    rintro e w1 ⟨rfl, q1, rfl⟩
    go_wp2_with fail
    go_ret
    exact ⟨rfl, (Ext.refl w).drewN _⟩
  · rw [if_neg h1]
    have h0 : 0 ≤ p := by omega
    by_cases h2 : n3 = 0
    · subst h2
      go_enter Tryd.func28, Tryd.ntmps28
      go_wp2_with fail
      refine (C1.out _ hk hl).mono ?_
      rintro e w1 ⟨rfl, q1, rfl⟩
      go_wp2_with fail
      go_ret
      exact ⟨rfl, (Ext.refl w).drewN _⟩
    · have h3 : ((n3 : Int) == 0) = false := by simp [h2]
      rw [decide_eq_false h2, Bool.false_or]
      go_enter Tryd.func28, Tryd.ntmps28
      go_wp2_with fail
      refine (C1.out _ hk hl).mono ?_
      rintro e w1 ⟨rfl, q1, rfl⟩
      go_wp2_with fail
      refine (C2.out _ (hk.drewN _) (hh.drewN _)).mono ?_
      rintro e w1 ⟨rfl, q2, rfl⟩
      go_wp2_with fail
      go_ret
      exact ⟨rfl, (Ext.refl w).drewN _⟩

theorem rankV_nil1 (n : Nat) (us : List CV) : rankV n [] us = 0 := by cases n <;> rfl
theorem rankV_nil2 (n : Nat) (vs : List CV) : rankV n vs [] = 0 := by cases n <;> cases vs <;> rfl
theorem rankV_at {n j : Nat} {xs ys : List Ci} {x y : Ci} (hn : j < n) (hx : xs[j]? = some x) (hy : ys[j]? = some y) :
    rankV (n - j) ((xs.map Ci.val).drop j) ((ys.map Ci.val).drop j) = if rnkV x.val y.val ≠ 0 then rnkV x.val y.val else rankV (n - (j + 1)) ((xs.map Ci.val).drop (j + 1)) ((ys.map Ci.val).drop (j + 1)) := by
  obtain ⟨h1, rfl⟩ := List.getElem?_eq_some_iff.1 hx
  obtain ⟨h2, rfl⟩ := List.getElem?_eq_some_iff.1 hy
  rw [List.drop_eq_getElem_cons (by simpa using h1), List.drop_eq_getElem_cons (l := ys.map Ci.val) (by simpa using h2), show n - j = (n - (j + 1)) + 1 by omega]
  simp only [List.getElem_map]
  rfl

set_option maxHeartbeats 1600000 in
set_option maxRecDepth 100000 in
theorem refRankV_any (A : Option Addr) (n c : Nat) (xs : List Ci) (A2 : Option Addr) (n2 c2 : Nat) (ys : List Ci) (m : Nat) (w : World) (hx : RdX w A n xs) (hy : RdX w A2 n2 ys) (hn : n ≤ 140737488355328) (_hn2 : n2 ≤ 140737488355328) (_hm : m ≤ 140737488355328) :
    Calls Tryd.prog 32 #[.slice A n c, .slice A2 n2 c2, .int .i64 m] w fun e w' => e = .returned (.int .i64 (rankV m (xs.map Ci.val) (ys.map Ci.val))) ∧ Ext w w' := by
  have Hl := Lib.hid hx.1
  have Hl2 := Lib.hid hy.1
  obtain ⟨R, hR⟩ : ∃ R, R = rankV m (xs.map Ci.val) (ys.map Ci.val) := ⟨_, rfl⟩
  rw [← hR]
  have HR := Lib.hid hR
  have Hx := Lib.hid hx
  have Hy := Lib.hid hy
  clear hR hx hy
  go_enter Tryd.func32, Tryd.ntmps32
  go_wp2_with fail
  go_loopw [7] (fun i wr => ∃ j : Nat, j ≤ m ∧ j ≤ n ∧ j ≤ n2 ∧ i = .int .i64 j ∧ Hid (Ext w wr) ∧ Hid (R = rankV (m - j) ((xs.map Ci.val).drop j) ((ys.map Ci.val).drop j))) (fun i _ => m - (intOf i).toNat)
  case atStart => exact ⟨0, Nat.zero_le _, Nat.zero_le _, Nat.zero_le _, rfl, Ext.refl w, HR.out⟩
  case round =>
    clear HR
    obtain ⟨j, hjm, hjn, hjn2, rfl, HE, HR⟩ := hrel
    by_cases h1 : j < m
    · by_cases h2 : j < n
      · by_cases h3 : j < n2
        · obtain ⟨b, o, x, hA, hbl, hxj, x0, x1, x2, xin⟩ := (Hx.out.ext HE.out).at_ h2
          subst hA
          obtain ⟨b2, o2, y, hA2, hbl2, hyj, y0, y1, y2, yin⟩ := (Hy.out.ext HE.out).at_ h3
          subst hA2
          have hst := HR.out.trans (rankV_at h1 hxj hyj)
          obtain ⟨xn, xi, xA, xc, xt⟩ := x
          obtain ⟨yn, yi, yA, yc, yt⟩ := y
          simp only at x0 x1 x2 y0 y1 y2
          obtain ⟨k, hk⟩ : ∃ k, k = rnkV (Ci.val ⟨xn, xi, xA, xc, xt⟩) (Ci.val ⟨yn, yi, yA, yc, yt⟩) := ⟨_, rfl⟩
          rw [← hk] at hst
          have hk2 : k = rnk xn xi xt yn yi yt := hk
          have hxl := xin.len
          have hyl := yin.len
          simp only at hxl hyl
          obtain ⟨xl, hxe⟩ : ∃ xl, xl = xt.length := ⟨_, rfl⟩
          obtain ⟨yl, hye⟩ : ∃ yl, yl = yt.length := ⟨_, rfl⟩
          have HC := Lib.hid (fun (W : World) (hW : Ext wr W) => rank_any xn xi xA xt.length xc xt yn yi yA yt.length yc yt W (xin.rd.ext hW) (yin.rd.ext hW) (by omega) (by omega))
          rw [← hk2, ← hxe, ← hye] at HC
          rw [← hxe] at x2
          rw [← hye] at y2
          have K : Hid (∀ w', Ext wr w' → w'.cell? ⟨b, o + j * 3, none⟩ = some (.bool xn) ∧ w'.cell? ⟨b, o + j * 3 + 1, none⟩ = some (.int .i64 xi) ∧ w'.cell? ⟨b, o + j * 3 + 2, none⟩ = some (.slice xA xl xc) ∧ w'.cell? ⟨b2, o2 + j * 3, none⟩ = some (.bool yn) ∧ w'.cell? ⟨b2, o2 + j * 3 + 1, none⟩ = some (.int .i64 yi) ∧ w'.cell? ⟨b2, o2 + j * 3 + 2, none⟩ = some (.slice yA yl yc)) := Lib.hid (fun w' he =>
            ⟨(he.cells b _ hbl).trans x0, (he.cells b _ hbl).trans x1, (he.cells b _ hbl).trans x2, (he.cells b2 _ hbl2).trans y0, (he.cells b2 _ hbl2).trans y1, (he.cells b2 _ hbl2).trans y2⟩)
          have g8 := K.out _ (Ext.refl wr)
          have Hst := Lib.hid hst
          clear hst hk hk2 hxe hye xin yin hxj hyj x0 x1 x2 y0 y1 y2 hxl hyl
          go_wp2_with fail
          go_region_held3 (fun w' => w'.cell? ⟨b, o + j * 3, none⟩ = some (.bool xn) ∧ w'.cell? ⟨b, o + j * 3 + 1, none⟩ = some (.int .i64 xi) ∧ w'.cell? ⟨b, o + j * 3 + 2, none⟩ = some (.slice xA xl xc) ∧ w'.cell? ⟨b2, o2 + j * 3, none⟩ = some (.bool yn) ∧ w'.cell? ⟨b2, o2 + j * 3 + 1, none⟩ = some (.int .i64 yi) ∧ w'.cell? ⟨b2, o2 + j * 3 + 2, none⟩ = some (.slice yA yl yc))
            (first | exact g8 | (refine K.out _ ?_; (repeat (first | exact Ext.refl _ | (with_reducible refine Ext.trans ?_ he5) | apply Ext.drew | apply Ext.alloc | fail))) | fail)
            (first
              | (go_at_call 51; (with_reducible refine (HC.out _ ?_).mono ?_); (focus ((repeat (first | exact Ext.refl _ | apply Ext.drew | apply Ext.alloc | fail)); done)); rintro e w5 ⟨rfl, he5⟩)
              | fail)
          have hE5 : Ext wr w5 := by (repeat (first | exact Ext.refl _ | (with_reducible refine Ext.trans ?_ he5) | apply Ext.drew | apply Ext.alloc | fail))
          have HE5 := Lib.hid (HE.out.trans hE5)
          clear he5 hE5
          by_cases hz : k = 0
          · have hst := Hst.out
            rw [if_neg (fun q => q hz)] at hst
            have HN := Lib.hid hst
            subst hz
            clear hst
            go_wp2_with fail
            go_roundw
            case rel => exact ⟨j + 1, by omega, by omega, by omega, by go_num, HE5.out, HN.out⟩
            case measure => simp [intOf]; omega
          · have hst := Hst.out
            rw [if_pos hz] at hst
            have HN := Lib.hid hst
            have b1 : (k != 0) = true := by simp [hz]
            clear hst
            go_wp2_with fail
            go_ret
            exact ⟨by rw [HN.out]; rfl, HE5.out⟩
        · have HN : Hid (R = 0) := Lib.hid (by
            rw [HR.out, List.drop_of_length_le (l := ys.map Ci.val) (by rw [List.length_map, Hl2.out]; omega)]; exact rankV_nil2 _ _)
          go_wp2_with fail
          go_ret
          exact ⟨by rw [HN.out]; rfl, HE.out⟩
      · have HN : Hid (R = 0) := Lib.hid (by
          rw [HR.out, List.drop_of_length_le (l := xs.map Ci.val) (by rw [List.length_map, Hl.out]; omega)]; exact rankV_nil1 _ _)
        go_wp2_with fail
        go_ret
        exact ⟨by rw [HN.out]; rfl, HE.out⟩
    · have HN : Hid (R = 0) := Lib.hid (by rw [HR.out, show m - j = 0 by omega]; rfl)
      go_wp2_with fail
      go_ret
      exact ⟨by rw [HN.out]; rfl, HE.out⟩

end Go.Proofs.YtnkggopkcjffoaaDoor
