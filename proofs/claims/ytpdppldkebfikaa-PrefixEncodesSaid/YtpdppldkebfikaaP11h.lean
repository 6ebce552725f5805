/-
  Layer 11: the document's text.
-/
import Derived.Test.YtpdppldkebfikaaP11e
namespace Go.Proofs.Ytpdppldkebfikaa
open Go.RowKit

theorem rget_is {A : Option Addr} {n c : Nat} {at_ : Int} {bs : List Nat} {w : World} (hx : Rd .u8 w A n bs) (hu : U8 bs) (hn : n ≤ 140737488355328) {k : Nat} {n1 e1 : Int} (h : vget bs at_ = (k, n1, e1)) :
    Calls Try.prog 58 #[.slice A n c, .int .i64 at_] w fun e w' => e = .returned (.tuple #[.int .u64 k, .int .i64 n1, .int .i64 e1]) ∧ w' = w :=
  (refGet_any A n c at_ bs w hx hu hn).mono fun e w' ⟨q1, q2⟩ => ⟨by rw [q1, h], q2.symm⟩

set_option maxHeartbeats 1600000 in
set_option maxRecDepth 100000 in
theorem refText11_false (A : Option Addr) (n c : Nat) (at_ : Int) (A2 : Option Addr) (n2 c2 : Nat) (bs last : List Nat) (w : World) (hx : Rd .u8 w A n bs) (hu : U8 bs) (hn : n ≤ 140737488355328)
    (hl : Rd .u8 w A2 n2 last) (h2 : n2 ≤ 200) :
    Calls Try.prog 70 #[.slice A n c, .int .i64 at_, .slice A2 n2 c2, .bool false] w (PTxPost (ptx bs at_ last) w) := by
  have hbl := hx.len
  have hll := hl.len
  rcases g1 : vget bs at_ with ⟨k, n1, e1⟩
  have G1 := Lib.hid (rget_is (c := c) hx hu hn g1)
  by_cases z1 : e1 = 0
  · subst z1
    obtain ⟨a1, a2, a3, a4, _⟩ := vget_at hu g1
    rw [hbl] at a3
    obtain ⟨m1, rfl⟩ := Int.eq_ofNat_of_zero_le (show 0 ≤ n1 by omega)
    rcases g2 : vget bs ((m1 : Nat) : Int) with ⟨r, n3, e2⟩
    have G2 := Lib.hid (rget_is (c := c) hx hu hn g2)
    by_cases z2 : e2 = 0
    · subst z2
      obtain ⟨b1, b2, b3, b4, _⟩ := vget_at hu g2
      rw [hbl] at b3
      obtain ⟨m2, rfl⟩ := Int.eq_ofNat_of_zero_le (show 0 ≤ n3 by omega)
      have hm2 : m2 ≤ n := by omega
      have hrlt : r < 18446744073709551616 := b4
      have hklt : k < 18446744073709551616 := a4
      by_cases hk : n2 < k
      · have HR := Lib.hid (ptx_form g1 g2 (by rw [hll]; exact hk))
        have d1 : decide (n2 < k) = true := decide_eq_true hk
        clear hx hu hbl hll g1 g2 a1 a2 a3 b1 b2 b3 hl
        go_enter Try.func70, Try.ntmps70
        go_wp2_with fail
        refine G1.out.mono ?_
        rintro e w1 ⟨rfl, rfl⟩
        go_wp2_with fail
        refine G2.out.mono ?_
        rintro e w2 ⟨rfl, rfl⟩
        go_wp2_with fail
        go_ret3
        exact PTxPost.bad _ HR.out (Ext.refl _)
      · have hk2 : k ≤ n2 := by omega
        have hk200 : k ≤ 200 := by omega
        have d1 : decide (n2 < k) = false := decide_eq_false hk
        by_cases hr : 200 < r + k
        · have HR := Lib.hid (ptx_long (last := last) g1 g2 (by rw [hll]; exact hk2) hr)
          by_cases hr2 : 200 < r
          · have d3 : decide (200 < r) = true := decide_eq_true hr2
            clear hx hu hbl hll g1 g2 a1 a2 a3 b1 b2 b3 hl
            go_enter Try.func70, Try.ntmps70
            go_wp2_with fail
            refine G1.out.mono ?_
            rintro e w1 ⟨rfl, rfl⟩
            go_wp2_with fail
            refine G2.out.mono ?_
            rintro e w2 ⟨rfl, rfl⟩
            go_wp2_with fail
            go_ret3
            exact PTxPost.bad _ HR.out (Ext.refl _)
          · have d3 : decide (200 < r) = false := decide_eq_false hr2
            have hgt : 200 < (k : Int) + (r : Int) := by omega
            clear hx hu hbl hll g1 g2 a1 a2 a3 b1 b2 b3 hl
            go_enter Try.func70, Try.ntmps70
            go_wp2_with fail
            refine G1.out.mono ?_
            rintro e w1 ⟨rfl, rfl⟩
            go_wp2_with fail
            refine G2.out.mono ?_
            rintro e w2 ⟨rfl, rfl⟩
            go_wp2_with fail
            go_ret3
            exact PTxPost.bad _ HR.out (Ext.refl _)
        · have hr2 : r ≤ 200 := by omega
          have d3 : decide (200 < r) = false := decide_eq_false (by omega)
          have hle : ¬ 200 < ((k : Nat) : Int) + (r : Int) := by omega
          have hri : IntKind.i64.wrap (r : Int) = (r : Int) := IntWalk.i64_in _ (by omega)
          by_cases hs : n < m2 + r
          · have HR := Lib.hid (ptx_short (last := last) g1 g2 (by rw [hll]; exact hk2) (by omega) (by rw [hbl]; omega))
            have hgt : (n : Int) - (m2 : Int) < (r : Int) := by omega
            have hnm : (n : Int) - (m2 : Int) = ((n - m2 : Nat) : Int) := by omega
            have hnw : IntKind.u64.wrap ((n : Int) - (m2 : Int)) = ((n - m2 : Nat) : Int) := (IntWalk.u64_in _ (by omega)).trans hnm
            have hd5 : decide (n - m2 < r) = true := decide_eq_true (by omega)
            clear hx hu hbl hll g1 g2 a1 a2 a3 b1 b2 b3 hl
            go_enter Try.func70, Try.ntmps70
            go_wp2_with fail
            refine G1.out.mono ?_
            rintro e w1 ⟨rfl, rfl⟩
            go_wp2_with fail
            refine G2.out.mono ?_
            rintro e w2 ⟨rfl, rfl⟩
            go_wp2_with fail
            go_ret3
            exact PTxPost.bad _ HR.out (Ext.refl _)
          · have hle3 : ¬ (n : Int) - (m2 : Int) < (r : Int) := by omega
            have hnm : (n : Int) - (m2 : Int) = ((n - m2 : Nat) : Int) := by omega
            have hnw : IntKind.u64.wrap ((n : Int) - (m2 : Int)) = ((n - m2 : Nat) : Int) := (IntWalk.u64_in _ (by omega)).trans hnm
            have hd5 : decide (n - m2 < r) = false := decide_eq_false (by omega)
            have hmr : (m2 : Int) + (r : Int) ≤ 140737488355328 := by omega
            obtain ⟨X, hX⟩ : ∃ X, X = last.take k ++ cut bs m2 r := ⟨_, rfl⟩
            have hp1 : piece last 0 ((k : Nat) : Int) = last.take k := by unfold piece; simp
            have hp2 : piece bs (m2 : Int) ((m2 : Int) + (r : Int)) = cut bs m2 r := piece_cutm m2 r
            have ht1 : (last.take k).length = k := by rw [List.length_take, hll]; omega
            have ht2 : (cut bs m2 r).length = r := cut_len (by rw [hbl]; omega)
            have hXl : X.length = k + r := by rw [hX, List.length_append, ht1, ht2]
            have hcp := (cp_le last X).1
            have P1 := Lib.hid (fun (W : World) (hW : Ext w W) => piece_any A2 n2 c2 0 ((k : Nat) : Int) last W (hl.ext hW) (by omega) (by omega))
            have P2 := Lib.hid (fun (W : World) (hW : Ext w W) => piece_any A n c (m2 : Int) ((m2 : Int) + (r : Int)) bs W (hx.ext hW) hn (by omega))
            rw [hp1, ht1] at P1
            rw [hp2, ht2] at P2
            have Hl := Lib.hid hl
            have HXl := Lib.hid hXl
            have HX := Lib.hid hX
            have Hal := Lib.hid (fun (W : World) (B : Option Addr) (cb : Nat) (hW : Ext w W) (hB : Rd .u8 W B (k + r) X) => refSame11_any A2 B n2 c2 (k + r) cb last X W (hl.ext hW) hB (by omega) (by omega))
            by_cases hc : k < cp last X
            · have HR := Lib.hid (ptx_more g1 g2 (by rw [hll]; exact hk2) (by omega) (by rw [hbl]; omega) (by rw [Int.toNat_natCast, ← hX]; exact hc))
              have hki : IntKind.i64.wrap ((k : Nat) : Int) = ((k : Nat) : Int) := IntWalk.i64_in _ (by omega)
              have T1 := Lib.hid ht1
              have T2 := Lib.hid ht2
              obtain ⟨C, hC⟩ : ∃ C, C = cp last X := ⟨_, rfl⟩
              rw [← hC] at Hal hc hcp
              clear hC
              have hdc : decide (k < C) = true := decide_eq_true hc
              clear hx hu hbl hll g1 g2 a1 a2 a3 b1 b2 b3 hl hX hXl ht1 ht2 hp1 hp2
              go_enter Try.func70, Try.ntmps70
              go_wp2_with fail
              refine G1.out.mono ?_
              rintro e w1 ⟨rfl, rfl⟩
              go_wp2_with fail
              refine G2.out.mono ?_
              rintro e w2 ⟨rfl, rfl⟩
              go_wp2_with fail
              refine (P1.out _ (Ext.refl _)).mono ?_
              rintro e w3 ⟨A3, c3, rfl, hown3, he3⟩
              go_wp2_with fail
              refine (P2.out _ he3).mono ?_
              rintro e w4 ⟨A4, c4, rfl, hown4, he4⟩
              go_wp2_with fail
              refine (cat_any _ _ _ _ _ _ _ _ w4 (hown3.rd.ext he4 |> fun h => (by rw [← T1.out]; exact h)) (by rw [← T2.out]; exact hown4.rd) (by omega)).mono ?_
              rintro e w5 ⟨A5, c5, rfl, hown5, he5⟩
              rw [← HX.out] at hown5
              have hE5 : Ext w2 w5 := (he3.trans he4).trans he5
              have hown6 := hown5.mono (base' := w2.heap.size) (he3.trans he4).size
              go_wp2_with fail
              refine (Hal.out _ _ _ hE5 (hown5.rd' HXl.out)).mono ?_
              rintro e w6 ⟨rfl, q4, rfl⟩
              go_wp2_with fail
              go_ret3
              exact PTxPost.bad _ HR.out (hE5.drewN _)
            · have HR := Lib.hid (ptx_yes (last := last) g1 g2 (by rw [hll]; exact hk2) (by omega) (by rw [hbl]; omega) (by rw [Int.toNat_natCast]; rw [← hX]; omega))
              rw [Int.toNat_natCast, ← hX] at HR
              have hki : IntKind.i64.wrap ((k : Nat) : Int) = ((k : Nat) : Int) := IntWalk.i64_in _ (by omega)
              have T1 := Lib.hid ht1
              have T2 := Lib.hid ht2
              obtain ⟨C, hC⟩ : ∃ C, C = cp last X := ⟨_, rfl⟩
              rw [← hC] at Hal hc hcp
              clear hC
              have hdc : decide (k < C) = false := decide_eq_false hc
              clear hx hu hbl hll g1 g2 a1 a2 a3 b1 b2 b3 hl hX hXl ht1 ht2 hp1 hp2
              go_enter Try.func70, Try.ntmps70
              go_wp2_with fail
              refine G1.out.mono ?_
              rintro e w1 ⟨rfl, rfl⟩
              go_wp2_with fail
              refine G2.out.mono ?_
              rintro e w2 ⟨rfl, rfl⟩
              go_wp2_with fail
              refine (P1.out _ (Ext.refl _)).mono ?_
              rintro e w3 ⟨A3, c3, rfl, hown3, he3⟩
              go_wp2_with fail
              refine (P2.out _ he3).mono ?_
              rintro e w4 ⟨A4, c4, rfl, hown4, he4⟩
              go_wp2_with fail
              refine (cat_any _ _ _ _ _ _ _ _ w4 (hown3.rd.ext he4 |> fun h => (by rw [← T1.out]; exact h)) (by rw [← T2.out]; exact hown4.rd) (by omega)).mono ?_
              rintro e w5 ⟨A5, c5, rfl, hown5, he5⟩
              rw [← HX.out] at hown5
              have hE5 : Ext w2 w5 := (he3.trans he4).trans he5
              have hown6 := hown5.mono (base' := w2.heap.size) (he3.trans he4).size
              go_wp2_with fail
              refine (Hal.out _ _ _ hE5 (hown5.rd' HXl.out)).mono ?_
              rintro e w6 ⟨rfl, q4, rfl⟩
              go_wp2_with fail
              go_ret3
              exact PTxPost.good _ HR.out HXl.out rfl (hown6.ext (Ext.of_drewN _ _)) (hE5.drewN _)
    · have HR := Lib.hid (ptx_e2 (last := last) g1 g2 z2)
      have hb2 : (e2 != 0) = true := by rw [bne_iff_ne]; exact z2
      clear hx hu hbl hll g1 g2 a1 a2 a3 hl
      go_enter Try.func70, Try.ntmps70
      go_wp2_with fail
      refine G1.out.mono ?_
      rintro e w1 ⟨rfl, rfl⟩
      go_wp2_with fail
      refine G2.out.mono ?_
      rintro e w2 ⟨rfl, rfl⟩
      go_wp2_with fail
      go_ret3
      exact PTxPost.bad _ HR.out (Ext.refl _)
  · have HR := Lib.hid (ptx_e1 (last := last) g1 z1)
    have hb1 : (e1 != 0) = true := by rw [bne_iff_ne]; exact z1
    clear hx hu hbl hll g1 hl
    go_enter Try.func70, Try.ntmps70
    go_wp2_with fail
    refine G1.out.mono ?_
    rintro e w1 ⟨rfl, rfl⟩
    go_wp2_with fail
    go_ret3
    exact PTxPost.bad _ HR.out (Ext.refl _)

set_option maxHeartbeats 1600000 in
set_option maxRecDepth 100000 in
theorem refText11_true (A : Option Addr) (n c : Nat) (at_ : Int) (A2 : Option Addr) (n2 c2 : Nat) (bs last : List Nat) (w : World) (hx : Rd .u8 w A n bs) (hu : U8 bs) (hn : n ≤ 140737488355328)
    (hl : Rd .u8 w A2 n2 last) (h2 : n2 ≤ 200) :
    Calls Try.prog 70 #[.slice A n c, .int .i64 at_, .slice A2 n2 c2, .bool true] w (PTxPost (ptx bs at_ []) w) := by
  have hbl := hx.len
  have hll := hl.len
  rcases g1 : vget bs at_ with ⟨k, n1, e1⟩
  have G1 := Lib.hid (rget_is (c := c) hx hu hn g1)
  by_cases z1 : e1 = 0
  · subst z1
    obtain ⟨a1, a2, a3, a4, _⟩ := vget_at hu g1
    rw [hbl] at a3
    obtain ⟨m1, rfl⟩ := Int.eq_ofNat_of_zero_le (show 0 ≤ n1 by omega)
    rcases g2 : vget bs ((m1 : Nat) : Int) with ⟨r, n3, e2⟩
    have G2 := Lib.hid (rget_is (c := c) hx hu hn g2)
    by_cases z2 : e2 = 0
    · subst z2
      obtain ⟨b1, b2, b3, b4, _⟩ := vget_at hu g2
      rw [hbl] at b3
      obtain ⟨m2, rfl⟩ := Int.eq_ofNat_of_zero_le (show 0 ≤ n3 by omega)
      have hm2 : m2 ≤ n := by omega
      have hrlt : r < 18446744073709551616 := b4
      have hklt : k < 18446744073709551616 := a4
      by_cases hk0 : 0 < k
      · have HR := Lib.hid (ptx_form (last := []) g1 g2 (by rw [List.length_nil]; exact hk0))
        by_cases hk : n2 < k
        · have d1 : decide (n2 < k) = true := decide_eq_true hk
          clear hx hu hbl hll g1 g2 a1 a2 a3 b1 b2 b3 hl
          go_enter Try.func70, Try.ntmps70
          go_wp2_with fail
          refine G1.out.mono ?_
          rintro e w1 ⟨rfl, rfl⟩
          go_wp2_with fail
          refine G2.out.mono ?_
          rintro e w2 ⟨rfl, rfl⟩
          go_wp2_with fail
          go_ret3
          exact PTxPost.bad _ HR.out (Ext.refl _)
        · have d1 : decide (n2 < k) = false := decide_eq_false hk
          have d2 : decide (0 < k) = true := decide_eq_true hk0
          clear hx hu hbl hll g1 g2 a1 a2 a3 b1 b2 b3 hl
          go_enter Try.func70, Try.ntmps70
          go_wp2_with fail
          refine G1.out.mono ?_
          rintro e w1 ⟨rfl, rfl⟩
          go_wp2_with fail
          refine G2.out.mono ?_
          rintro e w2 ⟨rfl, rfl⟩
          go_wp2_with fail
          go_ret3
          exact PTxPost.bad _ HR.out (Ext.refl _)
      · obtain rfl : k = 0 := by omega
        have hk2 : 0 ≤ n2 := Nat.zero_le _
        have hk200 : 0 ≤ 200 := by omega
        obtain ⟨k, hk0⟩ : ∃ k, k = 0 := ⟨_, rfl⟩
        by_cases hr : 200 < r + 0
        · have HR := Lib.hid (ptx_long (last := []) g1 g2 (by rw [List.length_nil]; exact Nat.le_refl _) hr)
          by_cases hr2 : 200 < r
          · have d3 : decide (200 < r) = true := decide_eq_true hr2
            clear hx hu hbl hll g1 g2 a1 a2 a3 b1 b2 b3 hl
            go_enter Try.func70, Try.ntmps70
            go_wp2_with fail
            refine G1.out.mono ?_
            rintro e w1 ⟨rfl, rfl⟩
            go_wp2_with fail
            refine G2.out.mono ?_
            rintro e w2 ⟨rfl, rfl⟩
            go_wp2_with fail
            go_ret3
            exact PTxPost.bad _ HR.out (Ext.refl _)
          · exact absurd hr (by omega)
        · have hr2 : r ≤ 200 := by omega
          have d3 : decide (200 < r) = false := decide_eq_false (by omega)
          have hle : ¬ 200 < ((0 : Nat) : Int) + (r : Int) := by omega
          have hri : IntKind.i64.wrap (r : Int) = (r : Int) := IntWalk.i64_in _ (by omega)
          by_cases hs : n < m2 + r
          · have HR := Lib.hid (ptx_short (last := []) g1 g2 (by rw [List.length_nil]; exact Nat.le_refl _) (by omega) (by rw [hbl]; omega))
            have hgt : (n : Int) - (m2 : Int) < (r : Int) := by omega
            have hnm : (n : Int) - (m2 : Int) = ((n - m2 : Nat) : Int) := by omega
            have hnw : IntKind.u64.wrap ((n : Int) - (m2 : Int)) = ((n - m2 : Nat) : Int) := (IntWalk.u64_in _ (by omega)).trans hnm
            have hd5 : decide (n - m2 < r) = true := decide_eq_true (by omega)
            clear hx hu hbl hll g1 g2 a1 a2 a3 b1 b2 b3 hl
            go_enter Try.func70, Try.ntmps70
            go_wp2_with fail
            refine G1.out.mono ?_
            rintro e w1 ⟨rfl, rfl⟩
            go_wp2_with fail
            refine G2.out.mono ?_
            rintro e w2 ⟨rfl, rfl⟩
            go_wp2_with fail
            go_ret3
            exact PTxPost.bad _ HR.out (Ext.refl _)
          · have hle3 : ¬ (n : Int) - (m2 : Int) < (r : Int) := by omega
            have hnm : (n : Int) - (m2 : Int) = ((n - m2 : Nat) : Int) := by omega
            have hnw : IntKind.u64.wrap ((n : Int) - (m2 : Int)) = ((n - m2 : Nat) : Int) := (IntWalk.u64_in _ (by omega)).trans hnm
            have hd5 : decide (n - m2 < r) = false := decide_eq_false (by omega)
            have hmr : (m2 : Int) + (r : Int) ≤ 140737488355328 := by omega
            obtain ⟨X, hX⟩ : ∃ X, X = last.take 0 ++ cut bs m2 r := ⟨_, rfl⟩
            have hp1 : piece last 0 ((0 : Nat) : Int) = last.take 0 := by unfold piece; simp
            have hp2 : piece bs (m2 : Int) ((m2 : Int) + (r : Int)) = cut bs m2 r := piece_cutm m2 r
            have ht1 : (last.take 0).length = 0 := by rw [List.length_take, hll]; omega
            have ht2 : (cut bs m2 r).length = r := cut_len (by rw [hbl]; omega)
            have hXl : X.length = 0 + r := by rw [hX, List.length_append, ht1, ht2]
            have hcp := (cp_le [] X).1
            have P1 := Lib.hid (fun (W : World) (hW : Ext w W) => piece_any A2 n2 c2 0 ((0 : Nat) : Int) last W (hl.ext hW) (by omega) (by omega))
            have P2 := Lib.hid (fun (W : World) (hW : Ext w W) => piece_any A n c (m2 : Int) ((m2 : Int) + (r : Int)) bs W (hx.ext hW) hn (by omega))
            rw [hp1, ht1] at P1
            rw [hp2, ht2] at P2
            have Hl := Lib.hid hl
            have HXl := Lib.hid hXl
            have HX := Lib.hid hX
            have Hal := Lib.hid (fun (W : World) (B : Option Addr) (cb : Nat) (hW : Ext w W) (hB : Rd .u8 W B (0 + r) X) => refSame11_any A2 B n2 c2 (0 + r) cb last X W (hl.ext hW) hB (by omega) (by omega))
            have HR := Lib.hid (ptx_yes (last := []) g1 g2 (by rw [List.length_nil]; exact Nat.le_refl _) (by omega) (by rw [hbl]; omega) (by rw [Int.toNat_natCast]; rw [cp_nil]; exact Nat.zero_le _))
            rw [Int.toNat_natCast, show ([] : List Nat).take 0 = last.take 0 from rfl, ← hX] at HR
            have hki : IntKind.i64.wrap ((0 : Nat) : Int) = ((0 : Nat) : Int) := IntWalk.i64_in _ (by omega)
            have T1 := Lib.hid ht1
            have T2 := Lib.hid ht2
            clear hx hu hbl hll g1 g2 a1 a2 a3 b1 b2 b3 hl hX hXl ht1 ht2 hp1 hp2
            go_enter Try.func70, Try.ntmps70
            go_wp2_with fail
            refine G1.out.mono ?_
            rintro e w1 ⟨rfl, rfl⟩
            go_wp2_with fail
            refine G2.out.mono ?_
            rintro e w2 ⟨rfl, rfl⟩
            go_wp2_with fail
            refine (P1.out _ (Ext.refl _)).mono ?_
            rintro e w3 ⟨A3, c3, rfl, hown3, he3⟩
            go_wp2_with fail
            refine (P2.out _ he3).mono ?_
            rintro e w4 ⟨A4, c4, rfl, hown4, he4⟩
            go_wp2_with fail
            refine (cat_any _ _ _ _ _ _ _ _ w4 (hown3.rd.ext he4 |> fun h => (by rw [← T1.out]; exact h)) (by rw [← T2.out]; exact hown4.rd) (by omega)).mono ?_
            rintro e w5 ⟨A5, c5, rfl, hown5, he5⟩
            rw [← HX.out] at hown5
            have hE5 : Ext w2 w5 := (he3.trans he4).trans he5
            have hown6 := hown5.mono (base' := w2.heap.size) (he3.trans he4).size
            go_wp2_with fail
            go_ret3
            exact PTxPost.good _ HR.out (HXl.out.trans (by omega)) rfl hown6 hE5
    · have HR := Lib.hid (ptx_e2 (last := []) g1 g2 z2)
      have hb2 : (e2 != 0) = true := by rw [bne_iff_ne]; exact z2
      clear hx hu hbl hll g1 g2 a1 a2 a3 hl
      go_enter Try.func70, Try.ntmps70
      go_wp2_with fail
      refine G1.out.mono ?_
      rintro e w1 ⟨rfl, rfl⟩
      go_wp2_with fail
      refine G2.out.mono ?_
      rintro e w2 ⟨rfl, rfl⟩
      go_wp2_with fail
      go_ret3
      exact PTxPost.bad _ HR.out (Ext.refl _)
  · have HR := Lib.hid (ptx_e1 (last := []) g1 z1)
    have hb1 : (e1 != 0) = true := by rw [bne_iff_ne]; exact z1
    clear hx hu hbl hll g1 hl
    go_enter Try.func70, Try.ntmps70
    go_wp2_with fail
    refine G1.out.mono ?_
    rintro e w1 ⟨rfl, rfl⟩
    go_wp2_with fail
    go_ret3
    exact PTxPost.bad _ HR.out (Ext.refl _)

end Go.Proofs.Ytpdppldkebfikaa
