import Derived.Test.YtlgcghjbekgnmaaGreatG18
import Derived.Test.YtlgcghjbekgnmaaGreatG12
import Derived.Test.YtlgcghjbekgnmaaGreatG14
import Derived.Test.YtlgcghjbekgnmaaGreatG13

/-
  Layer 11: the document's text.
-/
namespace Go.Proofs.YtlgcghjbekgnmaaGreat
open Go.RowKit
set_option maxRecDepth 100000

theorem rget_is {A : Option Addr} {n c : Nat} {at_ : Int} {bs : List Nat} {w : World} (hx : Rd .u8 w A n bs) (hu : U8 bs) (hn : n ≤ 140737488355328) {k : Nat} {n1 e1 : Int} (h : vget bs at_ = (k, n1, e1)) :
    Calls Tryz.prog 46 #[.slice A n c, .int .i64 at_] w fun e w' => e = .returned (.tuple #[.int .u64 k, .int .i64 n1, .int .i64 e1]) ∧ w' = w :=
  (refGet_any A n c at_ bs w hx hu hn).mono fun e w' ⟨q1, q2⟩ => ⟨by rw [q1, h], q2.symm⟩

set_option maxHeartbeats 1600000 in
set_option maxRecDepth 100000 in
theorem refText11_false (A : Option Addr) (n c : Nat) (at_ : Int) (A2 : Option Addr) (n2 c2 : Nat) (bs last : List Nat) (w : World) (hx : Rd .u8 w A n bs) (hu : U8 bs) (hn : n ≤ 140737488355328)
    (hl : Rd .u8 w A2 n2 last) (h2 : n2 ≤ 200) :
    Calls Tryz.prog 128 #[.slice A n c, .int .i64 at_, .slice A2 n2 c2, .bool false] w (PTxPost (ptx bs at_ last) w) := by
  have hbl := hx.len
  have hll := hl.len
  rcases g1 : vget bs at_ with ⟨k, n1, e1⟩
  have G1 := Lib.hid (rget_is (c := c) hx hu hn g1)
  by_cases z1 : e1 = 0
  · subst z1
    obtain ⟨a1, a2, a3, a4, _⟩ := vget_at hu g1
    rw [hbl] at a3
    obtain ⟨m1, rfl⟩ := Int.eq_ofNat_of_zero_le (show 0 ≤ n1 by omega)
    rcases g2 : vget bs ((m1 : Nat) : Int) with ⟨r, n3, e2⟩
    have G2 := Lib.hid (rget_is (c := c) hx hu hn g2)
    by_cases z2 : e2 = 0
    · subst z2
      obtain ⟨b1, b2, b3, b4, _⟩ := vget_at hu g2
      rw [hbl] at b3
      obtain ⟨m2, rfl⟩ := Int.eq_ofNat_of_zero_le (show 0 ≤ n3 by omega)
      have hm2 : m2 ≤ n := by omega
      have hrlt : r < 18446744073709551616 := b4
      have hklt : k < 18446744073709551616 := a4
      by_cases hk : n2 < k
      · have HR := Lib.hid (ptx_form g1 g2 (by rw [hll]; exact hk))
        have d1 : decide (n2 < k) = true := decide_eq_true hk
        clear hx hu hbl hll g1 g2 a1 a2 a3 b1 b2 b3 hl
        go_enter Tryz.func128, Tryz.ntmps128
        go_wp2_with fail
        refine G1.out.mono ?_
        rintro e w1 ⟨rfl, rfl⟩
        go_wp2_with fail
        refine G2.out.mono ?_
        rintro e w2 ⟨rfl, rfl⟩
        go_wp2_with fail
        go_ret3
        exact PTxPost.bad _ HR.out (Ext.refl _)
      · have hk2 : k ≤ n2 := by omega
        have hk200 : k ≤ 200 := by omega
        have d1 : decide (n2 < k) = false := decide_eq_false hk
        by_cases hr : 200 < r + k
        · have HR := Lib.hid (ptx_long (last := last) g1 g2 (by rw [hll]; exact hk2) hr)
          by_cases hr2 : 200 < r
          · have d3 : decide (200 < r) = true := decide_eq_true hr2
            clear hx hu hbl hll g1 g2 a1 a2 a3 b1 b2 b3 hl
            go_enter Tryz.func128, Tryz.ntmps128
            go_wp2_with fail
            refine G1.out.mono ?_
            rintro e w1 ⟨rfl, rfl⟩
            go_wp2_with fail
            refine G2.out.mono ?_
            rintro e w2 ⟨rfl, rfl⟩
            go_wp2_with fail
            go_ret3
            exact PTxPost.bad _ HR.out (Ext.refl _)
          · have d3 : decide (200 < r) = false := decide_eq_false hr2
            have hgt : 200 < (k : Int) + (r : Int) := by omega
            clear hx hu hbl hll g1 g2 a1 a2 a3 b1 b2 b3 hl
            go_enter Tryz.func128, Tryz.ntmps128
            go_wp2_with fail
            refine G1.out.mono ?_
            rintro e w1 ⟨rfl, rfl⟩
            go_wp2_with fail
            refine G2.out.mono ?_
            rintro e w2 ⟨rfl, rfl⟩
            go_wp2_with fail
            go_ret3
            exact PTxPost.bad _ HR.out (Ext.refl _)
        · have hr2 : r ≤ 200 := by omega
          have d3 : decide (200 < r) = false := decide_eq_false (by omega)
          have hle : ¬ 200 < ((k : Nat) : Int) + (r : Int) := by omega
          have hri : IntKind.i64.wrap (r : Int) = (r : Int) := IntWalk.i64_in _ (by omega)
          by_cases hs : n < m2 + r
          · have HR := Lib.hid (ptx_short (last := last) g1 g2 (by rw [hll]; exact hk2) (by omega) (by rw [hbl]; omega))
            have hgt : (n : Int) - (m2 : Int) < (r : Int) := by omega
            have hnm : (n : Int) - (m2 : Int) = ((n - m2 : Nat) : Int) := by omega
            have hnw : IntKind.u64.wrap ((n : Int) - (m2 : Int)) = ((n - m2 : Nat) : Int) := (IntWalk.u64_in _ (by omega)).trans hnm
            have hd5 : decide (n - m2 < r) = true := decide_eq_true (by omega)
            clear hx hu hbl hll g1 g2 a1 a2 a3 b1 b2 b3 hl
            go_enter Tryz.func128, Tryz.ntmps128
            go_wp2_with fail
            refine G1.out.mono ?_
            rintro e w1 ⟨rfl, rfl⟩
            go_wp2_with fail
            refine G2.out.mono ?_
            rintro e w2 ⟨rfl, rfl⟩
            go_wp2_with fail
            go_ret3
            exact PTxPost.bad _ HR.out (Ext.refl _)
          · have hle3 : ¬ (n : Int) - (m2 : Int) < (r : Int) := by omega
            have hnm : (n : Int) - (m2 : Int) = ((n - m2 : Nat) : Int) := by omega
            have hnw : IntKind.u64.wrap ((n : Int) - (m2 : Int)) = ((n - m2 : Nat) : Int) := (IntWalk.u64_in _ (by omega)).trans hnm
            have hd5 : decide (n - m2 < r) = false := decide_eq_false (by omega)
            have hmr : (m2 : Int) + (r : Int) ≤ 140737488355328 := by omega
            obtain ⟨X, hX⟩ : ∃ X, X = last.take k ++ cut bs m2 r := ⟨_, rfl⟩
            have hp1 : piece last 0 ((k : Nat) : Int) = last.take k := by unfold piece; simp
            have hp2 : piece bs (m2 : Int) ((m2 : Int) + (r : Int)) = cut bs m2 r := piece_cutm m2 r
            have ht1 : (last.take k).length = k := by rw [List.length_take, hll]; omega
            have ht2 : (cut bs m2 r).length = r := cut_len (by rw [hbl]; omega)
            have hXl : X.length = k + r := by rw [hX, List.length_append, ht1, ht2]
            have hcp := (cp_le last X).1
            have P1 := Lib.hid (fun (W : World) (hW : Ext w W) => piece_any A2 n2 c2 0 ((k : Nat) : Int) last W (hl.ext hW) (by omega) (by omega))
            have P2 := Lib.hid (fun (W : World) (hW : Ext w W) => piece_any A n c (m2 : Int) ((m2 : Int) + (r : Int)) bs W (hx.ext hW) hn (by omega))
            rw [hp1, ht1] at P1
            rw [hp2, ht2] at P2
            have Hl := Lib.hid hl
            have HXl := Lib.hid hXl
            have HX := Lib.hid hX
            have Hal := Lib.hid (fun (W : World) (B : Option Addr) (cb : Nat) (hW : Ext w W) (hB : Rd .u8 W B (k + r) X) => refSame11_any A2 B n2 c2 (k + r) cb last X W (hl.ext hW) hB (by omega) (by omega))
            by_cases hc : k < cp last X
            · have HR := Lib.hid (ptx_more g1 g2 (by rw [hll]; exact hk2) (by omega) (by rw [hbl]; omega) (by rw [Int.toNat_natCast, ← hX]; exact hc))
              have hki : IntKind.i64.wrap ((k : Nat) : Int) = ((k : Nat) : Int) := IntWalk.i64_in _ (by omega)
              have T1 := Lib.hid ht1
              have T2 := Lib.hid ht2
              obtain ⟨C, hC⟩ : ∃ C, C = cp last X := ⟨_, rfl⟩
              rw [← hC] at Hal hc hcp
              clear hC
              have hdc : decide (k < C) = true := decide_eq_true hc
              clear hx hu hbl hll g1 g2 a1 a2 a3 b1 b2 b3 hl hX hXl ht1 ht2 hp1 hp2
              go_enter Tryz.func128, Tryz.ntmps128
              go_wp2_with fail
              refine G1.out.mono ?_
              rintro e w1 ⟨rfl, rfl⟩
              go_wp2_with fail
              refine G2.out.mono ?_
              rintro e w2 ⟨rfl, rfl⟩
              go_wp2_with fail
              refine (P1.out _ (Ext.refl _)).mono ?_
              rintro e w3 ⟨A3, c3, rfl, hown3, he3⟩
              go_wp2_with fail
              refine (P2.out _ he3).mono ?_
              rintro e w4 ⟨A4, c4, rfl, hown4, he4⟩
              go_wp2_with fail
              refine (cat_any _ _ _ _ _ _ _ _ w4 (hown3.rd.ext he4 |> fun h => (by rw [← T1.out]; exact h)) (by rw [← T2.out]; exact hown4.rd) (by omega)).mono ?_
              rintro e w5 ⟨A5, c5, rfl, hown5, he5⟩
              rw [← HX.out] at hown5
              have hE5 : Ext w2 w5 := (he3.trans he4).trans he5
              have hown6 := hown5.mono (base' := w2.heap.size) (he3.trans he4).size
              go_wp2_with fail
              refine (Hal.out _ _ _ hE5 (hown5.rd' HXl.out)).mono ?_
              rintro e w6 ⟨rfl, q4, rfl⟩
              go_wp2_with fail
              go_ret3
              exact PTxPost.bad _ HR.out (hE5.drewN _)
            · have HR := Lib.hid (ptx_yes (last := last) g1 g2 (by rw [hll]; exact hk2) (by omega) (by rw [hbl]; omega) (by rw [Int.toNat_natCast]; rw [← hX]; omega))
              rw [Int.toNat_natCast, ← hX] at HR
              have hki : IntKind.i64.wrap ((k : Nat) : Int) = ((k : Nat) : Int) := IntWalk.i64_in _ (by omega)
              have T1 := Lib.hid ht1
              have T2 := Lib.hid ht2
              obtain ⟨C, hC⟩ : ∃ C, C = cp last X := ⟨_, rfl⟩
              rw [← hC] at Hal hc hcp
              clear hC
              have hdc : decide (k < C) = false := decide_eq_false hc
              clear hx hu hbl hll g1 g2 a1 a2 a3 b1 b2 b3 hl hX hXl ht1 ht2 hp1 hp2
              go_enter Tryz.func128, Tryz.ntmps128
              go_wp2_with fail
              refine G1.out.mono ?_
              rintro e w1 ⟨rfl, rfl⟩
              go_wp2_with fail
              refine G2.out.mono ?_
              rintro e w2 ⟨rfl, rfl⟩
              go_wp2_with fail
              refine (P1.out _ (Ext.refl _)).mono ?_
              rintro e w3 ⟨A3, c3, rfl, hown3, he3⟩
              go_wp2_with fail
              refine (P2.out _ he3).mono ?_
              rintro e w4 ⟨A4, c4, rfl, hown4, he4⟩
              go_wp2_with fail
              refine (cat_any _ _ _ _ _ _ _ _ w4 (hown3.rd.ext he4 |> fun h => (by rw [← T1.out]; exact h)) (by rw [← T2.out]; exact hown4.rd) (by omega)).mono ?_
              rintro e w5 ⟨A5, c5, rfl, hown5, he5⟩
              rw [← HX.out] at hown5
              have hE5 : Ext w2 w5 := (he3.trans he4).trans he5
              have hown6 := hown5.mono (base' := w2.heap.size) (he3.trans he4).size
              go_wp2_with fail
              refine (Hal.out _ _ _ hE5 (hown5.rd' HXl.out)).mono ?_
              rintro e w6 ⟨rfl, q4, rfl⟩
              go_wp2_with fail
              go_ret3
              exact PTxPost.good _ HR.out HXl.out rfl (hown6.ext (Ext.of_drewN _ _)) (hE5.drewN _)
    · have HR := Lib.hid (ptx_e2 (last := last) g1 g2 z2)
      have hb2 : (e2 != 0) = true := by rw [bne_iff_ne]; exact z2
      clear hx hu hbl hll g1 g2 a1 a2 a3 hl
      go_enter Tryz.func128, Tryz.ntmps128
      go_wp2_with fail
      refine G1.out.mono ?_
      rintro e w1 ⟨rfl, rfl⟩
      go_wp2_with fail
      refine G2.out.mono ?_
      rintro e w2 ⟨rfl, rfl⟩
      go_wp2_with fail
      go_ret3
      exact PTxPost.bad _ HR.out (Ext.refl _)
  · have HR := Lib.hid (ptx_e1 (last := last) g1 z1)
    have hb1 : (e1 != 0) = true := by rw [bne_iff_ne]; exact z1
    clear hx hu hbl hll g1 hl
    go_enter Tryz.func128, Tryz.ntmps128
    go_wp2_with fail
    refine G1.out.mono ?_
    rintro e w1 ⟨rfl, rfl⟩
    go_wp2_with fail
    go_ret3
    exact PTxPost.bad _ HR.out (Ext.refl _)

set_option maxHeartbeats 1600000 in
set_option maxRecDepth 100000 in
theorem refText11_true (A : Option Addr) (n c : Nat) (at_ : Int) (A2 : Option Addr) (n2 c2 : Nat) (bs last : List Nat) (w : World) (hx : Rd .u8 w A n bs) (hu : U8 bs) (hn : n ≤ 140737488355328)
    (hl : Rd .u8 w A2 n2 last) (h2 : n2 ≤ 200) :
    Calls Tryz.prog 128 #[.slice A n c, .int .i64 at_, .slice A2 n2 c2, .bool true] w (PTxPost (ptx bs at_ []) w) := by
  have hbl := hx.len
  have hll := hl.len
  rcases g1 : vget bs at_ with ⟨k, n1, e1⟩
  have G1 := Lib.hid (rget_is (c := c) hx hu hn g1)
  by_cases z1 : e1 = 0
  · subst z1
    obtain ⟨a1, a2, a3, a4, _⟩ := vget_at hu g1
    rw [hbl] at a3
    obtain ⟨m1, rfl⟩ := Int.eq_ofNat_of_zero_le (show 0 ≤ n1 by omega)
    rcases g2 : vget bs ((m1 : Nat) : Int) with ⟨r, n3, e2⟩
    have G2 := Lib.hid (rget_is (c := c) hx hu hn g2)
    by_cases z2 : e2 = 0
    · subst z2
      obtain ⟨b1, b2, b3, b4, _⟩ := vget_at hu g2
      rw [hbl] at b3
      obtain ⟨m2, rfl⟩ := Int.eq_ofNat_of_zero_le (show 0 ≤ n3 by omega)
      have hm2 : m2 ≤ n := by omega
      have hrlt : r < 18446744073709551616 := b4
      have hklt : k < 18446744073709551616 := a4
      by_cases hk0 : 0 < k
      · have HR := Lib.hid (ptx_form (last := []) g1 g2 (by rw [List.length_nil]; exact hk0))
        by_cases hk : n2 < k
        · have d1 : decide (n2 < k) = true := decide_eq_true hk
          clear hx hu hbl hll g1 g2 a1 a2 a3 b1 b2 b3 hl
          go_enter Tryz.func128, Tryz.ntmps128
          go_wp2_with fail
          refine G1.out.mono ?_
          rintro e w1 ⟨rfl, rfl⟩
          go_wp2_with fail
          refine G2.out.mono ?_
          rintro e w2 ⟨rfl, rfl⟩
          go_wp2_with fail
          go_ret3
          exact PTxPost.bad _ HR.out (Ext.refl _)
        · have d1 : decide (n2 < k) = false := decide_eq_false hk
          have d2 : decide (0 < k) = true := decide_eq_true hk0
          clear hx hu hbl hll g1 g2 a1 a2 a3 b1 b2 b3 hl
          go_enter Tryz.func128, Tryz.ntmps128
          go_wp2_with fail
          refine G1.out.mono ?_
          rintro e w1 ⟨rfl, rfl⟩
          go_wp2_with fail
          refine G2.out.mono ?_
          rintro e w2 ⟨rfl, rfl⟩
          go_wp2_with fail
          go_ret3
          exact PTxPost.bad _ HR.out (Ext.refl _)
      · obtain rfl : k = 0 := by omega
        have hk2 : 0 ≤ n2 := Nat.zero_le _
        have hk200 : 0 ≤ 200 := by omega
        obtain ⟨k, hk0⟩ : ∃ k, k = 0 := ⟨_, rfl⟩
        by_cases hr : 200 < r + 0
        · have HR := Lib.hid (ptx_long (last := []) g1 g2 (by rw [List.length_nil]; exact Nat.le_refl _) hr)
          by_cases hr2 : 200 < r
          · have d3 : decide (200 < r) = true := decide_eq_true hr2
            clear hx hu hbl hll g1 g2 a1 a2 a3 b1 b2 b3 hl
            go_enter Tryz.func128, Tryz.ntmps128
            go_wp2_with fail
            refine G1.out.mono ?_
            rintro e w1 ⟨rfl, rfl⟩
            go_wp2_with fail
            refine G2.out.mono ?_
            rintro e w2 ⟨rfl, rfl⟩
            go_wp2_with fail
            go_ret3
            exact PTxPost.bad _ HR.out (Ext.refl _)
          · exact absurd hr (by omega)
        · have hr2 : r ≤ 200 := by omega
          have d3 : decide (200 < r) = false := decide_eq_false (by omega)
          have hle : ¬ 200 < ((0 : Nat) : Int) + (r : Int) := by omega
          have hri : IntKind.i64.wrap (r : Int) = (r : Int) := IntWalk.i64_in _ (by omega)
          by_cases hs : n < m2 + r
          · have HR := Lib.hid (ptx_short (last := []) g1 g2 (by rw [List.length_nil]; exact Nat.le_refl _) (by omega) (by rw [hbl]; omega))
            have hgt : (n : Int) - (m2 : Int) < (r : Int) := by omega
            have hnm : (n : Int) - (m2 : Int) = ((n - m2 : Nat) : Int) := by omega
            have hnw : IntKind.u64.wrap ((n : Int) - (m2 : Int)) = ((n - m2 : Nat) : Int) := (IntWalk.u64_in _ (by omega)).trans hnm
            have hd5 : decide (n - m2 < r) = true := decide_eq_true (by omega)
            clear hx hu hbl hll g1 g2 a1 a2 a3 b1 b2 b3 hl
            go_enter Tryz.func128, Tryz.ntmps128
            go_wp2_with fail
            refine G1.out.mono ?_
            rintro e w1 ⟨rfl, rfl⟩
            go_wp2_with fail
            refine G2.out.mono ?_
            rintro e w2 ⟨rfl, rfl⟩
            go_wp2_with fail
            go_ret3
            exact PTxPost.bad _ HR.out (Ext.refl _)
          · have hle3 : ¬ (n : Int) - (m2 : Int) < (r : Int) := by omega
            have hnm : (n : Int) - (m2 : Int) = ((n - m2 : Nat) : Int) := by omega
            have hnw : IntKind.u64.wrap ((n : Int) - (m2 : Int)) = ((n - m2 : Nat) : Int) := (IntWalk.u64_in _ (by omega)).trans hnm
            have hd5 : decide (n - m2 < r) = false := decide_eq_false (by omega)
            have hmr : (m2 : Int) + (r : Int) ≤ 140737488355328 := by omega
            obtain ⟨X, hX⟩ : ∃ X, X = last.take 0 ++ cut bs m2 r := ⟨_, rfl⟩
            have hp1 : piece last 0 ((0 : Nat) : Int) = last.take 0 := by unfold piece; simp
            have hp2 : piece bs (m2 : Int) ((m2 : Int) + (r : Int)) = cut bs m2 r := piece_cutm m2 r
            have ht1 : (last.take 0).length = 0 := by rw [List.length_take, hll]; omega
            have ht2 : (cut bs m2 r).length = r := cut_len (by rw [hbl]; omega)
            have hXl : X.length = 0 + r := by rw [hX, List.length_append, ht1, ht2]
            have hcp := (cp_le [] X).1
            have P1 := Lib.hid (fun (W : World) (hW : Ext w W) => piece_any A2 n2 c2 0 ((0 : Nat) : Int) last W (hl.ext hW) (by omega) (by omega))
            have P2 := Lib.hid (fun (W : World) (hW : Ext w W) => piece_any A n c (m2 : Int) ((m2 : Int) + (r : Int)) bs W (hx.ext hW) hn (by omega))
            rw [hp1, ht1] at P1
            rw [hp2, ht2] at P2
            have Hl := Lib.hid hl
            have HXl := Lib.hid hXl
            have HX := Lib.hid hX
            have Hal := Lib.hid (fun (W : World) (B : Option Addr) (cb : Nat) (hW : Ext w W) (hB : Rd .u8 W B (0 + r) X) => refSame11_any A2 B n2 c2 (0 + r) cb last X W (hl.ext hW) hB (by omega) (by omega))
            have HR := Lib.hid (ptx_yes (last := []) g1 g2 (by rw [List.length_nil]; exact Nat.le_refl _) (by omega) (by rw [hbl]; omega) (by rw [Int.toNat_natCast]; rw [cp_nil]; exact Nat.zero_le _))
            rw [Int.toNat_natCast, show ([] : List Nat).take 0 = last.take 0 from rfl, ← hX] at HR
            have hki : IntKind.i64.wrap ((0 : Nat) : Int) = ((0 : Nat) : Int) := IntWalk.i64_in _ (by omega)
            have T1 := Lib.hid ht1
            have T2 := Lib.hid ht2
            clear hx hu hbl hll g1 g2 a1 a2 a3 b1 b2 b3 hl hX hXl ht1 ht2 hp1 hp2
            go_enter Tryz.func128, Tryz.ntmps128
            go_wp2_with fail
            refine G1.out.mono ?_
            rintro e w1 ⟨rfl, rfl⟩
            go_wp2_with fail
            refine G2.out.mono ?_
            rintro e w2 ⟨rfl, rfl⟩
            go_wp2_with fail
            refine (P1.out _ (Ext.refl _)).mono ?_
            rintro e w3 ⟨A3, c3, rfl, hown3, he3⟩
            go_wp2_with fail
            refine (P2.out _ he3).mono ?_
            rintro e w4 ⟨A4, c4, rfl, hown4, he4⟩
            go_wp2_with fail
            refine (cat_any _ _ _ _ _ _ _ _ w4 (hown3.rd.ext he4 |> fun h => (by rw [← T1.out]; exact h)) (by rw [← T2.out]; exact hown4.rd) (by omega)).mono ?_
            rintro e w5 ⟨A5, c5, rfl, hown5, he5⟩
            rw [← HX.out] at hown5
            have hE5 : Ext w2 w5 := (he3.trans he4).trans he5
            have hown6 := hown5.mono (base' := w2.heap.size) (he3.trans he4).size
            go_wp2_with fail
            go_ret3
            exact PTxPost.good _ HR.out (HXl.out.trans (by omega)) rfl hown6 hE5
    · have HR := Lib.hid (ptx_e2 (last := []) g1 g2 z2)
      have hb2 : (e2 != 0) = true := by rw [bne_iff_ne]; exact z2
      clear hx hu hbl hll g1 g2 a1 a2 a3 hl
      go_enter Tryz.func128, Tryz.ntmps128
      go_wp2_with fail
      refine G1.out.mono ?_
      rintro e w1 ⟨rfl, rfl⟩
      go_wp2_with fail
      refine G2.out.mono ?_
      rintro e w2 ⟨rfl, rfl⟩
      go_wp2_with fail
      go_ret3
      exact PTxPost.bad _ HR.out (Ext.refl _)
  · have HR := Lib.hid (ptx_e1 (last := []) g1 z1)
    have hb1 : (e1 != 0) = true := by rw [bne_iff_ne]; exact z1
    clear hx hu hbl hll g1 hl
    go_enter Tryz.func128, Tryz.ntmps128
    go_wp2_with fail
    refine G1.out.mono ?_
    rintro e w1 ⟨rfl, rfl⟩
    go_wp2_with fail
    go_ret3
    exact PTxPost.bad _ HR.out (Ext.refl _)

end Go.Proofs.YtlgcghjbekgnmaaGreat

/-
  Layer 11: the document's Decode.
-/
namespace Go.Proofs.YtlgcghjbekgnmaaGreat
open Go.RowKit
set_option maxRecDepth 100000

set_option maxHeartbeats 1600000 in
set_option maxRecDepth 100000 in
theorem refDecode11_any (A : Option Addr) (n c : Nat) (bs : List Nat) (w : World) (hx : Rd .u8 w A n bs) (hu : U8 bs) (hn : n ≤ 140737488355328) :
    Calls Tryz.prog 89 #[.slice A n c] w (TxtsPost (pdec bs) w) := by
  have hbl := hx.len
  rcases g1 : vget bs 0 with ⟨k, n1, e1⟩
  have G1 := Lib.hid (rget_is (c := c) hx hu hn g1)
  by_cases z1 : e1 = 0
  · subst z1
    obtain ⟨a1, a2, a3, a4, _⟩ := vget_at hu g1
    rw [hbl] at a3
    obtain ⟨m1, rfl⟩ := Int.eq_ofNat_of_zero_le (show 0 ≤ n1 by omega)
    by_cases hk : 4096 < k
    · have HR := Lib.hid (pdec_long g1 hk)
      clear hx hu hbl g1 a1 a2 a3
      go_enter Tryz.func89, Tryz.ntmps89
      go_wp2_with fail
      refine G1.out.mono ?_
      rintro e w1 ⟨rfl, rfl⟩
      go_wp2_with fail
      go_ret2
      exact TxtsPost.bad _ HR.out (Ext.refl _)
    · have hk2 : k ≤ 4096 := by omega
      obtain ⟨R, hR⟩ : ∃ R, R = pdec bs := ⟨_, rfl⟩
      have HR := Lib.hid (show pdA bs (k - 0) (m1 : Int) (bodies []) = R by rw [hR, pdec_go g1 hk2]; rfl)
      rw [← hR]
      have Hbl := Lib.hid hbl
      have Hx := Lib.hid hx
      have Hu := Lib.hid hu
      clear hR g1 hbl hx hu a1 a2
      have hm1 : m1 ≤ n := by omega
      go_enter Tryz.func89, Tryz.ntmps89
      go_wp2_with fail
      refine G1.out.mono ?_
      rintro e w1 ⟨rfl, rfl⟩
      obtain ⟨w, hw⟩ : ∃ w, w = w1 := ⟨_, rfl⟩
      subst hw
      go_wp2_with fail
      go_loopw [5, 7, 8, 9, 10, 11, 12] (fun at_ v l i _ _ _ wr => ∃ (j a : Nat) (ts : List Sl) (A' : Option Addr) (c' : Nat) (AL : Option Addr) (mL cL : Nat), j ≤ k ∧ i = .int .u64 j ∧ a ≤ n ∧ at_ = .int .i64 a ∧ v = .slice A' j c' ∧ l = .slice AL mL cL ∧ Hid (ts.length = j) ∧ Hid (pdA bs (k - j) a (bodies ts) = R) ∧ Hid (DTx w wr A' c' ts) ∧ Hid (j = 0 ∧ mL = 0 ∨ ∃ (p : Nat) (t : Sl), j = p + 1 ∧ ts[p]? = some t ∧ AL = t.A ∧ mL = t.body.length)) (fun _ _ _ i _ _ _ _ => k - (intOf i).toNat)
      case atStart => exact ⟨0, m1, [], _, _, _, _, _, Nat.zero_le _, rfl, hm1, rfl, rfl, rfl, rfl, HR.out, ⟨(OwnG.made _ _ _ (Nat.le_refl _)).ext ((Ext.refl _).alloc _), Txts.nil .., ((Ext.refl _).alloc _).alloc _, fun t ht => (by cases ht), fun t ht => (by cases ht)⟩, .inl ⟨rfl, rfl⟩⟩
      case round =>
        clear HR
        obtain ⟨j, a, ts, A', c', AL, mL, cL, hj, rfl, ha, rfl, rfl, rfl, Hl, HR, HD, HL⟩ := hrel
        by_cases hlt : j < k
        · obtain ⟨q, hq⟩ : ∃ q, k - j = q + 1 := ⟨k - j - 1, by omega⟩
          have Hq2 := Lib.hid (show k - (j + 1) = q by omega)
          have Hq := Lib.hid hq
          clear hq
          have hua : U8 (ahead (bodies ts)) := ahead_u8 (fun s hs => by
            obtain ⟨t, ht, rfl⟩ := List.mem_map.1 hs
            exact HD.out.u8 t ht)
          have Hua := Lib.hid hua
          have hbt : (bodies ts).length = j := by rw [bodies_len, Hl.out]
          rcases hg : ptx bs a (ahead (bodies ts)) with ⟨s, m, e⟩
          have Hg := Lib.hid hg
          have hL : ∃ L, Rd .u8 wr AL mL L ∧ mL ≤ 200 ∧ (¬ j % 16 = 0 → ahead (bodies ts) = L) := by
            rcases HL.out with ⟨h0, rfl⟩ | ⟨p, t, hp, ht, rfl, rfl⟩
            · exact ⟨[], Rd.nil .., by omega, fun h => absurd (by rw [h0]) h⟩
            · have hm := List.mem_of_getElem? ht
              exact ⟨t.body, HD.out.txt.rd t hm, HD.out.len t hm, fun h => by rw [ahead_not (by rw [hbt]; exact h), hbt, hp, Nat.add_sub_cancel, bodies_get ht]⟩
          obtain ⟨L, hLr, hL2, hLa⟩ := hL
          clear hua
          by_cases hw16 : j % 16 = 0
          · have hd : decide ((j : Int) % 16 = 0) = true := decide_eq_true (by omega)
            have hdb : (((j : Int) % 16) == 0) = true := by rw [beq_iff_eq]; omega
            have hah : ahead (bodies ts) = [] := ahead_whole (by rw [hbt]; exact hw16)
            have HG := Lib.hid (fun W (hW : Ext wr W) => refText11_true A n c a AL mL cL bs L W ((Hx.out.ext HD.out.ext).ext hW) Hu.out hn (hLr.ext hW) hL2)
            rw [← hah, hg] at HG
            clear hg hah hbt hLa hLr
            go_wp2_with fail
            refine (HG.out _ (Ext.refl _)).mono ?_
            rintro e' w3 ⟨A3, c3, rfl, hown3, he3⟩
            by_cases he0 : e = 0
            · subst he0
              obtain ⟨b1, b2, b3, b4, b5, _⟩ := ptx_ok Hu.out Hua.out Hg.out
              rw [Hbl.out] at b3
              obtain ⟨m', rfl⟩ := Int.eq_ofNat_of_zero_le (show 0 ≤ m by omega)
              have HN := Lib.hid (show pdA bs (k - (j + 1)) (m' : Int) (bodies (ts ++ [⟨A3, c3, s⟩])) = R by
                rw [Hq2.out, ← HR.out, Hq.out, pdA_next Hg.out]; unfold bodies; rw [List.map_append]; rfl)
              have Hb4 := Lib.hid b4
              have Hb5 := Lib.hid b5
              have hm' : m' ≤ n := by omega
              clear b1 b2 b3 b4 b5
              go_wp2_with (at_builtin; refine wpList_pushT (w0 := w) ⟨A3, c3, s⟩ rfl _ _ rfl ((HD.out.row.ext he3).ext ((Ext.refl _).alloc _)) j Hl.out rfl rfl (heap_alloc_new _ _) (by omega) (Ext.trans (HD.out.ext.trans he3) ((Ext.refl _).alloc _)) (by have := (HD.out.ext.trans he3).size; simp; omega) ?_; intro A4 c4 w4 hown4 hg4 hb4 hz4)
              rw [← Hl.out] at hg4
              have HD4 := Lib.hid (HD.out.snoc (s := ⟨A3, c3, s⟩) hown3 he3 hown4 hg4 hb4 Hb4.out Hb5.out)
              clear hg4 hown4
              have hlast : (ts ++ [(⟨A3, c3, s⟩ : Sl)])[j]? = some ⟨A3, c3, s⟩ := by rw [← Hl.out, List.getElem?_append_right (Nat.le_refl _), Nat.sub_self]; rfl
              have Hlast := Lib.hid hlast
              clear hlast
              go_wp2_with fail
              go_roundw
              case rel => exact ⟨j + 1, m', _, A4, c4, A3, s.length, c3, by omega, by go_num, hm', rfl, by go_num, rfl, by rw [List.length_append, Hl.out]; rfl, HN.out, HD4.out, .inr ⟨j, ⟨A3, c3, s⟩, rfl, Hlast.out, rfl, rfl⟩⟩
              case measure => simp [intOf]; omega
            · have hb1 : (e != 0) = true := by rw [bne_iff_ne]; exact he0
              have HE := Lib.hid (show R = ([], e) by rw [← HR.out, Hq.out, pdA_err Hg.out he0])
              have He := Lib.hid (HD.out.ext.trans he3)
              go_wp2_with fail
              go_ret2
              exact TxtsPost.bad _ HE.out He.out
          · have hd : decide ((j : Int) % 16 = 0) = false := decide_eq_false (by omega)
            have hdb : (((j : Int) % 16) == 0) = false := by rw [beq_eq_false_iff_ne]; omega
            have HG := Lib.hid (fun W (hW : Ext wr W) => refText11_false A n c a AL mL cL bs L W ((Hx.out.ext HD.out.ext).ext hW) Hu.out hn (hLr.ext hW) hL2)
            rw [← hLa hw16, hg] at HG
            clear hg hbt hLa hLr
            go_wp2_with fail
            refine (HG.out _ (Ext.refl _)).mono ?_
            rintro e' w3 ⟨A3, c3, rfl, hown3, he3⟩
            by_cases he0 : e = 0
            · subst he0
              obtain ⟨b1, b2, b3, b4, b5, _⟩ := ptx_ok Hu.out Hua.out Hg.out
              rw [Hbl.out] at b3
              obtain ⟨m', rfl⟩ := Int.eq_ofNat_of_zero_le (show 0 ≤ m by omega)
              have HN := Lib.hid (show pdA bs (k - (j + 1)) (m' : Int) (bodies (ts ++ [⟨A3, c3, s⟩])) = R by
                rw [Hq2.out, ← HR.out, Hq.out, pdA_next Hg.out]; unfold bodies; rw [List.map_append]; rfl)
              have Hb4 := Lib.hid b4
              have Hb5 := Lib.hid b5
              have hm' : m' ≤ n := by omega
              clear b1 b2 b3 b4 b5
              go_wp2_with (at_builtin; refine wpList_pushT (w0 := w) ⟨A3, c3, s⟩ rfl _ _ rfl ((HD.out.row.ext he3).ext ((Ext.refl _).alloc _)) j Hl.out rfl rfl (heap_alloc_new _ _) (by omega) (Ext.trans (HD.out.ext.trans he3) ((Ext.refl _).alloc _)) (by have := (HD.out.ext.trans he3).size; simp; omega) ?_; intro A4 c4 w4 hown4 hg4 hb4 hz4)
              rw [← Hl.out] at hg4
              have HD4 := Lib.hid (HD.out.snoc (s := ⟨A3, c3, s⟩) hown3 he3 hown4 hg4 hb4 Hb4.out Hb5.out)
              clear hg4 hown4
              have hlast : (ts ++ [(⟨A3, c3, s⟩ : Sl)])[j]? = some ⟨A3, c3, s⟩ := by rw [← Hl.out, List.getElem?_append_right (Nat.le_refl _), Nat.sub_self]; rfl
              have Hlast := Lib.hid hlast
              clear hlast
              go_wp2_with fail
              go_roundw
              case rel => exact ⟨j + 1, m', _, A4, c4, A3, s.length, c3, by omega, by go_num, hm', rfl, by go_num, rfl, by rw [List.length_append, Hl.out]; rfl, HN.out, HD4.out, .inr ⟨j, ⟨A3, c3, s⟩, rfl, Hlast.out, rfl, rfl⟩⟩
              case measure => simp [intOf]; omega
            · have hb1 : (e != 0) = true := by rw [bne_iff_ne]; exact he0
              have HE := Lib.hid (show R = ([], e) by rw [← HR.out, Hq.out, pdA_err Hg.out he0])
              have He := Lib.hid (HD.out.ext.trans he3)
              go_wp2_with fail
              go_ret2
              exact TxtsPost.bad _ HE.out He.out
        · obtain rfl : j = k := by omega
          have hR := HR.out
          rw [Nat.sub_self] at hR
          by_cases hat : a < n
          · have HR := Lib.hid (show R = ([], 3) by rw [← hR, pdA_trail (by rw [Hbl.out]; omega)])
            have He := Lib.hid HD.out.ext
            clear hR
            go_wp2_with fail
            go_ret2
            exact TxtsPost.bad _ HR.out He.out
          · have HR := Lib.hid (show R = (bodies ts, 0) by rw [← hR, pdA_end (by rw [Hbl.out]; omega)])
            clear hR
            go_wp2_with fail
            go_ret2
            exact TxtsPost.good _ HR.out Hl.out HD.out.row HD.out.txt HD.out.ext
  · have HR := Lib.hid (pdec_err g1 z1)
    have hb1 : (e1 != 0) = true := by rw [bne_iff_ne]; exact z1
    clear hx hu hbl g1
    go_enter Tryz.func89, Tryz.ntmps89
    go_wp2_with fail
    refine G1.out.mono ?_
    rintro e w1 ⟨rfl, rfl⟩
    go_wp2_with fail
    go_ret2
    exact TxtsPost.bad _ HR.out (Ext.refl _)

end Go.Proofs.YtlgcghjbekgnmaaGreat

/-
  Layer 12: the cells of a codec's bytes, by the document.
-/
namespace Go.Proofs.YtlgcghjbekgnmaaGreat
open Go.RowKit
set_option maxRecDepth 100000

set_option maxHeartbeats 6400000 in
theorem refCells2_any (k : Int) (A : Option Addr) (l c n : Nat) (bs : List Nat) (w : World) (hx : Rd .u8 w A l bs) (hu : U8 bs) (hl : l ≤ 100000) (hn : n ≤ 4096) :
    Calls Tryz.prog 48 #[.int .i64 k, .int .i64 2, .slice A l c, .int .i64 (n : Int)] w (GcPost (valuesR k 2 bs n) w) := by
  have HD := Lib.hid (fun W (hW : Ext w W) => refDecode_any A l c bs W (hx.ext hW) hu (by omega))
  unfold JoinPost at HD
  have hR : valuesR k 2 bs n = if (zR (decode8 bs)).2 ≠ 0 then ([], (zR (decode8 bs)).2) else if (zR (decode8 bs)).1.length ≠ n then ([], 5) else ((zR (decode8 bs)).1, 0) := rfl
  obtain ⟨D, hD⟩ : ∃ D, D = decode8 bs := ⟨_, rfl⟩
  rw [← hD] at HD hR
  obtain ⟨L, E⟩ := D
  unfold zR at hR
  simp only at HD hR
  obtain ⟨m, hm⟩ : ∃ m, m = L.length := ⟨_, rfl⟩
  rw [← hm] at HD
  have Hm := Lib.hid hm
  have hw0 : Ext w ((w.alloc (.cells #[] 2)).alloc (.cells #[] 22)) := ((Ext.refl w).alloc _).alloc _
  have Hw0 := Lib.hid hw0
  have hm4 : E = 0 → m ≤ 4096 := fun h0 => by
    have h1 := (back8 hu (by rw [← hD]; exact h0)).1
    rw [← hD] at h1
    unfold encode8 at h1
    by_cases q : 4096 < L.length
    · rw [if_pos q] at h1; injection h1 with _ h1; exact absurd h1 (by decide)
    · omega
  clear hx hu hD hw0
  by_cases he : E = 0
  · subst he
    replace hm4 := hm4 rfl
    simp only [ne_eq, not_true_eq_false, if_false, List.length_map] at hR
    rw [← hm] at hR
    by_cases hmn : m = n
    · subst hmn
      have HR := Lib.hid (hR.trans (if_neg (fun h => h rfl)))
      clear hm hR
      go_enter Tryz.func48, Tryz.ntmps48
      go_wp2_with fail
      refine (HD.out _ Hw0.out).mono ?_
      rintro e w1 ⟨A1, c1, rfl, ho1, he1⟩
      have HE1 := Lib.hid (Hw0.out.trans he1)
      have HV1 := Lib.hid (ho1.rd' Hm.out.symm)
      have HO1 := Lib.hid (OwnX.ext (OwnX.made (base := w1.heap.size) w1 (Nat.le_refl _)) (Ext.refl _))
      clear ho1 he1
      go_wp2_with fail
      go_loopw [13, 14] (fun v i wr => ∃ (j : Nat) (A' : Option Addr) (c' : Nat) (fs : List Ci), j ≤ m ∧ i = .int .i64 (j : Int) ∧ v = .slice A' j c' ∧ Hid (fs.length = j) ∧ Hid (OwnX wr w1.heap.size A' c' fs) ∧ Hid (TxtX wr w1.heap.size fs) ∧ Hid (Ext w1 wr) ∧ Hid (fs.map Ci.val = (L.take j).map (fun v => (false, v, [])))) (fun _ i _ => m - (intOf i).toNat)
      case atStart => exact ⟨0, _, _, [], Nat.zero_le _, rfl, rfl, rfl, HO1.out, Lib.hid (TxtX.nil _ _), Lib.hid ((Ext.refl _).alloc _), Lib.hid rfl⟩
      case round =>
        clear HO1
        obtain ⟨j, A', c', fs, hj, rfl, rfl, Hfl, HO, HX, HE, HB⟩ := hrel
        have hEw := HE1.out.trans HE.out
        have hz := HE.out.size
        by_cases hlt : j < m
        · obtain ⟨b, o, hA, hbl, hc⟩ := (HV1.out.ext HE.out).atZ hlt
          have hxj : L[j]? = some (L.getD j 0) := by rw [List.getD_eq_getElem?_getD, List.getElem?_eq_getElem (by have := Hm.out; omega)]; rfl
          obtain ⟨x, hxx⟩ : ∃ x, x = L.getD j 0 := ⟨_, rfl⟩
          rw [← hxx] at hc hxj
          subst hA
          have HB2 : Hid ((fs ++ ([⟨false, x, none, 0, []⟩] : List Ci)).map Ci.val = (L.take (j + 1)).map (fun v => (false, v, []))) := Lib.hid (by rw [take_nextG L j hxj, List.map_append, List.map_append, HB.out]; rfl)
          have hX : Ext wr (wr.alloc (.cells #[.bool false, .int .i64 x, .slice none 0 0] 61)) := (Ext.refl wr).alloc _
          have hlow : ∀ g ∈ fs, ∀ p, g.A = some p → p.block < wr.heap.size := fun g hg p hp => ((HX.out.1 g hg).block p hp).2
          clear hxj hxx
          go_wp2_with (at_builtin; refine wpList_pushX (w0 := w1) ⟨false, x, none, 0, []⟩ rfl _ _ rfl (HO.out.ext hX) j Hfl.out rfl rfl (heap_alloc_new wr _) (by omega) (HE.out.trans hX) (by simp; omega) ?_; intro A3 c3 w3 hown4 hgr hb3 hz3)
          have HX3 := Lib.hid (TxtX.grown (base' := w1.heap.size) (TxtX.snoc (HX.out.ext hX) (f := ⟨false, x, none, 0, []⟩) (base' := wr.heap.size) (Own.nil ..) hz hlow) (HO.out.ext hX) hgr)
          have HO3 := Lib.hid hown4
          have HE3 : Hid (Ext w1 w3) := Lib.hid hb3
          clear hown4 hgr hb3 hlow
          go_roundw
          case rel => exact ⟨j + 1, A3, c3, _, hlt, by go_num, rfl, (by rw [List.length_append, Hfl.out]; rfl), HO3.out, HX3.out, HE3.out, HB2.out⟩
          case measure => simp [intOf]; omega
        · obtain rfl : j = m := by omega
          rw [List.take_of_length_le (Nat.le_of_eq Hm.out.symm)] at HB
          go_wp2_with fail
          go_loopw [13, 15] (fun v i w' => v = .slice A' j c' ∧ i = .int .i64 0 ∧ w' = wr) (fun _ _ _ => 0)
          case atStart => exact ⟨rfl, rfl, rfl⟩
          case round =>
            obtain ⟨rfl, rfl, rfl⟩ := hrel
            go_wp2_with fail
            go_ret2
            rw [HR.out]
            exact ⟨fs, A', c', by rw [List.length_map, ← Hm.out]; rfl, HB.out, HO.out.mono HE1.out.size, HX.out.mono HE1.out.size, hEw⟩
    · have HR := Lib.hid (hR.trans (if_pos hmn))
      have hmb : ((m : Int) != (n : Int)) = true := by simp; omega
      clear hm hR
      go_enter Tryz.func48, Tryz.ntmps48
      go_wp2_with fail
      refine (HD.out _ Hw0.out).mono ?_
      rintro e w1 ⟨A1, c1, rfl, ho1, he1⟩
      have HE1 := Lib.hid (Hw0.out.trans he1)
      clear ho1 he1
      go_wp2_with fail
      go_ret2
      exact GcPost.bad _ HR.out HE1.out
  · simp only [ne_eq, he, not_false_eq_true, if_true] at hR
    have HR := Lib.hid hR
    have heb : (E == 0) = false := beq_eq_false_iff_ne.2 he
    clear hm hR he
    go_enter Tryz.func48, Tryz.ntmps48
    go_wp2_with fail
    refine (HD.out _ Hw0.out).mono ?_
    rintro e w1 ⟨A1, c1, rfl, ho1, he1⟩
    have HE1 := Lib.hid (Hw0.out.trans he1)
    clear ho1 he1
    go_wp2_with fail
    go_ret2
    exact GcPost.bad _ HR.out HE1.out

set_option maxHeartbeats 6400000 in
theorem refCells3_any (k : Int) (A : Option Addr) (l c n : Nat) (bs : List Nat) (w : World) (hx : Rd .u8 w A l bs) (hu : U8 bs) (hl : l ≤ 100000) (hn : n ≤ 4096) :
    Calls Tryz.prog 48 #[.int .i64 k, .int .i64 3, .slice A l c, .int .i64 (n : Int)] w (GcPost (valuesR k 3 bs n) w) := by
  have HD := Lib.hid (fun W (hW : Ext w W) => refPdecode_any A l c bs W (hx.ext hW) hu (by omega))
  unfold Dec9Post at HD
  have hR : valuesR k 3 bs n = if (zR (decode9 bs)).2 ≠ 0 then ([], (zR (decode9 bs)).2) else if (zR (decode9 bs)).1.length ≠ n then ([], 5) else ((zR (decode9 bs)).1, 0) := rfl
  obtain ⟨D, hD⟩ : ∃ D, D = decode9 bs := ⟨_, rfl⟩
  rw [← hD] at HD hR
  obtain ⟨L, E⟩ := D
  unfold zR at hR
  simp only at HD hR
  obtain ⟨m, hm⟩ : ∃ m, m = L.length := ⟨_, rfl⟩
  rw [← hm] at HD
  have Hm := Lib.hid hm
  have hw0 : Ext w ((w.alloc (.cells #[] 2)).alloc (.cells #[] 22)) := ((Ext.refl w).alloc _).alloc _
  have Hw0 := Lib.hid hw0
  have hm4 : E = 0 → m ≤ 4096 := fun h0 => by
    have h1 := (only9 hu (by rw [← hD]; exact h0)).1
    rw [← hD] at h1
    unfold encode9 at h1
    by_cases q : 4096 < L.length
    · rw [if_pos q] at h1; injection h1 with _ h1; exact absurd h1 (by decide)
    · omega
  clear hx hu hD hw0
  by_cases he : E = 0
  · subst he
    replace hm4 := hm4 rfl
    simp only [ne_eq, not_true_eq_false, if_false, List.length_map] at hR
    rw [← hm] at hR
    by_cases hmn : m = n
    · subst hmn
      have HR := Lib.hid (hR.trans (if_neg (fun h => h rfl)))
      clear hm hR
      go_enter Tryz.func48, Tryz.ntmps48
      go_wp2_with fail
      refine (HD.out _ Hw0.out).mono ?_
      rintro e w1 ⟨A1, c1, rfl, ho1, he1⟩
      have HE1 := Lib.hid (Hw0.out.trans he1)
      have HV1 := Lib.hid (ho1.rd' Hm.out.symm)
      have HO1 := Lib.hid (OwnX.ext (OwnX.made (base := w1.heap.size) w1 (Nat.le_refl _)) (Ext.refl _))
      clear ho1 he1
      go_wp2_with fail
      go_loopw [13, 14] (fun v i wr => ∃ (j : Nat) (A' : Option Addr) (c' : Nat) (fs : List Ci), j ≤ m ∧ i = .int .i64 (j : Int) ∧ v = .slice A' j c' ∧ Hid (fs.length = j) ∧ Hid (OwnX wr w1.heap.size A' c' fs) ∧ Hid (TxtX wr w1.heap.size fs) ∧ Hid (Ext w1 wr) ∧ Hid (fs.map Ci.val = (L.take j).map (fun v => (false, v, [])))) (fun _ i _ => m - (intOf i).toNat)
      case atStart => exact ⟨0, _, _, [], Nat.zero_le _, rfl, rfl, rfl, HO1.out, Lib.hid (TxtX.nil _ _), Lib.hid ((Ext.refl _).alloc _), Lib.hid rfl⟩
      case round =>
        clear HO1
        obtain ⟨j, A', c', fs, hj, rfl, rfl, Hfl, HO, HX, HE, HB⟩ := hrel
        have hEw := HE1.out.trans HE.out
        have hz := HE.out.size
        by_cases hlt : j < m
        · obtain ⟨b, o, hA, hbl, hc⟩ := (HV1.out.ext HE.out).atZ hlt
          have hxj : L[j]? = some (L.getD j 0) := by rw [List.getD_eq_getElem?_getD, List.getElem?_eq_getElem (by have := Hm.out; omega)]; rfl
          obtain ⟨x, hxx⟩ : ∃ x, x = L.getD j 0 := ⟨_, rfl⟩
          rw [← hxx] at hc hxj
          subst hA
          have HB2 : Hid ((fs ++ ([⟨false, x, none, 0, []⟩] : List Ci)).map Ci.val = (L.take (j + 1)).map (fun v => (false, v, []))) := Lib.hid (by rw [take_nextG L j hxj, List.map_append, List.map_append, HB.out]; rfl)
          have hX : Ext wr (wr.alloc (.cells #[.bool false, .int .i64 x, .slice none 0 0] 61)) := (Ext.refl wr).alloc _
          have hlow : ∀ g ∈ fs, ∀ p, g.A = some p → p.block < wr.heap.size := fun g hg p hp => ((HX.out.1 g hg).block p hp).2
          clear hxj hxx
          go_wp2_with (at_builtin; refine wpList_pushX (w0 := w1) ⟨false, x, none, 0, []⟩ rfl _ _ rfl (HO.out.ext hX) j Hfl.out rfl rfl (heap_alloc_new wr _) (by omega) (HE.out.trans hX) (by simp; omega) ?_; intro A3 c3 w3 hown4 hgr hb3 hz3)
          have HX3 := Lib.hid (TxtX.grown (base' := w1.heap.size) (TxtX.snoc (HX.out.ext hX) (f := ⟨false, x, none, 0, []⟩) (base' := wr.heap.size) (Own.nil ..) hz hlow) (HO.out.ext hX) hgr)
          have HO3 := Lib.hid hown4
          have HE3 : Hid (Ext w1 w3) := Lib.hid hb3
          clear hown4 hgr hb3 hlow
          go_roundw
          case rel => exact ⟨j + 1, A3, c3, _, hlt, by go_num, rfl, (by rw [List.length_append, Hfl.out]; rfl), HO3.out, HX3.out, HE3.out, HB2.out⟩
          case measure => simp [intOf]; omega
        · obtain rfl : j = m := by omega
          rw [List.take_of_length_le (Nat.le_of_eq Hm.out.symm)] at HB
          go_wp2_with fail
          go_loopw [13, 15] (fun v i w' => v = .slice A' j c' ∧ i = .int .i64 0 ∧ w' = wr) (fun _ _ _ => 0)
          case atStart => exact ⟨rfl, rfl, rfl⟩
          case round =>
            obtain ⟨rfl, rfl, rfl⟩ := hrel
            go_wp2_with fail
            go_ret2
            rw [HR.out]
            exact ⟨fs, A', c', by rw [List.length_map, ← Hm.out]; rfl, HB.out, HO.out.mono HE1.out.size, HX.out.mono HE1.out.size, hEw⟩
    · have HR := Lib.hid (hR.trans (if_pos hmn))
      have hmb : ((m : Int) != (n : Int)) = true := by simp; omega
      clear hm hR
      go_enter Tryz.func48, Tryz.ntmps48
      go_wp2_with fail
      refine (HD.out _ Hw0.out).mono ?_
      rintro e w1 ⟨A1, c1, rfl, ho1, he1⟩
      have HE1 := Lib.hid (Hw0.out.trans he1)
      clear ho1 he1
      go_wp2_with fail
      go_ret2
      exact GcPost.bad _ HR.out HE1.out
  · simp only [ne_eq, he, not_false_eq_true, if_true] at hR
    have HR := Lib.hid hR
    have heb : (E == 0) = false := beq_eq_false_iff_ne.2 he
    clear hm hR he
    go_enter Tryz.func48, Tryz.ntmps48
    go_wp2_with fail
    refine (HD.out _ Hw0.out).mono ?_
    rintro e w1 ⟨A1, c1, rfl, ho1, he1⟩
    have HE1 := Lib.hid (Hw0.out.trans he1)
    clear ho1 he1
    go_wp2_with fail
    go_ret2
    exact GcPost.bad _ HR.out HE1.out

end Go.Proofs.YtlgcghjbekgnmaaGreat

/-
  Layer 12: the cells of a codec's texts, by the document.
-/
namespace Go.Proofs.YtlgcghjbekgnmaaGreat
open Go.RowKit
set_option maxRecDepth 100000

set_option maxHeartbeats 6400000 in
theorem refCells4_any (k : Int) (A : Option Addr) (l c n : Nat) (bs : List Nat) (w : World) (hx : Rd .u8 w A l bs) (hu : U8 bs) (hl : l ≤ 100000) (hn : n ≤ 4096) :
    Calls Tryz.prog 48 #[.int .i64 k, .int .i64 4, .slice A l c, .int .i64 (n : Int)] w (GcPost (valuesR k 4 bs n) w) := by
  have HD0 := fun W (hW : Ext w W) => refDdecode_any A l c bs W (hx.ext hW) hu (by omega)
  unfold TxtsPost at HD0
  have hR : valuesR k 4 bs n = if (tR (ddec bs)).2 ≠ 0 then ([], (tR (ddec bs)).2) else if (tR (ddec bs)).1.length ≠ n then ([], 5) else ((tR (ddec bs)).1, 0) := rfl
  obtain ⟨D, hD⟩ : ∃ D, D = ddec bs := ⟨_, rfl⟩
  rw [← hD] at HD0 hR
  obtain ⟨L, E⟩ := D
  unfold tR at hR
  simp only at HD0 hR
  obtain ⟨m, hm⟩ : ∃ m, m = L.length := ⟨_, rfl⟩
  have hmb : ∀ us : List Sl, bodies us = L → us.length = m := fun us h => by rw [hm, ← h, bodies_len]
  have HD : Hid (∀ W, Ext w W → Calls Tryz.prog 88 #[.slice A l c] W fun e w' => ∃ A' c' us, e = .returned (.tuple #[.slice A' m c', .int .i64 E]) ∧ bodies us = L ∧ OwnT w' W.heap.size A' c' us ∧ Txts w' W.heap.size us ∧ Ext W w') := Lib.hid (fun W hW => (HD0 W hW).mono fun e w' ⟨A', c', us, q1, q2, q3⟩ => ⟨A', c', us, by rw [q1, hmb _ q2], q2, q3⟩)
  have Hmb := Lib.hid hmb
  have hw0 : Ext w ((w.alloc (.cells #[] 2)).alloc (.cells #[] 22)) := ((Ext.refl w).alloc _).alloc _
  have Hw0 := Lib.hid hw0
  have hm4 : E = 0 → m ≤ 4096 := fun h0 => by
    have h1 := (ddec_ok hu (ss := L) (by rw [← hD, h0])).2.1
    omega
  clear hx hu hD hw0 HD0 hmb
  by_cases he : E = 0
  · subst he
    replace hm4 := hm4 rfl
    simp only [ne_eq, not_true_eq_false, if_false, List.length_map] at hR
    rw [← hm] at hR
    by_cases hmn : m = n
    · subst hmn
      have HR := Lib.hid (hR.trans (if_neg (fun h => h rfl)))
      clear hm hR
      go_enter Tryz.func48, Tryz.ntmps48
      go_wp2_with fail
      refine (HD.out _ Hw0.out).mono ?_
      rintro e w1 ⟨A1, c1, us, rfl, hb1, ho1, ht1, he1⟩
      have HE1 := Lib.hid (Hw0.out.trans he1)
      have hul := Hmb.out us hb1
      have HV1 : Hid (RdL w1 A1 m us) := Lib.hid (hul ▸ OwnG.rdL ho1)
      have Hul := Lib.hid hul
      have HT1 := Lib.hid ht1
      have Hb1 := Lib.hid hb1
      have HO1 := Lib.hid (OwnX.ext (OwnX.made (base := w1.heap.size) w1 (Nat.le_refl _)) (Ext.refl _))
      have hv2 : ∀ p, A1 = some p → p.block < w1.heap.size := fun p hp => (OwnG.block ho1 p hp).2
      have HB1 := Lib.hid hv2
      clear ho1 he1 ht1 hul hb1 hv2
      go_wp2_with fail
      go_loopw [13, 14] (fun v i w' => v = .slice (some ⟨w1.heap.size, 0, none⟩) 0 0 ∧ i = .int .i64 0 ∧ w' = w1.alloc (.cells #[] 61)) (fun _ _ _ => 0)
      case atStart => exact ⟨rfl, rfl, rfl⟩
      case round =>
        obtain ⟨rfl, rfl, rfl⟩ := hrel
        go_wp2_with fail
        go_loopw [13, 15] (fun v i wr => ∃ (j : Nat) (A' : Option Addr) (c' : Nat), j ≤ m ∧ i = .int .i64 (j : Int) ∧ v = .slice A' j c' ∧ Hid (OwnX wr w1.heap.size A' c' ((us.take j).map ciT)) ∧ Hid (Ext w1 wr)) (fun _ i _ => m - (intOf i).toNat)
        case atStart => exact ⟨0, _, _, Nat.zero_le _, rfl, rfl, HO1.out, Lib.hid ((Ext.refl _).alloc _)⟩
        case round =>
          clear HO1
          obtain ⟨j, A', c', hj, rfl, rfl, HO, HE⟩ := hrel
          have hEw := HE1.out.trans HE.out
          have hz := HE.out.size
          have Hfl := Lib.hid (show ((us.take j).map ciT).length = j by rw [List.length_map, List.length_take, Hul.out]; omega)
          by_cases hlt : j < m
          · obtain ⟨b, o, s, hA, hsj, hc0⟩ := HV1.out.at_ hlt
            have hbl : b < w1.heap.size := HB1.out ⟨b, o, none⟩ hA
            have hc : wr.cell? ⟨b, o + j, none⟩ = some (.slice s.A s.body.length s.c) := (HE.out.cells b _ hbl).trans hc0
            subst hA
            have HB2 : Hid ((us.take (j + 1)).map ciT = (us.take j).map ciT ++ [ciT s]) := Lib.hid (by rw [take_nextG us j hsj, List.map_append]; rfl)
            obtain ⟨sA, sc, sb⟩ := s
            simp only at hc
            have hX : Ext wr (wr.alloc (.cells #[.bool false, .int .i64 0, .slice sA sb.length sc] 61)) := (Ext.refl wr).alloc _
            clear hsj hc0
            go_wp2_with (at_builtin; refine wpList_pushX (w0 := w1) ⟨false, 0, sA, sc, sb⟩ rfl _ _ rfl (HO.out.ext hX) j Hfl.out rfl rfl (heap_alloc_new wr _) (by omega) (HE.out.trans hX) (by simp; omega) ?_; intro A3 c3 w3 hown4 hgr hb3 hz3)
            have HO3 : Hid (OwnX w3 w1.heap.size A3 c3 ((us.take (j + 1)).map ciT)) := Lib.hid (by rw [HB2.out]; exact hown4)
            have HE3 : Hid (Ext w1 w3) := Lib.hid hb3
            clear hown4 hgr hb3
            go_roundw
            case rel => exact ⟨j + 1, A3, c3, hlt, by go_num, rfl, HO3.out, HE3.out⟩
            case measure => simp [intOf]; omega
          · obtain rfl : j = m := by omega
            rw [List.take_of_length_le (Nat.le_of_eq Hul.out)] at HO
            go_wp2_with fail
            go_ret2
            rw [HR.out]
            exact ⟨us.map ciT, A', c', by rw [List.length_map, ← Hb1.out, bodies_len, Hul.out]; rfl, by rw [val_T, Hb1.out], HO.out.mono HE1.out.size, (txtX_T (HT1.out.ext HE.out)).mono Hw0.out.size, hEw⟩
    · have HR := Lib.hid (hR.trans (if_pos hmn))
      have hmb : ((m : Int) != (n : Int)) = true := by simp; omega
      clear hm hR
      go_enter Tryz.func48, Tryz.ntmps48
      go_wp2_with fail
      refine (HD.out _ Hw0.out).mono ?_
      rintro e w1 ⟨A1, c1, us, rfl, hb1, ho1, ht1, he1⟩
      have HE1 := Lib.hid (Hw0.out.trans he1)
      clear ho1 he1 ht1
      go_wp2_with fail
      go_ret2
      exact GcPost.bad _ HR.out HE1.out
  · simp only [ne_eq, he, not_false_eq_true, if_true] at hR
    have HR := Lib.hid hR
    have heb : (E == 0) = false := beq_eq_false_iff_ne.2 he
    clear hm hR he
    go_enter Tryz.func48, Tryz.ntmps48
    go_wp2_with fail
    refine (HD.out _ Hw0.out).mono ?_
    rintro e w1 ⟨A1, c1, us, rfl, hb1, ho1, ht1, he1⟩
    have HE1 := Lib.hid (Hw0.out.trans he1)
    clear ho1 he1 ht1
    go_wp2_with fail
    go_ret2
    exact GcPost.bad _ HR.out HE1.out

set_option maxHeartbeats 6400000 in
theorem refCells5_any (k : Int) (A : Option Addr) (l c n : Nat) (bs : List Nat) (w : World) (hx : Rd .u8 w A l bs) (hu : U8 bs) (hl : l ≤ 100000) (hn : n ≤ 4096) :
    Calls Tryz.prog 48 #[.int .i64 k, .int .i64 5, .slice A l c, .int .i64 (n : Int)] w (GcPost (valuesR k 5 bs n) w) := by
  have HD0 := fun W (hW : Ext w W) => refDecode11_any A l c bs W (hx.ext hW) hu (by omega)
  unfold TxtsPost at HD0
  have hR : valuesR k 5 bs n = if (tR (pdec bs)).2 ≠ 0 then ([], (tR (pdec bs)).2) else if (tR (pdec bs)).1.length ≠ n then ([], 5) else ((tR (pdec bs)).1, 0) := rfl
  obtain ⟨D, hD⟩ : ∃ D, D = pdec bs := ⟨_, rfl⟩
  rw [← hD] at HD0 hR
  obtain ⟨L, E⟩ := D
  unfold tR at hR
  simp only at HD0 hR
  obtain ⟨m, hm⟩ : ∃ m, m = L.length := ⟨_, rfl⟩
  have hmb : ∀ us : List Sl, bodies us = L → us.length = m := fun us h => by rw [hm, ← h, bodies_len]
  have HD : Hid (∀ W, Ext w W → Calls Tryz.prog 89 #[.slice A l c] W fun e w' => ∃ A' c' us, e = .returned (.tuple #[.slice A' m c', .int .i64 E]) ∧ bodies us = L ∧ OwnT w' W.heap.size A' c' us ∧ Txts w' W.heap.size us ∧ Ext W w') := Lib.hid (fun W hW => (HD0 W hW).mono fun e w' ⟨A', c', us, q1, q2, q3⟩ => ⟨A', c', us, by rw [q1, hmb _ q2], q2, q3⟩)
  have Hmb := Lib.hid hmb
  have hw0 : Ext w ((w.alloc (.cells #[] 2)).alloc (.cells #[] 22)) := ((Ext.refl w).alloc _).alloc _
  have Hw0 := Lib.hid hw0
  have hm4 : E = 0 → m ≤ 4096 := fun h0 => by
    have h1 := (pdec_ok hu (ss := L) (by rw [← hD, h0])).2.1
    omega
  clear hx hu hD hw0 HD0 hmb
  by_cases he : E = 0
  · subst he
    replace hm4 := hm4 rfl
    simp only [ne_eq, not_true_eq_false, if_false, List.length_map] at hR
    rw [← hm] at hR
    by_cases hmn : m = n
    · subst hmn
      have HR := Lib.hid (hR.trans (if_neg (fun h => h rfl)))
      clear hm hR
      go_enter Tryz.func48, Tryz.ntmps48
      go_wp2_with fail
      refine (HD.out _ Hw0.out).mono ?_
      rintro e w1 ⟨A1, c1, us, rfl, hb1, ho1, ht1, he1⟩
      have HE1 := Lib.hid (Hw0.out.trans he1)
      have hul := Hmb.out us hb1
      have HV1 : Hid (RdL w1 A1 m us) := Lib.hid (hul ▸ OwnG.rdL ho1)
      have Hul := Lib.hid hul
      have HT1 := Lib.hid ht1
      have Hb1 := Lib.hid hb1
      have HO1 := Lib.hid (OwnX.ext (OwnX.made (base := w1.heap.size) w1 (Nat.le_refl _)) (Ext.refl _))
      have hv2 : ∀ p, A1 = some p → p.block < w1.heap.size := fun p hp => (OwnG.block ho1 p hp).2
      have HB1 := Lib.hid hv2
      clear ho1 he1 ht1 hul hb1 hv2
      go_wp2_with fail
      go_loopw [13, 14] (fun v i w' => v = .slice (some ⟨w1.heap.size, 0, none⟩) 0 0 ∧ i = .int .i64 0 ∧ w' = w1.alloc (.cells #[] 61)) (fun _ _ _ => 0)
      case atStart => exact ⟨rfl, rfl, rfl⟩
      case round =>
        obtain ⟨rfl, rfl, rfl⟩ := hrel
        go_wp2_with fail
        go_loopw [13, 15] (fun v i wr => ∃ (j : Nat) (A' : Option Addr) (c' : Nat), j ≤ m ∧ i = .int .i64 (j : Int) ∧ v = .slice A' j c' ∧ Hid (OwnX wr w1.heap.size A' c' ((us.take j).map ciT)) ∧ Hid (Ext w1 wr)) (fun _ i _ => m - (intOf i).toNat)
        case atStart => exact ⟨0, _, _, Nat.zero_le _, rfl, rfl, HO1.out, Lib.hid ((Ext.refl _).alloc _)⟩
        case round =>
          clear HO1
          obtain ⟨j, A', c', hj, rfl, rfl, HO, HE⟩ := hrel
          have hEw := HE1.out.trans HE.out
          have hz := HE.out.size
          have Hfl := Lib.hid (show ((us.take j).map ciT).length = j by rw [List.length_map, List.length_take, Hul.out]; omega)
          by_cases hlt : j < m
          · obtain ⟨b, o, s, hA, hsj, hc0⟩ := HV1.out.at_ hlt
            have hbl : b < w1.heap.size := HB1.out ⟨b, o, none⟩ hA
            have hc : wr.cell? ⟨b, o + j, none⟩ = some (.slice s.A s.body.length s.c) := (HE.out.cells b _ hbl).trans hc0
            subst hA
            have HB2 : Hid ((us.take (j + 1)).map ciT = (us.take j).map ciT ++ [ciT s]) := Lib.hid (by rw [take_nextG us j hsj, List.map_append]; rfl)
            obtain ⟨sA, sc, sb⟩ := s
            simp only at hc
            have hX : Ext wr (wr.alloc (.cells #[.bool false, .int .i64 0, .slice sA sb.length sc] 61)) := (Ext.refl wr).alloc _
            clear hsj hc0
            go_wp2_with (at_builtin; refine wpList_pushX (w0 := w1) ⟨false, 0, sA, sc, sb⟩ rfl _ _ rfl (HO.out.ext hX) j Hfl.out rfl rfl (heap_alloc_new wr _) (by omega) (HE.out.trans hX) (by simp; omega) ?_; intro A3 c3 w3 hown4 hgr hb3 hz3)
            have HO3 : Hid (OwnX w3 w1.heap.size A3 c3 ((us.take (j + 1)).map ciT)) := Lib.hid (by rw [HB2.out]; exact hown4)
            have HE3 : Hid (Ext w1 w3) := Lib.hid hb3
            clear hown4 hgr hb3
            go_roundw
            case rel => exact ⟨j + 1, A3, c3, hlt, by go_num, rfl, HO3.out, HE3.out⟩
            case measure => simp [intOf]; omega
          · obtain rfl : j = m := by omega
            rw [List.take_of_length_le (Nat.le_of_eq Hul.out)] at HO
            go_wp2_with fail
            go_ret2
            rw [HR.out]
            exact ⟨us.map ciT, A', c', by rw [List.length_map, ← Hb1.out, bodies_len, Hul.out]; rfl, by rw [val_T, Hb1.out], HO.out.mono HE1.out.size, (txtX_T (HT1.out.ext HE.out)).mono Hw0.out.size, hEw⟩
    · have HR := Lib.hid (hR.trans (if_pos hmn))
      have hmb : ((m : Int) != (n : Int)) = true := by simp; omega
      clear hm hR
      go_enter Tryz.func48, Tryz.ntmps48
      go_wp2_with fail
      refine (HD.out _ Hw0.out).mono ?_
      rintro e w1 ⟨A1, c1, us, rfl, hb1, ho1, ht1, he1⟩
      have HE1 := Lib.hid (Hw0.out.trans he1)
      clear ho1 he1 ht1
      go_wp2_with fail
      go_ret2
      exact GcPost.bad _ HR.out HE1.out
  · simp only [ne_eq, he, not_false_eq_true, if_true] at hR
    have HR := Lib.hid hR
    have heb : (E == 0) = false := beq_eq_false_iff_ne.2 he
    clear hm hR he
    go_enter Tryz.func48, Tryz.ntmps48
    go_wp2_with fail
    refine (HD.out _ Hw0.out).mono ?_
    rintro e w1 ⟨A1, c1, us, rfl, hb1, ho1, ht1, he1⟩
    have HE1 := Lib.hid (Hw0.out.trans he1)
    clear ho1 he1 ht1
    go_wp2_with fail
    go_ret2
    exact GcPost.bad _ HR.out HE1.out

end Go.Proofs.YtlgcghjbekgnmaaGreat

/-
  Layer 12: the cells of any codec's bytes, by the document.
-/
namespace Go.Proofs.YtlgcghjbekgnmaaGreat
open Go.RowKit
set_option maxRecDepth 100000

theorem refCells_any (k cd : Int) (hk : 1 ≤ k ∧ k ≤ 8) (hcd : 1 ≤ cd ∧ cd ≤ 5) (A : Option Addr) (l c n : Nat) (bs : List Nat) (w : World) (hx : Rd .u8 w A l bs) (hu : U8 bs) (hl : l ≤ 100000) (hn : n ≤ 4096) :
    Calls Tryz.prog 48 #[.int .i64 k, .int .i64 cd, .slice A l c, .int .i64 (n : Int)] w (GcPost (valuesR k cd bs n) w) := by
  by_cases h1 : cd = 1
  · subst h1
    have hR : valuesR k 1 bs n = gplR k bs n := rfl
    have HP := Lib.hid (refPlain_any k hk A l c n bs w hx hu hl hn)
    rw [hR]
    clear hx hu hR
    go_enter Tryz.func48, Tryz.ntmps48
    go_wp2_with fail
    refine HP.out.mono ?_
    rintro e w1 ⟨fs, A1, c1, rfl, h2, h3, h4, h5⟩
    go_wp2_with fail
    go_ret2
    exact ⟨fs, A1, c1, rfl, h2, h3, h4, h5⟩
  by_cases h2 : cd = 2
  · subst h2; exact refCells2_any k A l c n bs w hx hu hl hn
  by_cases h3 : cd = 3
  · subst h3; exact refCells3_any k A l c n bs w hx hu hl hn
  by_cases h4 : cd = 4
  · subst h4; exact refCells4_any k A l c n bs w hx hu hl hn
  · obtain rfl : cd = 5 := by omega
    exact refCells5_any k A l c n bs w hx hu hl hn

end Go.Proofs.YtlgcghjbekgnmaaGreat
