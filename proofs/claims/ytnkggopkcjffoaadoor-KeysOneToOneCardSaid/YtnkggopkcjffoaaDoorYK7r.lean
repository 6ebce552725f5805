import Derived.Test.YtnkggopkcjffoaaDoorG8
import Derived.Deep.RegionHeld3

/-
  Layer 7: the statement KeysOneToOne, walked.
-/
namespace Go.Proofs.YtnkggopkcjffoaaDoor
open Go.RowKit

set_option maxHeartbeats 6400000 in
set_option maxRecDepth 100000 in
theorem walk_KeysOneToOne (A : Option Addr) (n c : Nat) (keys : Int) (cs : List Col) (A2 : Option Addr) (n2 c2 : Nat) (xs : List Ci) (A3 : Option Addr) (n3 c3 : Nat) (bs : List Nat) (w : World) (hs : SchIn w A n c cs) (hx : RdX w A2 n2 xs) (hz2 : n2 * 40 ≤ 140737488351232) (hcap : ∀ x ∈ xs, x.txt.length ≤ x.c ∧ x.c ≤ 9223372036854775807) (hb : Rd .u8 w A3 n3 bs) (hu : U8 bs) (hn3 : n3 ≤ 140737488351232) :
    Calls Tryd.prog 6 #[.agg #[.slice A n c, .int .i64 keys], .slice A2 n2 c2, .slice A3 n3 c3] w fun e w' => e = .returned (.bool true) ∧ Ext w w' := by
  go_enter Tryd.func6, Tryd.ntmps6
  go_wp2_with fail
  refine (alive7 _).mono ?_
  rintro e w1 ⟨rfl, he1⟩
  have ha := (AtS.box w A n c keys).ext he1
  have HW1 : Hid (Ext w w1) := Lib.hid (((Ext.refl w).alloc _).trans he1)
  have KS := Lib.hid (fun W (hW : Ext w1 W) => (show W.cell? ⟨w.heap.size, 0, none⟩ = some (.slice A n c) ∧ W.cell? ⟨w.heap.size, 1, none⟩ = some (.int .i64 keys) from ⟨(ha.ext hW).c0, (ha.ext hW).c1⟩))
  replace hs := hs.ext HW1.out
  replace hx := hx.ext HW1.out
  replace hb := hb.ext HW1.out
  have Hl3 := Lib.hid hb.len
  have Hl2 := Lib.hid hx.1
  have HU8 := Lib.hid (rdX_u8 hx)
  have HK := Lib.hid (fun W (hW : Ext w1 W) => refSkey_any A n c keys cs A2 n2 c2 xs W (hs.ext hW) (hx.ext hW) (by omega))
  have HE := Lib.hid (fun W (hW : Ext w1 W) => kencode_any A n c keys cs A2 n2 c2 xs W (hs.ext hW) (hx.ext hW) (by omega) hcap)
  have HA := Lib.hid (fun W (hW : Ext w1 W) A' c' ys (hy : RdX W A' n2 ys) => alikeRow_any A' n2 c' ys A2 n2 c2 xs W hy (hx.ext hW) (by omega) (by omega))
  have HD := Lib.hid (fun W A' c' (hW : Ext w1 W) (hr : Rd .u8 W A' n3 bs) (hc : n3 ≤ c') => kdecode_any A n c keys cs A' n3 c' bs W (hs.ext hW) hr hu hn3 hc)
  have HOK := Lib.hid (fun h => kdecE_ok (keys := keys) (cs := cs) hu h)
  have HBAD := Lib.hid (fun h => kdecE_bad (keys := keys) (cs := cs) (bs := bs) h)
  unfold KDecPost at HD
  obtain ⟨⟨V, F⟩, hV⟩ : ∃ R, R = kdecE keys cs bs := ⟨_, rfl⟩
  rw [← hV] at HD HOK HBAD
  simp only at HD HOK HBAD
  have HV := Lib.hid hV
  obtain ⟨K, hK⟩ : ∃ K, K = keyS keys cs xs := ⟨_, rfl⟩
  rw [← hK] at HK
  have HKK := Lib.hid hK
  obtain ⟨k10, k11⟩ := KS.out _ (Ext.refl w1)
  clear hV hK ha he1
  go_wp2_with fail
  refine (HK.out _ (Ext.refl w1)).mono ?_
  rintro e w2 ⟨rfl, he2⟩
  have HT0 := he2
  have hk2 := KS.out _ he2
  have k20 := hk2.1
  have k21 := hk2.2
  clear k10 k11 hk2
  by_cases k0 : K = 0
  case' pos =>
    obtain ⟨x1, x2, x3, x4⟩ := keyS_inv (HKK.out.symm.trans k0)
    obtain ⟨i1, i2, i3, i4, i5⟩ := schE_inv x1
    obtain ⟨P, hP⟩ : ∃ P, P = keyB cs (xs.map Ci.val) := ⟨_, rfl⟩
    have hPu : U8 P := by rw [hP]; exact keyB_u8 HU8.out
    have hPl : P.length ≤ 402 * xs.length := by rw [hP]; have := (keyB_len (cs := cs) (vs := xs.map Ci.val) x4 (by rw [List.length_map]; omega)).2; rwa [List.length_map] at this
    have hP7 : U8 (P ++ [7]) := by
      intro v hv
      rcases List.mem_append.1 hv with h | h
      · exact hPu v h
      · rw [List.mem_singleton.1 h]; decide
    have e1 := kencE_ok x1 x2 (by omega) x4
    have e2 := kdecE_put (vs := xs.map Ci.val) x1 (by rw [List.length_map]; omega) x4
    have e3 := kdecE_more (vs := xs.map Ci.val) (x := 7) x1 (by rw [List.length_map]; omega) x4
    rw [← hP] at e1 e2 e3
    unfold KEncPost at HE
    rw [e1] at HE
    obtain ⟨p, hp⟩ : ∃ p, P.length = p := ⟨_, rfl⟩
    have Hp := Lib.hid hp
    have Hp7 := Lib.hid (show (P ++ [7]).length = p + 1 by rw [List.length_append, hp]; rfl)
    rw [hp] at hPl
    have hp2 : p ≤ 402 * 3 := by have := Hl2.out; omega
    simp only [hp] at HE
    have HD2 := Lib.hid (fun W A' c' (hW : Ext w1 W) (hr : Rd .u8 W A' p P) (hc : p ≤ c') => kdecode_any A n c keys cs A' p c' P W (hs.ext hW) hr hPu (by omega) hc)
    have HD3 := Lib.hid (fun W A' c' (hW : Ext w1 W) (hr : Rd .u8 W A' (p + 1) (P ++ [7])) (hc : p + 1 ≤ c') => kdecode_any A n c keys cs A' (p + 1) c' (P ++ [7]) W (hs.ext hW) hr hP7 (by omega) hc)
    unfold KDecPost at HD2 HD3
    rw [e2] at HD2
    rw [e3] at HD3
    simp only at HD2 HD3
    have HAK : Hid (∀ W (A' : Nat × Option Addr × Nat) ys, OwnX W A'.1 A'.2.1 A'.2.2 ys → TxtU W A'.1 ys → ys.map Ci.val = xs.map Ci.val → RdX W A'.2.1 n2 ys) := Lib.hid (fun W A' ys h1 h2 h3 => by
      have hl : ys.length = n2 := by rw [← List.length_map (f := Ci.val), h3, List.length_map, Hl2.out]
      have := key_rdX (cs := cs) h1 h2 (by have := Hl2.out; omega) (by rw [h3]; exact x4) (by rw [h3]; exact HU8.out)
      rwa [hl] at this)
    have b0 : (K == 0) = true := by simp [k0]
    subst k0
    clear e1 e2 e3 hP hPu hPl hP7 x1 x2 x3 x4 i1 i2 i3 i4 i5 hp
    go_wp2_with fail
    refine (HE.out _ HT0).mono ?_
    rintro e w3 ⟨A3', c3', rfl, hown3, he3⟩
    have HT3 := HT0.trans he3
    have hr3 := hown3.rd' Hp.out
    have hc3 := hown3.cap.1
    rw [Hp.out] at hc3
    have hk3 := KS.out _ HT3
    have k30 := hk3.1
    have k31 := hk3.2
    clear hown3 k20 k21 hk3
    go_wp2_with fail
    refine (HD2.out _ A3' c3' HT3 hr3 hc3).mono ?_
    rintro e w4 ⟨A4, c4, ys, rfl, hys, hoy, hty, he4⟩
    have hyl : ys.length = n2 := by rw [← List.length_map (f := Ci.val), hys, List.length_map, Hl2.out]
    rw [hyl]
    have hry := HAK.out _ (_, A4, c4) ys hoy hty hys
    have HT4 := Lib.hid (HT3.trans he4)
    have Hr4 := Lib.hid (hr3.ext he4)
    have Hys := Lib.hid hys
    have Hry := Lib.hid hry
    have K4 := Lib.hid (fun W (hW : Ext w4 W) => KS.out W (HT4.out.trans hW))
    have g9 := K4.out _ (Ext.refl w4)
    clear hys hoy hty hr3 he3 he4 hyl k30 k31 hry HT3 HT0
    have HCat := Lib.hid (fun W (hW : Ext w4 W) g (h7 : Rd .u8 W (some ⟨g, 0, none⟩) 1 [7]) => cat_any A3' (some ⟨g, 0, none⟩) p c3' 1 1 P [7] W (Hr4.out.ext hW) h7 (by omega))
    go_wp2_with fail
    go_region_held3 (fun w' => w'.cell? ⟨w.heap.size, 0, none⟩ = some (.slice A n c) ∧ w'.cell? ⟨w.heap.size, 1, none⟩ = some (.int .i64 keys))
      (first | exact g9 | (refine K4.out _ ?_; (repeat (first | exact Ext.refl _ | (with_reducible refine Ext.trans ?_ he6) | (with_reducible refine Ext.trans ?_ he5) |  apply Ext.drew | apply Ext.alloc | fail))) | fail)
      (first
        | (go_at_call 21; (with_reducible refine (HCat.out _ ?_ _ ?_).mono ?_); (focus ((repeat (first | exact Ext.refl _ |  apply Ext.drew | apply Ext.alloc | fail)); done)); (focus (exact rd_one 7 (heap_alloc_new _ _))); rintro e w5 ⟨A5, c5, rfl, hown5, he5⟩)
        | (go_at_call 17; (with_reducible refine (HD3.out _ _ _ ?_ ?_ ?_).mono ?_); (focus ((refine HT4.out.trans ?_); (repeat (first | exact Ext.refl _ | (with_reducible refine Ext.trans ?_ he5) |  apply Ext.drew | apply Ext.alloc | fail)); done)); (focus ((refine Rd.ext (hown5.rd' Hp7.out) ?_); (repeat (first | exact Ext.refl _ |  apply Ext.drew | apply Ext.alloc | fail)); done)); (focus (have q5 := hown5.cap.1; rw [Hp7.out] at q5; exact q5)); rintro e w6 ⟨A6, c6, zs, rfl, hzs, _, _, he6⟩)
        | fail)
    have hE46 : Ext w4 w6 := by (repeat (first | exact Ext.refl _ | (with_reducible refine Ext.trans ?_ he6) | (with_reducible refine Ext.trans ?_ he5) |  apply Ext.drew | apply Ext.alloc | fail))
    have HE46 := Lib.hid hE46
    have HT6 := Lib.hid (HT4.out.trans hE46)
    have hry6 := Hry.out.ext hE46
    clear hE46 he5 he6 hzs hown5
    go_wp2_with fail
    refine (HA.out _ HT6.out A4 c4 ys hry6).mono ?_
    rintro e w7 ⟨rfl, he7⟩
    rw [alkR_iff.2 Hys.out]
    have HT := HT6.out.trans he7
    clear HT4 HE46 HT6 he7 hry6 Hr4 Hry
  case' neg =>
    have hk0 : (K == 0) = false := by simpa using k0
    have HT := HT0
    clear k0 HT0 k20 k21
  all_goals
    have HT' := Lib.hid HT
    have KT := Lib.hid (fun W hW => KS.out W (HT'.out.trans hW))
    have g10 := KT.out _ (Ext.refl _)
    have HCp := Lib.hid (fun W hW => copy_any A3 n3 c3 bs W ((hb.ext HT'.out).ext hW) (by omega))
    obtain ⟨k70, k71⟩ := g10
    have g10 := KT.out _ (Ext.refl _)
    go_wp2_with fail
    go_region_held3 (fun w' => w'.cell? ⟨w.heap.size, 0, none⟩ = some (.slice A n c) ∧ w'.cell? ⟨w.heap.size, 1, none⟩ = some (.int .i64 keys))
      (first | exact g10 | (refine KT.out _ ?_; (repeat (first | exact Ext.refl _ | (with_reducible refine Ext.trans ?_ he21) | (with_reducible refine Ext.trans ?_ he20) |  apply Ext.drew | apply Ext.alloc | fail))) | fail)
      (first
        | (go_at_call 30; (with_reducible refine (HCp.out _ ?_).mono ?_); (focus ((repeat (first | exact Ext.refl _ |  apply Ext.drew | apply Ext.alloc | fail)); done)); rintro e w20 ⟨A20, c20, rfl, hown20, he20⟩)
        | (go_at_call 17; (with_reducible refine (HD.out _ _ _ ?_ ?_ ?_).mono ?_); (focus ((refine HT'.out.trans ?_); (repeat (first | exact Ext.refl _ | (with_reducible refine Ext.trans ?_ he20) |  apply Ext.drew | apply Ext.alloc | fail)); done)); (focus ((refine Rd.ext (hown20.rd' Hl3.out) ?_); (repeat (first | exact Ext.refl _ |  apply Ext.drew | apply Ext.alloc | fail)); done)); (focus (have q5 := hown20.cap.1; rw [Hl3.out] at q5; exact q5)); rintro e w21 ⟨A21, c21, ys2, rfl, hys, hoy, hty, he21⟩)
        | fail)
    have HT21 : Ext w1 w21 := by (refine HT'.out.trans ?_; (repeat (first | exact Ext.refl _ | (with_reducible refine Ext.trans ?_ he21) | (with_reducible refine Ext.trans ?_ he20) |  apply Ext.drew | apply Ext.alloc | fail)))
    have hk21 := KS.out _ HT21
    have k210 := hk21.1
    have k211 := hk21.2
    clear he20 he21 hown20 k70 k71 hk21 HT
    by_cases h0 : F = 0
    · obtain ⟨y1, y2, y3, y4, y5⟩ := HOK.out h0
      rw [← hys] at y2 y3 y4 y5
      rw [List.length_map] at y2
      obtain ⟨i1, i2, i3, i4, i5⟩ := schE_inv y1
      have hry := key_rdX hoy hty (by omega) y3 y5
      have hcy := key_cap hty
      have HE3 := Lib.hid (kencode_any A n c keys cs A21 ys2.length c21 ys2 w21 (hs.ext HT21) hry (by omega) hcy)
      have HK3 := Lib.hid (fun W (hW : Ext w21 W) => refSkey_any A n c keys cs A21 ys2.length c21 ys2 W ((hs.ext HT21).ext hW) (hry.ext hW) (by omega))
      rw [keyS_ok y1 (by omega) y3] at HK3
      unfold KEncPost at HE3
      rw [kencE_ok y1 (by omega) (by omega) y3, y4] at HE3
      simp only [Hl3.out] at HE3
      have Hb3 := Lib.hid (hb.ext HT21)
      subst h0
      clear y1 y2 y3 y4 y5 i1 i2 i3 i4 i5 hry hcy hys hoy hty
      go_wp2_with fail
      refine HE3.out.mono ?_
      rintro e w22 ⟨A22, c22, rfl, hown22, he22⟩
      have hk22 := KS.out _ (HT21.trans he22)
      have k220 := hk22.1
      have k221 := hk22.2
      clear k210 k211 hk22
      go_wp2_with fail
      refine (same_any _ _ n3 _ n3 _ bs bs _ (hown22.rd' Hl3.out) (Hb3.out.ext he22) (by omega) (by omega)).mono ?_
      rintro e w23 ⟨rfl, q23, rfl⟩
      rw [decide_eq_true rfl]
      go_wp2_with fail
      refine (HK3.out _ (he22.drewN q23)).mono ?_
      rintro e w24 ⟨rfl, he24⟩
      go_wp2_with fail
      go_ret
      exact ⟨rfl, HW1.out.trans ((HT21.trans (he22.drewN q23)).trans he24)⟩
    · have hy0 := HBAD.out h0
      have hyl : ys2.length = 0 := by rw [← List.length_map (f := Ci.val), hys, hy0]; rfl
      rw [hyl]
      have hb0 : (F != 0) = true := by simpa using h0
      clear h0 hy0 hys hoy hty
      go_wp2_with fail
      go_ret
      exact ⟨rfl, HW1.out.trans HT21⟩

end Go.Proofs.YtnkggopkcjffoaaDoor
