import Derived.Test.YtnkggopkcjffoaaDoorYK8l

/-
  Layer 7: the statement KeysRange, walked.
-/
namespace Go.Proofs.YtnkggopkcjffoaaDoor
open Go.RowKit

theorem kbdsE_inv {keys : Int} {cs : List Col} {xs ys : List Ci} (h : (kbdsE keys cs xs ys).2.2 = 0) :
    (kbndE keys cs xs).2 = 0 ∧ (kbndE keys cs ys).2 = 0 ∧ kbdsE keys cs xs ys = ((kbndE keys cs xs).1, (kbndE keys cs ys).1, 0) := by
  unfold kbdsE at h ⊢
  split at h
  · rename_i q; exact absurd h q
  · rename_i q1
    rw [if_neg q1]
    split at h
    · rename_i q; exact absurd h q
    · rename_i q2
      rw [if_neg q2]
      split at h
      · rename_i q; exact absurd h q
      · rename_i q3
        rw [if_neg q3]
        exact ⟨by simpa using q2, by simpa using q3, rfl⟩

theorem ordT_bnd {keys : Int} {cs : List Col} {ks xs : List Ci} (hk : (kencE keys cs ks).2 = 0) (hfull : keys = ks.length) (hx : (kbndE keys cs xs).2 = 0) :
    (ordT (kencE keys cs ks).1 (kbndE keys cs xs).1 < 0 ↔ rankV xs.length (ks.map Ci.val) (xs.map Ci.val) < 0) ∧ (xs.length = 0 ↔ (kbndE keys cs xs).1.length = 0) := by
  obtain ⟨a1, a2, a3, a4, a5⟩ := kencE_inv hk
  obtain ⟨i1, i2, i3, i4, i5⟩ := schE_inv a1
  by_cases h0 : xs.length = 0
  · have e : kbndE keys cs xs = ([], 0) := if_pos h0
    rw [e, h0]
    refine ⟨?_, by simp⟩
    rw [show rankV 0 (ks.map Ci.val) (xs.map Ci.val) = 0 from rfl]
    cases hK : (kencE keys cs ks).1 with
    | nil => simp [ordT]
    | cons x r => rw [ordT_cons_nil]; simp
  · have e : kbndE keys cs xs = kencE keys cs xs := if_neg h0
    rw [e] at hx ⊢
    obtain ⟨b1, b2, b3, b4, b5⟩ := kencE_inv hx
    have hm : xs.length ≤ ks.length := by omega
    have := ord_keyB xs.length [] [] a4 b4 (by omega) (by rw [List.length_map]; exact hm) (by rw [List.length_map]; exact Nat.le_refl _)
    rw [List.append_nil, List.append_nil, List.append_nil, List.append_nil] at this
    have hd : keyB (cs.drop xs.length) ((xs.map Ci.val).drop xs.length) = [] := by
      rw [List.drop_of_length_le (l := xs.map Ci.val) (by rw [List.length_map]; exact Nat.le_refl _)]
      cases cs.drop xs.length <;> rfl
    rw [hd] at this
    have hkl := (keyB_len (cs := cs) (vs := xs.map Ci.val) b4 (by rw [List.length_map]; omega)).1
    rw [List.length_map] at hkl
    rw [a5, b5]
    refine ⟨?_, by dsimp only; omega⟩
    dsimp only
    rw [this]
    split
    · exact Iff.rfl
    · rename_i hr
      have h00 : rankV xs.length (ks.map Ci.val) (xs.map Ci.val) = 0 := by simpa using hr
      rw [h00]
      cases keyB (cs.drop xs.length) ((ks.map Ci.val).drop xs.length) with
      | nil => simp [ordT]
      | cons x r => rw [ordT_cons_nil]; simp

theorem within_rank {keys : Int} {cs : List Col} {ks xs ys : List Ci} (hk : keyS keys cs ks = 0) (hb : (kbdsE keys cs xs ys).2.2 = 0) :
    withinF (kencE keys cs ks).1 (kbdsE keys cs xs ys).1 (kbdsE keys cs xs ys).2.1 = (if 0 ≤ rankV xs.length (ks.map Ci.val) (xs.map Ci.val) then (decide (ys.length = 0) || decide (rankV ys.length (ks.map Ci.val) (ys.map Ci.val) < 0)) else false) := by
  obtain ⟨x1, x2, x3, x4⟩ := keyS_inv hk
  have hke : (kencE keys cs ks).2 = 0 := by rw [kencE_ok x1 x2 (by omega) x4]
  obtain ⟨h1, h2, h3⟩ := kbdsE_inv hb
  rw [h3]
  obtain ⟨o1, _⟩ := ordT_bnd hke x3.symm h1
  obtain ⟨o2, o3⟩ := ordT_bnd hke x3.symm h2
  unfold withinF
  dsimp only
  by_cases c1 : ordT (kencE keys cs ks).1 (kbndE keys cs xs).1 < 0
  · have := o1.1 c1
    rw [if_pos c1, if_neg (by omega)]
  · have hn : ¬ rankV xs.length (ks.map Ci.val) (xs.map Ci.val) < 0 := fun q => c1 (o1.2 q)
    rw [if_neg c1, if_pos (by omega)]
    congr 1
    · rw [decide_eq_decide]; exact o3.symm
    · rw [decide_eq_decide]; exact o2

set_option maxHeartbeats 6400000 in
set_option maxRecDepth 100000 in
theorem walk_KeysRange (A : Option Addr) (n c : Nat) (keys : Int) (cs : List Col) (A2 : Option Addr) (n2 c2 : Nat) (ks : List Ci) (A3 : Option Addr) (n3 c3 : Nat) (xs : List Ci) (A4 : Option Addr) (n4 c4 : Nat) (ys : List Ci) (A5 : Option Addr) (n5 c5 : Nat) (os : List Nat) (w : World) (hs : SchIn w A n c cs) (hx2 : RdX w A2 n2 ks) (hz2 : n2 * 40 ≤ 140737488351232) (hcap2 : ∀ x ∈ ks, x.txt.length ≤ x.c ∧ x.c ≤ 9223372036854775807) (hx3 : RdX w A3 n3 xs) (hz3 : n3 * 40 ≤ 140737488351232) (hcap3 : ∀ x ∈ xs, x.txt.length ≤ x.c ∧ x.c ≤ 9223372036854775807) (hx4 : RdX w A4 n4 ys) (hz4 : n4 * 40 ≤ 140737488351232) (hcap4 : ∀ x ∈ ys, x.txt.length ≤ x.c ∧ x.c ≤ 9223372036854775807) (hb5 : Rd .u8 w A5 n5 os) (_hu5 : U8 os) (hz5 : n5 ≤ 140737488351232) :
    Calls Tryd.prog 8 #[.agg #[.slice A n c, .int .i64 keys], .slice A2 n2 c2, .slice A3 n3 c3, .slice A4 n4 c4, .slice A5 n5 c5] w fun e w' => e = .returned (.bool true) ∧ Ext w w' := by
  go_enter Tryd.func8, Tryd.ntmps8
  go_wp2_with fail
  refine (alive7 _).mono ?_
  rintro e w1 ⟨rfl, he1⟩
  have ha := (AtS.box w A n c keys).ext he1
  have HW1 : Hid (Ext w w1) := Lib.hid (((Ext.refl w).alloc _).trans he1)
  have KS := Lib.hid (fun W (hW : Ext w1 W) => (show W.cell? ⟨w.heap.size, 0, none⟩ = some (.slice A n c) ∧ W.cell? ⟨w.heap.size, 1, none⟩ = some (.int .i64 keys) from ⟨(ha.ext hW).c0, (ha.ext hW).c1⟩))
  replace hs := hs.ext HW1.out
  replace hx2 := hx2.ext HW1.out
  replace hx3 := hx3.ext HW1.out
  replace hx4 := hx4.ext HW1.out
  replace hb5 := hb5.ext HW1.out
  have Hb5 := Lib.hid hb5
  have Hl3 := Lib.hid hx3.1
  have Hl4 := Lib.hid hx4.1
  obtain ⟨R, hR⟩ : ∃ R, R = kbdsE keys cs xs ys := ⟨_, rfl⟩
  have hRf := kbdsE_facts (keys := keys) (cs := cs) (rdX_u8 hx3) (rdX_u8 hx4)
  obtain ⟨S, hS⟩ : ∃ S, S = kencE keys cs ks := ⟨_, rfl⟩
  have hSu : U8 S.1 := by rw [hS]; exact kencE_u8 (rdX_u8 hx2)
  have hSl : S.1.length ≤ 1206 := by rw [hS]; exact kencE_len
  obtain ⟨K, hK⟩ : ∃ K, K = keyS keys cs ks := ⟨_, rfl⟩
  have HB := Lib.hid (fun W (hW : Ext w1 W) => kbounds_any A n c keys cs A3 n3 c3 xs A4 n4 c4 ys W (hs.ext hW) (hx3.ext hW) (by omega) hcap3 (hx4.ext hW) (by omega) hcap4)
  have HF := Lib.hid (fun W (hW : Ext w1 W) => refKBounds_any A n c keys cs A3 n3 c3 xs A4 n4 c4 ys W (hs.ext hW) (hx3.ext hW) (by omega) (hx4.ext hW) (by omega))
  have HE := Lib.hid (fun W (hW : Ext w1 W) => kencode_any A n c keys cs A2 n2 c2 ks W (hs.ext hW) (hx2.ext hW) (by omega) hcap2)
  have HK := Lib.hid (fun W (hW : Ext w1 W) => refSkey_any A n c keys cs A2 n2 c2 ks W (hs.ext hW) (hx2.ext hW) (by omega))
  have HR3 := Lib.hid (fun W (hW : Ext w1 W) => refRankV_any A2 n2 c2 ks A3 n3 c3 xs n3 W (hx2.ext hW) (hx3.ext hW) (by omega) (by omega) (by omega))
  have HR4 := Lib.hid (fun W (hW : Ext w1 W) => refRankV_any A2 n2 c2 ks A4 n4 c4 ys n4 W (hx2.ext hW) (hx4.ext hW) (by omega) (by omega) (by omega))
  have hwr := within_rank (keys := keys) (cs := cs) (ks := ks) (xs := xs) (ys := ys)
  rw [Hl3.out, Hl4.out] at hwr
  have hks := fun (h : K = 0) => keyS_inv (hK.symm.trans h)
  have hS0 : K = 0 → S.2 = 0 := fun h => by
    obtain ⟨x1, x2, x3, x4⟩ := hks h
    rw [hS, kencE_ok x1 x2 (by omega) x4]
  obtain ⟨r3, hr3⟩ : ∃ r, r = rankV n3 (ks.map Ci.val) (xs.map Ci.val) := ⟨_, rfl⟩
  obtain ⟨r4, hr4⟩ : ∃ r, r = rankV n4 (ks.map Ci.val) (ys.map Ci.val) := ⟨_, rfl⟩
  unfold KBdsPost at HB
  unfold RBdsPost at HF
  unfold KEncPost at HE
  rw [← hR] at HB HF hRf hwr
  rw [← hS] at HE hwr
  rw [← hK] at HK hwr
  rw [← hr3] at HR3 hwr
  rw [← hr4] at HR4 hwr
  clear hR hS hK hr3 hr4 hks hs hx2 hx3 hx4 hcap2 hcap3 hcap4 hb5
  obtain ⟨P, Q, E⟩ := R
  obtain ⟨X, F⟩ := S
  simp only at hRf hwr hSu hSl hS0
  obtain ⟨hPu, hQu, hPl, hQl⟩ := hRf
  obtain ⟨p, hp⟩ : ∃ p, P.length = p := ⟨_, rfl⟩
  obtain ⟨q, hq⟩ : ∃ q, Q.length = q := ⟨_, rfl⟩
  obtain ⟨x, hx⟩ : ∃ x, X.length = x := ⟨_, rfl⟩
  simp only [hp, hq] at HB HF hPl hQl
  simp only [hx] at HE hSl
  have Hp := Lib.hid hp
  have Hq := Lib.hid hq
  have Hx := Lib.hid hx
  have Hwr := Lib.hid hwr
  have HS0 := Lib.hid hS0
  clear hp hq hx hwr hS0
  have hk1 := KS.out _ (Ext.refl w1)
  obtain ⟨k10, k11⟩ := hk1
  go_wp2_with fail
  refine (HB.out _ (Ext.refl w1)).mono ?_
  rintro e w2 ⟨A6, c6, A7, c7, rfl, ho6, ho7, _, he2⟩
  have hk2 := KS.out _ he2
  obtain ⟨k20, k21⟩ := hk2
  go_wp2_with fail
  refine (HE.out _ he2).mono ?_
  rintro e w3 ⟨A8, c8, rfl, ho8, he3⟩
  have hE3 := he2.trans he3
  have hk3 := KS.out _ hE3
  obtain ⟨k30, k31⟩ := hk3
  go_wp2_with fail
  refine (HK.out _ hE3).mono ?_
  rintro e w4 ⟨rfl, he4⟩
  have hE4 := hE3.trans he4
  have hr6 := (ho6.rd' Hp.out).ext (he3.trans he4)
  have hr7 := (ho7.rd' Hq.out).ext (he3.trans he4)
  have hr8 := (ho8.rd' Hx.out).ext he4
  have hk4 := KS.out _ hE4
  obtain ⟨k40, k41⟩ := hk4
  clear ho6 ho7 ho8 he2 he3 he4 hE3 k10 k11 k20 k21 k30 k31
  by_cases z1 : K = 0
  · have d1 : (K != 0) = false := by simp [z1]
    by_cases z2 : E = 0
    · have d2 : (E != 0) = false := by simp [z2]
      have hF0 := HS0.out z1
      have d3 : (F != 0) = false := by simp [hF0]
      have hw := Hwr.out z1 z2
      obtain ⟨g, hg⟩ : ∃ g, g = withinF X P Q := ⟨_, rfl⟩
      rw [← hg] at hw
      have Hg := Lib.hid hg
      have Hw := Lib.hid hw
      have Hb := Lib.hid (show (g != g) = false by simp)
      have HWi := Lib.hid (fun W (hW : Ext w4 W) => within_any A8 A6 A7 x c8 p c6 q c7 X P Q W (hr8.ext hW) (hr6.ext hW) (hr7.ext hW) hSu hPu hQu)
      rw [← hg] at HWi
      have HNx := Lib.hid (fun W (hW : Ext w4 W) => next_any A8 x c8 X W (hr8.ext hW) (by omega))
      have Hr8 := Lib.hid hr8
      have Hx1 := Lib.hid (show (X ++ [0]).length = x + 1 by rw [List.length_append, Hx.out]; rfl)
      clear hg hw z1 z2 hF0 hr6 hr7 hr8
      go_wp2_with fail
      refine (HR3.out _ hE4).mono ?_
      rintro e w5 ⟨rfl, he5⟩
      have hE5 := he5
      clear he5
      by_cases y1 : 0 ≤ r3
      · have hw := Hw.out
        rw [if_pos y1] at hw
        by_cases y2 : n4 = 0
        · have hgt : g = true := by rw [hw, decide_eq_true y2]; rfl
          have y3 : ((n4 : Int) == 0) = true := by simp [y2]
          subst hgt
          clear hw Hw
          go_wp2_with fail
          refine (HWi.out _ hE5).mono ?_
          rintro e wb ⟨rfl, rfl⟩
          go_wp2_with fail
          refine (HNx.out _ hE5).mono ?_
          rintro e w7 ⟨A9, c9, rfl, ho9, he7⟩
          have hE47 := (hE5).trans he7
          have hO1 := order_any A5 A8 n5 c5 x c8 os X w7 ((Hb5.out.ext hE4).ext hE47) (Hr8.out.ext hE47) (by omega) (by omega)
          have Hn := Lib.hid (ord_next os X)
          obtain ⟨t1, ht1⟩ : ∃ t, t = ordT os X := ⟨_, rfl⟩
          obtain ⟨t2, ht2⟩ : ∃ t, t = ordT os (X ++ [0]) := ⟨_, rfl⟩
          rw [← ht1] at hO1 Hn
          rw [← ht2] at Hn
          have HO2 := Lib.hid (fun W (hW : Ext w7 W) => order_any A9 A8 (x + 1) c9 x c8 (X ++ [0]) X W ((ho9.rd' Hx1.out).ext hW) ((Hr8.out.ext hE47).ext hW) (by omega) (by omega))
          have HO3 := Lib.hid (fun W (hW : Ext w7 W) => order_any A5 A9 n5 c5 (x + 1) c9 os (X ++ [0]) W (((Hb5.out.ext hE4).ext hE47).ext hW) ((ho9.rd' Hx1.out).ext hW) (by omega) (by omega))
          rw [ord_above X] at HO2
          rw [← ht2] at HO3
          clear ht1 ht2 ho9
          go_wp2_with fail
          refine hO1.mono ?_
          rintro e wb ⟨rfl, q8, rfl⟩
          go_wp2_with fail
          refine (HO2.out _ ((Ext.refl w7).drewN q8)).mono ?_
          rintro e wb ⟨rfl, q9, rfl⟩
          go_wp2_with fail
          refine (HO3.out _ ((Ext.refl w7).drewN (q8 + q9))).mono ?_
          rintro e wb ⟨rfl, qa, rfl⟩
          go_wp2_with fail
          go_ret
          have hfin : (decide (0 < t1) == decide (0 ≤ t2)) = true := by rw [beq_iff_eq, decide_eq_decide]; exact Hn.out
          exact ⟨by rw [hfin]; rfl, ((HW1.out.trans hE4).trans hE47).drewN _⟩
        · have hgt : g = decide (r4 < 0) := by rw [hw, decide_eq_false y2]; rfl
          have y3 : ((n4 : Int) == 0) = false := by simp [y2]
          clear hw Hw
          go_wp2_with fail
          refine (HR4.out _ (hE4.trans hE5)).mono ?_
          rintro e w6 ⟨rfl, he6⟩
          have hE6 := hE5.trans he6
          by_cases y4 : r4 < 0
          · rw [decide_eq_true y4] at hgt
            subst hgt
            go_wp2_with fail
            refine (HWi.out _ hE6).mono ?_
            rintro e wb ⟨rfl, rfl⟩
            go_wp2_with fail
            refine (HNx.out _ hE6).mono ?_
            rintro e w7 ⟨A9, c9, rfl, ho9, he7⟩
            have hE47 := (hE6).trans he7
            have hO1 := order_any A5 A8 n5 c5 x c8 os X w7 ((Hb5.out.ext hE4).ext hE47) (Hr8.out.ext hE47) (by omega) (by omega)
            have Hn := Lib.hid (ord_next os X)
            obtain ⟨t1, ht1⟩ : ∃ t, t = ordT os X := ⟨_, rfl⟩
            obtain ⟨t2, ht2⟩ : ∃ t, t = ordT os (X ++ [0]) := ⟨_, rfl⟩
            rw [← ht1] at hO1 Hn
            rw [← ht2] at Hn
            have HO2 := Lib.hid (fun W (hW : Ext w7 W) => order_any A9 A8 (x + 1) c9 x c8 (X ++ [0]) X W ((ho9.rd' Hx1.out).ext hW) ((Hr8.out.ext hE47).ext hW) (by omega) (by omega))
            have HO3 := Lib.hid (fun W (hW : Ext w7 W) => order_any A5 A9 n5 c5 (x + 1) c9 os (X ++ [0]) W (((Hb5.out.ext hE4).ext hE47).ext hW) ((ho9.rd' Hx1.out).ext hW) (by omega) (by omega))
            rw [ord_above X] at HO2
            rw [← ht2] at HO3
            clear ht1 ht2 ho9
            go_wp2_with fail
            refine hO1.mono ?_
            rintro e wb ⟨rfl, q8, rfl⟩
            go_wp2_with fail
            refine (HO2.out _ ((Ext.refl w7).drewN q8)).mono ?_
            rintro e wb ⟨rfl, q9, rfl⟩
            go_wp2_with fail
            refine (HO3.out _ ((Ext.refl w7).drewN (q8 + q9))).mono ?_
            rintro e wb ⟨rfl, qa, rfl⟩
            go_wp2_with fail
            go_ret
            have hfin : (decide (0 < t1) == decide (0 ≤ t2)) = true := by rw [beq_iff_eq, decide_eq_decide]; exact Hn.out
            exact ⟨by rw [hfin]; rfl, ((HW1.out.trans hE4).trans hE47).drewN _⟩
          · rw [decide_eq_false y4] at hgt
            subst hgt
            go_wp2_with fail
            refine (HWi.out _ hE6).mono ?_
            rintro e wb ⟨rfl, rfl⟩
            go_wp2_with fail
            refine (HNx.out _ hE6).mono ?_
            rintro e w7 ⟨A9, c9, rfl, ho9, he7⟩
            have hE47 := (hE6).trans he7
            have hO1 := order_any A5 A8 n5 c5 x c8 os X w7 ((Hb5.out.ext hE4).ext hE47) (Hr8.out.ext hE47) (by omega) (by omega)
            have Hn := Lib.hid (ord_next os X)
            obtain ⟨t1, ht1⟩ : ∃ t, t = ordT os X := ⟨_, rfl⟩
            obtain ⟨t2, ht2⟩ : ∃ t, t = ordT os (X ++ [0]) := ⟨_, rfl⟩
            rw [← ht1] at hO1 Hn
            rw [← ht2] at Hn
            have HO2 := Lib.hid (fun W (hW : Ext w7 W) => order_any A9 A8 (x + 1) c9 x c8 (X ++ [0]) X W ((ho9.rd' Hx1.out).ext hW) ((Hr8.out.ext hE47).ext hW) (by omega) (by omega))
            have HO3 := Lib.hid (fun W (hW : Ext w7 W) => order_any A5 A9 n5 c5 (x + 1) c9 os (X ++ [0]) W (((Hb5.out.ext hE4).ext hE47).ext hW) ((ho9.rd' Hx1.out).ext hW) (by omega) (by omega))
            rw [ord_above X] at HO2
            rw [← ht2] at HO3
            clear ht1 ht2 ho9
            go_wp2_with fail
            refine hO1.mono ?_
            rintro e wb ⟨rfl, q8, rfl⟩
            go_wp2_with fail
            refine (HO2.out _ ((Ext.refl w7).drewN q8)).mono ?_
            rintro e wb ⟨rfl, q9, rfl⟩
            go_wp2_with fail
            refine (HO3.out _ ((Ext.refl w7).drewN (q8 + q9))).mono ?_
            rintro e wb ⟨rfl, qa, rfl⟩
            go_wp2_with fail
            go_ret
            have hfin : (decide (0 < t1) == decide (0 ≤ t2)) = true := by rw [beq_iff_eq, decide_eq_decide]; exact Hn.out
            exact ⟨by rw [hfin]; rfl, ((HW1.out.trans hE4).trans hE47).drewN _⟩
      · have hw := Hw.out
        rw [if_neg y1] at hw
        subst hw
        clear Hw
        go_wp2_with fail
        refine (HWi.out _ hE5).mono ?_
        rintro e wb ⟨rfl, rfl⟩
        go_wp2_with fail
        refine (HNx.out _ hE5).mono ?_
        rintro e w7 ⟨A9, c9, rfl, ho9, he7⟩
        have hE47 := (hE5).trans he7
        have hO1 := order_any A5 A8 n5 c5 x c8 os X w7 ((Hb5.out.ext hE4).ext hE47) (Hr8.out.ext hE47) (by omega) (by omega)
        have Hn := Lib.hid (ord_next os X)
        obtain ⟨t1, ht1⟩ : ∃ t, t = ordT os X := ⟨_, rfl⟩
        obtain ⟨t2, ht2⟩ : ∃ t, t = ordT os (X ++ [0]) := ⟨_, rfl⟩
        rw [← ht1] at hO1 Hn
        rw [← ht2] at Hn
        have HO2 := Lib.hid (fun W (hW : Ext w7 W) => order_any A9 A8 (x + 1) c9 x c8 (X ++ [0]) X W ((ho9.rd' Hx1.out).ext hW) ((Hr8.out.ext hE47).ext hW) (by omega) (by omega))
        have HO3 := Lib.hid (fun W (hW : Ext w7 W) => order_any A5 A9 n5 c5 (x + 1) c9 os (X ++ [0]) W (((Hb5.out.ext hE4).ext hE47).ext hW) ((ho9.rd' Hx1.out).ext hW) (by omega) (by omega))
        rw [ord_above X] at HO2
        rw [← ht2] at HO3
        clear ht1 ht2 ho9
        go_wp2_with fail
        refine hO1.mono ?_
        rintro e wb ⟨rfl, q8, rfl⟩
        go_wp2_with fail
        refine (HO2.out _ ((Ext.refl w7).drewN q8)).mono ?_
        rintro e wb ⟨rfl, q9, rfl⟩
        go_wp2_with fail
        refine (HO3.out _ ((Ext.refl w7).drewN (q8 + q9))).mono ?_
        rintro e wb ⟨rfl, qa, rfl⟩
        go_wp2_with fail
        go_ret
        have hfin : (decide (0 < t1) == decide (0 ≤ t2)) = true := by rw [beq_iff_eq, decide_eq_decide]; exact Hn.out
        exact ⟨by rw [hfin]; rfl, ((HW1.out.trans hE4).trans hE47).drewN _⟩
    · have d2 : (E != 0) = true := by simp [z2]
      have d4 : (E == E) = true := by simp
      go_wp2_with fail
      refine (HF.out _ hE4).mono ?_
      rintro e w5 ⟨A9, c9, A10, c10, rfl, _, _, _, _, he5⟩
      go_wp2_with fail
      go_ret
      exact ⟨rfl, (HW1.out.trans hE4).trans he5⟩
  · have d1 : (K != 0) = true := by simp [z1]
    have d4 : (E == E) = true := by simp
    go_wp2_with fail
    refine (HF.out _ hE4).mono ?_
    rintro e w5 ⟨A9, c9, A10, c10, rfl, _, _, _, _, he5⟩
    go_wp2_with fail
    go_ret
    exact ⟨rfl, (HW1.out.trans hE4).trans he5⟩

end Go.Proofs.YtnkggopkcjffoaaDoor
