import Derived.Test.YtnkggopkcjffoaaDoorG8
import Derived.Test.YtnkggopkcjffoaaDoorYK8i
import Derived.Deep.RegionHeld3

/-
  Layer 7: the statement KeysFirst, walked.
-/
namespace Go.Proofs.YtnkggopkcjffoaaDoor
open Go.RowKit

theorem rankV_take : ∀ (m : Nat) (vs us : List CV), rankV m (vs.take m) us = rankV m vs us
  | 0, _, _ => rfl
  | m + 1, [], us => by simp
  | m + 1, v :: r, [] => by rw [rankV_nil2, rankV_nil2]
  | m + 1, v :: r, u :: s => by
    show (if rnkV v u ≠ 0 then rnkV v u else rankV m (r.take m) s) = if rnkV v u ≠ 0 then rnkV v u else rankV m r s
    rw [rankV_take m r s]

theorem koks_take {cs : List Col} {vs : List CV} (h : koks cs vs) (m : Nat) : koks cs (vs.take m) := fun j c v hc hv => h j c v hc (by
  rw [List.getElem?_take] at hv
  split at hv
  · exact hv
  · cases hv)

theorem first_iff {cs : List Col} {vs us : List CV} {m : Nat} (hv : koks cs vs) (hu : koks cs us) (h1 : m ≤ cs.length) (h2 : m ≤ vs.length) (h3 : m ≤ us.length) :
    keyB cs (vs.take m) = (keyB cs us).take (keyB cs (vs.take m)).length ↔ rankV m vs us = 0 := by
  constructor
  · intro h
    have e : keyB cs us = keyB cs (vs.take m) ++ (keyB cs us).drop (keyB cs (vs.take m)).length := by
      conv => lhs; rw [← List.take_append_drop (keyB cs (vs.take m)).length (keyB cs us), ← h]
    have ho := ord_keyB m ((keyB cs us).drop (keyB cs (vs.take m)).length) [] (koks_take hv m) hu h1 (by rw [List.length_take]; omega) h3
    rw [List.append_nil, ← e, rankV_take] at ho
    have hz : ordT (keyB cs us) (keyB cs us) = 0 := by
      have := ord_self_append (keyB cs us) [] []
      rw [List.append_nil] at this
      rw [this]; rfl
    rw [hz] at ho
    by_cases q : rankV m vs us = 0
    · exact q
    · rw [if_pos q] at ho
      exact ho.symm
  · intro h
    have e := rankV_eq m hv hu h1 h2 h3 h
    rw [keyB_take m (vs := us), ← e, List.take_left]

theorem RdX.take {w : World} {A : Option Addr} {n : Nat} {xs : List Ci} (h : RdX w A n xs) {m : Nat} (hm : m ≤ n) : RdX w A m (xs.take m) :=
  ⟨by rw [List.length_take, h.1]; omega, fun h0 => by
    obtain ⟨b, o, e, hb, hc⟩ := h.2 (by omega)
    refine ⟨b, o, e, hb, fun j c hj => ?_⟩
    rw [List.getElem?_take] at hj
    split at hj
    · exact hc j c hj
    · cases hj⟩

theorem piece_zero (xs : List Nat) (p : Nat) : piece xs 0 (p : Int) = xs.take p := by
  unfold piece
  simp

set_option maxHeartbeats 6400000 in
set_option maxRecDepth 100000 in
theorem walk_KeysFirst (A : Option Addr) (n c : Nat) (keys : Int) (cs : List Col) (A2 : Option Addr) (n2 c2 : Nat) (xs : List Ci) (A3 : Option Addr) (n3 c3 : Nat) (ys : List Ci) (k : Int) (w : World) (hs : SchIn w A n c cs) (hx2 : RdX w A2 n2 xs) (hz2 : n2 * 40 ≤ 140737488351232) (hcap2 : ∀ x ∈ xs, x.txt.length ≤ x.c ∧ x.c ≤ 9223372036854775807) (hn2 : n2 ≤ c2) (hm2 : c2 ≤ 9223372036854775807) (hx3 : RdX w A3 n3 ys) (hz3 : n3 * 40 ≤ 140737488351232) (hcap3 : ∀ x ∈ ys, x.txt.length ≤ x.c ∧ x.c ≤ 9223372036854775807) (_hn3 : n3 ≤ c3) (_hm3 : c3 ≤ 9223372036854775807) :
    Calls Tryd.prog 9 #[.agg #[.slice A n c, .int .i64 keys], .slice A2 n2 c2, .slice A3 n3 c3, .int .i64 k] w fun e w' => e = .returned (.bool true) ∧ Ext w w' := by
  go_enter Tryd.func9, Tryd.ntmps9
  go_wp2_with fail
  refine (alive7 _).mono ?_
  rintro e w1 ⟨rfl, he1⟩
  have ha := (AtS.box w A n c keys).ext he1
  have HW1 : Hid (Ext w w1) := Lib.hid (((Ext.refl w).alloc _).trans he1)
  have KS := Lib.hid (fun W (hW : Ext w1 W) => (show W.cell? ⟨w.heap.size, 0, none⟩ = some (.slice A n c) ∧ W.cell? ⟨w.heap.size, 1, none⟩ = some (.int .i64 keys) from ⟨(ha.ext hW).c0, (ha.ext hW).c1⟩))
  replace hs := hs.ext HW1.out
  replace hx2 := hx2.ext HW1.out
  replace hx3 := hx3.ext HW1.out
  have Hl2 := Lib.hid hx2.1
  have Hl3 := Lib.hid hx3.1
  have HU2 := Lib.hid (rdX_u8 hx2)
  have HU3 := Lib.hid (rdX_u8 hx3)
  obtain ⟨K1, hK1⟩ : ∃ K, K = keyS keys cs xs := ⟨_, rfl⟩
  obtain ⟨K2, hK2⟩ : ∃ K, K = keyS keys cs ys := ⟨_, rfl⟩
  have HK1 := Lib.hid (fun W (hW : Ext w1 W) => refSkey_any A n c keys cs A2 n2 c2 xs W (hs.ext hW) (hx2.ext hW) (by omega))
  have HK2 := Lib.hid (fun W (hW : Ext w1 W) => refSkey_any A n c keys cs A3 n3 c3 ys W (hs.ext hW) (hx3.ext hW) (by omega))
  have HE2 := Lib.hid (fun W (hW : Ext w1 W) => kencode_any A n c keys cs A2 n2 c2 xs W (hs.ext hW) (hx2.ext hW) (by omega) hcap2)
  have HE3 := Lib.hid (fun W (hW : Ext w1 W) => kencode_any A n c keys cs A3 n3 c3 ys W (hs.ext hW) (hx3.ext hW) (by omega) hcap3)
  rw [← hK1] at HK1
  rw [← hK2] at HK2
  have HKK1 := Lib.hid hK1
  have HKK2 := Lib.hid hK2
  clear hK1 hK2 ha he1
  have hk1 := KS.out _ (Ext.refl w1)
  obtain ⟨k10, k11⟩ := hk1
  by_cases z1 : K1 = 0
  · have d1 : (K1 != 0) = false := by simp [z1]
    by_cases z2 : K2 = 0
    · have d2 : (K2 != 0) = false := by simp [z2]
      by_cases z3 : k < 1
      · clear z1 z2 hs hx2 hx3 HE2 HE3 hcap2 hcap3
        go_wp2_with fail
        refine (HK1.out _ (Ext.refl w1)).mono ?_
        rintro e w2 ⟨rfl, he2⟩
        have hk2 := KS.out _ he2
        obtain ⟨k20, k21⟩ := hk2
        go_wp2_with fail
        refine (HK2.out _ he2).mono ?_
        rintro e w3 ⟨rfl, he3⟩
        go_wp2_with fail
        go_ret
        exact ⟨rfl, HW1.out.trans (he2.trans he3)⟩
      · have d3 : ¬ k < 1 := z3
        by_cases z4 : (n2 : Int) < k
        · clear z1 z2 hs hx2 hx3 HE2 HE3 hcap2 hcap3
          go_wp2_with fail
          refine (HK1.out _ (Ext.refl w1)).mono ?_
          rintro e w2 ⟨rfl, he2⟩
          have hk2 := KS.out _ he2
          obtain ⟨k20, k21⟩ := hk2
          go_wp2_with fail
          refine (HK2.out _ he2).mono ?_
          rintro e w3 ⟨rfl, he3⟩
          go_wp2_with fail
          go_ret
          exact ⟨rfl, HW1.out.trans (he2.trans he3)⟩
        · obtain ⟨m, rfl⟩ := Int.eq_ofNat_of_zero_le (show 0 ≤ k by omega)
          obtain ⟨x1, x2, x3, x4⟩ := keyS_inv (HKK1.out.symm.trans z1)
          obtain ⟨y1, y2, y3, y4⟩ := keyS_inv (HKK2.out.symm.trans z2)
          obtain ⟨i1, i2, i3, i4, i5⟩ := schE_inv x1
          have hm1 : 1 ≤ m := by omega
          have hmn : m ≤ n2 := by omega
          have h23 : n2 = n3 := by have := Hl2.out; have := Hl3.out; omega
          have hxt := hx2.take hmn
          have hcapt : ∀ x ∈ xs.take m, x.txt.length ≤ x.c ∧ x.c ≤ 9223372036854775807 := fun x hx => hcap2 x (List.mem_of_mem_take hx)
          have htl : (xs.take m).length = m := by rw [List.length_take, Hl2.out]; omega
          have eP := kencE_ok (xs := xs.take m) x1 (by rw [htl]; exact hm1) (by rw [htl]; have := Hl2.out; omega) (by rw [List.map_take]; exact koks_take x4 m)
          rw [List.map_take] at eP
          clear htl
          have eQ := kencE_ok (xs := xs) x1 x2 (by omega) x4
          have eR := kencE_ok (xs := ys) y1 y2 (by omega) y4
          have hfi := first_iff (m := m) x4 y4 (by have := Hl2.out; omega) (by rw [List.length_map, Hl2.out]; exact hmn) (by rw [List.length_map, Hl3.out]; omega)
          have hpre := keyB_take m (cs := cs) (vs := xs.map Ci.val)
          have hPl := (keyB_len (cs := cs) (vs := (xs.map Ci.val).take m) (koks_take x4 m) (by rw [List.length_take, List.length_map]; have := Hl2.out; omega)).2
          have hQl := (keyB_len (cs := cs) (vs := xs.map Ci.val) x4 (by rw [List.length_map]; omega)).2
          have hRl := (keyB_len (cs := cs) (vs := ys.map Ci.val) y4 (by rw [List.length_map]; omega)).2
          rw [List.length_take, List.length_map, Hl2.out] at hPl
          rw [List.length_map, Hl2.out] at hQl
          rw [List.length_map, Hl3.out] at hRl
          have HEt := Lib.hid (fun W (hW : Ext w1 W) => kencode_any A n c keys cs A2 m c2 (xs.take m) W (hs.ext hW) (hxt.ext hW) (by omega) hcapt)
          have HRk := Lib.hid (fun W (hW : Ext w1 W) => refRankV_any A2 n2 c2 xs A3 n3 c3 ys m W (hx2.ext hW) (hx3.ext hW) (by omega) (by omega) (by omega))
          unfold KEncPost at HE2 HE3 HEt
          rw [eP] at HEt
          rw [eQ] at HE2
          rw [eR] at HE3
          obtain ⟨P, hP⟩ : ∃ P, P = keyB cs ((xs.map Ci.val).take m) := ⟨_, rfl⟩
          obtain ⟨Q, hQ⟩ : ∃ Q, Q = keyB cs (xs.map Ci.val) := ⟨_, rfl⟩
          obtain ⟨R, hR⟩ : ∃ R, R = keyB cs (ys.map Ci.val) := ⟨_, rfl⟩
          obtain ⟨r, hr⟩ : ∃ r, r = rankV m (xs.map Ci.val) (ys.map Ci.val) := ⟨_, rfl⟩
          rw [← hP] at HEt hfi hpre hPl
          rw [← hQ] at HE2 hpre hQl
          rw [← hR] at HE3 hfi hRl
          rw [← hr] at HRk hfi
          obtain ⟨p, hp⟩ : ∃ p, P.length = p := ⟨_, rfl⟩
          obtain ⟨q, hq⟩ : ∃ q, Q.length = q := ⟨_, rfl⟩
          obtain ⟨l, hl⟩ : ∃ l, R.length = l := ⟨_, rfl⟩
          simp only [hp] at HEt hPl hfi
          simp only [hq] at HE2 hQl
          simp only [hl] at HE3 hRl
          have hpq : p ≤ q := by rw [← hp, ← hq, hpre, List.length_append]; omega
          have hQP : Q.take p = P := by rw [hpre, ← hp, List.take_left]
          have Hfi := Lib.hid hfi
          have HQP := Lib.hid hQP
          have Hp := Lib.hid hp
          have Hq := Lib.hid hq
          have Hl := Lib.hid hl
          have HPt : Hid (R.take p = P → p ≤ l) := Lib.hid (fun h => by
            have := congrArg List.length h
            rw [List.length_take, hl, hp] at this
            omega)
          have hn20 : 0 < n2 := by omega
          obtain ⟨bx, ox, _, hA2, _, _, _, _, _, _⟩ := hx2.at_ hn20
          have i9 : (m : Int) ≤ (c2 : Int) := by omega
          have i8 : (0 : Int) ≤ (m : Int) := by omega
          have i7 : m ≤ c2 := by omega
          have d4 : ¬ (n2 : Int) < (m : Int) := z4
          have d5 : ¬ (q : Int) < (p : Int) := by omega
          have hPl2 : p ≤ 402 * m := by omega
          have HPl := Lib.hid hPl2
          have HQl := Lib.hid (show q ≤ 402 * 3 by have := Hl2.out; have := Hl3.out; omega)
          have HRl := Lib.hid (show l ≤ 402 * 3 by have := Hl2.out; have := Hl3.out; omega)
          have Hm3 := Lib.hid (show m ≤ 3 by have := Hl2.out; have := Hl3.out; omega)
          subst hA2
          clear h23 hPl hPl2 hQl hRl hpq hm1 x1 x2 x3 x4 y1 y2 y3 y4 i1 i2 i3 i4 i5 z1 z2 z3 hxt hcapt eP eQ eR hpre hP hQ hR hr hp hq hl hQP hfi hcap2 hcap3 hs hx2 hx3 HKK1 HKK2 HU2 HU3
          go_wp2_with fail
          refine (HK1.out _ (Ext.refl w1)).mono ?_
          rintro e w2 ⟨rfl, he2⟩
          obtain ⟨k20, k21⟩ := KS.out _ he2
          go_wp2_with fail
          refine (HK2.out _ he2).mono ?_
          rintro e w3 ⟨rfl, he3⟩
          have HT3 := Lib.hid (he2.trans he3)
          have K3 := Lib.hid (fun W (hW : Ext w3 W) => KS.out W (HT3.out.trans hW))
          have g9 := K3.out _ (Ext.refl w3)
          obtain ⟨k30, k31⟩ := K3.out _ (Ext.refl w3)
          clear k10 k11 k20 k21 he2 he3
          go_wp2_with fail
          go_region_held3 (fun w' => w'.cell? ⟨w.heap.size, 0, none⟩ = some (.slice A n c) ∧ w'.cell? ⟨w.heap.size, 1, none⟩ = some (.int .i64 keys))
            (first | exact g9 | (refine K3.out _ ?_; (repeat (first | exact Ext.refl _ | (with_reducible refine Ext.trans ?_ he4) |  apply Ext.drew | apply Ext.alloc | fail))) | fail)
            (first
              | (go_at_call 13; (with_reducible refine (HEt.out _ ?_).mono ?_); (focus ((refine HT3.out.trans ?_); (repeat (first | exact Ext.refl _ |  apply Ext.drew | apply Ext.alloc | fail)); done)); rintro e w4 ⟨A4, c4, rfl, hown4, he4⟩)
              | fail)
          have hT34 : Ext w3 w4 := by (repeat (first | exact Ext.refl _ | (with_reducible refine Ext.trans ?_ he4) |  apply Ext.drew | apply Ext.alloc | fail))
          have hT4 := HT3.out.trans hT34
          have hr4 := hown4.rd' Hp.out
          obtain ⟨k40, k41⟩ := KS.out _ hT4
          clear hown4 he4 k30 k31 g9 hT34
          go_wp2_with fail
          refine (HE2.out _ hT4).mono ?_
          rintro e w5 ⟨A5, c5, rfl, hown5, he5⟩
          have hT5 := hT4.trans he5
          obtain ⟨k50, k51⟩ := KS.out _ hT5
          have hr5 := hown5.rd' Hq.out
          go_wp2_with fail
          refine (HE3.out _ hT5).mono ?_
          rintro e w6 ⟨A6, c6, rfl, hown6, he6⟩
          have hT6 := hT5.trans he6
          have hr6 := hown6.rd' Hl.out
          have Hr4 := Lib.hid (hr4.ext (he5.trans he6))
          have Hr5 := Lib.hid (hr5.ext he6)
          have Hr6 := Lib.hid hr6
          have hp12 : p ≤ 1206 := by have := HPl.out; have := Hm3.out; omega
          have hq12 : q ≤ 1206 := HQl.out
          have hl12 : l ≤ 1206 := HRl.out
          have hpc := piece_any A5 q c5 0 (p : Int) Q w6 Hr5.out (by omega) (by decide)
          rw [piece_zero, HQP.out, Hp.out] at hpc
          clear hr4 hr5 hr6 hown5 hown6 he5 he6 hT4 hT5 k40 k41 k50 k51
          go_wp2_with fail
          refine hpc.mono ?_
          rintro e w7 ⟨A7, c7, rfl, hown7, he7⟩
          have hsm := same_yes (c := c4) (c' := c7) (Hr4.out.ext he7) (hown7.rd' Hp.out) (by omega)
          go_wp2_with fail
          refine hsm.mono ?_
          rintro e w8 ⟨rfl, q8, rfl⟩
          have HE67 := Lib.hid (he7.drewN q8)
          have HT8 := Lib.hid (hT6.trans (he7.drewN q8))
          clear hpc hsm hown7 he7 hT6
          by_cases z5 : p ≤ l
          · have d6 : (p : Int) ≤ (l : Int) := by omega
            have hpc := piece_any A6 l c6 0 (p : Int) R _ (Hr6.out.ext HE67.out) (by omega) (by decide)
            rw [piece_zero] at hpc
            have hplen : (R.take p).length = p := by rw [List.length_take, Hl.out]; omega
            rw [hplen] at hpc
            have Hpl := Lib.hid hplen
            clear hplen
            go_wp2_with fail
            refine hpc.mono ?_
            rintro e w9 ⟨A9, c9, rfl, hown9, he9⟩
            have hsm := same_any A4 A9 p c4 p c9 P (R.take p) w9 ((Hr4.out.ext HE67.out).ext he9) (hown9.rd' Hpl.out) (by omega) (by omega)
            go_wp2_with fail
            refine hsm.mono ?_
            rintro e w10 ⟨rfl, q10, rfl⟩
            have HT9 := Lib.hid (HT8.out.trans (he9.drewN q10))
            go_wp2_with fail
            refine (HRk.out _ HT9.out).mono ?_
            rintro e w11 ⟨rfl, he11⟩
            have hfin : (decide (P = R.take p) == (r == 0)) = true := by
              rw [beq_iff_eq]
              by_cases z6 : r = 0
              · rw [decide_eq_true (Hfi.out.2 z6)]; simp [z6]
              · rw [decide_eq_false (fun h => z6 (Hfi.out.1 h))]; simp [z6]
            go_wp2_with fail
            go_ret
            exact ⟨by first | rfl | (rw [hfin]; rfl), HW1.out.trans (HT9.out.trans he11)⟩
          · have d6 : ¬ (p : Int) ≤ (l : Int) := by omega
            have hr0 : ¬ r = 0 := fun h => z5 (HPt.out (Hfi.out.2 h).symm)
            go_wp2_with fail
            refine (HRk.out _ HT8.out).mono ?_
            rintro e w11 ⟨rfl, he11⟩
            have d7 : (r == 0) = false := by simp [hr0]
            go_wp2_with fail
            go_ret
            exact ⟨rfl, HW1.out.trans (HT8.out.trans he11)⟩
    · have d2 : (K2 != 0) = true := by simp [z2]
      clear z1 z2 hs hx2 hx3 HE2 HE3 hcap2 hcap3
      go_wp2_with fail
      refine (HK1.out _ (Ext.refl w1)).mono ?_
      rintro e w2 ⟨rfl, he2⟩
      obtain ⟨k20, k21⟩ := KS.out _ he2
      go_wp2_with fail
      refine (HK2.out _ he2).mono ?_
      rintro e w3 ⟨rfl, he3⟩
      go_wp2_with fail
      go_ret
      exact ⟨rfl, HW1.out.trans (he2.trans he3)⟩
  · have d1 : (K1 != 0) = true := by simp [z1]
    clear z1 hs hx2 hx3 HE2 HE3 hcap2 hcap3
    go_wp2_with fail
    refine (HK1.out _ (Ext.refl w1)).mono ?_
    rintro e w2 ⟨rfl, he2⟩
    go_wp2_with fail
    go_ret
    exact ⟨rfl, HW1.out.trans he2⟩

end Go.Proofs.YtnkggopkcjffoaaDoor
