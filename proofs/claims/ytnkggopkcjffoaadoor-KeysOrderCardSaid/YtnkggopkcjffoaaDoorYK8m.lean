import Derived.Test.YtnkggopkcjffoaaDoorG8
import Derived.Test.YtnkggopkcjffoaaDoorYK8d
import Derived.Test.YtnkggopkcjffoaaDoorYK8i

/-
  Layer 7: the statement KeysOrder, walked.
-/
namespace Go.Proofs.YtnkggopkcjffoaaDoor
open Go.RowKit

theorem ord_rank {keys : Int} {cs : List Col} {xs ys : List Ci} (hx : (kencE keys cs xs).2 = 0) (hy : (kencE keys cs ys).2 = 0) (hl : xs.length = ys.length) :
    ordT (kencE keys cs xs).1 (kencE keys cs ys).1 = rankV xs.length (xs.map Ci.val) (ys.map Ci.val) := by
  obtain ⟨a1, a2, a3, a4, a5⟩ := kencE_inv hx
  obtain ⟨b1, b2, b3, b4, b5⟩ := kencE_inv hy
  obtain ⟨i1, i2, i3, i4, i5⟩ := schE_inv a1
  rw [a5, b5]
  have := ord_keyB xs.length [] [] a4 b4 (by omega) (by rw [List.length_map]; exact Nat.le_refl _) (by rw [List.length_map]; omega)
  rw [List.append_nil, List.append_nil, List.append_nil, List.append_nil] at this
  dsimp only
  rw [this, List.drop_of_length_le (l := xs.map Ci.val) (by rw [List.length_map]; exact Nat.le_refl _), List.drop_of_length_le (l := ys.map Ci.val) (by rw [List.length_map]; omega)]
  have hk : keyB (cs.drop xs.length) [] = [] := by cases cs.drop xs.length <;> rfl
  rw [hk]
  split
  · rfl
  · rename_i h
    have : rankV xs.length (xs.map Ci.val) (ys.map Ci.val) = 0 := by simpa using h
    rw [this]
    rfl

set_option maxHeartbeats 6400000 in
set_option maxRecDepth 100000 in
theorem walk_KeysOrder (A : Option Addr) (n c : Nat) (keys : Int) (cs : List Col) (A2 : Option Addr) (n2 c2 : Nat) (xs : List Ci) (A3 : Option Addr) (n3 c3 : Nat) (ys : List Ci) (w : World) (hs : SchIn w A n c cs) (hx2 : RdX w A2 n2 xs) (hz2 : n2 * 40 ≤ 140737488351232) (hcap2 : ∀ x ∈ xs, x.txt.length ≤ x.c ∧ x.c ≤ 9223372036854775807) (hx3 : RdX w A3 n3 ys) (hz3 : n3 * 40 ≤ 140737488351232) (hcap3 : ∀ x ∈ ys, x.txt.length ≤ x.c ∧ x.c ≤ 9223372036854775807) :
    Calls Tryd.prog 7 #[.agg #[.slice A n c, .int .i64 keys], .slice A2 n2 c2, .slice A3 n3 c3] w fun e w' => e = .returned (.bool true) ∧ Ext w w' := by
  go_enter Tryd.func7, Tryd.ntmps7
  go_wp2_with fail
  refine (alive7 _).mono ?_
  rintro e w1 ⟨rfl, he1⟩
  have ha := (AtS.box w A n c keys).ext he1
  have HW1 : Hid (Ext w w1) := Lib.hid (((Ext.refl w).alloc _).trans he1)
  have KS := Lib.hid (fun W (hW : Ext w1 W) => (show W.cell? ⟨w.heap.size, 0, none⟩ = some (.slice A n c) ∧ W.cell? ⟨w.heap.size, 1, none⟩ = some (.int .i64 keys) from ⟨(ha.ext hW).c0, (ha.ext hW).c1⟩))
  replace hs := hs.ext HW1.out
  replace hx2 := hx2.ext HW1.out
  replace hx3 := hx3.ext HW1.out
  have Hl2 := Lib.hid hx2.1
  have Hl3 := Lib.hid hx3.1
  have hRo := ord_rank (keys := keys) (cs := cs) (xs := xs) (ys := ys)
  have HR0 := Lib.hid (fun W (hW : Ext w1 W) => refRankV_any A2 n2 c2 xs A3 n3 c3 ys n2 W (hx2.ext hW) (hx3.ext hW) (by omega) (by omega) (by omega))
  have HE2 := Lib.hid (fun W (hW : Ext w1 W) => kencode_any A n c keys cs A2 n2 c2 xs W (hs.ext hW) (hx2.ext hW) (by omega) hcap2)
  have HE3 := Lib.hid (fun W (hW : Ext w1 W) => kencode_any A n c keys cs A3 n3 c3 ys W (hs.ext hW) (hx3.ext hW) (by omega) hcap3)
  have HF2 := Lib.hid (fun W (hW : Ext w1 W) => refKEncode_any A n c keys cs A2 n2 c2 xs W (hs.ext hW) (hx2.ext hW) (by omega))
  have HF3 := Lib.hid (fun W (hW : Ext w1 W) => refKEncode_any A n c keys cs A3 n3 c3 ys W (hs.ext hW) (hx3.ext hW) (by omega))
  obtain ⟨r, hr⟩ : ∃ r, r = rankV n2 (xs.map Ci.val) (ys.map Ci.val) := ⟨_, rfl⟩
  rw [Hl2.out, Hl3.out] at hRo
  rw [← hr] at HR0 hRo
  obtain ⟨R, hR⟩ : ∃ R, R = kencE keys cs xs := ⟨_, rfl⟩
  obtain ⟨S, hS⟩ : ∃ S, S = kencE keys cs ys := ⟨_, rfl⟩
  have hRl : R.1.length ≤ 1206 := by rw [hR]; exact kencE_len
  have hSl : S.1.length ≤ 1206 := by rw [hS]; exact kencE_len
  unfold KEncPost at HE2 HE3 HF2 HF3
  rw [← hR] at HE2 HF2 hRo
  rw [← hS] at HE3 HF3 hRo
  clear hR hS hr
  obtain ⟨P, E⟩ := R
  obtain ⟨Q, F⟩ := S
  obtain ⟨p, hp⟩ : ∃ p, P.length = p := ⟨_, rfl⟩
  obtain ⟨q, hq⟩ : ∃ q, Q.length = q := ⟨_, rfl⟩
  simp only [hp] at HE2 HF2 hRl
  simp only [hq] at HE3 HF3 hSl
  simp only at hRo
  have Hp := Lib.hid hp
  have Hq := Lib.hid hq
  have HRo := Lib.hid hRo
  have b1 : (E != E) = false := by simp
  have b2 : (F != F) = false := by simp
  clear hp hq hRo hs hx2 hx3 hcap2 hcap3
  have hk1 := KS.out _ (Ext.refl w1)
  obtain ⟨k10, k11⟩ := hk1
  go_wp2_with fail
  refine (HE2.out _ (Ext.refl w1)).mono ?_
  rintro e w2 ⟨A4, c4, rfl, ho4, he2⟩
  have hk2 := KS.out _ he2
  obtain ⟨k20, k21⟩ := hk2
  go_wp2_with fail
  refine (HE3.out _ he2).mono ?_
  rintro e w3 ⟨A5, c5, rfl, ho5, he3⟩
  have hE3 := he2.trans he3
  have hk3 := KS.out _ hE3
  obtain ⟨k30, k31⟩ := hk3
  go_wp2_with fail
  refine (HF2.out _ hE3).mono ?_
  rintro e w4 ⟨A6, c6, rfl, _, he4⟩
  have hE4 := hE3.trans he4
  have hk4 := KS.out _ hE4
  obtain ⟨k40, k41⟩ := hk4
  go_wp2_with fail
  refine (HF3.out _ hE4).mono ?_
  rintro e w5 ⟨A7, c7, rfl, _, he5⟩
  have hE5 := hE4.trans he5
  have hr4 := (ho4.rd' Hp.out).ext (he3.trans (he4.trans he5))
  have hr5 := (ho5.rd' Hq.out).ext (he4.trans he5)
  have hO := order_any A4 A5 p c4 q c5 P Q w5 hr4 hr5 (by omega) (by omega)
  have hE5' := HW1.out.trans hE5
  clear ho4 ho5 he2 he3 he4 he5 hE3 hE4 hr4 hr5 k10 k11 k20 k21 k30 k31 k40 k41
  by_cases z1 : E = 0
  · have d1 : (E != 0) = false := by simp [z1]
    by_cases z2 : F = 0
    · have d2 : (F != 0) = false := by simp [z2]
      by_cases z3 : n2 = n3
      · have hqq := HRo.out z1 z2 z3
        rw [hqq] at hO
        have d3 : (r == r) = true := by simp
        have d4 : ((n2 : Int) != (n3 : Int)) = false := by simp [z3]
        clear hqq z1 z2
        subst z3
        go_wp2_with fail
        refine hO.mono ?_
        rintro e w6 ⟨rfl, q6, rfl⟩
        go_wp2_with fail
        refine (HR0.out _ (hE5.drewN q6)).mono ?_
        rintro e w7 ⟨rfl, he7⟩
        go_wp2_with fail
        go_ret
        exact ⟨rfl, (hE5'.drewN q6).trans he7⟩
      · have d4 : ((n2 : Int) != (n3 : Int)) = true := by rw [bne_iff_ne]; omega
        clear hO
        go_wp2_with fail
        go_ret
        exact ⟨rfl, hE5'⟩
    · have d2 : (F != 0) = true := by simp [z2]
      clear hO
      go_wp2_with fail
      go_ret
      exact ⟨rfl, hE5'⟩
  · have d1 : (E != 0) = true := by simp [z1]
    clear hO
    go_wp2_with fail
    go_ret
    exact ⟨rfl, hE5'⟩

end Go.Proofs.YtnkggopkcjffoaaDoor
