import Derived.Test.YtnkggopkcjffoaaDoorYK8d
import Derived.Test.YtnkggopkcjffoaaDoorG7

/-
  Layer 7: the document's Bounds.
-/
namespace Go.Proofs.YtnkggopkcjffoaaDoor
open Go.RowKit

def RBdsPost (R : List Nat × List Nat × Int) (w : World) (e : Ending) (w' : World) : Prop :=
  ∃ A1 c1 A2 c2, e = .returned (.tuple #[.slice A1 R.1.length c1, .slice A2 R.2.1.length c2, .int .i64 R.2.2]) ∧ Rd .u8 w' A1 R.1.length R.1 ∧ Rd .u8 w' A2 R.2.1.length R.2.1 ∧ (∀ q, A1 = some q → w.heap.size ≤ q.block) ∧ (∀ q, A2 = some q → w.heap.size ≤ q.block) ∧ Ext w w'
theorem RBdsPost.bad {w w' : World} (R : List Nat × List Nat × Int) {E : Int} (h : R = ([], [], E)) (he : Ext w w') : RBdsPost R w (.returned (.tuple #[.slice none 0 0, .slice none 0 0, .int .i64 E])) w' := by
  subst h
  exact ⟨none, 0, none, 0, rfl, Rd.nil .., Rd.nil .., fun q h => (by cases h), fun q h => (by cases h), he⟩
theorem RBdsPost.good {w w' : World} (R : List Nat × List Nat × Int) {P Q : List Nat} {p q c1 c2 : Nat} {A1 A2 : Option Addr} (h : R = (P, Q, 0)) (hp : p = P.length) (hq : q = Q.length) (o1 : Rd .u8 w' A1 p P) (o2 : Rd .u8 w' A2 q Q) (l1 : ∀ q, A1 = some q → w.heap.size ≤ q.block) (l2 : ∀ q, A2 = some q → w.heap.size ≤ q.block) (he : Ext w w') :
    RBdsPost R w (.returned (.tuple #[.slice A1 p c1, .slice A2 q c2, .int .i64 0])) w' := by
  subst h hp hq
  exact ⟨A1, c1, A2, c2, rfl, o1, o2, l1, l2, he⟩

set_option maxHeartbeats 3200000 in
set_option maxRecDepth 100000 in
theorem refKBounds_any (A : Option Addr) (n c : Nat) (keys : Int) (cs : List Col) (A2 : Option Addr) (n2 c2 : Nat) (xs : List Ci) (A3 : Option Addr) (n3 c3 : Nat) (ys : List Ci) (w : World) (hs : SchIn w A n c cs) (hx : RdX w A2 n2 xs) (hn2 : n2 ≤ 140737488351232)
    (hy : RdX w A3 n3 ys) (hn3 : n3 ≤ 140737488351232) :
    Calls Tryd.prog 25 #[.agg #[.slice A n c, .int .i64 keys], .slice A2 n2 c2, .slice A3 n3 c3] w (RBdsPost (kbdsE keys cs xs ys) w) := by
  have HS := Lib.hid (fun (W : World) (hW : Ext w W) => refScheck_any A n c keys cs W (hs.rd.ext hW) hs.nm hs.le)
  have HX := Lib.hid (fun (W : World) (hW : Ext w W) => refKEncode_any A n c keys cs A2 n2 c2 xs W (hs.ext hW) (hx.ext hW) hn2)
  have HY := Lib.hid (fun (W : World) (hW : Ext w W) => refKEncode_any A n c keys cs A3 n3 c3 ys W (hs.ext hW) (hy.ext hW) hn3)
  obtain ⟨R, hR⟩ : ∃ R, R = kbdsE keys cs xs ys := ⟨_, rfl⟩
  have hR2 := hR
  unfold kbdsE kbndE at hR2
  rw [← hR]
  rw [hx.1, hy.1] at hR2
  unfold KEncPost at HX HY
  obtain ⟨⟨P, E⟩, hP⟩ : ∃ R, R = kencE keys cs xs := ⟨_, rfl⟩
  obtain ⟨⟨Q, F⟩, hQ⟩ : ∃ R, R = kencE keys cs ys := ⟨_, rfl⟩
  rw [← hP] at HX hR2
  rw [← hQ] at HY hR2
  obtain ⟨S, hS⟩ : ∃ S, S = schE keys cs := ⟨_, rfl⟩
  rw [← hS] at HS hR2
  simp only at HX HY hR2
  obtain ⟨p, hp⟩ : ∃ p, p = P.length := ⟨_, rfl⟩
  obtain ⟨q, hq⟩ : ∃ q, q = Q.length := ⟨_, rfl⟩
  rw [← hp] at HX
  rw [← hq] at HY
  have Hp := Lib.hid hp
  have Hq := Lib.hid hq
  clear hs hx hy hR hP hQ hS hp hq
  by_cases z1 : S = 0
  · subst z1
    rw [if_neg (fun q => q rfl)] at hR2
    by_cases m2 : n2 = 0
    · subst m2
      rw [if_neg (by simp), if_pos rfl] at hR2
      by_cases m3 : n3 = 0
      · subst m3
        rw [if_neg (by simp), if_pos rfl] at hR2
        have HR := Lib.hid hR2
        clear hR2
        go_enter Tryd.func25, Tryd.ntmps25
        go_wp2_with fail
        refine (HS.out _ ((Ext.refl w).alloc _)).mono ?_
        rintro e w1 ⟨rfl, he1⟩
        have ha := (AtS.box w A n c keys).ext he1
        have hE1 : Ext w w1 := ((Ext.refl w).alloc _).trans he1
        have hz2 : Ext w1 ((w1.alloc (.cells #[] 5)).alloc (.cells #[] 5)) := ((Ext.refl w1).alloc _).alloc _
        have hy0 := (ha.ext hz2).c0
        have hy1 := (ha.ext hz2).c1
        obtain ⟨w2, hw2⟩ : ∃ w2, w2 = (w1.alloc (.cells #[] 5)).alloc (.cells #[] 5) := ⟨_, rfl⟩
        have he2 : Ext w1 w2 := by rw [hw2]; exact ((Ext.refl w1).alloc _).alloc _
        have hr1 : Rd .u8 w2 (some ⟨w1.heap.size, 0, none⟩) 0 [] := Rd.nil ..
        have hr2 : Rd .u8 w2 (some ⟨w1.heap.size + 1, 0, none⟩) 0 [] := Rd.nil ..
        have ha2 := ha.ext he2
        have hE2 := hE1.trans he2
        have hc0 := ha2.c0
        have hc1 := ha2.c1
        have HW2 := Lib.hid hw2
        clear hw2
        go_wp2_with fail
        try rw [← HW2.out]
        go_ret3
        exact RBdsPost.good _ HR.out rfl rfl (Rd.nil ..) (Rd.nil ..) (fun q h => by injection h with h; subst h; exact hE1.size) (fun q h => by injection h with h; subst h; exact Nat.le_succ_of_le hE1.size) hE2
      · have b3 : (0 : Int) < n3 := by omega
        rw [if_neg m3] at hR2
        by_cases z3 : F = 0
        · subst z3
          rw [if_neg (fun q => q rfl)] at hR2
          have HR := Lib.hid hR2
          clear hR2
          go_enter Tryd.func25, Tryd.ntmps25
          go_wp2_with fail
          refine (HS.out _ ((Ext.refl w).alloc _)).mono ?_
          rintro e w1 ⟨rfl, he1⟩
          have ha := (AtS.box w A n c keys).ext he1
          have hE1 : Ext w w1 := ((Ext.refl w).alloc _).trans he1
          have hz2 : Ext w1 ((w1.alloc (.cells #[] 5)).alloc (.cells #[] 5)) := ((Ext.refl w1).alloc _).alloc _
          have hy0 := (ha.ext hz2).c0
          have hy1 := (ha.ext hz2).c1
          obtain ⟨w2, hw2⟩ : ∃ w2, w2 = (w1.alloc (.cells #[] 5)).alloc (.cells #[] 5) := ⟨_, rfl⟩
          have he2 : Ext w1 w2 := by rw [hw2]; exact ((Ext.refl w1).alloc _).alloc _
          have hr1 : Rd .u8 w2 (some ⟨w1.heap.size, 0, none⟩) 0 [] := Rd.nil ..
          have hr2 : Rd .u8 w2 (some ⟨w1.heap.size + 1, 0, none⟩) 0 [] := Rd.nil ..
          have ha2 := ha.ext he2
          have hE2 := hE1.trans he2
          have hc0 := ha2.c0
          have hc1 := ha2.c1
          have HW2 := Lib.hid hw2
          clear hw2
          go_wp2_with fail
          try rw [← HW2.out]
          refine (HY.out _ hE2).mono ?_
          rintro e w5 ⟨A5, c5, rfl, hown5, he5⟩
          have hE5 := hE2.trans he5
          have hr5 := (hown5.mono hE2.size)
          go_wp2_with fail
          go_ret3
          exact RBdsPost.good _ HR.out rfl Hq.out (Rd.nil ..) (hr5.rd' Hq.out.symm) (fun q h => by injection h with h; subst h; exact hE1.size) (fun q h => (hr5.block q h).1) hE5
        · have b4 : (F != 0) = true := by simp [z3]
          rw [if_pos z3] at hR2
          have HR := Lib.hid hR2
          clear hR2
          go_enter Tryd.func25, Tryd.ntmps25
          go_wp2_with fail
          refine (HS.out _ ((Ext.refl w).alloc _)).mono ?_
          rintro e w1 ⟨rfl, he1⟩
          have ha := (AtS.box w A n c keys).ext he1
          have hE1 : Ext w w1 := ((Ext.refl w).alloc _).trans he1
          have hz2 : Ext w1 ((w1.alloc (.cells #[] 5)).alloc (.cells #[] 5)) := ((Ext.refl w1).alloc _).alloc _
          have hy0 := (ha.ext hz2).c0
          have hy1 := (ha.ext hz2).c1
          obtain ⟨w2, hw2⟩ : ∃ w2, w2 = (w1.alloc (.cells #[] 5)).alloc (.cells #[] 5) := ⟨_, rfl⟩
          have he2 : Ext w1 w2 := by rw [hw2]; exact ((Ext.refl w1).alloc _).alloc _
          have hr1 : Rd .u8 w2 (some ⟨w1.heap.size, 0, none⟩) 0 [] := Rd.nil ..
          have hr2 : Rd .u8 w2 (some ⟨w1.heap.size + 1, 0, none⟩) 0 [] := Rd.nil ..
          have ha2 := ha.ext he2
          have hE2 := hE1.trans he2
          have hc0 := ha2.c0
          have hc1 := ha2.c1
          have HW2 := Lib.hid hw2
          clear hw2
          go_wp2_with fail
          try rw [← HW2.out]
          refine (HY.out _ hE2).mono ?_
          rintro e w5 ⟨A5, c5, rfl, hown5, he5⟩
          have hE5 := hE2.trans he5
          have hr5 := (hown5.mono hE2.size)
          go_wp2_with fail
          go_ret3
          exact RBdsPost.bad _ HR.out hE5
    · have b2 : (0 : Int) < n2 := by omega
      rw [if_neg m2] at hR2
      by_cases z2 : E = 0
      · subst z2
        rw [if_neg (fun q => q rfl)] at hR2
        by_cases m3 : n3 = 0
        · subst m3
          rw [if_neg (by simp), if_pos rfl] at hR2
          have HR := Lib.hid hR2
          clear hR2
          go_enter Tryd.func25, Tryd.ntmps25
          go_wp2_with fail
          refine (HS.out _ ((Ext.refl w).alloc _)).mono ?_
          rintro e w1 ⟨rfl, he1⟩
          have ha := (AtS.box w A n c keys).ext he1
          have hE1 : Ext w w1 := ((Ext.refl w).alloc _).trans he1
          have hz2 : Ext w1 ((w1.alloc (.cells #[] 5)).alloc (.cells #[] 5)) := ((Ext.refl w1).alloc _).alloc _
          have hy0 := (ha.ext hz2).c0
          have hy1 := (ha.ext hz2).c1
          obtain ⟨w2, hw2⟩ : ∃ w2, w2 = (w1.alloc (.cells #[] 5)).alloc (.cells #[] 5) := ⟨_, rfl⟩
          have he2 : Ext w1 w2 := by rw [hw2]; exact ((Ext.refl w1).alloc _).alloc _
          have hr1 : Rd .u8 w2 (some ⟨w1.heap.size, 0, none⟩) 0 [] := Rd.nil ..
          have hr2 : Rd .u8 w2 (some ⟨w1.heap.size + 1, 0, none⟩) 0 [] := Rd.nil ..
          have ha2 := ha.ext he2
          have hE2 := hE1.trans he2
          have hc0 := ha2.c0
          have hc1 := ha2.c1
          have HW2 := Lib.hid hw2
          clear hw2
          go_wp2_with fail
          try rw [← HW2.out]
          refine (HX.out _ hE2).mono ?_
          rintro e w3 ⟨A4, c4, rfl, hown4, he4⟩
          have hE3 := hE2.trans he4
          have ha3 := ha2.ext he4
          have hd0 := ha3.c0
          have hd1 := ha3.c1
          have hr4 := (hown4.mono hE2.size)
          go_wp2_with fail
          go_ret3
          exact RBdsPost.good _ HR.out Hp.out rfl (hr4.rd' Hp.out.symm) (Rd.nil ..) (fun q h => (hr4.block q h).1) (fun q h => by injection h with h; subst h; exact Nat.le_succ_of_le hE1.size) hE3
        · have b3 : (0 : Int) < n3 := by omega
          rw [if_neg m3] at hR2
          by_cases z3 : F = 0
          · subst z3
            rw [if_neg (fun q => q rfl)] at hR2
            have HR := Lib.hid hR2
            clear hR2
            go_enter Tryd.func25, Tryd.ntmps25
            go_wp2_with fail
            refine (HS.out _ ((Ext.refl w).alloc _)).mono ?_
            rintro e w1 ⟨rfl, he1⟩
            have ha := (AtS.box w A n c keys).ext he1
            have hE1 : Ext w w1 := ((Ext.refl w).alloc _).trans he1
            have hz2 : Ext w1 ((w1.alloc (.cells #[] 5)).alloc (.cells #[] 5)) := ((Ext.refl w1).alloc _).alloc _
            have hy0 := (ha.ext hz2).c0
            have hy1 := (ha.ext hz2).c1
            obtain ⟨w2, hw2⟩ : ∃ w2, w2 = (w1.alloc (.cells #[] 5)).alloc (.cells #[] 5) := ⟨_, rfl⟩
            have he2 : Ext w1 w2 := by rw [hw2]; exact ((Ext.refl w1).alloc _).alloc _
            have hr1 : Rd .u8 w2 (some ⟨w1.heap.size, 0, none⟩) 0 [] := Rd.nil ..
            have hr2 : Rd .u8 w2 (some ⟨w1.heap.size + 1, 0, none⟩) 0 [] := Rd.nil ..
            have ha2 := ha.ext he2
            have hE2 := hE1.trans he2
            have hc0 := ha2.c0
            have hc1 := ha2.c1
            have HW2 := Lib.hid hw2
            clear hw2
            go_wp2_with fail
            try rw [← HW2.out]
            refine (HX.out _ hE2).mono ?_
            rintro e w3 ⟨A4, c4, rfl, hown4, he4⟩
            have hE3 := hE2.trans he4
            have ha3 := ha2.ext he4
            have hd0 := ha3.c0
            have hd1 := ha3.c1
            have hr4 := (hown4.mono hE2.size)
            go_wp2_with fail
            refine (HY.out _ hE3).mono ?_
            rintro e w5 ⟨A5, c5, rfl, hown5, he5⟩
            have hE5 := hE3.trans he5
            have hr5 := (hown5.mono hE3.size)
            go_wp2_with fail
            go_ret3
            exact RBdsPost.good _ HR.out Hp.out Hq.out ((hr4.ext he5).rd' Hp.out.symm) (hr5.rd' Hq.out.symm) (fun q h => (hr4.block q h).1) (fun q h => (hr5.block q h).1) hE5
          · have b4 : (F != 0) = true := by simp [z3]
            rw [if_pos z3] at hR2
            have HR := Lib.hid hR2
            clear hR2
            go_enter Tryd.func25, Tryd.ntmps25
            go_wp2_with fail
            refine (HS.out _ ((Ext.refl w).alloc _)).mono ?_
            rintro e w1 ⟨rfl, he1⟩
            have ha := (AtS.box w A n c keys).ext he1
            have hE1 : Ext w w1 := ((Ext.refl w).alloc _).trans he1
            have hz2 : Ext w1 ((w1.alloc (.cells #[] 5)).alloc (.cells #[] 5)) := ((Ext.refl w1).alloc _).alloc _
            have hy0 := (ha.ext hz2).c0
            have hy1 := (ha.ext hz2).c1
            obtain ⟨w2, hw2⟩ : ∃ w2, w2 = (w1.alloc (.cells #[] 5)).alloc (.cells #[] 5) := ⟨_, rfl⟩
            have he2 : Ext w1 w2 := by rw [hw2]; exact ((Ext.refl w1).alloc _).alloc _
            have hr1 : Rd .u8 w2 (some ⟨w1.heap.size, 0, none⟩) 0 [] := Rd.nil ..
            have hr2 : Rd .u8 w2 (some ⟨w1.heap.size + 1, 0, none⟩) 0 [] := Rd.nil ..
            have ha2 := ha.ext he2
            have hE2 := hE1.trans he2
            have hc0 := ha2.c0
            have hc1 := ha2.c1
            have HW2 := Lib.hid hw2
            clear hw2
            go_wp2_with fail
            try rw [← HW2.out]
            refine (HX.out _ hE2).mono ?_
            rintro e w3 ⟨A4, c4, rfl, hown4, he4⟩
            have hE3 := hE2.trans he4
            have ha3 := ha2.ext he4
            have hd0 := ha3.c0
            have hd1 := ha3.c1
            have hr4 := (hown4.mono hE2.size)
            go_wp2_with fail
            refine (HY.out _ hE3).mono ?_
            rintro e w5 ⟨A5, c5, rfl, hown5, he5⟩
            have hE5 := hE3.trans he5
            have hr5 := (hown5.mono hE3.size)
            go_wp2_with fail
            go_ret3
            exact RBdsPost.bad _ HR.out hE5
      · have b4 : (E != 0) = true := by simp [z2]
        rw [if_pos z2] at hR2
        have HR := Lib.hid hR2
        clear hR2
        go_enter Tryd.func25, Tryd.ntmps25
        go_wp2_with fail
        refine (HS.out _ ((Ext.refl w).alloc _)).mono ?_
        rintro e w1 ⟨rfl, he1⟩
        have ha := (AtS.box w A n c keys).ext he1
        have hE1 : Ext w w1 := ((Ext.refl w).alloc _).trans he1
        have hz2 : Ext w1 ((w1.alloc (.cells #[] 5)).alloc (.cells #[] 5)) := ((Ext.refl w1).alloc _).alloc _
        have hy0 := (ha.ext hz2).c0
        have hy1 := (ha.ext hz2).c1
        obtain ⟨w2, hw2⟩ : ∃ w2, w2 = (w1.alloc (.cells #[] 5)).alloc (.cells #[] 5) := ⟨_, rfl⟩
        have he2 : Ext w1 w2 := by rw [hw2]; exact ((Ext.refl w1).alloc _).alloc _
        have hr1 : Rd .u8 w2 (some ⟨w1.heap.size, 0, none⟩) 0 [] := Rd.nil ..
        have hr2 : Rd .u8 w2 (some ⟨w1.heap.size + 1, 0, none⟩) 0 [] := Rd.nil ..
        have ha2 := ha.ext he2
        have hE2 := hE1.trans he2
        have hc0 := ha2.c0
        have hc1 := ha2.c1
        have HW2 := Lib.hid hw2
        clear hw2
        go_wp2_with fail
        try rw [← HW2.out]
        refine (HX.out _ hE2).mono ?_
        rintro e w3 ⟨A4, c4, rfl, hown4, he4⟩
        have hE3 := hE2.trans he4
        have ha3 := ha2.ext he4
        have hd0 := ha3.c0
        have hd1 := ha3.c1
        have hr4 := (hown4.mono hE2.size)
        go_wp2_with fail
        go_ret3
        exact RBdsPost.bad _ HR.out hE3
  · have b4 : (S != 0) = true := by simp [z1]
    rw [if_pos z1] at hR2
    have HR := Lib.hid hR2
    clear hR2
    go_enter Tryd.func25, Tryd.ntmps25
    go_wp2_with fail
    refine (HS.out _ ((Ext.refl w).alloc _)).mono ?_
    rintro e w1 ⟨rfl, he1⟩
    go_wp2_with fail
    go_ret3
    exact RBdsPost.bad _ HR.out (((Ext.refl w).alloc _).trans he1)

end Go.Proofs.YtnkggopkcjffoaaDoor
