/-
  Layer 8: Encode, the program's and the document's.
-/
import Derived.Test.YtoefhblojoaikaaR8d
import Derived.Test.YtoefhblojoaikaaFU
import Derived.Test.YtoefhblojoaikaaA2
namespace Go.Proofs.Ytoefhblojoaikaa
open Go.RowKit

def EncPost (vs : List Int) (w : World) (e : Ending) (w' : World) : Prop :=
  ∃ A' c', e = .returned (.tuple #[.slice A' (encode8 vs).1.length c', .int .i64 (encode8 vs).2]) ∧ Own .u8 5 w' w.heap.size A' c' (encode8 vs).1 ∧ Ext w w'

theorem encL_le : ∀ {rs : List (Int × Int)}, (∀ r ∈ rs, R64 r.1 ∧ 0 ≤ r.2 ∧ r.2 ≤ 4096) → (encL rs).length ≤ rs.length * 20 := by
  intro rs
  induction rs with
  | nil => intro _; exact Nat.le_refl _
  | cons r rs ih =>
    intro h
    have h1 := ih (fun q hq => h q (by simp [hq]))
    obtain ⟨h2, h3, h4⟩ := h r (by simp)
    obtain ⟨f0, f1⟩ := fold_range h2
    have a1 := vsize_le (u := (foldS r.1).toNat) (by omega)
    have a2 := vsize_le (u := r.2.toNat) (by omega)
    rw [encL_cons, List.length_append, List.length_append, vput_len, vput_len, List.length_cons]
    omega
theorem encL_take {rs : List (Int × Int)} {j : Nat} (h : j < rs.length) : encL (rs.take (j + 1)) = encL (rs.take j) ++ vput (foldS (rs.getD j (0, 0)).1).toNat ++ vput (rs.getD j (0, 0)).2.toNat := by
  rw [take_nextG rs j (x := rs.getD j (0, 0)) (by rw [List.getD, List.getElem?_eq_getElem h]; rfl), encL_snoc]

/-- A split list's runs, each in range. -/
theorem rsp_each {vs : List Int} (h : R64s vs) (hl : vs.length ≤ 4096) : ∀ r ∈ rsp vs, R64 r.1 ∧ 0 ≤ r.2 ∧ r.2 ≤ 4096 := fun r hr => by
  have h1 := (rsp_good h).mem r hr
  have h2 := (rsp_len h).2 r hr
  exact ⟨h1.2, by omega, by omega⟩

theorem mem_getD {T : Type} {xs : List T} {j : Nat} {d : T} (h : j < xs.length) : xs.getD j d ∈ xs := by
  rw [List.getD, List.getElem?_eq_getElem h]; exact List.getElem_mem h

set_option maxHeartbeats 3200000 in
theorem encode_any (A : Option Addr) (n c : Nat) (vs : List Int) (w : World) (hx : RdG shZ w A n vs) (hv : R64s vs) :
    Calls Try.prog 17 #[.slice A n c] w (EncPost vs w) := by
  have Hl := Lib.hid hx.len
  by_cases hbig : 4096 < n
  · have hs : split8 vs = ([], 4) := by unfold split8; rw [if_pos (by have := Hl.out; omega)]
    have hs2 : encode8 vs = ([], 4) := by unfold encode8; rw [if_pos (by have := Hl.out; omega)]
    unfold EncPost
    rw [hs2]
    have Hs := Lib.hid hs
    clear hs hs2
    go_enter Try.func17, Try.ntmps17
    go_wp2_with fail
    refine (split_any A n c vs w hx hv).mono ?_
    rintro e w1 ⟨A1, c1, rfl, hown, he1⟩
    rw [Hs.out] at hown ⊢
    go_wp2_with fail
    go_ret2
    exact ⟨none, 0, rfl, Own.nil _ _ _ _, he1⟩
  · have hs : split8 vs = (rsp vs, 0) := by unfold split8; rw [if_neg (by have := Hl.out; omega)]
    have hs2 : encode8 vs = (encR (rsp vs), 0) := by unfold encode8; rw [if_neg (by have := Hl.out; omega)]
    have hea := rsp_each hv (by have := Hl.out; omega)
    have hr4 : (rsp vs).length ≤ 4096 := Nat.le_trans (rsp_len hv).1 (by have := Hl.out; omega)
    obtain ⟨rs, hrs⟩ : ∃ rs, rs = rsp vs := ⟨_, rfl⟩
    unfold EncPost
    rw [hs2, ← hrs]
    rw [← hrs] at hs hea hr4
    obtain ⟨m, hm⟩ : ∃ m, m = rs.length := ⟨_, rfl⟩
    obtain ⟨P, hP⟩ : ∃ P, P = vput m := ⟨_, rfl⟩
    have hPl : P.length ≤ 10 := by rw [hP, vput_len]; exact vsize_le (by omega)
    have hR : encR rs = P ++ encL rs := by unfold encR; rw [← hm, ← hP]
    rw [hR]
    rw [← hm] at hr4
    have Hm := Lib.hid hm
    have Hs := Lib.hid hs
    have HP := Lib.hid hP
    have Hea := Lib.hid hea
    clear hs hs2 hrs hm hP hR hea
    go_enter Try.func17, Try.ntmps17
    go_wp2_with fail
    refine (split_any A n c vs w hx hv).mono ?_
    rintro e w1 ⟨A1, c1, rfl, hown, he1⟩
    rw [Hs.out] at hown ⊢
    simp only at hown ⊢
    rw [← Hm.out]
    have hrd := hown.rd' Hm.out.symm
    have hz1 := he1.size
    clear hown
    go_wp2_with fail
    refine (put_any m _ (by omega)).mono ?_
    rintro e w2 ⟨A2, c2, rfl, hown2, he2⟩
    rw [← HP.out] at hown2 ⊢
    have hz2 := he2.size
    go_wp2_with fail
    go_loopw [6, 22] (fun v i wr => ∃ (j L : Nat) (A' : Option Addr) (c' : Nat), j ≤ m ∧ i = .int .i64 j ∧ v = .slice A' L c' ∧ L = (P ++ encL (rs.take j)).length ∧ L ≤ 10 + j * 20 ∧ Own .u8 5 wr w1.heap.size A' c' (P ++ encL (rs.take j)) ∧ Below w1.heap.size w1 wr) (fun _ i _ => m - (intOf i).toNat)
    case atStart => exact ⟨0, P.length, A2, c2, Nat.zero_le _, rfl, rfl, by simp [encL], by omega, by simpa [encL] using hown2, he2⟩
    case round =>
      obtain ⟨j, L, A', c', hj, rfl, rfl, hL, hLb, hown3, hb⟩ := hrel
      have hz : w1.heap.size ≤ wr.heap.size := hb.size
      by_cases hlt : j < m
      · obtain ⟨b, o, hA, hbl, hc0, hc1⟩ := hrd.atR hlt
        have hq := Hea.out _ (mem_getD (d := (0, 0)) (show j < rs.length by have := Hm.out; omega))
        have hT := encL_take (rs := rs) (j := j) (by have := Hm.out; omega)
        obtain ⟨⟨v, k0⟩, hqe⟩ : ∃ q, q = rs.getD j (0, 0) := ⟨_, rfl⟩
        rw [← hqe] at hq hT hc0 hc1
        simp only at hq hT hc0 hc1
        obtain ⟨hv1, hk1, hk2⟩ := hq
        obtain ⟨f0, f1⟩ := fold_range hv1
        obtain ⟨u, hu⟩ : ∃ u : Nat, foldS v = (u : Int) := ⟨(foldS v).toNat, by omega⟩
        obtain ⟨k, rfl⟩ : ∃ k : Nat, k0 = (k : Int) := ⟨k0.toNat, by omega⟩
        rw [hu] at f0 f1 hT
        simp only [Int.toNat_natCast] at hT
        have hul := vsize_le (u := u) (by omega)
        have hkl := vsize_le (u := k) (by omega)
        rw [← vput_len] at hul hkl
        obtain ⟨V, hV⟩ : ∃ V, V = vput u := ⟨_, rfl⟩
        obtain ⟨V2, hV2⟩ : ∃ V2, V2 = vput k := ⟨_, rfl⟩
        rw [← hV] at hul hT
        rw [← hV2] at hkl hT
        have HV := Lib.hid hV
        have HV2 := Lib.hid hV2
        have HU := Lib.hid hu
        have HT := Lib.hid hT
        have HL := Lib.hid hL
        have HC1 := Lib.hid hc1
        have hwc0 : wr.cell? ⟨b, o + j * 2, none⟩ = some (.int .i64 v) := (Below.cell hb (p := ⟨b, o + j * 2, none⟩) hbl).trans hc0
        have hv0 := hv1.1
        have hv2 := hv1.2
        subst hA
        clear hqe hT hu hV hV2 hL hc0 hc1 hv1
        go_wp2_with fail
        refine (fold_any v _ hv0 hv2).mono ?_
        rintro e w3 ⟨rfl, rfl⟩
        rw [HU.out]
        go_wp2_with fail
        refine (put_any u _ (by omega)).mono ?_
        rintro e w3 ⟨A3, c3, rfl, hown4, he3⟩
        rw [← HV.out] at hown4 ⊢
        have hz3 := he3.size
        go_wp2_with (at_builtin; refine wpList_pushes (w0 := w1) (base := w1.heap.size) .u8 5 rfl _ _ 34 rfl _ 1 Try.underlying34 Try.infoU8 rfl (hown3.ext he3) L HL.out.symm rfl rfl hown4.rd (by omega) (by omega) (Below.chain hb hz he3) (by omega) ?_; intro A4 c4 w4 hown5 hb4 hz4; have hwc1 : w4.cell? ⟨b, o + j * 2 + 1, none⟩ = some (.int .i64 (k : Int)) := (Below.cell hb4 (p := ⟨b, o + j * 2 + 1, none⟩) hbl).trans HC1.out)
        refine (put_any k _ (by omega)).mono ?_
        rintro e w5 ⟨A5, c5, rfl, hown6, he5⟩
        rw [← HV2.out] at hown6 ⊢
        have hz5 := he5.size
        have hl4 : (P ++ encL (rs.take j) ++ V).length = L + V.length := by rw [List.length_append, HL.out]
        have HL4 := Lib.hid hl4
        clear hl4
        go_wp2_with (at_builtin; refine wpList_pushes (w0 := w1) (base := w1.heap.size) .u8 5 rfl _ _ 34 rfl _ 1 Try.underlying34 Try.infoU8 rfl (hown5.ext he5) (L + V.length) HL4.out rfl rfl hown6.rd (by omega) (by omega) (Below.chain hb4 hz4 he5) (by omega) ?_; intro A6 c6 w6 hown7 hb6 hz6)
        go_roundw
        case rel =>
          have e1 : P ++ encL (rs.take j) ++ V ++ V2 = P ++ encL (rs.take (j + 1)) := by rw [HT.out]; simp
          rw [e1] at hown7
          exact ⟨j + 1, L + V.length + V2.length, A6, c6, by omega, by go_num, by simp, by rw [← e1, List.length_append, HL4.out], by omega, hown7, hb6⟩
        case measure => simp [intOf]; omega
      · obtain rfl : j = m := by omega
        rw [List.take_of_length_le (by have := Hm.out; omega)] at hL hown3
        subst hL
        go_wp2_with fail
        go_ret2
        exact ⟨A', c', rfl, hown3.mono hz1, he1.trans hb⟩

set_option maxHeartbeats 3200000 in
theorem refEncode_any (A : Option Addr) (n c : Nat) (vs : List Int) (w : World) (hx : RdG shZ w A n vs) (hv : R64s vs) :
    Calls Try.prog 18 #[.slice A n c] w (EncPost vs w) := by
  have Hl := Lib.hid hx.len
  by_cases hbig : 4096 < n
  · have hs : split8 vs = ([], 4) := by unfold split8; rw [if_pos (by have := Hl.out; omega)]
    have hs2 : encode8 vs = ([], 4) := by unfold encode8; rw [if_pos (by have := Hl.out; omega)]
    unfold EncPost
    rw [hs2]
    have Hs := Lib.hid hs
    clear hs hs2
    go_enter Try.func18, Try.ntmps18
    go_wp2_with fail
    refine (refSplit_any A n c vs w hx hv).mono ?_
    rintro e w1 ⟨A1, c1, rfl, hown, he1⟩
    rw [Hs.out] at hown ⊢
    go_wp2_with fail
    go_ret2
    exact ⟨none, 0, rfl, Own.nil _ _ _ _, he1⟩
  · have hs : split8 vs = (rsp vs, 0) := by unfold split8; rw [if_neg (by have := Hl.out; omega)]
    have hs2 : encode8 vs = (encR (rsp vs), 0) := by unfold encode8; rw [if_neg (by have := Hl.out; omega)]
    have hea := rsp_each hv (by have := Hl.out; omega)
    have hr4 : (rsp vs).length ≤ 4096 := Nat.le_trans (rsp_len hv).1 (by have := Hl.out; omega)
    obtain ⟨rs, hrs⟩ : ∃ rs, rs = rsp vs := ⟨_, rfl⟩
    unfold EncPost
    rw [hs2, ← hrs]
    rw [← hrs] at hs hea hr4
    obtain ⟨m, hm⟩ : ∃ m, m = rs.length := ⟨_, rfl⟩
    obtain ⟨P, hP⟩ : ∃ P, P = vput m := ⟨_, rfl⟩
    have hPl : P.length ≤ 10 := by rw [hP, vput_len]; exact vsize_le (by omega)
    have hR : encR rs = P ++ encL rs := by unfold encR; rw [← hm, ← hP]
    rw [hR]
    rw [← hm] at hr4
    have Hm := Lib.hid hm
    have Hs := Lib.hid hs
    have HP := Lib.hid hP
    have Hea := Lib.hid hea
    clear hs hs2 hrs hm hP hR hea
    go_enter Try.func18, Try.ntmps18
    go_wp2_with fail
    refine (refSplit_any A n c vs w hx hv).mono ?_
    rintro e w1 ⟨A1, c1, rfl, hown, he1⟩
    rw [Hs.out] at hown ⊢
    simp only at hown ⊢
    rw [← Hm.out]
    have hrd := hown.rd' Hm.out.symm
    have hz1 := he1.size
    clear hown
    go_wp2_with fail
    refine (refPut_any m _ (by omega)).mono ?_
    rintro e w2 ⟨A2, c2, rfl, hown2, he2⟩
    rw [← HP.out] at hown2 ⊢
    have hz2 := he2.size
    go_wp2_with fail
    go_loopw [6, 7] (fun v i wr => ∃ (j L : Nat) (A' : Option Addr) (c' : Nat), j ≤ m ∧ i = .int .i64 j ∧ v = .slice A' L c' ∧ L = (P ++ encL (rs.take j)).length ∧ L ≤ 10 + j * 20 ∧ Own .u8 5 wr w1.heap.size A' c' (P ++ encL (rs.take j)) ∧ Below w1.heap.size w1 wr) (fun _ i _ => m - (intOf i).toNat)
    case atStart => exact ⟨0, P.length, A2, c2, Nat.zero_le _, rfl, rfl, by simp [encL], by omega, by simpa [encL] using hown2, he2⟩
    case round =>
      obtain ⟨j, L, A', c', hj, rfl, rfl, hL, hLb, hown3, hb⟩ := hrel
      have hz : w1.heap.size ≤ wr.heap.size := hb.size
      by_cases hlt : j < m
      · obtain ⟨b, o, hA, hbl, hc0, hc1⟩ := hrd.atR hlt
        have hq := Hea.out _ (mem_getD (d := (0, 0)) (show j < rs.length by have := Hm.out; omega))
        have hT := encL_take (rs := rs) (j := j) (by have := Hm.out; omega)
        obtain ⟨⟨v, k0⟩, hqe⟩ : ∃ q, q = rs.getD j (0, 0) := ⟨_, rfl⟩
        rw [← hqe] at hq hT hc0 hc1
        simp only at hq hT hc0 hc1
        obtain ⟨hv1, hk1, hk2⟩ := hq
        obtain ⟨f0, f1⟩ := fold_range hv1
        obtain ⟨u, hu⟩ : ∃ u : Nat, foldS v = (u : Int) := ⟨(foldS v).toNat, by omega⟩
        obtain ⟨k, rfl⟩ : ∃ k : Nat, k0 = (k : Int) := ⟨k0.toNat, by omega⟩
        rw [hu] at f0 f1 hT
        simp only [Int.toNat_natCast] at hT
        have hul := vsize_le (u := u) (by omega)
        have hkl := vsize_le (u := k) (by omega)
        rw [← vput_len] at hul hkl
        obtain ⟨V, hV⟩ : ∃ V, V = vput u := ⟨_, rfl⟩
        obtain ⟨V2, hV2⟩ : ∃ V2, V2 = vput k := ⟨_, rfl⟩
        rw [← hV] at hul hT
        rw [← hV2] at hkl hT
        have HV := Lib.hid hV
        have HV2 := Lib.hid hV2
        have HU := Lib.hid hu
        have HT := Lib.hid hT
        have HL := Lib.hid hL
        have HC1 := Lib.hid hc1
        have hwc0 : wr.cell? ⟨b, o + j * 2, none⟩ = some (.int .i64 v) := (Below.cell hb (p := ⟨b, o + j * 2, none⟩) hbl).trans hc0
        have hv0 := hv1.1
        have hv2 := hv1.2
        subst hA
        clear hqe hT hu hV hV2 hL hc0 hc1 hv1
        go_wp2_with fail
        refine (refFold_any v _ hv0 hv2).mono ?_
        rintro e w3 ⟨rfl, rfl⟩
        rw [HU.out]
        go_wp2_with fail
        refine (refPut_any u _ (by omega)).mono ?_
        rintro e w3 ⟨A3, c3, rfl, hown4, he3⟩
        rw [← HV.out] at hown4 ⊢
        have hz3 := he3.size
        have hrd3 := (hown3.rd' HL.out.symm).ext he3
        go_wp2_with fail
        refine (cat_any _ _ L _ V.length _ _ _ _ hrd3 hown4.rd (by omega)).mono ?_
        rintro e w4 ⟨A4, c4, rfl, hown5, he4⟩
        have hb4 : Below w1.heap.size w1 w4 := Below.chain hb hz (he3.trans he4)
        have hz4 := he4.size
        have hwc1 : w4.cell? ⟨b, o + j * 2 + 1, none⟩ = some (.int .i64 (k : Int)) := (Below.cell hb4 (p := ⟨b, o + j * 2 + 1, none⟩) hbl).trans HC1.out
        go_wp2_with fail
        refine (refPut_any k _ (by omega)).mono ?_
        rintro e w5 ⟨A5, c5, rfl, hown6, he5⟩
        rw [← HV2.out] at hown6 ⊢
        have hz5 := he5.size
        have hl4 : (P ++ encL (rs.take j) ++ V).length = L + V.length := by rw [List.length_append, HL.out]
        have HL4 := Lib.hid hl4
        clear hl4
        have hrd5 := (hown5.rd' HL4.out).ext he5
        go_wp2_with fail
        refine (cat_any _ _ (L + V.length) _ V2.length _ _ _ _ hrd5 hown6.rd (by omega)).mono ?_
        rintro e w6 ⟨A6, c6, rfl, hown7, he6⟩
        have hb6 : Below w1.heap.size w1 w6 := Below.chain hb4 (by omega) (he5.trans he6)
        have hown8 := hown7.mono (show w1.heap.size ≤ w5.heap.size by omega)
        clear hown7
        go_wp2_with fail
        go_roundw
        case rel =>
          have e1 : P ++ encL (rs.take j) ++ V ++ V2 = P ++ encL (rs.take (j + 1)) := by rw [HT.out]; simp
          rw [e1] at hown8
          exact ⟨j + 1, L + V.length + V2.length, A6, c6, by omega, by go_num, by simp, by rw [← e1, List.length_append, HL4.out], by omega, hown8, hb6⟩
        case measure => simp [intOf]; omega
      · obtain rfl : j = m := by omega
        rw [List.take_of_length_le (by have := Hm.out; omega)] at hL hown3
        subst hL
        go_wp2_with fail
        go_ret2
        exact ⟨A', c', rfl, hown3.mono hz1, he1.trans hb⟩

end Go.Proofs.Ytoefhblojoaikaa
