import Derived.Test.YthibbgmicmfkfaaGreatGX9
namespace Go.Proofs.YthibbgmicmfkfaaGreat
open Go.RowKit
set_option maxRecDepth 100000
def EncPost (vs : List Int) (w : World) (e : Ending) (w' : World) : Prop :=
  ∃ A' c', e = .returned (.tuple #[.slice A' (encode8 vs).1.length c', .int .i64 (encode8 vs).2]) ∧ Own .u8 5 w' w.heap.size A' c' (encode8 vs).1 ∧ Ext w w'
theorem encL_le : ∀ {rs : List (Int × Int)}, (∀ r ∈ rs, R64 r.1 ∧ 0 ≤ r.2 ∧ r.2 ≤ 4096) → (encL rs).length ≤ rs.length * 20 := by
  intro rs
  induction rs with
  | nil => intro _; exact Nat.le_refl _
  | cons r rs ih =>
    intro h
    have h1 := ih (fun q hq => h q (by simp [hq]))
    obtain ⟨h2, h3, h4⟩ := h r (by simp)
    obtain ⟨f0, f1⟩ := fold_range h2
    have a1 := vsize_le (u := (foldS r.1).toNat) (by omega)
    have a2 := vsize_le (u := r.2.toNat) (by omega)
    rw [encL_cons, List.length_append, List.length_append, vput_len, vput_len, List.length_cons]
    omega
theorem encL_take {rs : List (Int × Int)} {j : Nat} (h : j < rs.length) : encL (rs.take (j + 1)) = encL (rs.take j) ++ vput (foldS (rs.getD j (0, 0)).1).toNat ++ vput (rs.getD j (0, 0)).2.toNat := by
  rw [take_nextG rs j (x := rs.getD j (0, 0)) (by rw [List.getD, List.getElem?_eq_getElem h]; rfl), encL_snoc]
theorem rsp_each {vs : List Int} (h : R64s vs) (hl : vs.length ≤ 4096) : ∀ r ∈ rsp vs, R64 r.1 ∧ 0 ≤ r.2 ∧ r.2 ≤ 4096 := fun r hr => by
  have h1 := (rsp_good h).mem r hr
  have h2 := (rsp_len h).2 r hr
  exact ⟨h1.2, by omega, by omega⟩
theorem mem_getD {T : Type} {xs : List T} {j : Nat} {d : T} (h : j < xs.length) : xs.getD j d ∈ xs := by
  rw [List.getD, List.getElem?_eq_getElem h]; exact List.getElem_mem h
set_option maxHeartbeats 3200000 in
theorem encode_any (A : Option Addr) (n c : Nat) (vs : List Int) (w : World) (hx : RdG shZ w A n vs) (hv : R64s vs) :
    Calls Tryz.prog 142 #[.slice A n c] w (EncPost vs w) := by
  have Hl := Lib.hid hx.len
  by_cases hbig : 4096 < n
  · have hs : split8 vs = ([], 4) := by unfold split8; rw [if_pos (by have := Hl.out; omega)]
    have hs2 : encode8 vs = ([], 4) := by unfold encode8; rw [if_pos (by have := Hl.out; omega)]
    unfold EncPost
    rw [hs2]
    have Hs := Lib.hid hs
    clear hs hs2
    go_enter Tryz.func142, Tryz.ntmps142
    go_wp2_with fail
    refine (split_any A n c vs w hx hv).mono ?_
    rintro e w1 ⟨A1, c1, rfl, hown, he1⟩
    rw [Hs.out] at hown ⊢
    go_wp2_with fail
    go_ret2
    exact ⟨none, 0, rfl, Own.nil _ _ _ _, he1⟩
  · have hs : split8 vs = (rsp vs, 0) := by unfold split8; rw [if_neg (by have := Hl.out; omega)]
    have hs2 : encode8 vs = (encR (rsp vs), 0) := by unfold encode8; rw [if_neg (by have := Hl.out; omega)]
    have hea := rsp_each hv (by have := Hl.out; omega)
    have hr4 : (rsp vs).length ≤ 4096 := Nat.le_trans (rsp_len hv).1 (by have := Hl.out; omega)
    obtain ⟨rs, hrs⟩ : ∃ rs, rs = rsp vs := ⟨_, rfl⟩
    unfold EncPost
    rw [hs2, ← hrs]
    rw [← hrs] at hs hea hr4
    obtain ⟨m, hm⟩ : ∃ m, m = rs.length := ⟨_, rfl⟩
    obtain ⟨P, hP⟩ : ∃ P, P = vput m := ⟨_, rfl⟩
    have hPl : P.length ≤ 10 := by rw [hP, vput_len]; exact vsize_le (by omega)
    have hR : encR rs = P ++ encL rs := by unfold encR; rw [← hm, ← hP]
    rw [hR]
    rw [← hm] at hr4
    have Hm := Lib.hid hm
    have Hs := Lib.hid hs
    have HP := Lib.hid hP
    have Hea := Lib.hid hea
    clear hs hs2 hrs hm hP hR hea
    go_enter Tryz.func142, Tryz.ntmps142
    go_wp2_with fail
    refine (split_any A n c vs w hx hv).mono ?_
    rintro e w1 ⟨A1, c1, rfl, hown, he1⟩
    rw [Hs.out] at hown ⊢
    simp only at hown ⊢
    rw [← Hm.out]
    have hrd := hown.rd' Hm.out.symm
    have hz1 := he1.size
    clear hown
    go_wp2_with fail
    refine (put_any m _ (by omega)).mono ?_
    rintro e w2 ⟨A2, c2, rfl, hown2, he2⟩
    rw [← HP.out] at hown2 ⊢
    have hz2 := he2.size
    go_wp2_with fail
    go_loopw [6, 22] (fun v i wr => ∃ (j L : Nat) (A' : Option Addr) (c' : Nat), j ≤ m ∧ i = .int .i64 j ∧ v = .slice A' L c' ∧ L = (P ++ encL (rs.take j)).length ∧ L ≤ 10 + j * 20 ∧ Own .u8 5 wr w1.heap.size A' c' (P ++ encL (rs.take j)) ∧ Below w1.heap.size w1 wr) (fun _ i _ => m - (intOf i).toNat)
    case atStart => exact ⟨0, P.length, A2, c2, Nat.zero_le _, rfl, rfl, by simp [encL], by omega, by simpa [encL] using hown2, he2⟩
    case round =>
      obtain ⟨j, L, A', c', hj, rfl, rfl, hL, hLb, hown3, hb⟩ := hrel
      have hz : w1.heap.size ≤ wr.heap.size := hb.size
      by_cases hlt : j < m
      · obtain ⟨b, o, hA, hbl, hc0, hc1⟩ := hrd.atR hlt
        have hq := Hea.out _ (mem_getD (d := (0, 0)) (show j < rs.length by have := Hm.out; omega))
        have hT := encL_take (rs := rs) (j := j) (by have := Hm.out; omega)
        obtain ⟨⟨v, k0⟩, hqe⟩ : ∃ q, q = rs.getD j (0, 0) := ⟨_, rfl⟩
        rw [← hqe] at hq hT hc0 hc1
        simp only at hq hT hc0 hc1
        obtain ⟨hv1, hk1, hk2⟩ := hq
        obtain ⟨f0, f1⟩ := fold_range hv1
        obtain ⟨u, hu⟩ : ∃ u : Nat, foldS v = (u : Int) := ⟨(foldS v).toNat, by omega⟩
        obtain ⟨k, rfl⟩ : ∃ k : Nat, k0 = (k : Int) := ⟨k0.toNat, by omega⟩
        rw [hu] at f0 f1 hT
        simp only [Int.toNat_natCast] at hT
        have hul := vsize_le (u := u) (by omega)
        have hkl := vsize_le (u := k) (by omega)
        rw [← vput_len] at hul hkl
        obtain ⟨V, hV⟩ : ∃ V, V = vput u := ⟨_, rfl⟩
        obtain ⟨V2, hV2⟩ : ∃ V2, V2 = vput k := ⟨_, rfl⟩
        rw [← hV] at hul hT
        rw [← hV2] at hkl hT
        have HV := Lib.hid hV
        have HV2 := Lib.hid hV2
        have HU := Lib.hid hu
        have HT := Lib.hid hT
        have HL := Lib.hid hL
        have HC1 := Lib.hid hc1
        have hwc0 : wr.cell? ⟨b, o + j * 2, none⟩ = some (.int .i64 v) := (Below.cell hb (p := ⟨b, o + j * 2, none⟩) hbl).trans hc0
        have hv0 := hv1.1
        have hv2 := hv1.2
        subst hA
        clear hqe hT hu hV hV2 hL hc0 hc1 hv1
        go_wp2_with fail
        refine (fold_any v _ hv0 hv2).mono ?_
        rintro e w3 ⟨rfl, rfl⟩
        rw [HU.out]
        go_wp2_with fail
        refine (put_any u _ (by omega)).mono ?_
        rintro e w3 ⟨A3, c3, rfl, hown4, he3⟩
        rw [← HV.out] at hown4 ⊢
        have hz3 := he3.size
        go_wp2_with (at_builtin; refine wpList_pushes (w0 := w1) (base := w1.heap.size) .u8 5 rfl _ _ 22 rfl _ 1 Tryz.underlying22 Tryz.infoU8 rfl (hown3.ext he3) L HL.out.symm rfl rfl hown4.rd (by omega) (by omega) (Below.chain hb hz he3) (by omega) ?_; intro A4 c4 w4 hown5 hb4 hz4; have hwc1 : w4.cell? ⟨b, o + j * 2 + 1, none⟩ = some (.int .i64 (k : Int)) := (Below.cell hb4 (p := ⟨b, o + j * 2 + 1, none⟩) hbl).trans HC1.out)
        refine (put_any k _ (by omega)).mono ?_
        rintro e w5 ⟨A5, c5, rfl, hown6, he5⟩
        rw [← HV2.out] at hown6 ⊢
        have hz5 := he5.size
        have hl4 : (P ++ encL (rs.take j) ++ V).length = L + V.length := by rw [List.length_append, HL.out]
        have HL4 := Lib.hid hl4
        clear hl4
        go_wp2_with (at_builtin; refine wpList_pushes (w0 := w1) (base := w1.heap.size) .u8 5 rfl _ _ 22 rfl _ 1 Tryz.underlying22 Tryz.infoU8 rfl (hown5.ext he5) (L + V.length) HL4.out rfl rfl hown6.rd (by omega) (by omega) (Below.chain hb4 hz4 he5) (by omega) ?_; intro A6 c6 w6 hown7 hb6 hz6)
        go_roundw
        case rel =>
          have e1 : P ++ encL (rs.take j) ++ V ++ V2 = P ++ encL (rs.take (j + 1)) := by rw [HT.out]; simp
          rw [e1] at hown7
          exact ⟨j + 1, L + V.length + V2.length, A6, c6, by omega, by go_num, by simp, by rw [← e1, List.length_append, HL4.out], by omega, hown7, hb6⟩
        case measure => simp [intOf]; omega
      · obtain rfl : j = m := by omega
        rw [List.take_of_length_le (by have := Hm.out; omega)] at hL hown3
        subst hL
        go_wp2_with fail
        go_ret2
        exact ⟨A', c', rfl, hown3.mono hz1, he1.trans hb⟩
set_option maxHeartbeats 3200000 in
theorem refEncode_any (A : Option Addr) (n c : Nat) (vs : List Int) (w : World) (hx : RdG shZ w A n vs) (hv : R64s vs) :
    Calls Tryz.prog 197 #[.slice A n c] w (EncPost vs w) := by
  have Hl := Lib.hid hx.len
  by_cases hbig : 4096 < n
  · have hs : split8 vs = ([], 4) := by unfold split8; rw [if_pos (by have := Hl.out; omega)]
    have hs2 : encode8 vs = ([], 4) := by unfold encode8; rw [if_pos (by have := Hl.out; omega)]
    unfold EncPost
    rw [hs2]
    have Hs := Lib.hid hs
    clear hs hs2
    go_enter Tryz.func197, Tryz.ntmps197
    go_wp2_with fail
    refine (refSplit_any A n c vs w hx hv).mono ?_
    rintro e w1 ⟨A1, c1, rfl, hown, he1⟩
    rw [Hs.out] at hown ⊢
    go_wp2_with fail
    go_ret2
    exact ⟨none, 0, rfl, Own.nil _ _ _ _, he1⟩
  · have hs : split8 vs = (rsp vs, 0) := by unfold split8; rw [if_neg (by have := Hl.out; omega)]
    have hs2 : encode8 vs = (encR (rsp vs), 0) := by unfold encode8; rw [if_neg (by have := Hl.out; omega)]
    have hea := rsp_each hv (by have := Hl.out; omega)
    have hr4 : (rsp vs).length ≤ 4096 := Nat.le_trans (rsp_len hv).1 (by have := Hl.out; omega)
    obtain ⟨rs, hrs⟩ : ∃ rs, rs = rsp vs := ⟨_, rfl⟩
    unfold EncPost
    rw [hs2, ← hrs]
    rw [← hrs] at hs hea hr4
    obtain ⟨m, hm⟩ : ∃ m, m = rs.length := ⟨_, rfl⟩
    obtain ⟨P, hP⟩ : ∃ P, P = vput m := ⟨_, rfl⟩
    have hPl : P.length ≤ 10 := by rw [hP, vput_len]; exact vsize_le (by omega)
    have hR : encR rs = P ++ encL rs := by unfold encR; rw [← hm, ← hP]
    rw [hR]
    rw [← hm] at hr4
    have Hm := Lib.hid hm
    have Hs := Lib.hid hs
    have HP := Lib.hid hP
    have Hea := Lib.hid hea
    clear hs hs2 hrs hm hP hR hea
    go_enter Tryz.func197, Tryz.ntmps197
    go_wp2_with fail
    refine (refSplit_any A n c vs w hx hv).mono ?_
    rintro e w1 ⟨A1, c1, rfl, hown, he1⟩
    rw [Hs.out] at hown ⊢
    simp only at hown ⊢
    rw [← Hm.out]
    have hrd := hown.rd' Hm.out.symm
    have hz1 := he1.size
    clear hown
    go_wp2_with fail
    refine (refPut_any m _ (by omega)).mono ?_
    rintro e w2 ⟨A2, c2, rfl, hown2, he2⟩
    rw [← HP.out] at hown2 ⊢
    have hz2 := he2.size
    go_wp2_with fail
    go_loopw [6, 7] (fun v i wr => ∃ (j L : Nat) (A' : Option Addr) (c' : Nat), j ≤ m ∧ i = .int .i64 j ∧ v = .slice A' L c' ∧ L = (P ++ encL (rs.take j)).length ∧ L ≤ 10 + j * 20 ∧ Own .u8 5 wr w1.heap.size A' c' (P ++ encL (rs.take j)) ∧ Below w1.heap.size w1 wr) (fun _ i _ => m - (intOf i).toNat)
    case atStart => exact ⟨0, P.length, A2, c2, Nat.zero_le _, rfl, rfl, by simp [encL], by omega, by simpa [encL] using hown2, he2⟩
    case round =>
      obtain ⟨j, L, A', c', hj, rfl, rfl, hL, hLb, hown3, hb⟩ := hrel
      have hz : w1.heap.size ≤ wr.heap.size := hb.size
      by_cases hlt : j < m
      · obtain ⟨b, o, hA, hbl, hc0, hc1⟩ := hrd.atR hlt
        have hq := Hea.out _ (mem_getD (d := (0, 0)) (show j < rs.length by have := Hm.out; omega))
        have hT := encL_take (rs := rs) (j := j) (by have := Hm.out; omega)
        obtain ⟨⟨v, k0⟩, hqe⟩ : ∃ q, q = rs.getD j (0, 0) := ⟨_, rfl⟩
        rw [← hqe] at hq hT hc0 hc1
        simp only at hq hT hc0 hc1
        obtain ⟨hv1, hk1, hk2⟩ := hq
        obtain ⟨f0, f1⟩ := fold_range hv1
        obtain ⟨u, hu⟩ : ∃ u : Nat, foldS v = (u : Int) := ⟨(foldS v).toNat, by omega⟩
        obtain ⟨k, rfl⟩ : ∃ k : Nat, k0 = (k : Int) := ⟨k0.toNat, by omega⟩
        rw [hu] at f0 f1 hT
        simp only [Int.toNat_natCast] at hT
        have hul := vsize_le (u := u) (by omega)
        have hkl := vsize_le (u := k) (by omega)
        rw [← vput_len] at hul hkl
        obtain ⟨V, hV⟩ : ∃ V, V = vput u := ⟨_, rfl⟩
        obtain ⟨V2, hV2⟩ : ∃ V2, V2 = vput k := ⟨_, rfl⟩
        rw [← hV] at hul hT
        rw [← hV2] at hkl hT
        have HV := Lib.hid hV
        have HV2 := Lib.hid hV2
        have HU := Lib.hid hu
        have HT := Lib.hid hT
        have HL := Lib.hid hL
        have HC1 := Lib.hid hc1
        have hwc0 : wr.cell? ⟨b, o + j * 2, none⟩ = some (.int .i64 v) := (Below.cell hb (p := ⟨b, o + j * 2, none⟩) hbl).trans hc0
        have hv0 := hv1.1
        have hv2 := hv1.2
        subst hA
        clear hqe hT hu hV hV2 hL hc0 hc1 hv1
        go_wp2_with fail
        refine (refFold_any v _ hv0 hv2).mono ?_
        rintro e w3 ⟨rfl, rfl⟩
        rw [HU.out]
        go_wp2_with fail
        refine (refPut_any u _ (by omega)).mono ?_
        rintro e w3 ⟨A3, c3, rfl, hown4, he3⟩
        rw [← HV.out] at hown4 ⊢
        have hz3 := he3.size
        have hrd3 := (hown3.rd' HL.out.symm).ext he3
        go_wp2_with fail
        refine (cat_any _ _ L _ V.length _ _ _ _ hrd3 hown4.rd (by omega)).mono ?_
        rintro e w4 ⟨A4, c4, rfl, hown5, he4⟩
        have hb4 : Below w1.heap.size w1 w4 := Below.chain hb hz (he3.trans he4)
        have hz4 := he4.size
        have hwc1 : w4.cell? ⟨b, o + j * 2 + 1, none⟩ = some (.int .i64 (k : Int)) := (Below.cell hb4 (p := ⟨b, o + j * 2 + 1, none⟩) hbl).trans HC1.out
        go_wp2_with fail
        refine (refPut_any k _ (by omega)).mono ?_
        rintro e w5 ⟨A5, c5, rfl, hown6, he5⟩
        rw [← HV2.out] at hown6 ⊢
        have hz5 := he5.size
        have hl4 : (P ++ encL (rs.take j) ++ V).length = L + V.length := by rw [List.length_append, HL.out]
        have HL4 := Lib.hid hl4
        clear hl4
        have hrd5 := (hown5.rd' HL4.out).ext he5
        go_wp2_with fail
        refine (cat_any _ _ (L + V.length) _ V2.length _ _ _ _ hrd5 hown6.rd (by omega)).mono ?_
        rintro e w6 ⟨A6, c6, rfl, hown7, he6⟩
        have hb6 : Below w1.heap.size w1 w6 := Below.chain hb4 (by omega) (he5.trans he6)
        have hown8 := hown7.mono (show w1.heap.size ≤ w5.heap.size by omega)
        clear hown7
        go_wp2_with fail
        go_roundw
        case rel =>
          have e1 : P ++ encL (rs.take j) ++ V ++ V2 = P ++ encL (rs.take (j + 1)) := by rw [HT.out]; simp
          rw [e1] at hown8
          exact ⟨j + 1, L + V.length + V2.length, A6, c6, by omega, by go_num, by simp, by rw [← e1, List.length_append, HL4.out], by omega, hown8, hb6⟩
        case measure => simp [intOf]; omega
      · obtain rfl : j = m := by omega
        rw [List.take_of_length_le (by have := Hm.out; omega)] at hL hown3
        subst hL
        go_wp2_with fail
        go_ret2
        exact ⟨A', c', rfl, hown3.mono hz1, he1.trans hb⟩
set_option maxHeartbeats 1600000 in
theorem pencode_any (A : Option Addr) (n c : Nat) (ss : List Sl) (w : World) (hx : TxL w A n ss) (hn : n ≤ 140737488355328) :
    Calls Tryz.prog 147 #[.slice A n c] w (PEncPost (pencR (bodies ss)) w) := by
  have Hl := Lib.hid hx.len
  have hbl : (bodies ss).length = n := by rw [bodies_len, Hl.out]
  have HL := Lib.hid (containsLong11_any A n c ss w hx.rd hn)
  by_cases hbig : 4096 < n
  · have HR := Lib.hid (pencR_bad (ss := bodies ss) (.inl (by rw [hbl]; exact hbig)))
    clear hbl HL
    go_enter Tryz.func147, Tryz.ntmps147
    go_wp2
    go_ret2
    exact PEncPost.bad _ HR.out (Ext.refl w)
  · cases hany : anyLong (bodies ss) with
    | true =>
      have HR := Lib.hid (pencR_bad (.inr hany))
      rw [hany] at HL
      clear hbl hany
      go_enter Tryz.func147, Tryz.ntmps147
      go_wp2_with fail
      refine HL.out.mono ?_
      rintro e w1 ⟨rfl, rfl⟩
      go_wp2
      go_ret2
      exact PEncPost.bad _ HR.out (Ext.refl _)
    | false =>
      have HR := Lib.hid (pencR_good (by rw [hbl]; omega) hany)
      have hlong := anyLong_no hany
      have Hvl := Lib.hid (penc_len (by rw [hbl]; omega) hlong)
      have Hlong := Lib.hid hlong
      rw [hany] at HL
      obtain ⟨V, hV⟩ : ∃ V, V = penc (bodies ss) := ⟨_, rfl⟩
      rw [← hV] at HR Hvl
      have HV := Lib.hid hV
      have Hbl := Lib.hid hbl
      clear hV hbl hany hlong
      go_enter Tryz.func147, Tryz.ntmps147
      go_wp2_with fail
      refine HL.out.mono ?_
      rintro e w1 ⟨rfl, rfl⟩
      go_wp2_with fail
      refine (put_any n _ (by omega)).mono ?_
      rintro e w2 ⟨A2, c2, rfl, hown2, he2⟩
      have HP0 := Lib.hid (show vput n ++ pencA ((bodies ss).take 0) ((bodies ss).drop 0) = V by rw [HV.out, penc, Hbl.out]; rfl)
      go_wp2_with fail
      go_loopw [4, 5, 6, 7, 21] (fun v _ _ _ i wr => ∃ (j : Nat) (P : List Nat) (A' : Option Addr) (c' : Nat), j ≤ n ∧ i = .int .i64 j ∧ v = .slice A' P.length c' ∧ Hid (P ++ pencA ((bodies ss).take j) ((bodies ss).drop j) = V) ∧ Own .u8 5 wr w1.heap.size A' c' P ∧ Ext w1 wr) (fun _ _ _ _ i _ => n - (intOf i).toNat)
      case atStart => exact ⟨0, _, A2, c2, Nat.zero_le _, rfl, rfl, HP0.out, hown2, he2⟩
      case round =>
        clear HP0 hown2 he2
        obtain ⟨j, P, A', c', hj, rfl, rfl, HP, hown, he⟩ := hrel
        by_cases hlt : j < n
        · obtain ⟨b, o, s, rfl, hf, hc, _⟩ := (hx.ext he).at_ hlt
          have hs := hx.each s (List.mem_of_getElem? hf)
          have hbj := bodies_at hf
          have hst := pencA_step hbj
          have hah := ahead_take (ss := bodies ss) (j := j) (by rw [Hbl.out]; exact hj)
          have hsl : s.body.length ≤ 200 := Hlong.out _ (List.mem_of_getElem? hbj)
          obtain ⟨sA, sc, body⟩ := s
          simp only at hc hs hsl hst
          obtain ⟨srd, su8, scap, stop, slen⟩ := hs
          simp only at srd su8 scap stop slen
          obtain ⟨k, hk⟩ : ∃ k, k = cp (ahead ((bodies ss).take j)) body := ⟨_, rfl⟩
          have hkb : k ≤ body.length := by rw [hk]; exact (cp_le _ _).2
          have hN : (P ++ vput k ++ vput (body.length - k) ++ body.drop k) ++ pencA ((bodies ss).take (j + 1)) ((bodies ss).drop (j + 1)) = V := by
            rw [← HP.out, hst, ptext, ← hk]
            simp
          have hPl : P.length ≤ 1000000 := by have := Hvl.out; rw [← HP.out, List.length_append] at this; omega
          have HN := Lib.hid hN
          have Hk := Lib.hid hk
          clear hN hst hbj hk HP
          obtain ⟨m, hm⟩ : ∃ m, m = body.length := ⟨_, rfl⟩
          rw [← hm] at hc srd scap hsl hkb HN slen
          have Hm := Lib.hid hm
          clear hm
          have sl9 := run_from sA m sc k hkb
          have sh9 := srd.offA hkb scap
          obtain ⟨A9, hA9⟩ : ∃ A9, A9 = offA sA k sc := ⟨_, rfl⟩
          rw [← hA9] at sl9 sh9
          have Hsl9 := Lib.hid sl9
          have Hsh9 := Lib.hid sh9
          clear sl9 sh9 hA9
          have hmk : (m : Int) - (k : Int) = ((m - k : Nat) : Int) := by omega
          have hk200 : k ≤ 200 := by omega
          have hmk200 : m - k ≤ 200 := by omega
          have Hkb := Lib.hid hkb
          clear hkb
          by_cases hw16 : j % 16 = 0
          · have hd : decide (j % 16 = 0) = true := decide_eq_true hw16
            have hk0 : k = 0 := by rw [Hk.out, hah, if_pos hw16]; rfl
            have Hk0 := Lib.hid hk0
            clear hk0
            go_wp2_with fail
            refine (isWhole_any j _ (by omega)).mono ?_
            rintro e w3 ⟨rfl, rfl⟩
            rw [hd]
            go_wp2_with fail
            rw [show Value.int .i64 0 = Value.int .i64 (k : Int) by rw [Hk0.out]; rfl, show Value.int .u64 0 = Value.int .u64 (k : Int) by rw [Hk0.out]; rfl]
            refine (put_any k _ (by omega)).mono ?_
            rintro e w4 ⟨A4, c4, rfl, hown4, he4⟩
            have sl9 := Hsl9.out
            have hown3 := hown.ext he4
            have hE4 := he.trans he4
            have hv1 := vput_le (u := k) (by omega)
            go_wp2_with (at_builtin; refine wpList_pushes .u8 5 rfl _ _ 22 rfl _ 1 Tryz.underlying22 Tryz.infoU8 rfl hown3 P.length rfl rfl rfl hown4.rd (by omega) (by omega) hE4 hE4.size ?_; intro A5 c5 w5 hown5 hb5 hz5)
            refine (put_any (m - k) _ (by omega)).mono ?_
            rintro e w6 ⟨A6, c6, rfl, hown6, he6⟩
            have hown7 := hown5.ext he6
            have hE6 := Ext.trans hb5 he6
            have hv2 := vput_le (u := m - k) (by omega)
            have hL5 : (P ++ vput k).length = P.length + (vput k).length := List.length_append
            have hL7 : (P ++ vput k ++ vput (m - k)).length = P.length + (vput k).length + (vput (m - k)).length := by rw [List.length_append, List.length_append]
            go_wp2_with (first
              | (at_builtin; refine wpList_pushes .u8 5 rfl _ _ 22 rfl _ 1 Tryz.underlying22 Tryz.infoU8 rfl hown7 _ hL5 rfl rfl hown6.rd (by omega) (by omega) hE6 hE6.size ?_; intro A7 c7 w7 hown8 hb7 hz7)
              | (at_builtin; refine wpList_pushes  .u8 5 rfl _ _ 22 rfl _ 1 Tryz.underlying22 Tryz.infoU8 rfl hown8 _ hL7 rfl rfl (Hsh9.out.ext hb7) (by omega) (by omega) hb7 hz7 ?_; intro A8 c8 w8 hown9 hb8 hz8)
              | fail)
            rw [show Value.int .i64 (k : Int) = Value.int .i64 0 by rw [Hk0.out]; rfl]
            go_roundw
            case rel => exact ⟨j + 1, _, A8, c8, by omega, by go_num, by rw [List.length_append, List.length_append, List.length_append, List.length_drop, ← Hm.out], HN.out, hown9, hb8⟩
            case measure => simp [intOf]; omega
          · have hd : decide (j % 16 = 0) = false := decide_eq_false hw16
            obtain ⟨q, rfl⟩ : ∃ q, j = q + 1 := ⟨j - 1, by omega⟩
            obtain ⟨b', o', s', e', hf', hc', _⟩ := (hx.ext he).at_ (j := q) (by omega)
            have hs' := hx.each s' (List.mem_of_getElem? hf')
            injection e' with e'
            injection e' with e1 e2
            subst e1 e2
            have hk1 : k = cp s'.body body := by rw [Hk.out, hah, if_neg hw16, Nat.add_sub_cancel, bodies_get hf']
            obtain ⟨sA', sc', body'⟩ := s'
            simp only at hc' hs' hk1
            have Hk1 := Lib.hid hk1
            clear hk1 hf'
            go_wp2_with fail
            refine (isWhole_any (q + 1) _ (by omega)).mono ?_
            rintro e w3 ⟨rfl, rfl⟩
            rw [hd]
            go_wp2_with fail
            refine (palike_any _ _ _ _ _ _ _ _ _ (hs'.rd.ext he) (srd.ext he) hs'.len slen).mono ?_
            rintro e w3 ⟨rfl, q3, rfl⟩
            rw [← Hk1.out]
            go_wp2_with fail
            refine (put_any k _ (by omega)).mono ?_
            rintro e w4 ⟨A4, c4, rfl, hown4, he4⟩
            have sl9 := Hsl9.out
            have hown3 := (hown.ext (Ext.of_drewN _ q3)).ext he4
            have hE4 := (he.drewN q3).trans he4
            have hv1 := vput_le (u := k) (by omega)
            go_wp2_with (at_builtin; refine wpList_pushes .u8 5 rfl _ _ 22 rfl _ 1 Tryz.underlying22 Tryz.infoU8 rfl hown3 P.length rfl rfl rfl hown4.rd (by omega) (by omega) hE4 hE4.size ?_; intro A5 c5 w5 hown5 hb5 hz5)
            refine (put_any (m - k) _ (by omega)).mono ?_
            rintro e w6 ⟨A6, c6, rfl, hown6, he6⟩
            have hown7 := hown5.ext he6
            have hE6 := Ext.trans hb5 he6
            have hv2 := vput_le (u := m - k) (by omega)
            have hL5 : (P ++ vput k).length = P.length + (vput k).length := List.length_append
            have hL7 : (P ++ vput k ++ vput (m - k)).length = P.length + (vput k).length + (vput (m - k)).length := by rw [List.length_append, List.length_append]
            go_wp2_with (first
              | (at_builtin; refine wpList_pushes .u8 5 rfl _ _ 22 rfl _ 1 Tryz.underlying22 Tryz.infoU8 rfl hown7 _ hL5 rfl rfl hown6.rd (by omega) (by omega) hE6 hE6.size ?_; intro A7 c7 w7 hown8 hb7 hz7)
              | (at_builtin; refine wpList_pushes  .u8 5 rfl _ _ 22 rfl _ 1 Tryz.underlying22 Tryz.infoU8 rfl hown8 _ hL7 rfl rfl (Hsh9.out.ext hb7) (by omega) (by omega) hb7 hz7 ?_; intro A8 c8 w8 hown9 hb8 hz8)
              | fail)
            go_roundw
            case rel => exact ⟨q + 1 + 1, _, A8, c8, by omega, by go_num, by rw [List.length_append, List.length_append, List.length_append, List.length_drop, ← Hm.out], HN.out, hown9, hb8⟩
            case measure => simp [intOf]; omega
        · obtain rfl : j = n := by omega
          have hfin := Lib.hid (show P = V by rw [← HP.out, List.drop_of_length_le (by rw [Hbl.out]; exact Nat.le_refl _)]; simp [pencA])
          go_wp2
          go_ret2
          exact PEncPost.good _ HR.out (by rw [hfin.out]) (by rw [← hfin.out]; exact hown) he
theorem PEncPost.back {R : List Nat × Int} {w W w' : World} {e : Ending} (hE : Ext w W) (h : PEncPost R W e w') : PEncPost R w e w' := by
  obtain ⟨A', c', h1, h2, h3⟩ := h
  exact ⟨A', c', h1, h2.mono hE.size, hE.trans h3⟩
def valR (k cd : Int) (xs : List Ci) : List Nat × Int :=
  if cd = 2 then encode8 (xs.map Ci.num) else if cd = 3 then encode9 (xs.map Ci.num) else if cd = 4 then dencR (xs.map Ci.txt) else if cd = 5 then pencR (xs.map Ci.txt) else (plainL k xs, 0)
theorem bodies_sl (xs : List Ci) : bodies (xs.map Ci.sb) = xs.map Ci.txt := by unfold bodies; rw [List.map_map]; rfl
theorem RdX.nums {w : World} {A : Option Addr} {n : Nat} {xs : List Ci} (h : RdX w A n xs) : R64s (xs.map Ci.num) := by
  intro v hv
  obtain ⟨x, hx, rfl⟩ := List.mem_map.1 hv
  obtain ⟨j, hj, e⟩ := List.getElem_of_mem hx
  obtain ⟨_, _, y, _, _, hy, _, _, _, hin⟩ := h.at_ (j := j) (by rw [← h.1]; exact hj)
  rw [List.getElem?_eq_getElem hj, e] at hy
  rw [Option.some.inj hy]
  exact ⟨hin.lo, hin.hi⟩
set_option maxHeartbeats 2000000 in
theorem putValues_any (k cd : Int) (A : Option Addr) (n c : Nat) (xs : List Ci) (w : World) (hx : RdX w A n xs) (hc : CapX xs) (hn : n ≤ 4096) (h200 : ∀ x ∈ xs, x.txt.length ≤ 200) :
    Calls Tryz.prog 107 #[.int .i64 k, .int .i64 cd, .slice A n c] w (PEncPost (valR k cd xs) w) := by
  have HN := Lib.hid (fun W (hW : Ext w W) => toNumbers_any A n c xs W (hx.ext hW) (by omega))
  have HT := Lib.hid (fun W (hW : Ext w W) => toTexts_any A n c xs W (hx.ext hW) (by omega))
  have HP := Lib.hid (fun W (hW : Ext w W) => putPlain_any k A n c xs W (hx.ext hW) hn h200)
  have Hl := Lib.hid (show (xs.map Ci.num).length = n by rw [List.length_map]; exact hx.1)
  have HX := Lib.hid hx
  have HC := Lib.hid hc
  have Hn := Lib.hid hn
  clear hx hc hn h200
  by_cases h2 : cd = 2
  · subst h2
    have HV := Lib.hid (show valR k 2 xs = encode8 (xs.map Ci.num) from rfl)
    go_enter Tryz.func107, Tryz.ntmps107
    go_wp2_with fail
    refine (HN.out _ (Ext.refl _)).mono ?_
    rintro e w1 ⟨A1, c1, rfl, ho, he⟩
    have hr := ho.rd' Hl.out
    go_wp2_with fail
    refine (encode_any A1 n c1 _ w1 hr HX.out.nums).mono ?_
    rintro e w2 ⟨A2, c2, rfl, ho2, he2⟩
    go_wp2_with fail
    go_ret2
    rw [HV.out]
    exact PEncPost.back he ⟨A2, c2, rfl, ho2, he2⟩
  by_cases h3 : cd = 3
  · subst h3
    have HV := Lib.hid (show valR k 3 xs = encode9 (xs.map Ci.num) from rfl)
    go_enter Tryz.func107, Tryz.ntmps107
    go_wp2_with fail
    refine (HN.out _ (Ext.refl _)).mono ?_
    rintro e w1 ⟨A1, c1, rfl, ho, he⟩
    have hr := ho.rd' Hl.out
    go_wp2_with fail
    refine (p9encode_any A1 n c1 _ w1 hr HX.out.nums).mono ?_
    rintro e w2 ⟨A2, c2, rfl, ho2, he2⟩
    go_wp2_with fail
    go_ret2
    rw [HV.out]
    exact PEncPost.back he ⟨A2, c2, rfl, ho2, he2⟩
  by_cases h4 : cd = 4
  · subst h4
    have HV := Lib.hid (show valR k 4 xs = dencR (xs.map Ci.txt) from rfl)
    go_enter Tryz.func107, Tryz.ntmps107
    go_wp2_with fail
    refine (HT.out _ (Ext.refl _)).mono ?_
    rintro e w1 ⟨A1, c1, rfl, ho, he⟩
    have hr := HX.out.txl HC.out ho HX.out.1 he
    go_wp2_with fail
    refine (dencode_any A1 n c1 _ w1 hr (by have := Hn.out; omega)).mono ?_
    rintro e w2 ⟨A2, c2, rfl, ho2, he2⟩
    go_wp2_with fail
    go_ret2
    rw [HV.out, ← bodies_sl]
    exact PEncPost.back he ⟨A2, c2, rfl, ho2, he2⟩
  by_cases h5 : cd = 5
  · subst h5
    have HV := Lib.hid (show valR k 5 xs = pencR (xs.map Ci.txt) from rfl)
    go_enter Tryz.func107, Tryz.ntmps107
    go_wp2_with fail
    refine (HT.out _ (Ext.refl _)).mono ?_
    rintro e w1 ⟨A1, c1, rfl, ho, he⟩
    have hr := HX.out.txl HC.out ho HX.out.1 he
    go_wp2_with fail
    refine (pencode_any A1 n c1 _ w1 hr (by have := Hn.out; omega)).mono ?_
    rintro e w2 ⟨A2, c2, rfl, ho2, he2⟩
    go_wp2_with fail
    go_ret2
    rw [HV.out, ← bodies_sl]
    exact PEncPost.back he ⟨A2, c2, rfl, ho2, he2⟩
  have HV := Lib.hid (show valR k cd xs = (plainL k xs, 0) by unfold valR; rw [if_neg h2, if_neg h3, if_neg h4, if_neg h5])
  have b2 : (cd == 2) = false := beq_eq_false_iff_ne.2 h2
  have b3 : (cd == 3) = false := beq_eq_false_iff_ne.2 h3
  have b4 : (cd == 4) = false := beq_eq_false_iff_ne.2 h4
  have b5 : (cd == 5) = false := beq_eq_false_iff_ne.2 h5
  clear h2 h3 h4 h5
  go_enter Tryz.func107, Tryz.ntmps107
  go_wp2_with fail
  refine (HP.out _ (Ext.refl _)).mono ?_
  rintro e w1 ⟨A1, c1, rfl, ho, he⟩
  go_wp2_with fail
  go_ret2
  rw [HV.out]
  exact ⟨A1, c1, rfl, ho, he⟩
theorem e8_len12 {vs : List Int} (h : R64s vs) : (encode8 vs).1.length ≤ 100000 := by
  unfold encode8
  split
  · simp
  · show (encR (rsp vs)).length ≤ _
    have h1 := encL_le (rsp_each h (by omega))
    have h2 := (rsp_len h).1
    have h3 := vsize_le (u := (rsp vs).length) (by omega)
    rw [encR_len, vput_len]
    omega
theorem e9_len12 {vs : List Int} (h : R64s vs) : (encode9 vs).1.length ≤ 40000 := by
  unfold encode9
  split
  · simp
  · have h4 : vs.length ≤ 4096 := by omega
    show (encP vs).length ≤ _
    unfold encP
    split
    · rw [vput_len]; have := vsize_le (u := 0) (by omega); omega
    · rename_i hn
      have h1 := wid_le h (by omega)
      have h2 := fold_range (h _ (lo_mem (show 0 < vs.length by omega)))
      have a1 := vsize_le (u := vs.length) (by omega)
      have a2 := vsize_le (u := (foldS (lo vs)).toNat) (by omega)
      have a3 : wid vs * vs.length ≤ 64 * 4096 := Nat.mul_le_mul h1 h4
      rw [List.length_append, List.length_append, List.length_append, vput_len, vput_len, packB_len9, dst_len]
      simp only [List.length_singleton]
      omega
theorem few12 {ss : List (List Nat)} (h : ¬ (4096 < ss.length ∨ anyLong ss = true)) : ss.length ≤ 4096 ∧ anyLong ss = false := by
  constructor
  · rcases Nat.lt_or_ge 4096 ss.length with q | q
    · exact absurd (.inl q) h
    · exact q
  · cases q : anyLong ss with
    | true => exact absurd (.inr q) h
    | false => rfl
theorem ed_len12 (ss : List (List Nat)) : (dencR ss).1.length ≤ 1000000 := by
  by_cases h : 4096 < ss.length ∨ anyLong ss = true
  · rw [dencR_bad h]; simp
  · obtain ⟨h1, h2⟩ := few12 h
    rw [dencR_good h1 h2]
    exact denc_len h1 h2
theorem ep_len12 (ss : List (List Nat)) : (pencR ss).1.length ≤ 1000000 := by
  by_cases h : 4096 < ss.length ∨ anyLong ss = true
  · rw [pencR_bad h]; simp
  · obtain ⟨h1, h2⟩ := few12 h
    rw [pencR_good h1 h2]
    exact penc_len h1 (anyLong_no h2)
theorem plainL_len (k : Int) : ∀ (xs : List Ci), R64s (xs.map Ci.num) → (∀ x ∈ xs, x.txt.length ≤ 200) → (plainL k xs).length ≤ 210 * xs.length
  | [], _, _ => by simp [plainL]
  | x :: xs, h, h2 => by
    have ih := plainL_len k xs (fun v hv => h v (List.mem_cons_of_mem _ hv)) (fun y hy => h2 y (List.mem_cons_of_mem _ hy))
    have hx := h x.num (List.mem_cons_self ..)
    have h1 := plain1_le (k := k) hx.1 hx.2 (h2 x (List.mem_cons_self ..))
    have e : plainL k (x :: xs) = plain1 k x ++ plainL k xs := by simp [plainL]
    rw [e, List.length_append, List.length_cons]
    omega
theorem valR_len (k cd : Int) {xs : List Ci} (h : R64s (xs.map Ci.num)) (h2 : ∀ x ∈ xs, x.txt.length ≤ 200) (hn : xs.length ≤ 4096) : (valR k cd xs).1.length ≤ 1000000 := by
  unfold valR
  split
  · have := e8_len12 h; omega
  · split
    · have := e9_len12 h; omega
    · split
      · exact ed_len12 _
      · split
        · exact ep_len12 _
        · have := plainL_len k xs h h2
          show (plainL k xs).length ≤ _
          omega
theorem nullsL_len {xs : List Ci} (h : xs.length ≤ 4096) : (nullsL xs).length ≤ 600 := by
  unfold nullsL
  split
  · rw [List.length_cons]
    unfold packB
    rw [upk_len, nb_len]; omega
  · simp
theorem capX_nn {xs : List Ci} (h : CapX xs) : CapX (nn xs) := fun x hx => h x (nn_mem hx)
def putR (k cd : Int) (xs : List Ci) : List Nat × Int :=
  if (valR k cd (nn xs)).2 ≠ 0 then ([], (valR k cd (nn xs)).2) else ([cd.toNat] ++ (vput xs.length ++ (nullsL xs ++ (valR k cd (nn xs)).1)), 0)
theorem RdX.all {w : World} {A : Option Addr} {n : Nat} {xs : List Ci} (h : RdX w A n xs) : ∀ x ∈ xs, x.In w := by
  intro x hx
  obtain ⟨j, hj, e⟩ := List.getElem_of_mem hx
  obtain ⟨_, _, y, _, _, hy, _, _, _, hin⟩ := h.at_ (j := j) (by rw [← h.1]; exact hj)
  rw [List.getElem?_eq_getElem hj, e] at hy
  rw [Option.some.inj hy]
  exact hin
set_option maxHeartbeats 2000000 in
theorem bput_any (k cd : Int) (hcd : 0 ≤ cd ∧ cd ≤ 255) (A : Option Addr) (n c : Nat) (xs : List Ci) (w : World) (hx : RdX w A n xs) (hc : CapX xs) (hn : n ≤ 4096) (h200 : ∀ x ∈ xs, x.txt.length ≤ 200) :
    Calls Tryz.prog 68 #[.int .i64 k, .int .i64 cd, .slice A n c] w (PEncPost (putR k cd xs) w) := by
  obtain ⟨d, rfl⟩ : ∃ d : Nat, cd = d := ⟨cd.toNat, by omega⟩
  have hl := hx.1
  have hnl := nn_le xs
  have HN := Lib.hid (fun W (hW : Ext w W) => putNulls_any A n c xs W (hx.ext hW) hn)
  have HW := Lib.hid (fun W (hW : Ext w W) => withoutNulls_any A n c xs W (hx.ext hW) (by omega))
  have HC := Lib.hid (capX_nn hc)
  have H2 := Lib.hid (fun x (h : x ∈ nn xs) => h200 x (nn_mem h))
  have hnu := nullsL_len (xs := xs) (by omega)
  have HR := Lib.hid (show putR k d xs = if (valR k d (nn xs)).2 ≠ 0 then ([], (valR k d (nn xs)).2) else ([d] ++ (vput xs.length ++ (nullsL xs ++ (valR k d (nn xs)).1)), 0) from rfl)
  obtain ⟨q, hq⟩ : ∃ q, q = (nn xs).length := ⟨_, rfl⟩
  obtain ⟨Nl, hNl⟩ : ∃ Nl, Nl = nullsL xs := ⟨_, rfl⟩
  obtain ⟨u, hu⟩ : ∃ u, u = Nl.length := ⟨_, rfl⟩
  rw [← hNl] at HN hnu HR
  rw [← hu] at hnu
  rw [← hq] at HW hnl
  have Hq := Lib.hid hq
  have Hl := Lib.hid hl
  have Hu := Lib.hid hu
  have HI := Lib.hid hx.all
  have hPu : Hid (∀ W, Calls Tryz.prog 110 #[.int .u64 (n : Int)] W fun e w' => ∃ A' c', e = .returned (.slice A' (vput n).length c') ∧ Own .u8 5 w' W.heap.size A' c' (vput n) ∧ Ext W w') := Lib.hid (fun W => put_any n W (by omega))
  have hvs := vsize_le (u := n) (by omega)
  have Hvs := Lib.hid (show (vput n).length ≤ 10 by rw [vput_len]; exact hvs)
  have hw8 : IntKind.u8.wrap (d : Int) = (d : Int) := IntWalk.u8_in _ (by omega)
  have hw64 : IntKind.u64.wrap (n : Int) = (n : Int) := IntWalk.u64_in _ (by omega)
  clear hx hc h200 hNl hq hl hu hvs
  go_enter Tryz.func68, Tryz.ntmps68
  go_wp2_with fail
  refine (HN.out _ (Ext.refl _)).mono ?_
  rintro e w1 ⟨A1, c1, rfl, ho1, he1⟩
  simp only [← Hu.out]
  go_wp2_with fail
  refine (HW.out _ he1).mono ?_
  rintro e w2 ⟨A2, c2, rfl, ho2, he2⟩
  go_wp2_with fail
  have hr2 : RdX w2 A2 q (nn xs) := by rw [Hq.out]; exact ho2.rdX (fun x h => (HI.out x (nn_mem h)).ext (he1.trans he2))
  have hV := Lib.hid (putValues_any k d A2 q c2 (nn xs) w2 hr2 HC.out (by have := Hl.out; omega) H2.out)
  have hvl := valR_len k d hr2.nums H2.out (by rw [← Hq.out]; have := Hl.out; omega)
  obtain ⟨V, hVV⟩ : ∃ V, V = valR k d (nn xs) := ⟨_, rfl⟩
  rw [← hVV] at hV hvl HR
  obtain ⟨V1, V2⟩ := V
  simp only at hvl HR
  obtain ⟨v, hv⟩ : ∃ v, v = V1.length := ⟨_, rfl⟩
  rw [← hv] at hvl
  have Hv := Lib.hid hv
  have he12 := he1.trans he2
  clear hVV hr2 hv
  refine (hV.out).mono ?_
  rintro e w3 ⟨A3, c3, rfl, ho3, he3⟩
  simp only [← Hv.out]
  have he13 := he12.trans he3
  by_cases hz : V2 = 0
  · subst hz
    have HR2 := Lib.hid (HR.out.trans (if_neg (fun h => h rfl)))
    have hz1 := he1.size
    have hz2 := he12.size
    have hz3 := he13.size
    go_wp2_with fail
    refine (hPu.out _).mono ?_
    rintro e w4 ⟨A4, c4, rfl, ho4, he4⟩
    go_wp2_with fail
    have hfl : ([[d], vput n, Nl, V1] : List (List Nat)).flatten = [d] ++ (vput n ++ (Nl ++ V1)) := by simp
    obtain ⟨M, hM⟩ : ∃ M, M = [d] ++ (vput n ++ (Nl ++ V1)) := ⟨_, rfl⟩
    rw [← hM] at hfl
    have hMl : M.length ≤ 1000700 := by rw [hM, List.length_append, List.length_append, List.length_append, ← Hu.out, ← Hv.out]; have := Hvs.out; simp only [List.length_singleton]; omega
    have hRR : putR k d xs = (M, 0) := by rw [HR2.out, Hl.out, hM]
    have hE4 : Ext w3 w4 := ((Ext.refl w3).alloc _).trans he4
    have hss := RdSS.four 22 w4 (c := 1) (c2 := c4) (c3 := c1) (c4 := c3) rfl ((Rd.lit .u8 5 w3 [d]).ext he4) ho4.rd (((ho1.rd' Hu.out.symm).ext (he2.trans he3)).ext hE4) ((ho3.rd' Hv.out.symm).ext hE4)
    have HCc := Lib.hid (concat_any (some ⟨w4.heap.size, 0, none⟩) 4 4 [[d], vput n, Nl, V1] _ hss (by rw [hfl]; omega) (by decide))
    rw [hfl] at HCc
    clear hM hss
    refine HCc.out.mono ?_
    rintro e w5 ⟨A5, c5, rfl, ho5, he5⟩
    have hE5 : Ext w4 w5 := ((Ext.refl w4).alloc _).trans he5
    go_wp2_with fail
    go_ret2
    have hz4 := hE4.size
    exact PEncPost.good _ hRR rfl (ho5.mono (by rw [World.size_alloc]; omega)) ((he13.trans hE4).trans hE5)
  · have hzb : (V2 == 0) = false := beq_eq_false_iff_ne.2 hz
    have HR2 := Lib.hid (HR.out.trans (if_pos hz))
    clear hz
    go_wp2_with fail
    go_ret2
    exact PEncPost.bad _ HR2.out he13
def bestF (k : Int) (xs : List Ci) : List Int → Int × List Nat → (Int × List Nat) × Int
  | [], s => (s, 0)
  | cd :: cs, s => if (putR k cd xs).2 ≠ 0 then ((0, []), (putR k cd xs).2) else bestF k xs cs (if s.1 = 0 ∨ (putR k cd xs).1.length < s.2.length then (cd, (putR k cd xs).1) else s)
theorem bestF_at {k : Int} {xs : List Ci} {L : List Int} {j : Nat} {cd : Int} (h : L[j]? = some cd) (s : Int × List Nat) : bestF k xs (L.drop j) s = if (putR k cd xs).2 ≠ 0 then ((0, []), (putR k cd xs).2) else bestF k xs (L.drop (j + 1)) (if s.1 = 0 ∨ (putR k cd xs).1.length < s.2.length then (cd, (putR k cd xs).1) else s) := by
  obtain ⟨h1, h2⟩ := List.getElem?_eq_some_iff.1 h
  rw [List.drop_eq_getElem_cons h1, h2]; rfl
theorem codecs_len (k : Int) : (codecs k).length = 3 := by unfold codecs; split <;> rfl
theorem codecs_mem {k cd : Int} (h : cd ∈ codecs k) : 1 ≤ cd ∧ cd ≤ 5 := by
  unfold codecs at h
  split at h <;> simp at h <;> omega
theorem putR_len {k cd : Int} {xs : List Ci} (h : R64s (xs.map Ci.num)) (h2 : ∀ x ∈ xs, x.txt.length ≤ 200) (hn : xs.length ≤ 4096) : (putR k cd xs).1.length ≤ 1000700 := by
  unfold putR
  split
  · simp
  · have h3 := nn_le xs
    have h4 := valR_len k cd (xs := nn xs) (fun v hv => by
      obtain ⟨x, hx, rfl⟩ := List.mem_map.1 hv
      exact h _ (List.mem_map.2 ⟨x, nn_mem hx, rfl⟩)) (fun x hx => h2 x (nn_mem hx)) (by omega)
    have h5 := nullsL_len hn
    have h6 := vsize_le (u := xs.length) (by omega)
    simp only [List.length_append, vput_len, List.length_singleton]
    omega
set_option maxHeartbeats 2000000 in
theorem putBest_any (k : Int) (A : Option Addr) (n c : Nat) (xs : List Ci) (w : World) (hx : RdX w A n xs) (hc : CapX xs) (hn : n ≤ 4096) (h200 : ∀ x ∈ xs, x.txt.length ≤ 200) :
    Calls Tryz.prog 70 #[.int .i64 k, .slice A n c] w fun e w' => ∃ A' c', e = .returned (.tuple #[.int .i64 (bestF k xs (codecs k) (0, [])).1.1, .slice A' (bestF k xs (codecs k) (0, [])).1.2.length c', .int .i64 (bestF k xs (codecs k) (0, [])).2]) ∧ Own .u8 5 w' w.heap.size A' c' (bestF k xs (codecs k) (0, [])).1.2 ∧ Ext w w' := by
  have HP := Lib.hid (fun cd (h : cd ∈ codecs k) W (hW : Ext w W) => bput_any k cd (by have := codecs_mem h; omega) A n c xs W (hx.ext hW) hc hn h200)
  have HL := Lib.hid (fun cd => putR_len (k := k) (cd := cd) hx.nums h200 (by rw [hx.1]; exact hn))
  have HF := Lib.hid (codecsFor_any k w)
  obtain ⟨R, hR⟩ : ∃ R, R = bestF k xs (codecs k) (0, []) := ⟨_, rfl⟩
  rw [← hR]
  have Hs := Lib.hid (show bestF k xs ((codecs k).drop 0) (0, []) = R by rw [hR]; rfl)
  have Ha := Lib.hid (fun (j : Nat) cd (h : (codecs k)[j]? = some cd) s => bestF_at (k := k) (xs := xs) h s)
  have Hcl := Lib.hid (codecs_len k)
  clear hx hc hn h200 hR
  go_enter Tryz.func70, Tryz.ntmps70
  go_wp2_with fail
  refine HF.out.mono ?_
  rintro e w1 ⟨A1, c1, rfl, hr1, he1⟩
  have Hr1 := Lib.hid hr1
  clear hr1
  go_wp2_with fail
  go_loopw [7, 8, 16] (fun y z i wr => ∃ (j l : Nat) (b : Int) (L : List Nat) (A' : Option Addr) (c' : Nat), j ≤ 3 ∧ l ≤ 1000700 ∧ i = .int .i64 (j : Int) ∧ y = .int .i64 b ∧ z = .slice A' l c' ∧ Hid (L.length = l) ∧ Own .u8 5 wr w.heap.size A' c' L ∧ Ext w1 wr ∧ Hid (bestF k xs ((codecs k).drop j) (b, L) = R)) (fun _ _ i _ => 3 - (intOf i).toNat)
  case atStart => exact ⟨0, 0, 0, [], none, 0, by decide, by decide, rfl, rfl, rfl, Lib.hid rfl, Own.nil .., Ext.refl _, Lib.hid Hs.out⟩
  case round =>
    obtain ⟨j, l, b, L, A', c', hj, hl, rfl, rfl, rfl, HK, hO, hE, HB⟩ := hrel
    have HO := Lib.hid hO
    clear hO
    by_cases hlt : j < 3
    · obtain ⟨bb, o, rfl, hb, hcell⟩ := (Hr1.out.ext hE).atZ hlt
      have hget : (codecs k)[j]? = some ((codecs k).getD j 0) := by
        have h2 : j < (codecs k).length := by rw [Hcl.out]; exact hlt
        simp only [List.getD, List.getElem?_eq_getElem h2, Option.getD_some]
      obtain ⟨cd, hcd⟩ : ∃ cd, cd = (codecs k).getD j 0 := ⟨_, rfl⟩
      rw [← hcd] at hcell hget
      have hmem := List.mem_of_getElem? hget
      have Hp := Lib.hid (HP.out cd hmem wr (he1.trans hE))
      have hlen := HL.out cd
      have hB2 := HB.out
      rw [Ha.out j cd hget] at hB2
      obtain ⟨P, hP⟩ : ∃ P, P = putR k cd xs := ⟨_, rfl⟩
      rw [← hP] at Hp hlen hB2
      obtain ⟨P1, P2⟩ := P
      simp only at hlen hB2
      obtain ⟨p, hp⟩ : ∃ p, p = P1.length := ⟨_, rfl⟩
      rw [← hp] at hlen hB2
      rw [HK.out] at hB2
      have Hpp := Lib.hid hp
      have HB2 := Lib.hid hB2
      have hcd1 := (codecs_mem hmem).1
      clear hcd hmem hP hp hB2 hget HB
      by_cases hz : P2 = 0
      · subst hz
        have hB3 := HB2.out
        rw [if_neg (fun h => h rfl)] at hB3
        by_cases hb0 : b = 0
        · subst hb0
          rw [if_pos (.inl rfl)] at hB3
          have HB3 := Lib.hid hB3
          clear hB3
          go_wp2_with fail
          refine Hp.out.mono ?_
          rintro e w2 ⟨A2, c2, rfl, ho2, he2⟩
          simp only [← Hpp.out]
          have hE2 := (he1.trans hE).size
          go_wp2_with fail
          go_roundw
          case rel => exact ⟨j + 1, p, cd, P1, A2, c2, hlt, hlen, by go_num, rfl, rfl, Lib.hid Hpp.out.symm, ho2.mono hE2, hE.trans he2, HB3⟩
          case measure => simp [intOf]; omega
        · have hbb : (b == 0) = false := beq_eq_false_iff_ne.2 hb0
          by_cases hlt2 : p < l
          · rw [if_pos (.inr hlt2)] at hB3
            have HB3 := Lib.hid hB3
            clear hB3 hb0
            have hI : (p : Int) < (l : Int) := by omega
            go_wp2_with fail
            refine Hp.out.mono ?_
            rintro e w2 ⟨A2, c2, rfl, ho2, he2⟩
            simp only [← Hpp.out]
            have hE2 := (he1.trans hE).size
            go_wp2_with fail
            go_roundw
            case rel => exact ⟨j + 1, p, cd, P1, A2, c2, hlt, hlen, by go_num, rfl, rfl, Lib.hid Hpp.out.symm, ho2.mono hE2, hE.trans he2, HB3⟩
            case measure => simp [intOf]; omega
          · rw [if_neg (fun h => h.elim hb0 hlt2)] at hB3
            have HB3 := Lib.hid hB3
            clear hB3 hb0
            have hI : ¬ (p : Int) < (l : Int) := by omega
            go_wp2_with fail
            refine Hp.out.mono ?_
            rintro e w2 ⟨A2, c2, rfl, ho2, he2⟩
            simp only [← Hpp.out]
            go_wp2_with fail
            go_roundw
            case rel => exact ⟨j + 1, l, b, L, A', c', hlt, hl, by go_num, rfl, rfl, HK, HO.out.ext he2, hE.trans he2, HB3⟩
            case measure => simp [intOf]; omega
      · have hzb : (P2 == 0) = false := beq_eq_false_iff_ne.2 hz
        have HR2 := Lib.hid (HB2.out.symm.trans (if_pos hz))
        clear hz
        go_wp2_with fail
        refine Hp.out.mono ?_
        rintro e w2 ⟨A2, c2, rfl, ho2, he2⟩
        simp only [← Hpp.out]
        go_wp2_with fail
        go_ret3
        rw [HR2.out]
        exact ⟨none, 0, rfl, Own.nil .., (he1.trans hE).trans he2⟩
    · obtain rfl : j = 3 := by omega
      have HR2 : Hid (R = ((b, L), 0)) := Lib.hid (by
        have := HB.out
        rw [List.drop_eq_nil_of_le (by rw [Hcl.out]; decide)] at this
        exact this.symm)
      clear HB
      go_wp2
      go_ret3
      rw [HR2.out]
      exact ⟨A', c', by rw [← HK.out]; rfl, HO.out, he1.trans hE⟩
theorem encL_u8b (rs : List (Int × Int)) : U8 (encL rs) := by
  induction rs with
  | nil => intro v hv; cases hv
  | cons r rs ih =>
    rw [encL_cons]
    intro v hv
    rcases List.mem_append.1 hv with h | h
    · exact vput_u8 _ v h
    · rcases List.mem_append.1 h with h | h
      · exact vput_u8 _ v h
      · exact ih v h
theorem e8_u8b (vs : List Int) : U8 (encode8 vs).1 := by
  unfold encode8
  split
  · intro v hv; cases hv
  · intro v hv
    rcases List.mem_append.1 hv with h | h
    · exact vput_u8 _ v h
    · exact encL_u8b _ v h
theorem e9_u8b (vs : List Int) (h : R64s vs) : U8 (encode9 vs).1 := by
  unfold encode9
  split
  · intro v hv; cases hv
  · show U8 (encP vs)
    unfold encP
    split
    · exact vput_u8 _
    · rename_i hn
      have := wid_le h (by omega)
      intro v hv
      rcases List.mem_append.1 hv with h1 | h1
      · exact vput_u8 _ v h1
      · rcases List.mem_append.1 h1 with h1 | h1
        · exact vput_u8 _ v h1
        · rcases List.mem_append.1 h1 with h1 | h1
          · simp at h1; omega
          · exact packB_u8 _ _ v h1
theorem ed_u8b {ss : List (List Nat)} (h : ∀ s ∈ ss, U8 s) : U8 (dencR ss).1 := by
  unfold dencR
  split
  · intro v hv; cases hv
  · exact denc_u8 h
theorem ep_u8b {ss : List (List Nat)} (h : ∀ s ∈ ss, U8 s) : U8 (pencR ss).1 := by
  unfold pencR
  split
  · intro v hv; cases hv
  · exact penc_u8 h
theorem plainL_u8 (k : Int) (xs : List Ci) (h : ∀ x ∈ xs, U8 x.txt) : U8 (plainL k xs) := by
  intro v hv
  unfold plainL at hv
  obtain ⟨l, hl, hv⟩ := List.mem_flatten.1 hv
  obtain ⟨x, hx, rfl⟩ := List.mem_map.1 hl
  exact plain1_u8 (h x hx) v hv
theorem valR_u8 (k cd : Int) {xs : List Ci} (h : R64s (xs.map Ci.num)) (h2 : ∀ x ∈ xs, U8 x.txt) : U8 (valR k cd xs).1 := by
  have h3 : ∀ s ∈ xs.map Ci.txt, U8 s := fun s hs => by
    obtain ⟨x, hx, rfl⟩ := List.mem_map.1 hs
    exact h2 x hx
  unfold valR
  split
  · exact e8_u8b _
  · split
    · exact e9_u8b _ h
    · split
      · exact ed_u8b h3
      · split
        · exact ep_u8b h3
        · exact plainL_u8 k xs h2
theorem nullsL_u8 (xs : List Ci) : U8 (nullsL xs) := by
  unfold nullsL
  split
  · intro v hv
    rcases List.mem_cons.1 hv with h | h
    · omega
    · exact packB_u8 _ _ v h
  · intro v hv
    simp at hv; omega
theorem putR_u8 (k cd : Int) (hcd : 1 ≤ cd ∧ cd ≤ 5) {xs : List Ci} (h : R64s (xs.map Ci.num)) (h2 : ∀ x ∈ xs, U8 x.txt) : U8 (putR k cd xs).1 := by
  unfold putR
  split
  · intro v hv; cases hv
  · refine u8_append ?_ (u8_append (vput_u8 _) (u8_append (nullsL_u8 xs) (valR_u8 k cd ?_ (fun x hx => h2 x (nn_mem hx)))))
    · intro v hv
      simp at hv; omega
    · intro v hv
      obtain ⟨x, hx, rfl⟩ := List.mem_map.1 hv
      exact h _ (List.mem_map.2 ⟨x, nn_mem hx, rfl⟩)
theorem bestF_u8 (k : Int) {xs : List Ci} (h : R64s (xs.map Ci.num)) (h2 : ∀ x ∈ xs, U8 x.txt) : ∀ (L : List Int) (s : Int × List Nat), (∀ cd ∈ L, 1 ≤ cd ∧ cd ≤ 5) → U8 s.2 → U8 (bestF k xs L s).1.2
  | [], s, _, hs => hs
  | cd :: cs, s, hL, hs => by
    have h3 := putR_u8 k cd (hL cd (List.mem_cons_self ..)) h h2
    unfold bestF
    split
    · intro v hv; cases hv
    · refine bestF_u8 k h h2 cs _ (fun c hc => hL c (List.mem_cons_of_mem _ hc)) ?_
      split
      · exact h3
      · exact hs
theorem bestF_len (k : Int) {xs : List Ci} (h : R64s (xs.map Ci.num)) (h2 : ∀ x ∈ xs, x.txt.length ≤ 200) (hn : xs.length ≤ 4096) : ∀ (L : List Int) (s : Int × List Nat), s.2.length ≤ 1000700 → (bestF k xs L s).1.2.length ≤ 1000700
  | [], s, hs => hs
  | cd :: cs, s, hs => by
    have h3 := putR_len (k := k) (cd := cd) h h2 hn
    unfold bestF
    split
    · simp
    · refine bestF_len k h h2 hn cs _ ?_
      split
      · exact h3
      · exact hs
theorem chk_short {k : Int} {nul : Bool} {num : Int} {txt : List Nat} (h : chk k true nul num txt = 0) : txt.length ≤ 200 := by
  unfold chk at h
  split at h
  · omega
  · split at h
    · rw [if_pos rfl] at h
      split at h
      · omega
      · omega
    · split at h
      · split at h
        · omega
        · omega
      · split at h
        · omega
        · split at h
          · omega
          · omega
theorem chkA_all {k : Int} : ∀ {xs : List Ci}, chkA k xs = 0 → ∀ x ∈ xs, chk k true x.nul x.num x.txt = 0
  | [], _, _, h => by cases h
  | y :: ys, h, x, hx => by
    unfold chkA at h
    by_cases hy : chk k true y.nul y.num y.txt = 0
    · rw [if_neg (fun q => q hy)] at h
      rcases List.mem_cons.1 hx with rfl | hx
      · exact hy
      · exact chkA_all h x hx
    · rw [if_pos hy] at h; exact absurd h hy
theorem chkB_good {k : Int} {xs : List Ci} (h : chkB k xs = 0) : xs.length ≤ 4096 ∧ (∀ x ∈ xs, chk k true x.nul x.num x.txt = 0) ∧ ∀ x ∈ xs, x.txt.length ≤ 200 := by
  unfold chkB at h
  split at h
  · omega
  · have h2 := chkA_all h
    exact ⟨by omega, h2, fun x hx => chk_short (h2 x hx)⟩
def bbestR (k : Int) (xs : List Ci) : (Int × List Nat) × Int :=
  if kindK k = false then ((0, []), 1) else if chkB k xs ≠ 0 then ((0, []), chkB k xs) else if (bestF k xs (codecs k) (0, [])).2 ≠ 0 then ((0, []), (bestF k xs (codecs k) (0, [])).2)
  else if sealE (bestF k xs (codecs k) (0, [])).1.2 ≠ 0 then ((0, []), sealE (bestF k xs (codecs k) (0, [])).1.2) else (((bestF k xs (codecs k) (0, [])).1.1, sealL (bestF k xs (codecs k) (0, [])).1.2), 0)
def BestPost (R : (Int × List Nat) × Int) (w : World) (e : Ending) (w' : World) : Prop :=
  ∃ A' c', e = .returned (.tuple #[.int .i64 R.1.1, .slice A' R.1.2.length c', .int .i64 R.2]) ∧ Own .u8 5 w' w.heap.size A' c' R.1.2 ∧ Ext w w'
theorem BestPost.bad {w w' : World} (R : (Int × List Nat) × Int) {E : Int} (h : R = ((0, []), E)) (he : Ext w w') : BestPost R w (.returned (.tuple #[.int .i64 0, .slice none 0 0, .int .i64 E])) w' := by
  subst h
  exact ⟨none, 0, rfl, Own.nil .., he⟩
set_option maxHeartbeats 2000000 in
theorem bbest_any (k : Int) (A : Option Addr) (n c : Nat) (xs : List Ci) (w : World) (hx : RdX w A n xs) (hc : CapX xs) (hn : n ≤ 281474976710656) :
    Calls Tryz.prog 36 #[.int .i64 k, .slice A n c] w (BestPost (bbestR k xs) w) := by
  have HK := Lib.hid (isKindB_any k)
  have HC := Lib.hid (fun W (hW : Ext w W) => checkB_any k A n c xs W (hx.ext hW) hn)
  have HR : Hid (bbestR k xs = if kindK k = false then ((0, []), 1) else if chkB k xs ≠ 0 then ((0, []), chkB k xs) else if (bestF k xs (codecs k) (0, [])).2 ≠ 0 then ((0, []), (bestF k xs (codecs k) (0, [])).2)
  else if sealE (bestF k xs (codecs k) (0, [])).1.2 ≠ 0 then ((0, []), sealE (bestF k xs (codecs k) (0, [])).1.2) else (((bestF k xs (codecs k) (0, [])).1.1, sealL (bestF k xs (codecs k) (0, [])).1.2), 0)) := Lib.hid rfl
  have Hx := Lib.hid hx
  have Hc := Lib.hid hc
  obtain ⟨B, hB⟩ : ∃ B, B = kindK k := ⟨_, rfl⟩
  rw [← hB] at HK HR
  obtain ⟨E, hE⟩ : ∃ E, E = chkB k xs := ⟨_, rfl⟩
  rw [← hE] at HC HR
  have HE := Lib.hid hE
  clear hx hc hB hE
  cases B with
  | false =>
    have HR2 := Lib.hid (HR.out.trans (if_pos rfl))
    clear HR
    go_enter Tryz.func36, Tryz.ntmps36
    go_wp2_with fail
    refine (HK.out _).mono ?_
    rintro e w1 ⟨rfl, he1⟩
    go_wp2_with fail
    go_ret3
    exact BestPost.bad _ HR2.out he1
  | true =>
    have HR4 := Lib.hid (HR.out.trans (if_neg (by decide)))
    clear HR
    by_cases hz : E = 0
    · subst hz
      have HR5 := Lib.hid (HR4.out.trans (if_neg (fun h => h rfl)))
      clear HR4
      obtain ⟨g1, g2, g3⟩ := chkB_good HE.out.symm
      have hl := Hx.out.1
      have HP := Lib.hid (fun W (hW : Ext w W) => putBest_any k A n c xs W (Hx.out.ext hW) Hc.out (by omega) g3)
      have HU := Lib.hid (bestF_u8 k Hx.out.nums (fun x hx => (Hx.out.all x hx).u8) (codecs k) (0, []) (fun cd h => codecs_mem h) (fun v hv => by cases hv))
      have HL := Lib.hid (bestF_len k Hx.out.nums g3 g1 (codecs k) (0, []) (by simp))
      obtain ⟨P, hP⟩ : ∃ P, P = bestF k xs (codecs k) (0, []) := ⟨_, rfl⟩
      rw [← hP] at HP HU HL HR5
      obtain ⟨⟨P0, P1⟩, P2⟩ := P
      simp only at HU HL HR5 HP
      clear g1 g2 g3 hl hP
      by_cases hp : P2 = 0
      · subst hp
        have HR6 := Lib.hid (HR5.out.trans (if_neg (fun h => h rfl)))
        clear HR5
        have HS := Lib.hid (fun A4 c4 w4 (ho4 : Rd .u8 w4 A4 P1.length P1) => bseal_any A4 _ c4 P1 w4 ho4 HU.out (by have := HL.out; omega))
        obtain ⟨SE, hSE⟩ : ∃ SE, SE = sealE P1 := ⟨_, rfl⟩
        rw [← hSE] at HS HR6
        clear hSE
        by_cases hs : SE = 0
        · subst hs
          have HR7 := Lib.hid (HR6.out.trans (if_neg (fun h => h rfl)))
          clear HR6
          go_enter Tryz.func36, Tryz.ntmps36
          go_wp2_with fail
          refine (HK.out _).mono ?_
          rintro e w1 ⟨rfl, he1⟩
          go_wp2_with fail
          refine (HC.out _ he1).mono ?_
          rintro e w3 ⟨rfl, he3⟩
          go_wp2_with fail
          refine (HP.out _ (he1.trans he3)).mono ?_
          rintro e w4 ⟨A4, c4, rfl, ho4, he4⟩
          go_wp2_with fail
          refine (HS.out A4 c4 w4 ho4.rd).mono ?_
          rintro e w5 ⟨A5, c5, rfl, ho5, he5⟩
          go_wp2_with fail
          go_ret3
          rw [HR7.out]
          have hE := (he1.trans he3).trans he4
          exact ⟨A5, c5, rfl, ho5.mono hE.size, hE.trans he5⟩
        · have hsb : (SE == 0) = false := beq_eq_false_iff_ne.2 hs
          have HR7 := Lib.hid (HR6.out.trans (if_pos hs))
          clear HR6 hs
          go_enter Tryz.func36, Tryz.ntmps36
          go_wp2_with fail
          refine (HK.out _).mono ?_
          rintro e w1 ⟨rfl, he1⟩
          go_wp2_with fail
          refine (HC.out _ he1).mono ?_
          rintro e w3 ⟨rfl, he3⟩
          go_wp2_with fail
          refine (HP.out _ (he1.trans he3)).mono ?_
          rintro e w4 ⟨A4, c4, rfl, ho4, he4⟩
          go_wp2_with fail
          refine (HS.out A4 c4 w4 ho4.rd).mono ?_
          rintro e w5 ⟨A5, c5, rfl, ho5, he5⟩
          go_wp2_with fail
          go_ret3
          exact BestPost.bad _ HR7.out (((he1.trans he3).trans he4).trans he5)
      · have hpb : (P2 == 0) = false := beq_eq_false_iff_ne.2 hp
        have HR6 := Lib.hid (HR5.out.trans (if_pos hp))
        clear HR5 hp
        go_enter Tryz.func36, Tryz.ntmps36
        go_wp2_with fail
        refine (HK.out _).mono ?_
        rintro e w1 ⟨rfl, he1⟩
        go_wp2_with fail
        refine (HC.out _ he1).mono ?_
        rintro e w3 ⟨rfl, he3⟩
        go_wp2_with fail
        refine (HP.out _ (he1.trans he3)).mono ?_
        rintro e w4 ⟨A4, c4, rfl, ho4, he4⟩
        go_wp2_with fail
        go_ret3
        exact BestPost.bad _ HR6.out ((he1.trans he3).trans he4)
    · have hzb : (E == 0) = false := beq_eq_false_iff_ne.2 hz
      have HR5 := Lib.hid (HR4.out.trans (if_pos hz))
      clear HR4 hz
      go_enter Tryz.func36, Tryz.ntmps36
      go_wp2_with fail
      refine (HK.out _).mono ?_
      rintro e w1 ⟨rfl, he1⟩
      go_wp2_with fail
      refine (HC.out _ he1).mono ?_
      rintro e w3 ⟨rfl, he3⟩
      go_wp2_with fail
      go_ret3
      exact BestPost.bad _ HR5.out (he1.trans he3)
set_option maxHeartbeats 1000000 in
theorem howMany_any (A : Option Addr) (n c : Nat) (xs : List Nat) (v : Nat) (w : World) (hx : Rd .u64 w A n xs) (hn : n ≤ 281474976710656) :
    Calls Tryz.prog 80 #[.slice A n c, .int .u64 (v : Int)] w fun e w' => e = .returned (.int .i64 (xs.count v : Nat)) ∧ w = w' := by
  have Hl := Lib.hid hx.len
  have Hx := Lib.hid hx
  clear hx
  go_enter Tryz.func80, Tryz.ntmps80
  go_wp2_with fail
  go_loop [5, 9] (fun y i => ∃ j k : Nat, j ≤ n ∧ k ≤ j ∧ y = .int .i64 (k : Int) ∧ i = .int .i64 (j : Int) ∧ Hid ((xs.take j).count v = k)) (fun _ i => n - (intOf i).toNat)
  case atStart => exact ⟨0, 0, Nat.zero_le _, Nat.le_refl _, rfl, rfl, Lib.hid rfl⟩
  case round =>
    obtain ⟨j, k, hj, hk, rfl, rfl, HJ⟩ := hrel
    by_cases hlt : j < n
    · obtain ⟨b, o, rfl, hb, hcell⟩ := Hx.out.at_ hlt
      have h2 : j < xs.length := by rw [Hl.out]; exact hlt
      have ht : xs.take (j + 1) = xs.take j ++ [xs.getD j 0] := by rw [List.take_succ_eq_append_getElem h2]; simp [List.getD, h2]
      obtain ⟨x, hx⟩ : ∃ x, x = xs.getD j 0 := ⟨_, rfl⟩
      rw [← hx] at hcell ht
      have Ht := Lib.hid ht
      clear hx ht h2
      by_cases hv : x = v
      · subst hv
        go_wp2_with fail
        go_round
        case rel => exact ⟨j + 1, k + 1, hlt, by omega, by go_num, by go_num, Lib.hid (by rw [Ht.out, List.count_append, HJ.out]; simp)⟩
        case measure => simp [intOf]; omega
      · have hvb : ((x : Int) == (v : Int)) = false := beq_eq_false_iff_ne.2 (by omega)
        have Hv := Lib.hid hv
        clear hv
        go_wp2_with fail
        go_round
        case rel => exact ⟨j + 1, k, hlt, by omega, rfl, by go_num, Lib.hid (by rw [Ht.out, List.count_append, HJ.out, List.count_singleton]; simp [Hv.out])⟩
        case measure => simp [intOf]; omega
    · obtain rfl : j = n := by omega
      have hE := HJ.out
      rw [List.take_of_length_le (Nat.le_of_eq Hl.out)] at hE
      have HE := Lib.hid hE
      clear hE
      go_wp2
      go_ret
      exact ⟨by rw [HE.out]; rfl, rfl⟩
theorem unp_len12 {N len : Nat} {wd cnt : Int} (h : unpE N len wd cnt = 0) : (unpL N len wd cnt).length = cnt.toNat := by rw [unp_ok h, upk_len]
def rowR (bs : List Nat) (a n : Nat) : (List Nat × Int) × Int :=
  if bs.length < a + (n + 7) / 8 then (([], 0), 2)
  else if unpE (pk 8 ((bs.drop a).take ((n + 7) / 8))) ((n + 7) / 8) 1 n ≠ 0 then (([], 0), unpE (pk 8 ((bs.drop a).take ((n + 7) / 8))) ((n + 7) / 8) 1 n)
  else if (unpL (pk 8 ((bs.drop a).take ((n + 7) / 8))) ((n + 7) / 8) 1 n).count 1 = 0 then (([], 0), 5)
  else ((unpL (pk 8 ((bs.drop a).take ((n + 7) / 8))) ((n + 7) / 8) 1 n, (a + (n + 7) / 8 : Nat)), 0)
def nullR (bs : List Nat) (a n : Nat) : (List Nat × Int) × Int :=
  if a = bs.length then (([], 0), 2) else if bs.getD a 0 = 0 then ((List.replicate n 0, (a + 1 : Nat)), 0) else if bs.getD a 0 = 1 then rowR bs (a + 1) n else (([], 0), 5)
def NulPost (R : (List Nat × Int) × Int) (w : World) (e : Ending) (w' : World) : Prop :=
  ∃ A' c', e = .returned (.tuple #[.slice A' R.1.1.length c', .int .i64 R.1.2, .int .i64 R.2]) ∧ Own .u64 69 w' w.heap.size A' c' R.1.1 ∧ Ext w w'
theorem NulPost.bad {w w' : World} (R : (List Nat × Int) × Int) {E : Int} (h : R = (([], 0), E)) (he : Ext w w') : NulPost R w (.returned (.tuple #[.slice none 0 0, .int .i64 0, .int .i64 E])) w' := by
  subst h
  exact ⟨none, 0, rfl, Own.nil .., he⟩
set_option maxHeartbeats 2000000 in
theorem getRow_any (A : Option Addr) (m c a n : Nat) (bs : List Nat) (w : World) (hx : Rd .u8 w A m bs) (hu : U8 bs) (hm : m ≤ 140737488355328) (hc : m ≤ c) (_hc2 : c ≤ 9223372036854775807) (ha : a ≤ m) (hn : n ≤ 4096) :
    Calls Tryz.prog 118 #[.slice A m c, .int .i64 (a : Int), .int .i64 (n : Int)] w (NulPost (rowR bs a n) w) := by
  have hl := hx.len
  have hR := rowR.eq_1 bs a n
  obtain ⟨s, hs⟩ : ∃ s, s = (n + 7) / 8 := ⟨_, rfl⟩
  rw [← hs, hl] at hR
  have hs1 : s ≤ 512 := by omega
  have hdv : Int.tdiv ((n : Int) + 7) 8 = (s : Int) := by rw [Int.tdiv_eq_ediv_of_nonneg (by omega)]; omega
  clear hs
  by_cases h1 : m < a + s
  · have HR := Lib.hid (hR.trans (if_pos h1))
    have hI : (s : Int) > (m : Int) - (a : Int) := by omega
    clear hR h1 hx
    go_enter Tryz.func118, Tryz.ntmps118
    go_wp2_with fail
    go_ret3
    exact NulPost.bad _ HR.out (Ext.refl _)
  · replace hR := hR.trans (if_neg h1)
    have hI : ¬ (s : Int) > (m : Int) - (a : Int) := by omega
    have sc := run_cut A m c a (a + s) (by omega) (by omega)
    have hr := hx.cut (l := a) (h := a + s) (c := c) (by omega) (by omega) hc
    rw [show a + s - a = s by omega] at hr sc
    obtain ⟨A9, hA9⟩ : ∃ A9, A9 = offA A a c := ⟨_, rfl⟩
    rw [← hA9] at hr sc
    obtain ⟨r, hre⟩ : ∃ r, r = (bs.drop a).take s := ⟨_, rfl⟩
    rw [← hre] at hr hR
    have hru : U8 r := by rw [hre]; exact fun v hv => hu v (List.mem_of_mem_drop (List.mem_of_mem_take hv))
    have HU := Lib.hid (unpack_any A9 s (c - a) 1 (n : Int) r w hr hru (by omega))
    unfold UnpPost at HU
    have HL := Lib.hid (fun h : unpE (pk 8 r) s 1 (n : Int) = 0 => unp_len12 h)
    obtain ⟨E, hE⟩ : ∃ E, E = unpE (pk 8 r) s 1 (n : Int) := ⟨_, rfl⟩
    obtain ⟨us, hus⟩ : ∃ us, us = unpL (pk 8 r) s 1 (n : Int) := ⟨_, rfl⟩
    rw [← hE, ← hus] at hR
    rw [← hE, ← hus] at HU HL
    have sc2 : ∀ W : World, (Instr.slice 22 (.slice A m c) (some (.int .i64 (a : Int))) (some (.int .i64 ((a : Int) + (s : Int)))) none).run Tryz.prog W = .ok (.slice A9 s (c - a : Nat)) W := sc
    clear hE hus hre hru hr hA9 hx hu h1 sc
    by_cases hz : E = 0
    · subst hz
      replace hR := hR.trans (if_neg (fun h => h rfl))
      have hul : us.length = n := by have := HL.out rfl; omega
      rw [hul] at HU
      have Hul := Lib.hid hul
      have HM := Lib.hid (fun A W cc (h : Rd .u64 W A n us) => howMany_any A n cc us 1 W h (by omega))
      by_cases hk : us.count 1 = 0
      · have HR := Lib.hid (hR.trans (if_pos hk))
        rw [hk] at HM
        clear hR hk hul
        go_enter Tryz.func118, Tryz.ntmps118
        go_wp2_with fail
        refine HU.out.mono ?_
        rintro e w1 ⟨A1, c1, rfl, ho, he⟩
        go_wp2_with fail
        refine (HM.out A1 w1 c1 (ho.rd' Hul.out)).mono ?_
        rintro e w2 ⟨rfl, rfl⟩
        go_wp2_with fail
        go_ret3
        exact NulPost.bad _ HR.out he
      · have HR := Lib.hid (hR.trans (if_neg hk))
        obtain ⟨q, hq⟩ : ∃ q, q = us.count 1 := ⟨_, rfl⟩
        rw [← hq] at hk HM
        have hkb : ((q : Int) == 0) = false := beq_eq_false_iff_ne.2 (by omega)
        clear hR hk hul hq
        go_enter Tryz.func118, Tryz.ntmps118
        go_wp2_with fail
        refine HU.out.mono ?_
        rintro e w1 ⟨A1, c1, rfl, ho, he⟩
        go_wp2_with fail
        refine (HM.out A1 w1 c1 (ho.rd' Hul.out)).mono ?_
        rintro e w2 ⟨rfl, rfl⟩
        go_wp2_with fail
        go_ret3
        rw [HR.out]
        exact ⟨A1, c1, by rw [Hul.out]; rfl, ho, he⟩
    · have HR := Lib.hid (hR.trans (if_pos hz))
      have hzb : (E == 0) = false := beq_eq_false_iff_ne.2 hz
      clear hR hz
      go_enter Tryz.func118, Tryz.ntmps118
      go_wp2_with fail
      refine HU.out.mono ?_
      rintro e w1 ⟨A1, c1, rfl, ho, he⟩
      go_wp2_with fail
      go_ret3
      exact NulPost.bad _ HR.out he
set_option maxHeartbeats 2000000 in
theorem getNulls_any (A : Option Addr) (m c a n : Nat) (bs : List Nat) (w : World) (hx : Rd .u8 w A m bs) (hu : U8 bs) (hm : m ≤ 140737488355328) (hc : m ≤ c) (hc2 : c ≤ 9223372036854775807) (ha : a ≤ m) (hn : n ≤ 4096) :
    Calls Tryz.prog 78 #[.slice A m c, .int .i64 (a : Int), .int .i64 (n : Int)] w (NulPost (nullR bs a n) w) := by
  have hl := hx.len
  have hR := nullR.eq_1 bs a n
  rw [hl] at hR
  by_cases h1 : a = m
  · have HR := Lib.hid (hR.trans (if_pos h1))
    subst h1
    clear hR hx
    go_enter Tryz.func78, Tryz.ntmps78
    go_wp2_with fail
    go_ret3
    exact NulPost.bad _ HR.out (Ext.refl _)
  · replace hR := hR.trans (if_neg h1)
    have hab : ((a : Int) == (m : Int)) = false := beq_eq_false_iff_ne.2 (by omega)
    have HG := Lib.hid (getRow_any A m c (a + 1) n bs w hx hu hm hc hc2 (by omega) hn)
    obtain ⟨b, o, rfl, hb, hcell⟩ := hx.at_ (show a < m by omega)
    obtain ⟨x, hxx⟩ : ∃ x, x = bs.getD a 0 := ⟨_, rfl⟩
    rw [← hxx] at hcell hR
    have hlt : a < m := by omega
    clear hxx hx hu h1
    by_cases h0 : x = 0
    · subst h0
      have HR := Lib.hid (hR.trans (if_pos rfl))
      rw [show ((0 : Nat) : Int) = 0 from rfl] at hcell
      clear hR
      go_enter Tryz.func78, Tryz.ntmps78
      go_wp2_with (first | (at_make; refine wpList_mk .u64 69 rfl _ _ 72 rfl 8 Tryz.underlying72 Tryz.infoU64 _ _ n rfl rfl rfl rfl (by omega) (by omega) ?_; intro w7 hown7 he7) | fail)
      go_ret3
      rw [HR.out]
      exact ⟨_, n, by simp, hown7, he7⟩
    · replace hR := hR.trans (if_neg h0)
      have h0b : ((x : Int) == 0) = false := beq_eq_false_iff_ne.2 (by omega)
      by_cases h1 : x = 1
      · subst h1
        have HR := Lib.hid (hR.trans (if_pos rfl))
        rw [show ((1 : Nat) : Int) = 1 from rfl] at hcell
        clear h0 h0b
        obtain ⟨R, hRR⟩ : ∃ R, R = rowR bs (a + 1) n := ⟨_, rfl⟩
        rw [← hRR] at HG HR
        clear hR hRR
        go_enter Tryz.func78, Tryz.ntmps78
        go_wp2_with fail
        refine HG.out.mono ?_
        rintro e w1 ⟨A1, c1, rfl, ho, he⟩
        go_wp2_with fail
        go_ret3
        rw [HR.out]
        exact ⟨A1, c1, rfl, ho, he⟩
      · have HR := Lib.hid (hR.trans (if_neg h1))
        have h1b : ((x : Int) == 1) = false := beq_eq_false_iff_ne.2 (by omega)
        clear hR h0 h1
        go_enter Tryz.func78, Tryz.ntmps78
        go_wp2_with fail
        go_ret3
        exact NulPost.bad _ HR.out (Ext.refl _)
end Go.Proofs.YthibbgmicmfkfaaGreat
