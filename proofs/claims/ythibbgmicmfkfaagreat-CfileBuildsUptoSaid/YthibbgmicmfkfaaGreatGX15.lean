import Derived.Test.YthibbgmicmfkfaaGreatGX14
import Derived.Deep.RegionHeld3
namespace Go.Proofs.YthibbgmicmfkfaaGreat
open Go.RowKit
set_option maxRecDepth 100000
def outW (k cd : Int) (xs : List Ci) : List Nat := [cd.toNat] ++ (vput xs.length ++ (nullsL xs ++ (valR k cd (nn xs)).1))
theorem outW_u8 (k cd : Int) (hcd : 1 ≤ cd ∧ cd ≤ 5) {xs : List Ci} (h : R64s (xs.map Ci.num)) (h2 : ∀ x ∈ xs, U8 x.txt) : U8 (outW k cd xs) := by
  unfold outW
  refine u8_append ?_ (u8_append (vput_u8 _) (u8_append (nullsL_u8 xs) (valR_u8 k cd ?_ (fun x hx => h2 x (nn_mem hx)))))
  · intro v hv
    simp at hv; omega
  · intro v hv
    obtain ⟨x, hx, rfl⟩ := List.mem_map.1 hv
    exact h _ (List.mem_map.2 ⟨x, nn_mem hx, rfl⟩)
def smL (us : List Nat) : Nat := if 1 ∈ us then 1 else 0
theorem smL_one (us : List Nat) : smL (us ++ [1]) = 1 := if_pos (by simp)
theorem smL_nul (us : List Nat) : smL (us ++ [0]) = smL us := by unfold smL; simp
theorem push2_grown {w w' : World} {A A' : Option Addr} (h : A' = A ∧ w.grownBy w' (A.map (·.block)) ∨ Ext w w' ∧ ∀ q, A' = some q → w.heap.size ≤ q.block) : w.grownBy w' (A.map (·.block)) := by
  rcases h with ⟨_, h⟩ | ⟨h, _⟩
  · exact h
  · exact ⟨h.os, h.tape, h.output, h.size, fun b hb _ => h.block b hb⟩
set_option maxHeartbeats 6400000 in
theorem refWrite_any (k cd : Int) (A : Option Addr) (n c : Nat) (xs : List Ci) (w : World) (hx : RdX w A n xs) (hc : CapX xs) (hk : 1 ≤ k ∧ k ≤ 8) (hcd : 1 ≤ cd ∧ cd ≤ 5) (hn : n ≤ 4096) (h200 : ∀ x ∈ xs, x.txt.length ≤ 200) :
    Calls Tryz.prog 136 #[.int .i64 k, .int .i64 cd, .slice A n c] w (PEncPost (sealL (outW k cd xs), sealE (outW k cd xs)) w) := by
  obtain ⟨d, rfl⟩ : ∃ d : Nat, cd = d := ⟨cd.toNat, by omega⟩
  have Hx := Lib.hid hx
  have Hl := Lib.hid hx.1
  have Hc := Lib.hid hc
  have H2 := Lib.hid h200
  have HU := Lib.hid (outW_u8 k d hcd hx.nums (fun x h => (hx.all x h).u8))
  have Hnb := Lib.hid (show (nb xs).length = n by rw [nb_len]; exact hx.1)
  have hvl0 := valR_len k d (xs := nn xs) (fun v hv => by
    obtain ⟨x, h, rfl⟩ := List.mem_map.1 hv
    exact hx.nums _ (List.mem_map_of_mem (nn_mem h))) (fun x h => h200 x (nn_mem h)) (by have := nn_le xs; have := hx.1; omega)
  obtain ⟨V, hV⟩ : ∃ V, V = (valR k d (nn xs)).1 := ⟨_, rfl⟩
  obtain ⟨O, hO⟩ : ∃ O, O = outW k d xs := ⟨_, rfl⟩
  have HOv : Hid (O = ([d] ++ vput n) ++ (nullsL xs ++ V)) := Lib.hid (by rw [hO, hV]; unfold outW; rw [hx.1, Int.toNat_natCast, List.append_assoc])
  rw [← hO] at HU ⊢
  rw [← hV] at hvl0
  have HV := Lib.hid hV
  obtain ⟨vl, hvl⟩ : ∃ vl, vl = V.length := ⟨_, rfl⟩
  rw [← hvl] at hvl0
  have Hvl := Lib.hid hvl
  obtain ⟨lo, hlo⟩ : ∃ lo, lo = O.length := ⟨_, rfl⟩
  have Hlo := Lib.hid hlo
  obtain ⟨pn, hpn⟩ : ∃ pn, pn = vput n := ⟨_, rfl⟩
  have hpn1 : pn.length ≤ 10 := by rw [hpn, vput_len]; exact vsize_le (by omega)
  obtain ⟨p, hp⟩ : ∃ p, p = pn.length := ⟨_, rfl⟩
  have Hp := Lib.hid hp
  rw [← hp] at hpn1
  rw [← hpn] at HOv
  have hlob : lo ≤ 1002000 := by rw [hlo, HOv.out, List.length_append, List.length_append, List.length_append, ← hp, ← hvl]; have := nullsL_len (xs := xs) (by rw [hx.1]; exact hn); simp only [List.length_singleton]; omega
  have hPu : Hid (∀ W, Calls Tryz.prog 94 #[.int .u64 (n : Int)] W fun e w' => ∃ A' c', e = .returned (.slice A' p c') ∧ Own .u8 5 w' W.heap.size A' c' pn ∧ Ext W w') := Lib.hid (fun W => by
    have := refPut_any n W (by omega)
    rw [← hpn, ← hp] at this
    exact this)
  have hw8 : IntKind.u8.wrap (d : Int) = (d : Int) := IntWalk.u8_in _ (by omega)
  have hw64 : IntKind.u64.wrap (n : Int) = (n : Int) := IntWalk.u64_in _ (by omega)
  have H0 : Hid (Own .u8 5 (w.alloc (.cells #[.int .u8 (d : Int)] 5)) w.heap.size (some ⟨w.heap.size, 0, none⟩) 1 [d]) := Lib.hid (ownLit w [d] (by simp))
  clear hx hc h200 hV hO hvl hlo hpn hp
  go_enter Tryz.func136, Tryz.ntmps136
  go_wp2_with fail
  refine (hPu.out _).mono ?_
  rintro e w1 ⟨A1, c1, rfl, ho1, he1⟩
  have HE1 : Hid (Ext w w1) := Lib.hid (((Ext.refl w).alloc _).trans he1)
  have HO1 := Lib.hid (H0.out.ext he1)
  have Hne1 : Hid (∀ p q, some (⟨w.heap.size, 0, none⟩ : Addr) = some p → A1 = some q → p.block ≠ q.block) := Lib.hid (fun p q hp hq => by
    injection hp with hp
    have a2 := (ho1.block q hq).1
    rw [← hp]
    simp only [World.size_alloc] at a2 ⊢
    omega)
  have HA1 := Lib.hid (add12_any (some ⟨w.heap.size, 0, none⟩) A1 1 1 p c1 w.heap.size [d] pn w1 HO1.out rfl (ho1.rd' Hp.out.symm) (fun _ => Hne1.out) HE1.out.size (by omega))
  obtain ⟨q, hq⟩ : ∃ q, q = 1 + p := ⟨_, rfl⟩
  rw [← hq] at HA1
  have hqb : q ≤ 11 := by omega
  have Hq := Lib.hid hq
  clear hq
  go_wp2_with fail
  refine HA1.out.mono ?_
  rintro e w2 ⟨A2, c2, rfl, ho2, hg2⟩
  have HE2 := Lib.hid (Own.grown_ext HO1.out HE1.out (Nat.le_refl _) hg2)
  have HO2 := Lib.hid (ho2.ext ((Ext.refl w2).alloc (.cells #[] 69)))
  have HS2 : Hid (Own .u64 69 (w2.alloc (.cells #[] 69)) w.heap.size (some ⟨w2.heap.size, 0, none⟩) 0 ((nb xs).take 0)) := Lib.hid ((Own.made .u64 69 w2 (Nat.le_refl _)).mono HE2.out.size)
  have HL2 : Hid (([d] ++ pn).length = q) := Lib.hid (by rw [Hq.out, List.length_append, ← Hp.out]; rfl)
  clear ho2 hg2
  go_wp2_with fail
  go_loopw [9, 10, 11] (fun us sm i wr => ∃ (j S : Nat) (Au : Option Addr) (cu : Nat), j ≤ n ∧ i = .int .i64 j ∧ us = .slice Au j cu ∧ sm = .int .u8 S ∧ Hid (S = smL ((nb xs).take j)) ∧ Hid (Own .u64 69 wr w.heap.size Au cu ((nb xs).take j)) ∧ Hid (Own .u8 5 wr w.heap.size A2 c2 ([d] ++ pn)) ∧ Hid (Ext w wr)) (fun _ _ i _ => n - (intOf i).toNat)
  case atStart => exact ⟨0, 0, _, _, Nat.zero_le _, rfl, rfl, rfl, rfl, HS2.out, HO2.out, HE2.out.alloc _⟩
  case round =>
    clear HO2 HS2
    obtain ⟨j, S, Au, cu, hj, rfl, rfl, rfl, HS, HUs, HOs, HE⟩ := hrel
    by_cases hlt : j < n
    · obtain ⟨b, o, x, rfl, hbl0, hxj, x0, x1, x2, xin⟩ := (Hx.out.ext HE.out).at_ hlt
      have hat := nb_at hxj
      have Htl := Lib.hid (show ((nb xs).take j).length = j by rw [List.length_take, Hnb.out]; omega)
      have hz := HE.out.size
      obtain ⟨xn, xi, xA, xc, xt⟩ := x
      simp only at x0 x1 x2 hat
      clear xin hxj
      cases xn with
      | true =>
        have Hnx : Hid ((nb xs).take (j + 1) = (nb xs).take j ++ [1]) := Lib.hid (by rw [List.take_add_one, hat]; rfl)
        clear hat
        go_wp2_with (at_builtin; refine wpList_push2 .u64 1 69 rfl _ _ 72 rfl _ 8 Tryz.underlying72 Tryz.infoU64 rfl HUs.out j Htl.out rfl rfl rfl (by omega) (by omega) hz ?_; intro A3 c3 w3 ho3 hw3 hz3)
        have hg3 := push2_grown hw3
        have HO3 := Lib.hid (HOs.out.grown hg3 (off12 (rows_ne (by decide) HUs.out HOs.out)))
        have HE3 := Lib.hid (Own.grown_ext HUs.out HE.out (Nat.le_refl _) hg3)
        go_roundw
        case rel => exact ⟨j + 1, 1, A3, c3, hlt, by go_num, by go_num, rfl, Lib.hid (by rw [Hnx.out, smL_one]), (by rw [Hnx.out]; exact ho3), HO3.out, HE3.out⟩
        case measure => simp [intOf]; omega
      | false =>
        have Hnx : Hid ((nb xs).take (j + 1) = (nb xs).take j ++ [0]) := Lib.hid (by rw [List.take_add_one, hat]; rfl)
        clear hat
        go_wp2_with (at_builtin; refine wpList_push2 .u64 0 69 rfl _ _ 72 rfl _ 8 Tryz.underlying72 Tryz.infoU64 rfl HUs.out j Htl.out rfl rfl rfl (by omega) (by omega) hz ?_; intro A3 c3 w3 ho3 hw3 hz3)
        have hg3 := push2_grown hw3
        have HO3 := Lib.hid (HOs.out.grown hg3 (off12 (rows_ne (by decide) HUs.out HOs.out)))
        have HE3 := Lib.hid (Own.grown_ext HUs.out HE.out (Nat.le_refl _) hg3)
        go_roundw
        case rel => exact ⟨j + 1, S, A3, c3, hlt, by go_num, by go_num, rfl, (by rw [Hnx.out, smL_nul]; exact HS.out), (by rw [Hnx.out]; exact ho3), HO3.out, HE3.out⟩
        case measure => simp [intOf]; omega
    · obtain rfl : j = n := by omega
      rw [List.take_of_length_le (Nat.le_of_eq Hnb.out)] at HS HUs
      have hz := HE.out.size
      have hpk := nb_pack (xs := xs) (by rw [Hl.out]; exact hn)
      have hpb : packL 1 (nb xs) = packB 1 (nb xs) := by unfold packL; rw [hpk, if_pos rfl]; rfl
      have Hpk := Lib.hid hpk
      have Hpb := Lib.hid hpb
      clear hpk hpb hlt
      by_cases h1 : 1 ∈ nb xs
      · have hN : nullsL xs = 1 :: packB 1 (nb xs) := if_pos h1
        have hS1 : S = 1 := HS.out.trans (if_pos h1)
        subst hS1
        obtain ⟨R, hR⟩ : ∃ R, R = packB 1 (nb xs) := ⟨_, rfl⟩
        rw [← hR] at hN
        have hRl : R.length ≤ 512 := by rw [hR]; unfold packB; rw [upk_len, Hnb.out]; omega
        obtain ⟨r, hr⟩ : ∃ r, r = R.length := ⟨_, rfl⟩
        rw [← hr] at hRl
        have HPk : Hid (∀ W, Rd .u64 W Au j (nb xs) → Calls Tryz.prog 165 #[.int .i64 1, .slice Au j cu] W fun e w' => ∃ A' c', e = .returned (.tuple #[.slice A' r c', .int .i64 0]) ∧ Own .u8 5 w' W.heap.size A' c' R ∧ Ext W w') := Lib.hid (fun W hW => by
          have := refPack_any Au j cu 1 (nb xs) W hW (nb_u64 xs) (by omega)
          unfold PackPost at this
          rw [Hpk.out, Hpb.out, ← hR, ← hr] at this
          exact this)
        have Hr := Lib.hid hr
        have HN := Lib.hid hN
        clear hR hr hN h1 HS
        go_wp2_with (at_builtin; refine wpList_push2 .u8 1 5 rfl _ _ 22 rfl _ 1 Tryz.underlying22 Tryz.infoU8 rfl HOs.out q HL2.out rfl rfl rfl (by omega) (by omega) hz ?_; intro A3 c3 w3 ho3 hw3 hz3)
        have hg3 := push2_grown hw3
        have HS3 := Lib.hid (HUs.out.grown hg3 (off12 (rows_ne (by decide) HOs.out HUs.out)))
        have HE3 := Lib.hid (Own.grown_ext HOs.out HE.out (Nat.le_refl _) hg3)
        have HP3 := Lib.hid (HPk.out w3 (HS3.out.rd' Hnb.out))
        have HO3 := Lib.hid ho3
        clear hw3 hg3
        go_wp2_with fail
        refine HP3.out.mono ?_
        rintro e w4 ⟨A4, c4, rfl, ho4, he4⟩
        have HO4 := Lib.hid (HO3.out.ext he4)
        have HE4 := Lib.hid (HE3.out.trans he4)
        have HL4 : Hid ((([d] ++ pn) ++ [1]).length = q + 1) := Lib.hid (by rw [List.length_append, HL2.out]; rfl)
        have Hne4 : Hid (∀ p q, A3 = some p → A4 = some q → p.block ≠ q.block) := Lib.hid (fun p q hp hq => by
          have a1 := (HO3.out.block p hp).2
          have a2 := (ho4.block q hq).1
          omega)
        go_wp2_with fail
        refine (add12_any A3 A4 (q + 1) c3 r c4 w.heap.size _ _ w4 HO4.out HL4.out (ho4.rd' Hr.out.symm) (fun _ => Hne4.out) HE4.out.size (by omega)).mono ?_
        rintro e w5 ⟨A5, c5, rfl, ho5, hg5⟩
        have HE5 := Lib.hid (Own.grown_ext HO4.out HE4.out (Nat.le_refl _) hg5)
        have HO5 := Lib.hid ho5
        have HL5 : Hid ((([d] ++ pn) ++ [1] ++ R).length = q + 1 + r) := Lib.hid (by rw [List.length_append, HL4.out, ← Hr.out])
        have HOO5 : Hid (O = (([d] ++ pn) ++ [1] ++ R) ++ V) := Lib.hid (by rw [HOv.out, HN.out]; simp)
        clear ho5 hg5 ho4 he4
        have HB5 := Lib.hid (refBody_any k d A j c xs w5 (Hx.out.ext HE5.out) Hc.out hk hn H2.out)
        rw [← HV.out] at HB5
        simp only [← Hvl.out] at HB5
        go_wp2_with fail
        refine HB5.out.mono ?_
        rintro e w7 ⟨A7, c7, rfl, ho7, he7⟩
        have HO7 := Lib.hid (HO5.out.ext he7)
        have Hne7 : Hid (∀ p q, A5 = some p → A7 = some q → p.block ≠ q.block) := Lib.hid (fun p q hp hq => by
          have a1 := (HO5.out.block p hp).2
          have a2 := (ho7.block q hq).1
          omega)
        have HE7 := Lib.hid (HE5.out.trans he7)
        have HA7 := Lib.hid (add12_any A5 A7 (q + 1 + r) c5 vl c7 w.heap.size _ _ w7 HO7.out HL5.out (ho7.rd' Hvl.out.symm) (fun _ => Hne7.out) HE7.out.size (by omega))
        have hLO : q + 1 + r + vl = lo := by rw [Hlo.out, HOO5.out, List.length_append, HL5.out, ← Hvl.out]
        rw [hLO] at HA7
        clear hLO
        go_wp2_with fail
        refine HA7.out.mono ?_
        rintro e w8 ⟨A8, c8, rfl, ho8, hg8⟩
        have HE8 := Lib.hid (Own.grown_ext HO7.out HE7.out (Nat.le_refl _) hg8)
        have HO8 : Hid (Own .u8 5 w8 w.heap.size A8 c8 O) := Lib.hid (by rw [HOO5.out]; exact ho8)
        clear ho7 ho8 hg8 he7
        by_cases hbig : 65000 < lo + 4
        · have hbi : (65000 : Int) < (lo : Int) + 4 := by omega
          have HR2 : Hid (sealL O = [] ∧ sealE O = 4) := Lib.hid (by unfold sealL sealE; rw [← Hlo.out, if_pos hbig, if_pos hbig]; exact ⟨rfl, rfl⟩)
          clear hbig
          go_wp2_with fail
          go_ret2
          exact PEncPost.bad _ (by rw [HR2.out.1, HR2.out.2]) HE8.out
        · have hbi : ¬ (65000 : Int) < (lo : Int) + 4 := by omega
          have HSe := Lib.hid (refSeal_any A8 lo c8 O w8 (HO8.out.rd' Hlo.out.symm) HU.out (by omega))
          clear hlob hvl0
          have HR2 : Hid (sealL O = sl O ∧ sealE O = 0) := Lib.hid (by unfold sealL sealE; rw [← Hlo.out, if_neg hbig, if_neg hbig]; exact ⟨rfl, rfl⟩)
          clear hbig
          have hwr : IntKind.i64.wrap ((lo : Int) + 4) = (lo : Int) + 4 := IntWalk.i64_in _ (by omega)
          have hbd : decide ((65000 : Int) < (lo : Int) + 4) = false := decide_eq_false hbi
          clear hbi hqb hpn1 hcd hw8
          go_wp2_with fail
          refine HSe.out.mono ?_
          rintro e w9 ⟨A9, c9, rfl, ho9, he9⟩
          go_wp2_with fail
          go_ret2
          exact PEncPost.good _ (by rw [HR2.out.1, HR2.out.2]) (by rw [sl_len, ← Hlo.out]) (ho9.mono HE8.out.size) (HE8.out.trans he9)
      · have hN : nullsL xs = [0] := if_neg h1
        have hS1 : S = 0 := HS.out.trans (if_neg h1)
        subst hS1
        have HN := Lib.hid hN
        clear hN h1 HS
        go_wp2_with (at_builtin; refine wpList_push2 .u8 0 5 rfl _ _ 22 rfl _ 1 Tryz.underlying22 Tryz.infoU8 rfl HOs.out q HL2.out rfl rfl rfl (by omega) (by omega) hz ?_; intro A3 c3 w3 ho3 hw3 hz3)
        have hg3 := push2_grown hw3
        have HE3 := Lib.hid (Own.grown_ext HOs.out HE.out (Nat.le_refl _) hg3)
        have HO3 := Lib.hid ho3
        have HL3 : Hid ((([d] ++ pn) ++ [0]).length = q + 1) := Lib.hid (by rw [List.length_append, HL2.out]; rfl)
        have HOO3 : Hid (O = (([d] ++ pn) ++ [0]) ++ V) := Lib.hid (by rw [HOv.out, HN.out]; simp)
        clear ho3 hw3 hg3
        have HB3 := Lib.hid (refBody_any k d A j c xs w3 (Hx.out.ext HE3.out) Hc.out hk hn H2.out)
        rw [← HV.out] at HB3
        simp only [← Hvl.out] at HB3
        go_wp2_with fail
        refine HB3.out.mono ?_
        rintro e w7 ⟨A7, c7, rfl, ho7, he7⟩
        have HO7 := Lib.hid (HO3.out.ext he7)
        have Hne7 : Hid (∀ p q, A3 = some p → A7 = some q → p.block ≠ q.block) := Lib.hid (fun p q hp hq => by
          have a1 := (HO3.out.block p hp).2
          have a2 := (ho7.block q hq).1
          omega)
        have HE7 := Lib.hid (HE3.out.trans he7)
        have HA7 := Lib.hid (add12_any A3 A7 (q + 1) c3 vl c7 w.heap.size _ _ w7 HO7.out HL3.out (ho7.rd' Hvl.out.symm) (fun _ => Hne7.out) HE7.out.size (by omega))
        have hLO : q + 1 + vl = lo := by rw [Hlo.out, HOO3.out, List.length_append, HL3.out, ← Hvl.out]
        rw [hLO] at HA7
        clear hLO
        go_wp2_with fail
        refine HA7.out.mono ?_
        rintro e w8 ⟨A8, c8, rfl, ho8, hg8⟩
        have HE8 := Lib.hid (Own.grown_ext HO7.out HE7.out (Nat.le_refl _) hg8)
        have HO8 : Hid (Own .u8 5 w8 w.heap.size A8 c8 O) := Lib.hid (by rw [HOO3.out]; exact ho8)
        clear ho7 ho8 hg8 he7
        by_cases hbig : 65000 < lo + 4
        · have hbi : (65000 : Int) < (lo : Int) + 4 := by omega
          have HR2 : Hid (sealL O = [] ∧ sealE O = 4) := Lib.hid (by unfold sealL sealE; rw [← Hlo.out, if_pos hbig, if_pos hbig]; exact ⟨rfl, rfl⟩)
          clear hbig
          go_wp2_with fail
          go_ret2
          exact PEncPost.bad _ (by rw [HR2.out.1, HR2.out.2]) HE8.out
        · have hbi : ¬ (65000 : Int) < (lo : Int) + 4 := by omega
          have HSe := Lib.hid (refSeal_any A8 lo c8 O w8 (HO8.out.rd' Hlo.out.symm) HU.out (by omega))
          clear hlob hvl0
          have HR2 : Hid (sealL O = sl O ∧ sealE O = 0) := Lib.hid (by unfold sealL sealE; rw [← Hlo.out, if_neg hbig, if_neg hbig]; exact ⟨rfl, rfl⟩)
          clear hbig
          have hwr : IntKind.i64.wrap ((lo : Int) + 4) = (lo : Int) + 4 := IntWalk.i64_in _ (by omega)
          have hbd : decide ((65000 : Int) < (lo : Int) + 4) = false := decide_eq_false hbi
          clear hbi hqb hpn1 hcd hw8
          go_wp2_with fail
          refine HSe.out.mono ?_
          rintro e w9 ⟨A9, c9, rfl, ho9, he9⟩
          go_wp2_with fail
          go_ret2
          exact PEncPost.good _ (by rw [HR2.out.1, HR2.out.2]) (by rw [sl_len, ← Hlo.out]) (ho9.mono HE8.out.size) (HE8.out.trans he9)
theorem noLong12 : ∀ {ss : List (List Nat)}, (∀ s ∈ ss, s.length ≤ 200) → anyLong ss = false := by
  intro ss h
  cases q : anyLong ss with
  | false => rfl
  | true =>
    unfold anyLong at q
    obtain ⟨s, hs, hl⟩ := List.any_eq_true.1 q
    have h2 := h s hs
    have h3 := of_decide_eq_true hl
    omega
theorem valR_ok (k cd : Int) {xs : List Ci} (h2 : ∀ x ∈ xs, x.txt.length ≤ 200) (hn : xs.length ≤ 4096) : (valR k cd xs).2 = 0 := by
  have h3 : ∀ s ∈ xs.map Ci.txt, s.length ≤ 200 := fun s hs => by
    obtain ⟨x, hx, rfl⟩ := List.mem_map.1 hs
    exact h2 x hx
  unfold valR
  split
  · unfold encode8; rw [if_neg (by rw [List.length_map]; omega)]
  · split
    · unfold encode9; rw [if_neg (by rw [List.length_map]; omega)]
    · split
      · rw [dencR_good (by rw [List.length_map]; exact hn) (noLong12 h3)]
      · split
        · rw [pencR_good (by rw [List.length_map]; exact hn) (noLong12 h3)]
        · rfl
theorem putR_outW (k cd : Int) {xs : List Ci} (h : chkB k xs = 0) : putR k cd xs = (outW k cd xs, 0) := by
  obtain ⟨g1, _, g3⟩ := chkB_good h
  unfold putR
  rw [if_neg (fun q => q (valR_ok k cd (fun x hx => g3 x (nn_mem hx)) (by have := nn_le xs; omega)))]
  rfl
section
variable {fs xs : List Ci} (h : fs.map Ci.val = xs.map Ci.val)
include h
theorem val_len12 : fs.length = xs.length := by simpa using congrArg List.length h
theorem val_num12 : fs.map Ci.num = xs.map Ci.num := by
  have := congrArg (List.map fun v => v.2.1) h
  rw [List.map_map, List.map_map] at this
  exact this
theorem val_txt12 : fs.map Ci.txt = xs.map Ci.txt := by
  have := congrArg (List.map fun v => v.2.2) h
  rw [List.map_map, List.map_map] at this
  exact this
theorem val_nb12 : nb fs = nb xs := by
  have := congrArg (List.map fun v => if v.1 then 1 else 0) h
  rw [List.map_map, List.map_map] at this
  exact this
theorem val_plain12 (k : Int) : plainL k fs = plainL k xs := by
  have := congrArg (fun l => (List.map (fun v => if numK k then vput (foldS v.2.1).toNat else vput v.2.2.length ++ v.2.2) l).flatten) h
  simp only [List.map_map] at this
  exact this
theorem valR_val12 (k cd : Int) : valR k cd fs = valR k cd xs := by
  unfold valR
  rw [val_num12 h, val_txt12 h, val_plain12 h]
end
theorem nn_val12 : ∀ {fs xs : List Ci}, fs.map Ci.val = xs.map Ci.val → (nn fs).map Ci.val = (nn xs).map Ci.val
  | [], [], _ => rfl
  | [], _ :: _, h => by cases h
  | _ :: _, [], h => by cases h
  | f :: fs, x :: xs, h => by
    rw [List.map_cons, List.map_cons] at h
    injection h with h1 h2
    have ih := nn_val12 h2
    have h3 : f.nul = x.nul := congrArg Prod.fst h1
    unfold nn at ih ⊢
    rw [List.filter_cons, List.filter_cons, h3]
    split
    · rw [List.map_cons, List.map_cons, h1, ih]
    · exact ih
theorem putR_val12 {fs xs : List Ci} (h : fs.map Ci.val = xs.map Ci.val) (k cd : Int) : putR k cd fs = putR k cd xs := by
  unfold putR nullsL
  rw [valR_val12 (nn_val12 h), val_len12 h, val_nb12 h]
theorem sealL_len (b : List Nat) : (sealL b).length ≤ 65000 := by
  unfold sealL
  split
  · simp
  · rw [sl_len]; omega
theorem bestF_spec {k : Int} {xs : List Ci} (hc : chkB k xs = 0) : ∀ (L : List Int) (s : Int × List Nat), (∀ cd ∈ L, cd ∈ codecs k) → (s.1 ≠ 0 → s.2 = outW k s.1 xs ∧ s.1 ∈ codecs k) →
    ∃ r, bestF k xs L s = (r, 0) ∧ (r.1 ≠ 0 → r.2 = outW k r.1 xs ∧ r.1 ∈ codecs k) ∧ (∀ cd ∈ L, r.1 ≠ 0 ∧ r.2.length ≤ (outW k cd xs).length) ∧ (s.1 ≠ 0 → r.1 ≠ 0 ∧ r.2.length ≤ s.2.length)
  | [], s, _, hs => ⟨s, rfl, hs, fun cd h => (by cases h), fun h => ⟨h, Nat.le_refl _⟩⟩
  | cd :: cs, s, hL, hs => by
    have hcd := hL cd (List.mem_cons_self ..)
    have hne : cd ≠ 0 := by have := codecs_mem hcd; omega
    unfold bestF
    rw [putR_outW k cd hc, if_neg (fun q => q rfl)]
    simp only
    by_cases q : s.1 = 0 ∨ (outW k cd xs).length < s.2.length
    · rw [if_pos q]
      obtain ⟨r, r1, r2, r3, r4⟩ := bestF_spec hc cs (cd, outW k cd xs) (fun c h => hL c (List.mem_cons_of_mem _ h)) (fun _ => ⟨rfl, hcd⟩)
      obtain ⟨r5, r6⟩ := r4 hne
      refine ⟨r, r1, r2, fun c h => ?_, fun h => ⟨r5, ?_⟩⟩
      · rcases List.mem_cons.1 h with rfl | h
        · exact ⟨r5, r6⟩
        · exact r3 c h
      · have r6' : r.2.length ≤ (outW k cd xs).length := r6
        rcases q with q | q
        · exact absurd q h
        · omega
    · rw [if_neg q]
      have hs1 : s.1 ≠ 0 := fun e => q (.inl e)
      have hs2 : ¬ (outW k cd xs).length < s.2.length := fun e => q (.inr e)
      obtain ⟨r, r1, r2, r3, r4⟩ := bestF_spec hc cs s (fun c h => hL c (List.mem_cons_of_mem _ h)) hs
      obtain ⟨r5, r6⟩ := r4 hs1
      refine ⟨r, r1, r2, fun c h => ?_, r4⟩
      rcases List.mem_cons.1 h with rfl | h
      · exact ⟨r5, by omega⟩
      · exact r3 c h
def stepR (k : Int) (xs : List Ci) (c : Int) (t : Int × List Nat) : Int × List Nat :=
  if sealE (outW k c xs) = 0 ∧ (t.1 = 0 ∨ (sealL (outW k c xs)).length < t.2.length) then (c, sealL (outW k c xs)) else t
def rbN (k : Int) (xs : List Ci) : Nat → Int → Int × List Nat → Int × List Nat
  | 0, _, t => t
  | m + 1, c, t => rbN k xs m (c + 1) (if c ∈ codecs k then stepR k xs c t else t)
def foldR (k : Int) (xs : List Ci) : List Int → Int × List Nat → Int × List Nat
  | [], t => t
  | c :: cs, t => foldR k xs cs (stepR k xs c t)
theorem rbN_fold (k : Int) (xs : List Ci) (t : Int × List Nat) : rbN k xs 5 1 t = foldR k xs (codecs k) t := by
  have h1 : (1 : Int) ∈ codecs k := by unfold codecs; split <;> simp
  cases hk : numK k with
  | true =>
    have e : codecs k = [1, 2, 3] := by unfold codecs; rw [hk]; rfl
    simp only [rbN, e]
    rw [if_neg (by decide), if_neg (by decide), if_pos (by decide), if_pos (by decide), if_pos (by decide)]
    rfl
  | false =>
    have e : codecs k = [1, 4, 5] := by unfold codecs; rw [hk]; rfl
    simp only [rbN, e]
    rw [if_pos (by decide), if_pos (by decide), if_neg (by decide), if_neg (by decide), if_pos (by decide)]
    rfl
theorem sealE_iff (b : List Nat) : sealE b = 0 ↔ ¬ 65000 < b.length + 4 := by
  unfold sealE
  split
  · rename_i h; exact ⟨fun e => absurd e (by decide), fun e => absurd h e⟩
  · rename_i h; exact ⟨fun _ => h, fun _ => rfl⟩
theorem sealL_ok {b : List Nat} (h : sealE b = 0) : sealL b = sl b := if_neg ((sealE_iff b).1 h)
def held12 (s : Int × List Nat) : Int × List Nat := if s.1 = 0 then (0, []) else if sealE s.2 = 0 then (s.1, sl s.2) else (0, [])
theorem held_step {k c : Int} {xs : List Ci} (hc : c ≠ 0) (s : Int × List Nat) : stepR k xs c (held12 s) = held12 (if s.1 = 0 ∨ (outW k c xs).length < s.2.length then (c, outW k c xs) else s) := by
  unfold stepR
  obtain ⟨o, ho⟩ : ∃ o, o = outW k c xs := ⟨_, rfl⟩
  rw [← ho]
  have ho4 : (sl o).length = o.length + 4 := sl_len o
  have hs4 : (sl s.2).length = s.2.length + 4 := sl_len s.2
  have hnew : held12 (c, o) = if sealE o = 0 then (c, sl o) else (0, []) := by unfold held12; rw [if_neg hc]
  by_cases q0 : s.1 = 0
  · have hh : held12 s = (0, []) := if_pos q0
    rw [if_pos (Or.inl q0), hh, hnew]
    by_cases e : sealE o = 0
    · rw [if_pos ⟨e, Or.inl rfl⟩, if_pos e, sealL_ok e]
    · rw [if_neg (fun q => e q.1), if_neg e]
  · by_cases f : sealE s.2 = 0
    · have hh : held12 s = (s.1, sl s.2) := by unfold held12; rw [if_neg q0, if_pos f]
      have f' := (sealE_iff _).1 f
      by_cases l : o.length < s.2.length
      · have e : sealE o = 0 := (sealE_iff _).2 (by omega)
        rw [if_pos (Or.inr l), hnew, if_pos e, hh, sealL_ok e, if_pos ⟨e, Or.inr (by simp only; omega)⟩]
      · rw [if_neg (show ¬ (s.1 = 0 ∨ o.length < s.2.length) from fun q => q.elim q0 l), hh]
        rw [if_neg]
        rintro ⟨e, q⟩
        rw [sealL_ok e] at q
        rcases q with q | q
        · exact q0 q
        · simp only at q; omega
    · have hh : held12 s = (0, []) := by unfold held12; rw [if_neg q0, if_neg f]
      have f' : 65000 < s.2.length + 4 := Decidable.byContradiction fun q => f ((sealE_iff _).2 q)
      by_cases l : o.length < s.2.length
      · rw [if_pos (Or.inr l), hnew, hh]
        by_cases e : sealE o = 0
        · rw [if_pos ⟨e, Or.inl rfl⟩, if_pos e, sealL_ok e]
        · rw [if_neg (fun q => e q.1), if_neg e]
      · have e : ¬ sealE o = 0 := fun e => (sealE_iff _).1 e (by omega)
        rw [if_neg (show ¬ (s.1 = 0 ∨ o.length < s.2.length) from fun q => q.elim q0 l), hh, if_neg (fun q => e q.1)]
theorem held_fold {k : Int} {xs : List Ci} (hc : chkB k xs = 0) : ∀ (L : List Int) (s : Int × List Nat), (∀ c ∈ L, c ≠ 0) → ∃ r, bestF k xs L s = (r, 0) ∧ foldR k xs L (held12 s) = held12 r
  | [], s, _ => ⟨s, rfl, rfl⟩
  | c :: cs, s, h => by
    unfold bestF foldR
    rw [putR_outW k c hc, if_neg (fun q => q rfl), held_step (h c (List.mem_cons_self ..))]
    exact held_fold hc cs _ (fun d q => h d (List.mem_cons_of_mem _ q))
theorem bbest_held {k : Int} {xs : List Ci} (hk : 1 ≤ k ∧ k ≤ 8) (hc : chkB k xs = 0) : bbestR k xs = if (rbN k xs 5 1 (0, [])).1 = 0 then ((0, []), 4) else (rbN k xs 5 1 (0, []), 0) := by
  obtain ⟨r, r1, r2⟩ := held_fold hc (codecs k) (0, []) (fun c h => by have := codecs_mem h; omega)
  obtain ⟨r', s1, s2, s3, _⟩ := bestF_spec hc (codecs k) (0, []) (fun c q => q) (fun q => absurd rfl q)
  have e0 : held12 (0, []) = (0, []) := if_pos rfl
  rw [rbN_fold, ← e0, r2, e0]
  have hr : r = r' := by
    rw [r1] at s1
    exact congrArg Prod.fst s1
  subst hr
  have hne := (s3 1 (by unfold codecs; split <;> simp)).1
  have hK : ¬ kindK k = false := by unfold kindK; rw [decide_eq_true hk]; decide
  unfold bbestR
  rw [if_neg hK, if_neg (fun q => q hc), r1, if_neg (fun q => q rfl)]
  simp only
  by_cases e : sealE r.2 = 0
  · have hh : held12 r = (r.1, sl r.2) := by unfold held12; rw [if_neg hne, if_pos e]
    rw [if_neg (fun q => q e), hh, if_neg hne, sealL_ok e]
  · have hh : held12 r = (0, []) := by unfold held12; rw [if_neg hne, if_neg e]
    rw [if_pos e, hh, if_pos rfl]
    have : sealE r.2 = 4 := by
      unfold sealE at e ⊢
      split
      · rfl
      · rename_i q; rw [if_neg q] at e; exact absurd rfl e
    rw [this]
set_option maxHeartbeats 6400000 in
theorem refBest_any (k : Int) (A : Option Addr) (n c : Nat) (xs : List Ci) (w : World) (hx : RdX w A n xs) (hc : CapX xs) (hn : n ≤ 281474976710656) :
    Calls Tryz.prog 95 #[.int .i64 k, .slice A n c] w (BestPost (bbestR k xs) w) := by
  have HC := Lib.hid (fun W (hW : Ext w W) => refCheckB_any k A n c xs W (hx.ext hW) hn)
  by_cases hk : 1 ≤ k ∧ k ≤ 8
  · have HF := Lib.hid (fun v W => refFits_any k v W hk)
    have hk0 := hk.1
    have hk8 := hk.2
    by_cases hz : chkB k xs = 0
    · have HR := Lib.hid (bbest_held hk hz)
      obtain ⟨g1, g2, g3⟩ := chkB_good hz
      have HW := Lib.hid (fun cd (hcd : 1 ≤ cd ∧ cd ≤ 5) W (hW : Ext w W) => refWrite_any k cd A n c xs W (hx.ext hW) hc hk hcd (by rw [← hx.1]; exact g1) g3)
      unfold PEncPost at HW
      obtain ⟨R, hR⟩ : ∃ R, R = rbN k xs 5 1 (0, []) := ⟨_, rfl⟩
      rw [← hR] at HR
      have HS0 : Hid (rbN k xs (6 - 1) ((1 : Nat) : Int) (0, []) = R) := Lib.hid hR.symm
      rw [hz] at HC
      have HO0 : Hid (Own .u8 5 w w.heap.size none 0 []) := Lib.hid (Own.nil ..)
      clear g1 g2 g3 hz hx hc hR hk
      go_enter Tryz.func95, Tryz.ntmps95
      go_wp2_with fail
      refine (HC.out _ (Ext.refl _)).mono ?_
      rintro e w1 ⟨rfl, he1⟩
      have HO1 := Lib.hid ((Own.made .u8 5 w1 (Nat.le_refl _)).mono he1.size)
      have HE1 := Lib.hid (he1.alloc (.cells #[] 5))
      go_wp2_with fail
      go_loopw [8, 9, 10] (fun cc v i wr => ∃ (j L : Nat) (cv : Int) (bst : List Nat) (Ab : Option Addr) (cb : Nat), 1 ≤ j ∧ j ≤ 6 ∧ i = .int .i64 (j : Int) ∧ cc = .int .i64 cv ∧ v = .slice Ab L cb ∧ Hid (bst.length = L) ∧ L ≤ 65000 ∧ Hid (rbN k xs (6 - j) (j : Int) (cv, bst) = R) ∧ Hid (Own .u8 5 wr w.heap.size Ab cb bst) ∧ Hid (Ext w wr)) (fun _ _ i _ => 6 - (intOf i).toNat)
      case atStart => exact ⟨1, 0, 0, [], _, _, Nat.le_refl _, by decide, rfl, rfl, rfl, rfl, by decide, HS0.out, HO1.out, HE1.out⟩
      case round =>
        clear HO1 HE1 HS0 HO0
        obtain ⟨j, L, cv, bst, Ab, cb, hj1, hj6, rfl, rfl, rfl, HL, hL, HS, HO, HE⟩ := hrel
        by_cases hlt : j < 6
        · have hst : rbN k xs (6 - (j + 1)) ((j : Int) + 1) (if (j : Int) ∈ codecs k then stepR k xs j (cv, bst) else (cv, bst)) = R := by
            have h := HS.out
            rw [show 6 - j = (6 - (j + 1)) + 1 by omega] at h
            exact h
          have hj1' : ((j + 1 : Nat) : Int) = (j : Int) + 1 := by omega
          rw [← hj1'] at hst
          by_cases hm : (j : Int) ∈ codecs k
          · have hFj := HF.out (j : Int)
            rw [decide_eq_true hm] at hFj
            rw [if_pos hm] at hst
            have hcd := codecs_mem hm
            have HWj := Lib.hid (HW.out (j : Int) hcd)
            have HFj := Lib.hid hFj
            unfold stepR at hst
            by_cases he : sealE (outW k j xs) = 0
            · rw [he] at HWj
              have hpl := sealL_len (outW k j xs)
              obtain ⟨P, hP⟩ : ∃ P, P = sealL (outW k j xs) := ⟨_, rfl⟩
              rw [← hP] at HWj hst hpl
              obtain ⟨p, hp⟩ : ∃ p, p = P.length := ⟨_, rfl⟩
              rw [← hp] at HWj hpl
              have Hp := Lib.hid hp.symm
              by_cases ht : cv = 0 ∨ P.length < bst.length
              · rw [if_pos ⟨he, ht⟩] at hst
                have HS2 := Lib.hid hst
                by_cases hc0 : cv = 0
                · clear hst hm he hP hp ht hFj hcd
                  subst hc0
                  go_wp2_with fail
                  refine (HFj.out _).mono ?_
                  rintro e w2 ⟨rfl, rfl⟩
                  go_wp2_with fail
                  refine (HWj.out _ HE.out).mono ?_
                  rintro e w3 ⟨A3, c3, rfl, ho3, he3⟩
                  have HO3 := Lib.hid (ho3.mono HE.out.size)
                  have HE3 := Lib.hid (HE.out.trans he3)
                  go_wp2_with fail
                  go_roundw
                  case rel => exact ⟨j + 1, p, (j : Int), P, A3, c3, by omega, by omega, by go_num, rfl, rfl, Hp.out, hpl, HS2.out, HO3.out, HE3.out⟩
                  case measure => simp [intOf]; omega
                · have hlt2 : (p : Int) < (L : Int) := by
                    have h1 := HL.out
                    rcases ht with q | q
                    · exact absurd q hc0
                    · omega
                  have hcb : (cv == 0) = false := beq_eq_false_iff_ne.2 hc0
                  clear hst hm he hP hp ht hFj hcd hc0
                  go_wp2_with fail
                  refine (HFj.out _).mono ?_
                  rintro e w2 ⟨rfl, rfl⟩
                  go_wp2_with fail
                  refine (HWj.out _ HE.out).mono ?_
                  rintro e w3 ⟨A3, c3, rfl, ho3, he3⟩
                  have HO3 := Lib.hid (ho3.mono HE.out.size)
                  have HE3 := Lib.hid (HE.out.trans he3)
                  go_wp2_with fail
                  go_roundw
                  case rel => exact ⟨j + 1, p, (j : Int), P, A3, c3, by omega, by omega, by go_num, rfl, rfl, Hp.out, hpl, HS2.out, HO3.out, HE3.out⟩
                  case measure => simp [intOf]; omega
              · rw [if_neg (fun q => ht q.2)] at hst
                have HS2 := Lib.hid hst
                have hcb : (cv == 0) = false := beq_eq_false_iff_ne.2 (fun q => ht (.inl q))
                have hlt2 : ¬ (p : Int) < (L : Int) := by
                  have h1 := HL.out
                  have : ¬ P.length < bst.length := fun q => ht (.inr q)
                  omega
                clear hst hm he hP hp ht hFj hcd
                go_wp2_with fail
                refine (HFj.out _).mono ?_
                rintro e w2 ⟨rfl, rfl⟩
                go_wp2_with fail
                refine (HWj.out _ HE.out).mono ?_
                rintro e w3 ⟨A3, c3, rfl, ho3, he3⟩
                have HO3 := Lib.hid (HO.out.ext he3)
                have HE3 := Lib.hid (HE.out.trans he3)
                go_wp2_with fail
                go_roundw
                case rel => exact ⟨j + 1, L, cv, bst, Ab, cb, by omega, by omega, by go_num, rfl, rfl, HL.out, hL, HS2.out, HO3.out, HE3.out⟩
                case measure => simp [intOf]; omega
            · rw [if_neg (fun q => he q.1)] at hst
              have HS2 := Lib.hid hst
              obtain ⟨E, hE⟩ : ∃ E, E = sealE (outW k j xs) := ⟨_, rfl⟩
              obtain ⟨P, hP⟩ : ∃ P, P = sealL (outW k j xs) := ⟨_, rfl⟩
              rw [← hE, ← hP] at HWj
              rw [← hE] at he
              have heb : (E == 0) = false := beq_eq_false_iff_ne.2 he
              clear hst hm he hE hP hFj hcd
              go_wp2_with fail
              refine (HFj.out _).mono ?_
              rintro e w2 ⟨rfl, rfl⟩
              go_wp2_with fail
              refine (HWj.out _ HE.out).mono ?_
              rintro e w3 ⟨A3, c3, rfl, ho3, he3⟩
              have HO3 := Lib.hid (HO.out.ext he3)
              have HE3 := Lib.hid (HE.out.trans he3)
              go_wp2_with fail
              go_roundw
              case rel => exact ⟨j + 1, L, cv, bst, Ab, cb, by omega, by omega, by go_num, rfl, rfl, HL.out, hL, HS2.out, HO3.out, HE3.out⟩
              case measure => simp [intOf]; omega
          · have hFj := HF.out (j : Int)
            rw [decide_eq_false hm] at hFj
            rw [if_neg hm] at hst
            have HS2 := Lib.hid hst
            have HFj := Lib.hid hFj
            clear hst hm hFj
            go_wp2_with fail
            refine (HFj.out _).mono ?_
            rintro e w2 ⟨rfl, rfl⟩
            go_wp2_with fail
            go_roundw
            case rel => exact ⟨j + 1, L, cv, bst, Ab, cb, by omega, by omega, by go_num, rfl, rfl, HL.out, hL, HS2.out, HO.out, HE.out⟩
            case measure => simp [intOf]; omega
        · obtain rfl : j = 6 := by omega
          have hS : (cv, bst) = R := HS.out
          subst hS
          have hR := HR.out
          simp only at hR
          by_cases hc0 : cv = 0
          · subst hc0
            rw [if_pos rfl] at hR
            have HR2 := Lib.hid hR
            clear hR
            go_wp2_with fail
            go_ret3
            exact BestPost.bad _ HR2.out HE.out
          · have hcb : (cv == 0) = false := beq_eq_false_iff_ne.2 hc0
            rw [if_neg hc0] at hR
            have HR2 := Lib.hid hR
            clear hR hc0
            go_wp2_with fail
            go_ret3
            rw [HR2.out]
            exact ⟨Ab, cb, by simp only; rw [HL.out]; rfl, HO.out, HE.out⟩
    · obtain ⟨E, hE⟩ : ∃ E, E = chkB k xs := ⟨_, rfl⟩
      have hK : ¬ kindK k = false := by unfold kindK; rw [decide_eq_true hk]; decide
      have HR : Hid (bbestR k xs = ((0, []), E)) := Lib.hid (by unfold bbestR; rw [if_neg hK, if_pos hz, hE])
      rw [← hE] at HC hz
      have hzb : (E == 0) = false := beq_eq_false_iff_ne.2 hz
      clear hz hx hc hE hK HF hk
      go_enter Tryz.func95, Tryz.ntmps95
      go_wp2_with fail
      refine (HC.out _ (Ext.refl _)).mono ?_
      rintro e w1 ⟨rfl, he1⟩
      go_wp2_with fail
      go_ret3
      exact BestPost.bad _ HR.out he1
  · have HR : Hid (bbestR k xs = ((0, []), 1)) := Lib.hid (by unfold bbestR; rw [if_pos (by unfold kindK; rw [decide_eq_false hk])])
    clear hx hc HC
    by_cases h1 : k < 1
    · clear hk
      go_enter Tryz.func95, Tryz.ntmps95
      go_wp2_with fail
      go_ret3
      exact BestPost.bad _ HR.out (Ext.refl _)
    · have h8 : 8 < k := by omega
      clear hk
      go_enter Tryz.func95, Tryz.ntmps95
      go_wp2_with fail
      go_ret3
      exact BestPost.bad _ HR.out (Ext.refl _)
theorem bestF_val12 {k : Int} {fs xs : List Ci} (h : fs.map Ci.val = xs.map Ci.val) : ∀ (L : List Int) (s : Int × List Nat), bestF k fs L s = bestF k xs L s
  | [], _ => rfl
  | c :: cs, s => by
    unfold bestF
    rw [putR_val12 h]
    split
    · rfl
    · exact bestF_val12 h cs _
theorem bbestR_val12 {k : Int} {fs xs : List Ci} (h : fs.map Ci.val = xs.map Ci.val) : bbestR k fs = bbestR k xs := by
  unfold bbestR
  rw [chkB_val, chkB_val, h, bestF_val12 h]
def shB : Shape Bool := ⟨fun b => [.bool b], 1, fun _ => rfl, by intro x u hu; simp at hu; subst hu; rfl⟩
theorem own_neGU {T : Type} {s : Shape T} {e : TypeId} {w : World} {base base' c c' : Nat} {A A' : Option Addr} {ts : List T} {xs : List Nat} (hne : e ≠ 5) (h : OwnG s e w base A c ts) (k : Own .u8 5 w base' A' c' xs) : ∀ a, A' = some a → some a.block ≠ (Value.slice A ts.length c).ownBlock := by
  rintro a rfl e
  rcases h.2 with ⟨hv, _⟩ | ⟨g, cap, cur, hv, hg, hh, _⟩
  · rw [hv] at e; simp [Value.ownBlock] at e
  · rw [hv] at e
    simp [Value.ownBlock] at e
    rcases k.2 with ⟨hv', _⟩ | ⟨g', cap', cur', hv', _, hh', _⟩
    · cases hv'
    · injection hv' with hA
      injection hA with hA
      subst hA
      simp at e
      subst e
      rw [hh] at hh'
      injection hh' with hh'
      injection hh' with h1 h2 h3
      exact absurd h2 hne
theorem DTd.store {w wr : World} {A A7 : Option Addr} {c c7 b p : Nat} {ts : List Sl} {us : List Bool} {v : Value} (h : DTd w wr A c ts) (k : OwnG shB 4 wr w.heap.size A7 c7 us) (hA : A7 = some ⟨b, 0, none⟩) (hp : 0 < us.length) (hb : w.heap.size ≤ b) (hg : wr.grownBy (wr.setCell ⟨b, p, none⟩ v) (some b)) : DTd w (wr.setCell ⟨b, p, none⟩ v) A c ts := by
  have hob : (Value.slice A7 us.length c7).ownBlock = some b := by
    rcases k.2 with ⟨_, h0⟩ | ⟨g, cap, cur, hv, _⟩
    · omega
    · rw [hv]
      injection hv with hv1
      rw [hA] at hv1
      injection hv1 with hv1
      injection hv1 with hv1
      subst hv1
      rfl
  refine ⟨h.row.grown hg ?_, ⟨fun s hs => (h.txt.own s hs).grown hg ?_, h.txt.apart⟩, h.ext.setCell (p := ⟨b, p, none⟩) hb v⟩
  · rw [← hob]; exact own_neG (by decide) k h.row
  · rw [← hob]; exact own_neGU (by decide) k (h.txt.own s hs)
theorem isKindC_any (k : Int) (w : World) : Calls Tryz.prog 54 #[.int .i64 k] w fun e w' => e = .returned (.bool (kindK k)) ∧ Ext w w' := by
  have hc := check_any k true true 0 none 0 0 [] w (Rd.nil ..) (by intro x hx; cases hx) (by decide) (by decide) (by decide)
  have hk : (chk k true true 0 [] == 0) = kindK k := by
    unfold chk
    by_cases h : 1 ≤ k ∧ k ≤ 8
    · rw [kindK_yes h, if_neg (by simpa using h)]; rfl
    · rw [kindK_no h, if_pos h]; rfl
  obtain ⟨R, hR⟩ : ∃ R, R = chk k true true 0 [] := ⟨_, rfl⟩
  rw [← hR] at hc hk
  have HC := Lib.hid hc
  have HK := Lib.hid hk
  clear hc hk hR
  go_enter Tryz.func54, Tryz.ntmps54
  go_wp2_with fail
  refine HC.out.mono ?_
  rintro e w1 ⟨rfl, he⟩
  go_wp2_with fail
  go_ret
  exact ⟨by rw [← HK.out]; rfl, he⟩
def perK (p : Int) : Bool := decide (1 ≤ p ∧ p ≤ 4096)
theorem isPerC_any (p : Int) (w : World) : Calls Tryz.prog 55 #[.int .i64 p] w fun e w' => e = .returned (.bool (perK p)) ∧ w = w' := by
  by_cases h1 : 1 ≤ p
  · by_cases h2 : p ≤ 4096
    · have H := Lib.hid (show perK p = true from decide_eq_true ⟨h1, h2⟩)
      go_enter Tryz.func55, Tryz.ntmps55
      go_wp2_with fail
      go_ret
      exact ⟨by rw [H.out]; rfl, rfl⟩
    · have H := Lib.hid (show perK p = false from decide_eq_false (fun h => h2 h.2))
      have h3 : ¬ p ≤ 4096 := h2
      go_enter Tryz.func55, Tryz.ntmps55
      go_wp2_with fail
      go_ret
      exact ⟨by rw [H.out]; rfl, rfl⟩
  · have H := Lib.hid (show perK p = false from decide_eq_false (fun h => h1 h.1))
    go_enter Tryz.func55, Tryz.ntmps55
    go_wp2_with fail
    go_ret
    exact ⟨by rw [H.out]; rfl, rfl⟩
def riseP (ss : List (List Nat)) (n : Nat) : Prop := ∀ i, i < n → i = 0 ∨ ordT (ss.getD (i - 1) []) (ss.getD i []) < 0
instance (ss : List (List Nat)) (n : Nat) : Decidable (riseP ss n) := by unfold riseP; exact inferInstance
theorem riseP_step {ss : List (List Nat)} {j : Nat} (h : riseP ss j) (h1 : j = 0 ∨ ordT (ss.getD (j - 1) []) (ss.getD j []) < 0) : riseP ss (j + 1) := fun i hi => by
  rcases Nat.lt_or_eq_of_le (Nat.le_of_lt_succ hi) with h2 | h2
  · exact h i h2
  · exact h2 ▸ h1
set_option maxHeartbeats 3200000 in
theorem riseC_any (A : Option Addr) (n c : Nat) (ss : List (List Nat)) (w : World) (hx : RdSS w A n ss) (hu : U8s ss) (hn : n ≤ 140737488355328) :
    Calls Tryz.prog 58 #[.slice A n c] w fun e w' => e = .returned (.bool (decide (riseP ss n))) ∧ Ext w w' := by
  have Hx := Lib.hid hx
  have Hu := Lib.hid (fun j => hu.at_ j)
  obtain ⟨R, hR⟩ : ∃ R, R = decide (riseP ss n) := ⟨_, rfl⟩
  rw [← hR]
  have HR := Lib.hid hR
  have H0 : Hid (riseP ss 0) := Lib.hid (fun i hi => absurd hi (Nat.not_lt_zero _))
  clear hx hu hR
  go_enter Tryz.func58, Tryz.ntmps58
  go_wp2_with fail
  go_loopw [3, 6] (fun _ i wr => ∃ (j : Nat), j ≤ n ∧ i = .int .i64 (j : Int) ∧ Hid (riseP ss j) ∧ Hid (Ext w wr)) (fun _ i _ => n - (intOf i).toNat)
  case atStart => exact ⟨0, Nat.zero_le _, rfl, H0.out, Lib.hid (Ext.refl _)⟩
  case round =>
    obtain ⟨j, hj, rfl, HP, HE⟩ := hrel
    by_cases hlt : j < n
    · by_cases h0 : j = 0
      · subst h0
        have HP2 := Lib.hid (riseP_step HP.out (.inl rfl))
        go_wp2_with fail
        refine wp_region_held_drew (S := fun _ => True) (by kernel_rfl) trivial (fun hHeld => ?_)
        refine wpAnyH_take (i := 0) (v := ?_) rfl (by kernel_rfl) (by kernel_rfl) (by kernel_rfl) (fun _ _ _ h => h) (Or.inl ⟨by rfl, ?_⟩) hHeld ?_
        rotate_left
        · (intro w hSw; (try dsimp only at hSw); go_simp; (try with_reducible rfl))
        (simp only [Act.put, List.getElem_toArray, List.getElem_cons_zero, List.setIfInBounds_toArray, List.set_cons_zero, List.set_cons_succ])
        refine wpAnyH_take (i := 1) (v := ?_) rfl (by kernel_rfl) (by kernel_rfl) (by kernel_rfl) (fun _ _ _ h => h) (Or.inl ⟨by rfl, ?_⟩) hHeld ?_
        rotate_left
        · (intro w hSw; (try dsimp only at hSw); go_simp; (try with_reducible rfl))
        (simp only [Act.put, List.getElem_toArray, List.getElem_cons_zero, List.getElem_cons_succ, List.setIfInBounds_toArray, List.set_cons_zero, List.set_cons_succ])
        refine wpAnyH_take (i := 2) (v := ?_) rfl (by kernel_rfl) (by kernel_rfl) (by kernel_rfl) (fun _ _ _ h => h) (Or.inl ⟨by rfl, ?_⟩) hHeld ?_
        rotate_left
        · (intro w hSw; (try dsimp only at hSw); go_simp; (try with_reducible rfl))
        (simp only [Act.put, List.getElem_toArray, List.getElem_cons_zero, List.getElem_cons_succ, List.setIfInBounds_toArray, List.set_cons_zero, List.set_cons_succ])
        refine wpAnyH_take (i := 3) (v := undef) rfl (by kernel_rfl) (by kernel_rfl) (by kernel_rfl) (fun _ _ _ h => h) (Or.inr ⟨by rfl, rfl⟩) hHeld ?_
        (simp only [Act.put, List.getElem_toArray, List.getElem_cons_zero, List.getElem_cons_succ, List.setIfInBounds_toArray, List.set_cons_zero, List.set_cons_succ])
        refine wpAnyH_take (i := 4) (v := undef) rfl (by kernel_rfl) (by kernel_rfl) (by kernel_rfl) (fun _ _ _ h => h) (Or.inr ⟨by rfl, rfl⟩) hHeld ?_
        (simp only [Act.put, List.getElem_toArray, List.getElem_cons_zero, List.getElem_cons_succ, List.setIfInBounds_toArray, List.set_cons_zero, List.set_cons_succ])
        refine wpAnyH_take (i := 5) (v := undef) rfl (by kernel_rfl) (by kernel_rfl) (by kernel_rfl) (fun _ _ _ h => h) (Or.inr ⟨by rfl, rfl⟩) hHeld ?_
        (simp only [Act.put, List.getElem_toArray, List.getElem_cons_zero, List.getElem_cons_succ, List.setIfInBounds_toArray, List.set_cons_zero, List.set_cons_succ])
        refine wpAnyH_take (i := 6) (v := undef) rfl (by kernel_rfl) (by kernel_rfl) (by kernel_rfl) (fun _ _ _ h => h) (Or.inr ⟨by rfl, rfl⟩) hHeld ?_
        (simp only [Act.put, List.getElem_toArray, List.getElem_cons_zero, List.getElem_cons_succ, List.setIfInBounds_toArray, List.set_cons_zero, List.set_cons_succ])
        refine wpAnyH_take (i := 7) (v := undef) rfl (by kernel_rfl) (by kernel_rfl) (by kernel_rfl) (fun _ _ _ h => h) (Or.inr ⟨by rfl, rfl⟩) hHeld ?_
        (simp only [Act.put, List.getElem_toArray, List.getElem_cons_zero, List.getElem_cons_succ, List.setIfInBounds_toArray, List.set_cons_zero, List.set_cons_succ])
        refine wpAnyH_take (i := 8) (v := undef) rfl (by kernel_rfl) (by kernel_rfl) (by kernel_rfl) (fun _ _ _ h => h) (Or.inr ⟨by rfl, rfl⟩) hHeld ?_
        (simp only [Act.put, List.getElem_toArray, List.getElem_cons_zero, List.getElem_cons_succ, List.setIfInBounds_toArray, List.set_cons_zero, List.set_cons_succ])
        refine wpAnyH_take (i := 9) (v := undef) rfl (by kernel_rfl) (by kernel_rfl) (by kernel_rfl) (fun _ _ _ h => h) (Or.inr ⟨by rfl, rfl⟩) hHeld ?_
        (simp only [Act.put, List.getElem_toArray, List.getElem_cons_zero, List.getElem_cons_succ, List.setIfInBounds_toArray, List.set_cons_zero, List.set_cons_succ])
        refine wpAnyH_take (i := 10) (v := undef) rfl (by kernel_rfl) (by kernel_rfl) (by kernel_rfl) (fun _ _ _ h => h) (Or.inr ⟨by rfl, rfl⟩) hHeld ?_
        (simp only [Act.put, List.getElem_toArray, List.getElem_cons_zero, List.getElem_cons_succ, List.setIfInBounds_toArray, List.set_cons_zero, List.set_cons_succ])
        refine wpAnyH_take (i := 11) (v := undef) rfl (by kernel_rfl) (by kernel_rfl) (by kernel_rfl) (fun _ _ _ h => h) (Or.inr ⟨by rfl, rfl⟩) hHeld ?_
        (simp only [Act.put, List.getElem_toArray, List.getElem_cons_zero, List.getElem_cons_succ, List.setIfInBounds_toArray, List.set_cons_zero, List.set_cons_succ])
        refine wpAnyH_take (i := 12) (v := undef) rfl (by kernel_rfl) (by kernel_rfl) (by kernel_rfl) (fun _ _ _ h => h) (Or.inr ⟨by rfl, rfl⟩) hHeld ?_
        (simp only [Act.put, List.getElem_toArray, List.getElem_cons_zero, List.getElem_cons_succ, List.setIfInBounds_toArray, List.set_cons_zero, List.set_cons_succ])
        refine wpAnyH_take (i := 13) (v := undef) rfl (by kernel_rfl) (by kernel_rfl) (by kernel_rfl) (fun _ _ _ h => h) (Or.inr ⟨by rfl, rfl⟩) hHeld ?_
        (simp only [Act.put, List.getElem_toArray, List.getElem_cons_zero, List.getElem_cons_succ, List.setIfInBounds_toArray, List.set_cons_zero, List.set_cons_succ])
        refine wpAnyH_take (i := 14) (v := ?_) rfl (by kernel_rfl) (by kernel_rfl) (by kernel_rfl) (fun _ _ _ h => h) (Or.inl ⟨by rfl, ?_⟩) hHeld ?_
        rotate_left
        · (intro w hSw; (try dsimp only at hSw); go_simp; (try with_reducible rfl))
        (simp only [Act.put, List.getElem_toArray, List.getElem_cons_zero, List.getElem_cons_succ, List.setIfInBounds_toArray, List.set_cons_zero, List.set_cons_succ])
        refine wpAnyH_done (by kernel_rfl) ?_ _
        go_wp2_with fail
        go_roundw
        case rel => exact ⟨0 + 1, hlt, by go_num, HP2.out, Lib.hid (by repeat (first | exact HE.out | apply Ext.drew | apply Ext.alloc))⟩
        case measure => simp [intOf]; omega
      · obtain ⟨i, hi⟩ : ∃ i, i + 1 = j := ⟨j - 1, by omega⟩
        obtain ⟨b, o, a1, m1, c1, hA, hbl, q1, r1⟩ := (Hx.out.ext HE.out).at_ (show i < n by omega)
        obtain ⟨b', o', a2, m2, c2, hA', _, q2, r2⟩ := (Hx.out.ext HE.out).at_ hlt
        rw [hA] at hA'
        injection hA' with hA'
        injection hA' with e1 e2
        subst e1 e2
        subst hA
        have hgt : (0 : Int) < (j : Int) := by omega
        have hgt1 : 0 < j := by omega
        have hgt2 : decide ((0 : Int) < (j : Int)) = true := decide_eq_true hgt
        have hjm : (j : Int) - 1 = (i : Int) := by omega
        have hin : (i : Int) < (n : Int) := by omega
        have hjn : (j : Int) < (n : Int) := by omega
        have hi0 : (0 : Int) ≤ (i : Int) := by omega
        have hwj : IntKind.i64.wrap ((j : Int) - 1) = (i : Int) := by rw [hjm]; exact IntWalk.i64_in _ (by omega)
        have hwi : IntKind.i64.wrap (i : Int) = (i : Int) := IntWalk.i64_in _ (by omega)
        have HC := Lib.hid (fun W (hW : Ext wr W) => compareT_any a1 a2 m1 c1 m2 c2 (ss.getD i []) (ss.getD j []) W (r1.ext hW) (r2.ext hW) (Hu.out i) (Hu.out j))
        obtain ⟨O, hO⟩ : ∃ O, O = ordT (ss.getD i []) (ss.getD j []) := ⟨_, rfl⟩
        rw [← hO] at HC
        have HO : Hid (O = ordT (ss.getD (j - 1) []) (ss.getD j [])) := Lib.hid (by rw [hO, ← hi]; rfl)
        have K := Lib.hid (fun W (hW : Ext wr W) => (show W.cell? ⟨b, o + i, none⟩ = some (.slice a1 m1 c1) ∧ W.cell? ⟨b, o + j, none⟩ = some (.slice a2 m2 c2) from ⟨(hW.cells b _ hbl).trans q1, (hW.cells b _ hbl).trans q2⟩))
        clear hO r1 r2 hi
        by_cases hlo : O < 0
        · have HP2 := Lib.hid (riseP_step HP.out (.inr (by rw [← HO.out]; exact hlo)))
          have hge : ¬ 0 ≤ O := by omega
          go_wp2_with fail
          go_region_held3 (fun W => W.cell? ⟨b, o + i, none⟩ = some (.slice a1 m1 c1) ∧ W.cell? ⟨b, o + j, none⟩ = some (.slice a2 m2 c2))
            (first | (refine K.out _ ?_; (repeat (first | exact Ext.refl _ | apply Ext.drew | apply Ext.alloc | fail))) | fail)
            (first
              | (go_at_call 64; (with_reducible refine (HC.out _ ?_).mono ?_); (focus ((repeat (first | exact Ext.refl _ | apply Ext.drew | apply Ext.alloc | fail)); done)); rintro e w2 ⟨rfl, rfl⟩)
              | fail)
          go_wp2_with fail
          go_roundw
          case rel => exact ⟨j + 1, hlt, by go_num, HP2.out, Lib.hid (by repeat (first | exact HE.out | apply Ext.drew | apply Ext.alloc))⟩
          case measure => simp [intOf]; omega
        · have HF := Lib.hid (HR.out.trans (decide_eq_false (fun h => by
            rcases h j hlt with h1 | h1
            · exact h0 h1
            · exact hlo (HO.out ▸ h1))))
          have hge : 0 ≤ O := by omega
          go_wp2_with fail
          go_region_held3 (fun W => W.cell? ⟨b, o + i, none⟩ = some (.slice a1 m1 c1) ∧ W.cell? ⟨b, o + j, none⟩ = some (.slice a2 m2 c2))
            (first | (refine K.out _ ?_; (repeat (first | exact Ext.refl _ | apply Ext.drew | apply Ext.alloc | fail))) | fail)
            (first
              | (go_at_call 64; (with_reducible refine (HC.out _ ?_).mono ?_); (focus ((repeat (first | exact Ext.refl _ | apply Ext.drew | apply Ext.alloc | fail)); done)); rintro e w2 ⟨rfl, rfl⟩)
              | fail)
          go_wp2_with fail
          go_ret
          exact ⟨by rw [HF.out]; rfl, by repeat (first | exact HE.out | apply Ext.drew | apply Ext.alloc)⟩
    · obtain rfl : n = j := by omega
      have HT := Lib.hid (HR.out.trans (decide_eq_true HP.out))
      go_wp2_with fail
      go_ret
      exact ⟨by rw [HT.out]; rfl, HE.out⟩
theorem putNumC_any (n : Nat) (w : World) (hn : n ≤ 140737488355328) : Calls Tryz.prog 163 #[.int .i64 (n : Int)] w fun e w' => ∃ A' c', e = .returned (.slice A' (vput n).length c') ∧ Own .u8 5 w' w.heap.size A' c' (vput n) ∧ Ext w w' := by
  have hw : IntKind.u64.wrap (n : Int) = (n : Int) := IntWalk.u64_in _ (by omega)
  have HP := Lib.hid (fun W => put_any n W (by omega))
  obtain ⟨L, hL⟩ : ∃ L, L = vput n := ⟨_, rfl⟩
  rw [← hL] at HP ⊢
  clear hL
  go_enter Tryz.func163, Tryz.ntmps163
  go_wp2_with fail
  refine (HP.out _).mono ?_
  rintro e w1 ⟨A1, c1, rfl, ho1, he1⟩
  go_wp2_with fail
  go_ret
  exact ⟨A1, c1, rfl, ho1, he1⟩
def place (n : Nat) : List Nat := sl (upk 8 4 n)
set_option maxHeartbeats 800000 in
theorem putPlaceC_any (n : Nat) (w : World) (hn : n < 4294967296) : Calls Tryz.prog 135 #[.int .i64 (n : Int)] w fun e w' => ∃ A' c', e = .returned (.slice A' 8 c') ∧ Own .u8 5 w' w.heap.size A' c' (place n) ∧ Ext w w' := by
  have hd : n / 16777216 % 256 = n / 16777216 := by omega
  have H := Lib.hid ((four_upk n).trans (by rw [hd]))
  have hu4 : U8 [n % 256, n / 256 % 256, n / 65536 % 256, n / 16777216] := by
    intro v hv
    simp only [List.mem_cons, List.not_mem_nil, or_false] at hv
    rcases hv with rfl | rfl | rfl | rfl <;> omega
  have Hu4 := Lib.hid hu4
  clear hd hu4
  go_enter Tryz.func135, Tryz.ntmps135
  go_wp2_with fail
  have hr := Rd.lit_at .u8 5 w [n % 256, n / 256 % 256, n / 65536 % 256, n / 16777216] rfl (n := 4) rfl
  refine (seal_any _ 4 _ [n % 256, n / 256 % 256, n / 65536 % 256, n / 16777216] _ hr Hu4.out (by omega)).mono ?_
  rintro e w1 ⟨A1, c1, rfl, hown1, he1⟩
  have hE : Ext w w1 := Ext.trans ((Ext.refl w).alloc _) he1
  have hown := hown1.mono (show w.heap.size ≤ _ by simp)
  clear hr hown1 he1
  go_wp2_with fail
  go_ret
  exact ⟨_, _, rfl, by unfold place; rw [H.out]; exact hown, hE⟩
structure RdrC (w : World) (g : Nat) (v0 v1 : Value) : Prop where
  lt : g < w.heap.size
  c0 : w.cell? ⟨g, 0, none⟩ = some v0
  c1 : w.cell? ⟨g, 1, none⟩ = some v1
  f0 : w.frozen? ⟨g, 0, none⟩ = false
  f1 : w.frozen? ⟨g, 1, none⟩ = false
theorem RdrC.set0 {w : World} {g : Nat} {v0 v1 : Value} (h : RdrC w g v0 v1) (v : Value) : RdrC (w.setCell ⟨g, 0, none⟩ v) g v v1 :=
  ⟨by simp [World.setCell]; exact h.lt, (World.cell?_setCell_same _ _ _ h.c0), (World.cell?_setCell_other _ _ _ _ (fun e => by injection e with _ e2 _; exact absurd e2 (by decide))).trans h.c1, by rw [World.frozen?_setCell]; exact h.f0, by rw [World.frozen?_setCell]; exact h.f1⟩
theorem RdrC.set1 {w : World} {g : Nat} {v0 v1 : Value} (h : RdrC w g v0 v1) (v : Value) : RdrC (w.setCell ⟨g, 1, none⟩ v) g v0 v :=
  ⟨by simp [World.setCell]; exact h.lt, (World.cell?_setCell_other _ _ _ _ (fun e => by injection e with _ e2 _; exact absurd e2 (by decide))).trans h.c0, (World.cell?_setCell_same _ _ _ h.c1), by rw [World.frozen?_setCell]; exact h.f0, by rw [World.frozen?_setCell]; exact h.f1⟩
def numR (bs : List Nat) (f : Bool) (most : Nat) : Nat × List Nat × Bool :=
  if (vget bs 0).2.2 ≠ 0 ∨ most < (vget bs 0).1 then (0, bs, true) else ((vget bs 0).1, bs.drop (vget bs 0).2.1.toNat, f)
def bytR (bs : List Nat) (f : Bool) (n : Nat) : List Nat × List Nat × Bool := if bs.length < n then ([], bs, true) else (bs.take n, bs.drop n, f)
structure RdV (w : World) (v : Value) (bs : List Nat) : Prop where
  ex : ∃ A c, v = .slice A bs.length c ∧ Rd .u8 w A bs.length bs ∧ bs.length ≤ c ∧ c ≤ 9223372036854775807
theorem RdV.set {w : World} {A : Option Addr} {n c g i : Nat} {bs : List Nat} {x : Value} (hx : Rd .u8 w A n bs) (hA : ∀ p, A = some p → p.block ≠ g) (hc : n ≤ c) (hcm : c ≤ 9223372036854775807) : RdV (w.setCell ⟨g, i, none⟩ x) (.slice A n c) bs := by
  have hl := hx.len
  subst hl
  refine ⟨A, c, rfl, ?_, hc, hcm⟩
  refine ⟨rfl, fun h0 => ?_⟩
  obtain ⟨b, o, e, hb, hcell⟩ := hx.2 h0
  refine ⟨b, o, e, by simp [World.setCell]; exact hb, fun j hj => ?_⟩
  rw [World.cell?_setCell_far _ _ _ _ (fun q => hA _ e q.symm)]
  exact hcell j hj
theorem offA_block {A : Option Addr} {k m g : Nat} (h : ∀ p, A = some p → p.block ≠ g) : ∀ p, offA A k m = some p → p.block ≠ g := fun p hp => by
  unfold offA at hp
  split at hp
  · exact h p hp
  · cases hA : A with
    | none => rw [hA] at hp; cases hp
    | some q =>
      rw [hA] at hp
      injection hp with hp
      subst hp
      show (q.add k).block ≠ g
      have : (q.add k).block = q.block := by unfold Addr.add; split <;> rfl
      rw [this]
      exact h q hA
theorem offA_blk {A : Option Addr} {k m : Nat} {p' : Addr} (hp : offA A k m = some p') : ∃ p, A = some p ∧ p'.block = p.block := by
  unfold offA at hp
  split at hp
  · exact ⟨p', hp, rfl⟩
  · cases hA : A with
    | none => rw [hA] at hp; cases hp
    | some q =>
      rw [hA] at hp
      injection hp with hp
      subst hp
      refine ⟨q, rfl, ?_⟩
      show (q.add k).block = q.block
      unfold Addr.add
      split <;> rfl
def SameB (A : Option Addr) (v : Value) : Prop := ∀ A' n' c', v = .slice A' n' c' → ∀ p', A' = some p' → ∃ p, A = some p ∧ p'.block = p.block
theorem SameB.self (A : Option Addr) (n c : Nat) : SameB A (.slice A n c) := fun A' n' c' e p' hp => by injection e with e1 _ _; subst e1; exact ⟨p', hp, rfl⟩
theorem SameB.offA (A : Option Addr) (k m n c : Nat) : SameB A (.slice (offA A k m) n c) := fun A' n' c' e p' hp => by injection e with e1 _ _; subst e1; exact offA_blk hp
theorem numR_bad {bs : List Nat} {f : Bool} {most u : Nat} {a er : Int} (h : vget bs 0 = (u, a, er)) (hb : er ≠ 0 ∨ most < u) : numR bs f most = (0, bs, true) := by
  unfold numR
  rw [h, if_pos hb]
theorem numR_ok {bs : List Nat} {f : Bool} {most u : Nat} {a : Nat} (h : vget bs 0 = (u, (a : Int), 0)) (hb : u ≤ most) : numR bs f most = (u, bs.drop a, f) := by
  unfold numR
  rw [h, if_neg (fun q => q.elim (fun q => q rfl) (fun q => by simp only at q; omega))]
  rfl
set_option maxHeartbeats 1600000 in
theorem numC_any (g : Nat) (A : Option Addr) (n c : Nat) (bs : List Nat) (f : Bool) (most : Nat) (w : World) (hr : RdrC w g (.slice A n c) (.bool f)) (hx : Rd .u8 w A n bs) (hc : n ≤ c) (hcm : c ≤ 9223372036854775807) (hA : ∀ p, A = some p → p.block ≠ g) (hu : U8 bs) (hn : n ≤ 140737488355328) (hm : most ≤ 1000000) :
    Calls Tryz.prog 98 #[.pointer (some ⟨g, 0, none⟩), .int .i64 (most : Int)] w fun e w' => e = .returned (.int .i64 ((numR bs f most).1 : Int)) ∧ ∃ v', RdrC w' g v' (.bool (numR bs f most).2.2) ∧ RdV w' v' (numR bs f most).2.1 ∧ SameB A v' ∧ w.grownBy w' (some g) := by
  have hl := hx.len
  obtain ⟨hlt, hc0, hc1, hf0, hf1⟩ := hr
  have Hr : Hid (RdrC w g (.slice A n c) (.bool f)) := Lib.hid ⟨hlt, hc0, hc1, hf0, hf1⟩
  have HA := Lib.hid hA
  have Hx := Lib.hid hx
  have HG := Lib.hid (get_any A n c 0 bs w hx hu (by omega) hc hcm)
  have hva := fun v n => vget_at (bs := bs) (a := 0) (n := n) (v := v) hu
  unfold GetPost at HG
  have hbad := fun u a er (h : vget bs 0 = (u, a, er)) => numR_bad (f := f) (most := most) h
  have hok := fun u a (h : vget bs 0 = (u, ((a : Nat) : Int), 0)) => numR_ok (f := f) (most := most) h
  obtain ⟨⟨u, a, er⟩, hV⟩ : ∃ V, V = vget bs 0 := ⟨_, rfl⟩
  rw [← hV] at HG hva hbad hok
  simp only at HG
  have hwm : IntKind.u64.wrap (most : Int) = (most : Int) := IntWalk.u64_in _ (by omega)
  have bad : ∀ W, W = w.setCell ⟨g, 1, none⟩ (.bool true) → RdrC W g (.slice A n c) (.bool true) ∧ RdV W (.slice A n c) bs ∧ w.grownBy W (some g) := by
    rintro W rfl
    exact ⟨Hr.out.set1 _, RdV.set Hx.out HA.out hc hcm, grown_setCell w g 1 _⟩
  have Bad := Lib.hid bad
  have HAs := Lib.hid (SameB.self A n c)
  clear bad hV hx hu hA
  by_cases he : er = 0
  rotate_left
  · have HR := Lib.hid (hbad u a er rfl (.inl he))
    have heb : (er != 0) = true := by simp [he]
    rw [HR.out]
    clear hbad hok hva he
    go_enter Tryz.func98, Tryz.ntmps98
    go_wp2_with fail
    refine HG.out.mono ?_
    rintro e w1 ⟨rfl, rfl⟩
    go_wp2_with fail
    go_ret
    obtain ⟨b1, b2, b3⟩ := Bad.out _ rfl
    exact ⟨rfl, _, b1, b2, HAs.out, b3⟩
  subst he
  by_cases hbig : most < u
  · have HR := Lib.hid (hbad u a 0 rfl (.inr hbig))
    have hI : (most : Int) < (u : Int) := by omega
    rw [HR.out]
    clear hbad hok hva hbig
    go_enter Tryz.func98, Tryz.ntmps98
    go_wp2_with fail
    refine HG.out.mono ?_
    rintro e w1 ⟨rfl, rfl⟩
    go_wp2_with fail
    go_ret
    obtain ⟨b1, b2, b3⟩ := Bad.out _ rfl
    exact ⟨rfl, _, b1, b2, HAs.out, b3⟩
  obtain ⟨_, v1, v2, v3, _⟩ := hva u a rfl
  rw [hl] at v2
  obtain ⟨a, rfl⟩ := Int.eq_ofNat_of_zero_le (show 0 ≤ a by omega)
  have han : a ≤ n := by omega
  have HR := Lib.hid (hok u a rfl (by omega))
  have hI : ¬ (most : Int) < (u : Int) := by omega
  have hwu : IntKind.i64.wrap (u : Int) = (u : Int) := IntWalk.i64_in _ (by omega)
  have HSl := run_from A n c a han
  have Hok : Hid (∀ W, W = w.setCell ⟨g, 0, none⟩ (.slice (offA A a c) (n - a : Nat) (c - a : Nat)) → RdrC W g (.slice (offA A a c) (n - a) (c - a)) (.bool f) ∧ RdV W (.slice (offA A a c) (n - a) (c - a)) (bs.drop a) ∧ w.grownBy W (some g)) := Lib.hid (by
    rintro W rfl
    exact ⟨Hr.out.set0 _, RdV.set (Hx.out.offA han hc) (offA_block HA.out) (by omega) (by omega), grown_setCell w g 0 _⟩)
  have HAo := Lib.hid (SameB.offA A a c (n - a) (c - a))
  rw [HR.out]
  clear hbad hok hva hbig hl v1 v2 v3
  go_enter Tryz.func98, Tryz.ntmps98
  go_wp2_with fail
  refine HG.out.mono ?_
  rintro e w1 ⟨rfl, rfl⟩
  go_wp2_with fail
  go_ret
  obtain ⟨b1, b2, b3⟩ := Hok.out _ rfl
  exact ⟨rfl, _, b1, b2, HAo.out, b3⟩
theorem bytR_bad {bs : List Nat} {f : Bool} {n : Nat} (h : bs.length < n) : bytR bs f n = ([], bs, true) := if_pos h
theorem bytR_ok {bs : List Nat} {f : Bool} {n : Nat} (h : ¬ bs.length < n) : bytR bs f n = (bs.take n, bs.drop n, f) := if_neg h
set_option maxHeartbeats 1600000 in
theorem bytC_any (g : Nat) (A : Option Addr) (n c : Nat) (bs : List Nat) (f : Bool) (m : Nat) (w : World) (hr : RdrC w g (.slice A n c) (.bool f)) (hx : Rd .u8 w A n bs) (hc : n ≤ c) (hcm : c ≤ 9223372036854775807) (hA : ∀ p, A = some p → p.block ≠ g) (_hn : n ≤ 140737488355328) (hm : m ≤ 1000000) :
    Calls Tryz.prog 101 #[.pointer (some ⟨g, 0, none⟩), .int .i64 (m : Int)] w fun e w' => ∃ A1 c1, e = .returned (.slice A1 (bytR bs f m).1.length c1) ∧ (bytR bs f m).1.length ≤ c1 ∧ c1 ≤ 9223372036854775807 ∧ (A1 = none ∨ A1 = A) ∧ Rd .u8 w' A1 (bytR bs f m).1.length (bytR bs f m).1 ∧
      ∃ v', RdrC w' g v' (.bool (bytR bs f m).2.2) ∧ RdV w' v' (bytR bs f m).2.1 ∧ SameB A v' ∧ w.grownBy w' (some g) := by
  have hl := hx.len
  obtain ⟨hlt, hc0, hc1, hf0, hf1⟩ := hr
  have Hr : Hid (RdrC w g (.slice A n c) (.bool f)) := Lib.hid ⟨hlt, hc0, hc1, hf0, hf1⟩
  have HA := Lib.hid hA
  have Hx := Lib.hid hx
  by_cases hbig : n < m
  · have hI : (n : Int) < (m : Int) := by omega
    rw [bytR_bad (by omega)]
    have Bad : Hid (∀ W, W = w.setCell ⟨g, 1, none⟩ (.bool true) → RdrC W g (.slice A n c) (.bool true) ∧ RdV W (.slice A n c) bs ∧ w.grownBy W (some g)) := Lib.hid (by
      rintro W rfl
      exact ⟨Hr.out.set1 _, RdV.set Hx.out HA.out hc hcm, grown_setCell w g 1 _⟩)
    have HAs := Lib.hid (SameB.self A n c)
    clear hx hA hl hbig
    go_enter Tryz.func101, Tryz.ntmps101
    go_wp2_with fail
    go_ret
    obtain ⟨b1, b2, b3⟩ := Bad.out _ rfl
    exact ⟨none, 0, rfl, Nat.le_refl _, by decide, .inl rfl, Rd.nil .., _, b1, b2, HAs.out, b3⟩
  · have hI : ¬ (n : Int) < (m : Int) := by omega
    have hmn : m ≤ n := by omega
    rw [bytR_ok (by omega)]
    have hu1 := run_upto .i64 A n c m (by omega)
    have hs1 := run_from A n c m hmn
    have Hok : Hid (∀ W, W = w.setCell ⟨g, 0, none⟩ (.slice (offA A m c) (n - m : Nat) (c - m : Nat)) → RdrC W g (.slice (offA A m c) (n - m) (c - m)) (.bool f) ∧ RdV W (.slice (offA A m c) (n - m) (c - m)) (bs.drop m) ∧ Rd .u8 W A m (bs.take m) ∧ w.grownBy W (some g)) := Lib.hid (by
      rintro W rfl
      obtain ⟨A', c', e, q1, q2, q3⟩ := (RdV.set (i := 0) (g := g) (x := .slice (offA A m c) (n - m : Nat) (c - m : Nat)) (Hx.out.upto hmn) HA.out (by omega : m ≤ c) hcm).ex
      injection e with e1 e2 e3
      subst e1
      rw [← e2] at q1
      exact ⟨Hr.out.set0 _, RdV.set (Hx.out.offA hmn hc) (offA_block HA.out) (by omega) (by omega), q1, grown_setCell w g 0 _⟩)
    have HAo := Lib.hid (SameB.offA A m c (n - m) (c - m))
    have Htl : Hid ((bs.take m).length = m) := Lib.hid (by rw [List.length_take, hl]; omega)
    obtain ⟨T, hT⟩ : ∃ T, T = bs.take m := ⟨_, rfl⟩
    rw [← hT] at Htl Hok ⊢
    clear hT
    clear hx hA hl hbig
    go_enter Tryz.func101, Tryz.ntmps101
    go_wp2_with fail
    go_ret
    obtain ⟨b1, b2, b3, b4⟩ := Hok.out _ rfl
    exact ⟨A, c, by rw [Htl.out]; rfl, by rw [Htl.out]; omega, hcm, .inr rfl, by rw [Htl.out]; exact b3, _, b1, b2, HAo.out, b4⟩
theorem doneC_any (g : Nat) (A : Option Addr) (n c : Nat) (f : Bool) (w : World) (hr : RdrC w g (.slice A n c) (.bool f)) :
    Calls Tryz.prog 102 #[.pointer (some ⟨g, 0, none⟩)] w fun e w' => e = .returned (.bool (!f && decide (n = 0))) ∧ w = w' := by
  obtain ⟨hlt, hc0, hc1, hf0, hf1⟩ := hr
  cases f with
  | true =>
    go_enter Tryz.func102, Tryz.ntmps102
    go_wp2_with fail
    go_ret
    exact ⟨rfl, rfl⟩
  | false =>
    by_cases h0 : n = 0
    · subst h0
      go_enter Tryz.func102, Tryz.ntmps102
      go_wp2_with fail
      go_ret
      exact ⟨rfl, rfl⟩
    · have hb : ((n : Int) == 0) = false := by simp [h0]
      have hd : decide (n = 0) = false := decide_eq_false h0
      rw [hd]
      clear hd
      go_enter Tryz.func102, Tryz.ntmps102
      go_wp2_with fail
      go_ret
      exact ⟨rfl, rfl⟩
structure FilC (w : World) (g : Nat) (k : Int) (ks : Bool) (rows per : Int) (vb vf : Value) : Prop where
  lt : g < w.heap.size
  c0 : w.cell? ⟨g, 0, none⟩ = some (.int .i64 k)
  c1 : w.cell? ⟨g, 1, none⟩ = some (.bool ks)
  c2 : w.cell? ⟨g, 2, none⟩ = some (.int .i64 rows)
  c3 : w.cell? ⟨g, 3, none⟩ = some (.int .i64 per)
  c4 : w.cell? ⟨g, 4, none⟩ = some vb
  c5 : w.cell? ⟨g, 5, none⟩ = some vf
  fr : ∀ i, w.frozen? ⟨g, i, none⟩ = false
theorem FilC.ext {w w' : World} {g : Nat} {k : Int} {ks : Bool} {rows per : Int} {vb vf : Value} (h : FilC w g k ks rows per vb vf) (he : Ext w w') (hf : ∀ i, w'.frozen? ⟨g, i, none⟩ = w.frozen? ⟨g, i, none⟩) : FilC w' g k ks rows per vb vf :=
  ⟨Nat.lt_of_lt_of_le h.lt he.size, (he.cells g _ h.lt).trans h.c0, (he.cells g _ h.lt).trans h.c1, (he.cells g _ h.lt).trans h.c2, (he.cells g _ h.lt).trans h.c3, (he.cells g _ h.lt).trans h.c4, (he.cells g _ h.lt).trans h.c5, fun i => (hf i).trans (h.fr i)⟩
section
variable (g : Nat) (k : Int) (ks : Bool) (rows per : Int) (Ab : Option Addr) (nb cb : Nat) (vf : Value) (w : World) (h : FilC w g k ks rows per (.slice Ab nb cb) vf)
include h
theorem kindC_any : Calls Tryz.prog 27 #[.pointer (some ⟨g, 0, none⟩)] w fun e w' => e = .returned (.int .i64 k) ∧ w = w' := by
  obtain ⟨hlt, h0, h1, h2, h3, h4, h5, hf⟩ := h
  go_enter Tryz.func27, Tryz.ntmps27
  go_wp2_with fail
  go_ret
  exact ⟨rfl, rfl⟩
theorem rowsC_any : Calls Tryz.prog 26 #[.pointer (some ⟨g, 0, none⟩)] w fun e w' => e = .returned (.int .i64 rows) ∧ w = w' := by
  obtain ⟨hlt, h0, h1, h2, h3, h4, h5, hf⟩ := h
  go_enter Tryz.func26, Tryz.ntmps26
  go_wp2_with fail
  go_ret
  exact ⟨rfl, rfl⟩
theorem keysC_any : Calls Tryz.prog 28 #[.pointer (some ⟨g, 0, none⟩)] w fun e w' => e = .returned (.bool ks) ∧ w = w' := by
  obtain ⟨hlt, h0, h1, h2, h3, h4, h5, hf⟩ := h
  go_enter Tryz.func28, Tryz.ntmps28
  go_wp2_with fail
  go_ret
  exact ⟨rfl, rfl⟩
theorem blocksC_any : Calls Tryz.prog 29 #[.pointer (some ⟨g, 0, none⟩)] w fun e w' => e = .returned (.int .i64 (nb : Int)) ∧ w = w' := by
  obtain ⟨hlt, h0, h1, h2, h3, h4, h5, hf⟩ := h
  go_enter Tryz.func29, Tryz.ntmps29
  go_wp2_with fail
  go_ret
  exact ⟨rfl, rfl⟩
end
def rightK (k : Int) (ks : Bool) (per : Int) : Bool := (!ks || decide (k = 8)) && kindK k && perK per
set_option maxHeartbeats 800000 in
theorem rightC_any (g : Nat) (k : Int) (ks : Bool) (rows per : Int) (vb vf : Value) (w : World) (h : FilC w g k ks rows per vb vf) :
    Calls Tryz.prog 99 #[.pointer (some ⟨g, 0, none⟩)] w fun e w' => e = .returned (.bool (rightK k ks per)) ∧ Ext w w' := by
  have Hh := Lib.hid h
  have HK := Lib.hid (fun W => isKindC_any k W)
  have HP := Lib.hid (fun W => isPerC_any per W)
  have K3 := Lib.hid (fun W (hW : Ext w W) => (hW.cells g 3 h.lt).trans h.c3)
  obtain ⟨hlt, h0, h1, h2, h3, h4, h5, hf⟩ := h
  have hR : rightK k ks per = ((!ks || decide (k = 8)) && kindK k && perK per) := rfl
  obtain ⟨R, hRR⟩ : ∃ R, R = rightK k ks per := ⟨_, rfl⟩
  rw [← hRR] at hR ⊢
  clear hRR
  obtain ⟨A, hA⟩ : ∃ A, A = kindK k := ⟨_, rfl⟩
  obtain ⟨B, hB⟩ : ∃ A, A = perK per := ⟨_, rfl⟩
  rw [← hA, ← hB] at hR
  rw [← hA] at HK
  rw [← hB] at HP
  clear hA hB
  by_cases hkk : ks = true ∧ ¬ k = 8
  · obtain ⟨rfl, h8⟩ := hkk
    have hb : (k != 8) = true := by simp [h8]
    have HR : Hid (R = false) := Lib.hid (by rw [hR, decide_eq_false h8]; rfl)
    clear hR
    go_enter Tryz.func99, Tryz.ntmps99
    go_wp2_with fail
    go_ret
    exact ⟨by rw [HR.out]; rfl, Ext.refl _⟩
  · have hR2 : R = (A && B) := by
      rw [hR]
      cases ks with
      | false => rfl
      | true =>
        have : k = 8 := Decidable.not_not.1 (fun q => hkk ⟨rfl, q⟩)
        rw [decide_eq_true this]
        rfl
    have HR := Lib.hid hR2
    clear hR hR2
    have main : ∀ (x : Bool), x = ks → (x = true → (k != 8) = false) → Calls Tryz.prog 99 #[.pointer (some ⟨g, 0, none⟩)] w fun e w' => e = .returned (.bool R) ∧ Ext w w' := by
      intro x hx hx8
      cases x with
      | false =>
        rw [← hx] at h1
        clear hx hx8 hkk Hh
        cases A with
        | false =>
          go_enter Tryz.func99, Tryz.ntmps99
          go_wp2_with fail
          refine (HK.out _).mono ?_
          rintro e w1 ⟨rfl, he1⟩
          go_wp2_with fail
          go_ret
          exact ⟨by rw [HR.out]; rfl, he1⟩
        | true =>
          go_enter Tryz.func99, Tryz.ntmps99
          go_wp2_with fail
          refine (HK.out _).mono ?_
          rintro e w1 ⟨rfl, he1⟩
          have c3 := K3.out _ he1
          go_wp2_with fail
          refine (HP.out _).mono ?_
          rintro e w2 ⟨rfl, rfl⟩
          go_wp2_with fail
          go_ret
          exact ⟨by rw [HR.out]; rfl, he1⟩
      | true =>
        have h8 := hx8 rfl
        rw [← hx] at h1
        clear hx hx8 hkk Hh
        cases A with
        | false =>
          go_enter Tryz.func99, Tryz.ntmps99
          go_wp2_with fail
          refine (HK.out _).mono ?_
          rintro e w1 ⟨rfl, he1⟩
          go_wp2_with fail
          go_ret
          exact ⟨by rw [HR.out]; rfl, he1⟩
        | true =>
          go_enter Tryz.func99, Tryz.ntmps99
          go_wp2_with fail
          refine (HK.out _).mono ?_
          rintro e w1 ⟨rfl, he1⟩
          have c3 := K3.out _ he1
          go_wp2_with fail
          refine (HP.out _).mono ?_
          rintro e w2 ⟨rfl, rfl⟩
          go_wp2_with fail
          go_ret
          exact ⟨by rw [HR.out]; rfl, he1⟩
    refine main ks rfl (fun q => ?_)
    have : k = 8 := Decidable.not_not.1 (fun q' => hkk ⟨q, q'⟩)
    simp [this]
end Go.Proofs.YthibbgmicmfkfaaGreat
