import Derived.Test.YthibbgmicmfkfaaGreatGW12
import Derived.Deep.RegionHeld3
namespace Go.Proofs.YthibbgmicmfkfaaGreat
open Go.RowKit
set_option maxRecDepth 100000
set_option maxHeartbeats 3200000 in
theorem refPencode_any (A : Option Addr) (n c : Nat) (vs : List Int) (w : World) (hx : RdG shZ w A n vs) (hv : R64s vs) :
   Calls Tryz.prog 198 #[.slice A n c] w (Enc9Post vs w) := by
 have hl := hx.len
 unfold Enc9Post
 by_cases hbig : 4096 < n
 · rw [show encode9 vs = ([], 4) by unfold encode9; rw [if_pos (by omega)]]
   clear hl
   go_enter Tryz.func198, Tryz.ntmps198
   go_wp2_with fail
   go_ret2
   exact ⟨none, 0, rfl, Own.nil _ _ _ _, Ext.refl w⟩
 · have hd4 : decide ((4096 : Int) < (n : Int)) = false := decide_eq_false (by omega)
   rw [show encode9 vs = (encP vs, 0) by unfold encode9; rw [if_neg (by omega)]]
   rcases Nat.eq_zero_or_pos n with h0 | hp
   · subst h0
     have hP : encP vs = vput 0 := by unfold encP; rw [if_pos hl]
     rw [hP]
     have HV := Lib.hid hP
     clear hl hP
     go_enter Tryz.func198, Tryz.ntmps198
     go_wp2_with fail
     refine (refPut_any 0 _ (by omega)).mono ?_
     rintro e w2 ⟨A2, c2, rfl, hown2, he2⟩
     go_wp2_with fail
     go_ret2
     exact ⟨A2, c2, rfl, hown2, he2⟩
   · have hP : encP vs = vput n ++ (vput (foldS (lo vs)).toNat ++ ([wid vs] ++ packB (wid vs) (dst (lo vs) vs))) := by unfold encP; rw [if_neg (by omega), hl]
     rw [hP]
     have hlm := hv _ (lo_mem (show 0 < vs.length by omega))
     have hle := lo_le (xs := vs)
     have hw64 := wid_le hv (show 0 < vs.length by omega)
     obtain ⟨hpE, hpL⟩ := pack_dst hv (show 0 < vs.length by omega) (by omega)
     have hpl := packB_len9 (wid vs) (dst (lo vs) vs)
     rw [dst_len, hl] at hpl
     have hdu := dst_u64 hv hlm
     have hdl := (dst_len (lo vs) vs).trans hl
     obtain ⟨f0, f1⟩ := fold_range hlm
     obtain ⟨u, hu⟩ : ∃ u : Nat, foldS (lo vs) = (u : Int) := ⟨(foldS (lo vs)).toNat, by omega⟩
     rw [hu, Int.toNat_natCast]
     have hMin : Hid (∀ W, Ext w W → Calls Tryz.prog 211 #[.slice A n c] W fun e w' => e = .returned (.int .i64 (lo vs)) ∧ W = w') := Lib.hid fun W hW => pleast_any A n c vs W (hx.ext hW) hp (by omega)
     have hDst : Hid (∀ j, j < n → R64 (vs.getD j 0) ∧ lo vs ≤ vs.getD j 0 ∧ (dst (lo vs) vs).getD j 0 = (vs.getD j 0 - lo vs).toNat) := Lib.hid fun j hj => ⟨hv _ (mem_getD (by omega)), hle _ (mem_getD (by omega)), dst_at (by omega)⟩
     have hLm := Lib.hid hlm
     have hPk : Hid (∀ (B : Option Addr) (cb : Nat) W, Rd .u64 W B n (dst (lo vs) vs) → Calls Tryz.prog 165 #[.int .i64 (wid vs : Nat), .slice B n cb] W fun e w' => ∃ A' c', e = .returned (.tuple #[.slice A' (packB (wid vs) (dst (lo vs) vs)).length c', .int .i64 0]) ∧ Own .u8 5 w' W.heap.size A' c' (packB (wid vs) (dst (lo vs) vs)) ∧ Ext W w') := Lib.hid fun B cb W h => by
       have := refPack_any B n cb (wid vs) (dst (lo vs) vs) W h hdu (by omega)
       unfold PackPost at this
       rw [hpE, hpL] at this
       exact this
     have hWd : Hid (∀ (B : Option Addr) (cb : Nat) W, Rd .u64 W B n (dst (lo vs) vs) → Calls Tryz.prog 84 #[.slice B n cb] W fun e w' => e = .returned (.int .i64 (wid vs : Nat)) ∧ W = w') := Lib.hid fun B cb W h => refWidth_any B n cb (dst (lo vs) vs) W h hdu (by omega)
     have hFo : Hid (∀ W, Calls Tryz.prog 196 #[.int .i64 (lo vs)] W fun e w' => e = .returned (.int .u64 (u : Int)) ∧ W = w') := Lib.hid fun W => by rw [← hu]; exact refFold_any _ W hlm.1 hlm.2
     obtain ⟨l, hle'⟩ : ∃ l, l = lo vs := ⟨_, rfl⟩
     obtain ⟨d, hde⟩ : ∃ d, d = wid vs := ⟨_, rfl⟩
     obtain ⟨D, hDe⟩ : ∃ D, D = dst (lo vs) vs := ⟨_, rfl⟩
     rw [← hDe, ← hde] at hPk hpl
     rw [← hDe] at hDst hWd hdl
     rw [← hde] at hWd hw64
     rw [← hDe, ← hde]
     rw [← hle'] at hMin hDst hFo hLm
     obtain ⟨Q, hQ⟩ : ∃ Q, Q = packB d D := ⟨_, rfl⟩
     rw [← hQ] at hPk hpl ⊢
     obtain ⟨q, hq⟩ : ∃ q, q = Q.length := ⟨_, rfl⟩
     rw [← hq] at hPk hpl
     have Hq := Lib.hid hq.symm
     have Hdl := Lib.hid hdl
     have hdn : d * n ≤ 64 * 4096 := Nat.mul_le_mul hw64 (by omega)
     have hq4 : q ≤ 40000 := by rw [hpl]; omega
     have hvn := vsize_le (u := n) (by omega)
     have hvu := vsize_le (u := u) (by omega)
     rw [← vput_len] at hvn hvu
     obtain ⟨V1, hV1⟩ : ∃ V, V = vput n := ⟨_, rfl⟩
     obtain ⟨V2, hV2⟩ : ∃ V, V = vput u := ⟨_, rfl⟩
     have HV1 := Lib.hid hV1
     have HV2 := Lib.hid hV2
     rw [← hV1] at hvn ⊢
     rw [← hV2] at hvu ⊢
     obtain ⟨L, hL⟩ : ∃ L, L = V1 ++ (V2 ++ ([d] ++ Q)) := ⟨_, rfl⟩
     rw [← hL]
     have HLe := Lib.hid hL
     have hn4 : n ≤ 4096 := by omega
     have Hu64 := Lib.hid (show u < 18446744073709551616 by omega)
     have hd8 : IntKind.u8.wrap (d : Int) = (d : Int) := IntWalk.u8_in _ (by omega)
     have hn0 : ((n : Int) == 0) = false := by rw [beq_eq_false_iff_ne]; omega
     have hwn : IntKind.u64.wrap (n : Int) = (n : Int) := IntWalk.u64_in _ (by omega)
     clear hl hlm hle hpE hpL hdu hdl f0 f1 hu hle' hde hDe hQ hq hpl hdn hV1 hV2 hL hP hv hbig
     go_enter Tryz.func198, Tryz.ntmps198
     go_wp2_with fail
     refine (refPut_any n _ (by omega)).mono ?_
     rintro e w1 ⟨A1, c1, rfl, hown1, he1⟩
     rw [← HV1.out] at hown1 ⊢
     have hr1 := hown1.rd
     clear hown1
     go_wp2_with fail
     refine (hMin.out _ he1).mono ?_
     rintro e w2 ⟨rfl, rfl⟩
     go_wp2_with fail
     go_loopw [6, 7] (fun y i wr => ∃ (j : Nat) (A' : Option Addr) (c' : Nat), j ≤ n ∧ i = .int .i64 j ∧ y = .slice A' j c' ∧ Own .u64 69 wr w1.heap.size A' c' (D.take j) ∧ Below w1.heap.size w1 wr) (fun _ i _ => n - (intOf i).toNat)
     case atStart => exact ⟨0, _, _, Nat.zero_le _, rfl, rfl, Own.made _ _ _ (Nat.le_refl _), (Ext.refl w1).alloc _⟩
     case round =>
       obtain ⟨j, A', c', hj, rfl, rfl, hown, hb⟩ := hrel
       have hz : w1.heap.size ≤ wr.heap.size := hb.size
       by_cases hlt : j < n
       · obtain ⟨b, o, rfl, hbl, hc⟩ := ((hx.ext he1).ext hb).atZ hlt
         obtain ⟨g1, g2, g3⟩ := hDst.out j hlt
         have hw := wrap_dist g1 hLm.out g2
         obtain ⟨v, hve⟩ : ∃ v, v = vs.getD j 0 := ⟨_, rfl⟩
         obtain ⟨x, hxe⟩ : ∃ x, x = D.getD j 0 := ⟨_, rfl⟩
         rw [← hve] at hc g2 g3 hw
         rw [← hxe] at g3
         rw [show v - l = (x : Int) by omega] at hw
         have htl : (D.take j).length = j := by rw [List.length_take, Hdl.out]; omega
         have Htl := Lib.hid htl
         have Htk := Lib.hid (take_next D j (by have := Hdl.out; omega))
         rw [← hxe] at Htk
         clear htl hve hxe g1 g2 g3
         go_wp2_with (at_builtin; refine wpList_push .u64 x 69 rfl _ _ 72 rfl _ 8 Tryz.underlying72 Tryz.infoU64 rfl hown j Htl.out rfl rfl rfl (by omega) (by omega) hb hz ?_; intro A1 c1 w2 hown1 hb1 hz1)
         go_roundw
         case rel => exact ⟨j + 1, A1, c1, by omega, by go_num, rfl, by rw [Htk.out]; exact hown1, hb1⟩
         case measure => simp [intOf]; omega
       · obtain rfl : j = n := by omega
         rw [List.take_of_length_le (by have := Hdl.out; omega)] at hown
         have hr2 := hown.rd' Hdl.out
         have he2 : Ext w1 wr := hb
         clear hown hb
         go_wp2_with fail
         refine (hWd.out _ _ _ hr2).mono ?_
         rintro e w3 ⟨rfl, rfl⟩
         go_wp2_with fail
         refine (hPk.out _ _ _ hr2).mono ?_
         rintro e w3 ⟨A3, c3, rfl, hown3, he3⟩
         have hr3 := hown3.rd' Hq.out
         clear hown3
         go_wp2_with fail
         refine (hFo.out _).mono ?_
         rintro e w4 ⟨rfl, rfl⟩
         go_wp2_with fail
         refine (refPut_any u _ Hu64.out).mono ?_
         rintro e w4 ⟨A4, c4, rfl, hown4, he4⟩
         rw [← HV2.out] at hown4 ⊢
         have hr4 := hown4.rd
         clear hown4
         go_wp2_with fail
         refine (cat_any _ _ V1.length _ V2.length _ V1 V2 _ (((hr1.ext he2).ext he3).ext he4) hr4 (by omega)).mono ?_
         rintro e w5 ⟨A5, c5, rfl, hown5, he5⟩
         have hl5 : (V1 ++ V2).length = V1.length + V2.length := List.length_append
         have Hl5 := Lib.hid hl5
         have hb5 := he5.size
         clear hl5
         go_wp2_with (at_builtin; refine wpList_push (w0 := w4) (base := w4.heap.size) .u8 d 5 rfl _ _ 22 rfl _ 1 Tryz.underlying22 Tryz.infoU8 rfl hown5 (V1.length + V2.length) Hl5.out rfl rfl rfl (by omega) (by omega) he5 hb5 ?_; intro A6 c6 w6 hown6 hb6 hz6)
         have hl6 : (V1 ++ V2 ++ [d]).length = V1.length + V2.length + 1 := by rw [List.length_append, Hl5.out]; rfl
         have hr6 := hown6.rd' hl6
         have he6 : Ext w4 w6 := hb6
         clear hl6 hown6 hown5
         refine (cat_any _ _ (V1.length + V2.length + 1) _ q _ (V1 ++ V2 ++ [d]) Q _ hr6 ((hr3.ext he4).ext he6) (by omega)).mono ?_
         rintro e w7 ⟨A7, c7, rfl, hown7, he7⟩
         have hfin : V1 ++ V2 ++ [d] ++ Q = L := by rw [HLe.out]; simp
         have hlen : V1.length + V2.length + 1 + q = L.length := by rw [← hfin]; simp [Hq.out]; omega
         rw [hfin] at hown7
         rw [hlen]
         have hE7 : Ext w w7 := ((((he1.trans he2).trans he3).trans he4).trans he6).trans he7
         have hb7 := (((he1.trans he2).trans he3).trans he4).trans he6 |>.size
         clear hfin hlen
         go_wp2_with fail
         go_ret2
         exact ⟨A7, c7, rfl, hown7.mono hb7, hE7⟩
theorem dst_above (l : Int) (far : List Nat) : dst l (above l far) = far := by
 unfold dst above
 rw [List.map_map]
 conv => rhs; rw [← List.map_id far]
 refine List.map_congr_left fun x _ => ?_
 show (l + (x : Int) - l).toNat = x
 omega
theorem above_dst {l : Int} {vs : List Int} (h : ∀ v ∈ vs, l ≤ v) : above l (dst l vs) = vs := by
 unfold dst above
 rw [List.map_map]
 conv => rhs; rw [← List.map_id vs]
 refine List.map_congr_left fun v hv => ?_
 have := h v hv
 show l + (((v - l).toNat : Nat) : Int) = v
 omega
theorem lo_above {l : Int} {far : List Nat} (h : 0 ∈ far) : lo (above l far) = l := by
 have h1 : l ∈ above l far := List.mem_map.2 ⟨0, h, by simp⟩
 have h2 := lo_le _ h1
 have h3 := lo_mem (List.length_pos_of_mem h1)
 obtain ⟨x, _, hx⟩ := List.mem_map.1 h3
 omega
theorem packL_ok {wd : Nat} {vs : List Nat} (h : packE wd vs = 0) : packL wd vs = packB wd vs := by unfold packL; rw [if_pos h]; rfl
theorem only9 {bs : List Nat} (hu : U8 bs) (h : (decode9 bs).2 = 0) : encode9 (decode9 bs).1 = (bs, 0) ∧ R64s (decode9 bs).1 := by
 rcases hd : decode9 bs with ⟨vs, e⟩
 rw [hd] at h
 simp only at h
 subst h
 show encode9 vs = (bs, 0) ∧ R64s vs
 unfold decode9 at hd
 rcases hg : vget bs 0 with ⟨M, a, e1⟩
 rw [hg] at hd
 simp only at hd
 by_cases h1 : e1 = 0
 · subst h1
   rw [if_neg (by simp)] at hd
   obtain ⟨p1, p2, p3, p4, p5⟩ := vget_at hu hg
   by_cases h2 : 4096 < M
   · rw [if_pos h2] at hd; injection hd with _ hd; exact absurd hd (by decide)
   rw [if_neg h2] at hd
   by_cases h3 : M = 0
   · subst h3
     rw [if_pos rfl] at hd
     by_cases h4 : a < (bs.length : Int)
     · rw [if_pos h4] at hd; injection hd with _ hd; exact absurd hd (by decide)
     · rw [if_neg h4] at hd
       injection hd with hd _
       subst hd
       refine ⟨?_, fun v hv => by cases hv⟩
       have : bs = vput 0 := by
         rw [p5, show (0 : Int).toNat = 0 from rfl, List.drop_zero, List.take_of_length_le (by omega)]
       rw [this]
       rfl
   · rw [if_neg h3] at hd
     unfold decSome at hd
     rcases hg2 : vget bs a with ⟨u, a2, e2⟩
     rw [hg2] at hd
     simp only at hd
     by_cases h4 : e2 = 0
     · subst h4
       rw [if_neg (by simp)] at hd
       obtain ⟨q1, q2, q3, q4, q5⟩ := vget_at hu hg2
       obtain ⟨k, rfl⟩ : ∃ k : Nat, a = (k : Int) := ⟨a.toNat, by omega⟩
       obtain ⟨q, rfl⟩ : ∃ q : Nat, a2 = (q : Int) := ⟨a2.toNat, by omega⟩
       rw [Int.toNat_natCast] at hd
       simp only [Int.toNat_natCast, Int.toNat_zero, List.drop_zero, Nat.sub_zero] at p5 q5
       have hle := unf_range q4
       have hfu : foldS (unfS (u : Int)) = (u : Int) := fold_unf (by omega)
       obtain ⟨l, hl⟩ : ∃ l, l = unfS (u : Int) := ⟨_, rfl⟩
       rw [← hl] at hd hle hfu
       unfold decTail at hd
       by_cases h5 : q = bs.length
       · rw [if_pos h5] at hd; injection hd with _ hd; exact absurd hd (by decide)
       rw [if_neg h5] at hd
       obtain ⟨d, hde⟩ : ∃ d, d = bs.getD q 0 := ⟨_, rfl⟩
       rw [← hde] at hd
       by_cases h6 : 64 < d
       · rw [if_pos h6] at hd; injection hd with _ hd; exact absurd hd (by decide)
       rw [if_neg h6] at hd
       by_cases h7 : secE bs q M = 0
       · rw [if_neg (by simpa using h7)] at hd
         have hF := secL_len h7
         have hUe : secL bs q M = upk d M (pk 8 (bs.drop (q + 1))) := by
           unfold secL
           rw [unp_ok h7, ← hde, Int.toNat_natCast, Int.toNat_natCast]
         have hE : unpE (pk 8 (bs.drop (q + 1))) (bs.drop (q + 1)).length (d : Int) (M : Int) = 0 := by
           rw [List.length_drop]
           unfold secE at h7
           rw [← hde] at h7
           exact h7
         obtain ⟨c1, c2⟩ := pack_unp (by omega) (by omega) (fun v hv => hu v (List.mem_of_mem_drop hv)) hE
         rw [packL_ok c1, ← hUe] at c2
         obtain ⟨F, hFe⟩ : ∃ F, F = secL bs q M := ⟨_, rfl⟩
         rw [← hFe] at hd hF c2
         by_cases h8 : onlyF l d F = true
         · rw [if_pos h8] at hd
           injection hd with hd _
           subst hd
           unfold onlyF at h8
           simp only [Bool.and_eq_true, decide_eq_true_eq] at h8
           obtain ⟨g1, g2, g3⟩ := h8
           have hz := (loN_zero (by omega)).1 g2
           have hlo := lo_above (l := l) hz
           have hM : (above l F).length = M := by rw [above_len, hF]
           refine ⟨?_, ?_⟩
           · have hw : wid (above l F) = d := by unfold wid; rw [hlo, dst_above]; omega
             unfold encode9
             rw [if_neg (by omega)]
             unfold encP
             rw [if_neg (by omega), hM, hw, hlo, dst_above, c2, hfu, Int.toNat_natCast, p5, q5]
             congr 1
             have e1 : bs.drop q = d :: bs.drop (q + 1) := by rw [hde]; exact drop_cons (by omega)
             have e2 : (bs.drop k).take (q - k) ++ bs.drop q = bs.drop k := by
               conv => rhs; rw [← List.take_append_drop (q - k) (bs.drop k)]
               rw [List.drop_drop, show k + (q - k) = q from by omega]
             rw [List.singleton_append, ← e1, e2, List.take_append_drop]
           · intro v hv
             obtain ⟨x, hx, rfl⟩ := List.mem_map.1 hv
             have := le_hiN x hx
             unfold R64 at hle ⊢
             omega
         · rw [if_neg h8] at hd; injection hd with _ hd; exact absurd hd (by decide)
       · rw [if_pos h7] at hd; injection hd with _ hd; exact absurd hd h7
     · rw [if_pos h4] at hd; injection hd with _ hd; exact absurd hd h4
 · rw [if_pos h1] at hd; injection hd with _ hd; exact absurd hd h1
theorem decode9_form {V1 V2 T : List Nat} {n u d : Nat} (hn1 : 1 ≤ n) (hn : n ≤ 4096) (h1 : V1 = vput n) (h2 : V2 = vput u) (hu : u < 18446744073709551616) (hd : d ≤ 64) :
   decode9 (V1 ++ (V2 ++ (d :: T))) = if unpE (pk 8 T) T.length (d : Int) (n : Int) ≠ 0 then ([], unpE (pk 8 T) T.length (d : Int) (n : Int)) else
     if onlyF (unfS u) d (unpL (pk 8 T) T.length (d : Int) (n : Int)) = true then (above (unfS u) (unpL (pk 8 T) T.length (d : Int) (n : Int)), 0) else ([], 5) := by
 obtain ⟨bs, hb⟩ : ∃ bs, bs = V1 ++ (V2 ++ (d :: T)) := ⟨_, rfl⟩
 rw [← hb]
 obtain ⟨g1, b1, d1⟩ := vget_put (bs := bs) (a := 0) (u := n) (rest := V2 ++ (d :: T)) (by omega) (Nat.zero_le _) (by rw [List.drop_zero, hb, h1])
 rw [← h1] at g1 b1 d1
 obtain ⟨g2, b2, d2⟩ := vget_put (bs := bs) (a := 0 + V1.length) (u := u) (rest := d :: T) hu b1 (by rw [d1, h2])
 rw [← h2] at g2 b2 d2
 obtain ⟨q, hq⟩ : ∃ q, q = 0 + V1.length + V2.length := ⟨_, rfl⟩
 rw [← hq] at b2 d2
 have hql : q < bs.length := by
   have := congrArg List.length d2
   rw [List.length_drop, List.length_cons] at this
   omega
 have e1 := drop_cons hql
 rw [d2] at e1
 injection e1 with e2 e3
 have e4 : bs.length - (q + 1) = T.length := by rw [e3, List.length_drop]
 have hE : secE bs q n = unpE (pk 8 T) T.length (d : Int) (n : Int) := by unfold secE; rw [← e3, e4, ← e2]
 have hL : secL bs q n = unpL (pk 8 T) T.length (d : Int) (n : Int) := by unfold secL; rw [← e3, e4, ← e2]
 have g1' : vget bs 0 = (n, (((0 + V1.length : Nat)) : Int), 0) := by rw [show (0 : Int) = ((0 : Nat) : Int) from rfl, g1, Int.natCast_add]; rfl
 unfold decode9
 rw [g1']
 simp only
 rw [if_neg (by simp), if_neg (by omega), if_neg (by omega)]
 unfold decSome
 rw [g2]
 simp only
 rw [if_neg (by simp), ← Int.natCast_add, Int.toNat_natCast, ← hq]
 unfold decTail
 rw [if_neg (by omega), ← e2, if_neg (by omega), hE, hL]
theorem back9 {vs : List Int} (hv : R64s vs) (h4 : vs.length ≤ 4096) : decode9 (encP vs) = (vs, 0) ∧ decode9 (encP vs ++ [0]) = ([], 3) := by
 by_cases hn : vs.length = 0
 · obtain rfl : vs = [] := List.eq_nil_of_length_eq_zero hn
   exact ⟨by decide +kernel, by decide +kernel⟩
 · have hlm := hv _ (lo_mem (show 0 < vs.length by omega))
   obtain ⟨f0, f1⟩ := fold_range hlm
   obtain ⟨u, hu⟩ : ∃ u : Nat, foldS (lo vs) = (u : Int) := ⟨(foldS (lo vs)).toNat, by omega⟩
   have hul : unfS (u : Int) = lo vs := by rw [← hu, unf_fold]
   have hw := wid_le hv (show 0 < vs.length by omega)
   have hdl := dst_len (lo vs) vs
   have hwd : Wd (wid vs) (dst (lo vs) vs) := wdt_le.1 (Nat.le_refl _)
   obtain ⟨c1, c2, c3⟩ := unp_pack hw (by omega) hwd
   rw [hdl] at c1 c2 c3
   have hP : ∀ r, encP vs ++ r = vput vs.length ++ (vput u ++ (wid vs :: (packB (wid vs) (dst (lo vs) vs) ++ r))) := fun r => by
     unfold encP
     rw [if_neg hn, hu, Int.toNat_natCast]
     simp
   refine ⟨?_, ?_⟩
   · have := hP []
     rw [List.append_nil, List.append_nil] at this
     rw [this, decode9_form (by omega) h4 rfl rfl (by omega) hw, if_neg (by simpa using c1), c2, hul, if_pos, above_dst lo_le]
     unfold onlyF
     simp only [Bool.and_eq_true, decide_eq_true_eq]
     have hz : 0 ∈ dst (lo vs) vs := List.mem_map.2 ⟨lo vs, lo_mem (by omega), by simp⟩
     refine ⟨rfl, (loN_zero (by omega)).2 hz, ?_⟩
     obtain ⟨v, hvm, hve⟩ := List.mem_map.1 (hiN_mem (xs := dst (lo vs) vs) (by omega))
     have h1 := hv v hvm
     have h2 := lo_le v hvm
     unfold R64 at h1
     omega
   · rw [hP [0], decode9_form (by omega) h4 rfl rfl (by omega) hw, List.length_append, List.length_singleton, c3, if_pos (by decide)]
def VIn (v : Cv) : Prop := U8 v.2.2 ∧ -9223372036854775808 ≤ v.2.1 ∧ v.2.1 ≤ 9223372036854775807 ∧ v.2.2.length ≤ 200
theorem pcR_in {k : Int} {bs : List Nat} {a : Int} (hu : U8 bs) (h : (pcR k bs a).2.2 = 0) : VIn (false, (pcR k bs a).1.1, (pcR k bs a).1.2) := by
 unfold pcR at h ⊢
 split at h
 · rename_i hk
   rw [if_pos hk]
   split at h
   · rename_i h2; exact absurd h h2
   · rename_i h2
     rw [if_neg h2]
     rcases hg : vget bs a with ⟨u, nx, e⟩
     rw [hg] at h2
     obtain rfl : e = 0 := by simpa using h2
     obtain ⟨_, hv1, hv2, h3, _⟩ := vget_at hu hg
     have : -9223372036854775808 ≤ unfS (u : Int) ∧ unfS (u : Int) ≤ 9223372036854775807 := by unfold unfS; split <;> omega
     exact ⟨(by intro v hv; cases hv), this.1, this.2, by simp⟩
 · rename_i hk
   rw [if_neg hk]
   have := dtx_ok (s := (dtx bs a).1) (n := (dtx bs a).2.1) hu (by simp only at h; rw [← h])
   exact ⟨this.2.2.2.2.1, (show (-9223372036854775808 : Int) ≤ 0 by decide), (show (0 : Int) ≤ 9223372036854775807 by decide), this.2.2.2.1⟩
theorem plA_in {k : Int} {bs : List Nat} (hu : U8 bs) : ∀ (n : Nat) (a : Int) (acc : List Cv), (∀ v ∈ acc, VIn v) → ∀ v ∈ (plA k bs n a acc).1, VIn v
 | 0, _, _, h => h
 | n + 1, a, acc, h => by
   unfold plA
   split
   · intro v hv; cases hv
   · rename_i q
     refine plA_in hu n _ _ (fun v hv => ?_)
     rcases List.mem_append.1 hv with h1 | h1
     · exact h v h1
     · rw [List.mem_singleton.1 h1]
       exact pcR_in hu (by simpa using q)
theorem zR_in {R : List Int × Int} (h : R.2 = 0 → R64s R.1) : ∀ v ∈ (zR R).1, VIn v := by
 unfold zR
 split
 · intro v hv; cases hv
 · rename_i q
   intro v hv
   obtain ⟨z, hz, rfl⟩ := List.mem_map.1 hv
   have := h (by simpa using q) z hz
   exact ⟨(by intro v hv; cases hv), this.1, this.2, by simp⟩
theorem tR_in {R : List (List Nat) × Int} (h : R.2 = 0 → ∀ s ∈ R.1, U8 s ∧ s.length ≤ 200) : ∀ v ∈ (tR R).1, VIn v := by
 unfold tR
 split
 · intro v hv; cases hv
 · rename_i q
   intro v hv
   obtain ⟨z, hz, rfl⟩ := List.mem_map.1 hv
   have := h (by simpa using q) z hz
   exact ⟨this.1, (show (-9223372036854775808 : Int) ≤ 0 by decide), (show (0 : Int) ≤ 9223372036854775807 by decide), this.2⟩
theorem codR_in {cd : Int} {bs : List Nat} (hu : U8 bs) : ∀ v ∈ (codR cd bs).1, VIn v := by
 unfold codR
 split
 · exact zR_in fun h => (back8 hu h).2
 · split
   · exact zR_in fun h => (only9 hu h).2
   · split
     · exact tR_in fun h => (ddec_ok hu (ss := (ddec bs).1) (by rw [← h])).2.2.2
     · exact tR_in fun h s hs => by
         have := (pdec_ok hu (ss := (pdec bs).1) (by rw [← h])).2.2 s hs
         exact ⟨this.2, this.1⟩
theorem valuesR_in {k cd : Int} {bs : List Nat} {n : Nat} (hu : U8 bs) : ∀ v ∈ (valuesR k cd bs n).1, VIn v := by
 have h0 : ∀ v ∈ ([] : List Cv), VIn v := fun v hv => by cases hv
 unfold valuesR
 split
 · unfold gplR
   split
   · exact h0
   · split
     · exact h0
     · exact plA_in hu n 0 [] h0
 · split
   · exact h0
   · split
     · exact h0
     · exact codR_in hu
theorem wN_in : ∀ (us : List Nat) (vs : List Cv), (∀ v ∈ vs, VIn v) → ∀ v ∈ wN us vs, VIn v
 | [], _, _, v, hv => by simp [wN] at hv
 | u :: r, vs, h, v, hv => by
   by_cases q : u = 1
   · rw [wN_null q] at hv
     rcases List.mem_cons.1 hv with rfl | hv
     · exact ⟨(by intro v hv; cases hv), (show (-9223372036854775808 : Int) ≤ 0 by decide), (show (0 : Int) ≤ 9223372036854775807 by decide), by simp⟩
     · exact wN_in r vs h v hv
   · cases vs with
     | nil => simp [wN, q] at hv
     | cons x s =>
       rw [wN_val q] at hv
       rcases List.mem_cons.1 hv with rfl | hv
       · exact h _ (List.mem_cons_self ..)
       · exact wN_in r s (fun y hy => h y (List.mem_cons_of_mem _ hy)) v hv
theorem ans_rdX {W : World} {base c n : Nat} {A : Option Addr} {fs : List Ci} {R : List Cv} (hv : fs.map Ci.val = R) (hn : fs.length = n) (hok : ∀ v ∈ R, VIn v) (ho : OwnX W base A c fs) (hown : ∀ f ∈ fs, Rd .u8 W f.A f.txt.length f.txt) : RdX W A n fs := by
 rw [← hn]
 refine ho.rdX (fun f hf => ?_)
 obtain ⟨h1, h2, h3, h4⟩ := hok f.val (by rw [← hv]; exact List.mem_map.2 ⟨f, hf, rfl⟩)
 have h4' : f.txt.length ≤ 200 := h4
 exact ⟨hown f hf, h1, h2, h3, by omega⟩
theorem OwnX.cap {w : World} {base c : Nat} {A : Option Addr} {xs : List Ci} (h : OwnX w base A c xs) : xs.length ≤ c ∧ c ≤ 9223372036854775807 := by
 rcases h.2 with ⟨hv, h0⟩ | ⟨g, cap, cur, hv, hg, hh, hnc, hcm, _⟩
 · injection hv with _ _ hc
   subst hc
   exact ⟨by omega, by decide⟩
 · injection hv with _ _ hc
   subst hc
   exact ⟨hnc, by simpa [maxLen] using hcm⟩
theorem rowR_ok {bs : List Nat} {a n : Nat} (h : (rowR bs a n).2 = 0) : (rowR bs a n).1.1.length = n ∧ (∀ u ∈ (rowR bs a n).1.1, u < 2) ∧ ∃ p : Nat, (rowR bs a n).1.2 = (p : Int) ∧ p ≤ bs.length := by
 unfold rowR at h ⊢
 split at h
 · omega
 · rename_i h1
   rw [if_neg h1]
   split at h
   · rename_i h2
     exact absurd h h2
   · rename_i h2
     rw [if_neg h2]
     split at h
     · omega
     · rename_i h3
       rw [if_neg h3]
       have h2' : unpE (pk 8 ((bs.drop a).take ((n + 7) / 8))) ((n + 7) / 8) 1 n = 0 := by simpa using h2
       refine ⟨by have := unp_len12 h2'; simpa using this, fun u hu => ?_, a + (n + 7) / 8, rfl, by omega⟩
       dsimp only at hu
       rw [unp_ok h2'] at hu
       exact upk_wd _ _ _ u hu
theorem nullR_ok {bs : List Nat} {a n : Nat} (ha : a ≤ bs.length) (h : (nullR bs a n).2 = 0) : (nullR bs a n).1.1.length = n ∧ (∀ u ∈ (nullR bs a n).1.1, u < 2) ∧ ∃ p : Nat, (nullR bs a n).1.2 = (p : Int) ∧ p ≤ bs.length := by
 unfold nullR at h ⊢
 split at h
 · omega
 · rename_i h1
   rw [if_neg h1]
   split at h
   · rename_i h2
     rw [if_pos h2]
     exact ⟨List.length_replicate, fun u hu => by rw [(List.mem_replicate.1 hu).2]; decide, a + 1, rfl, by omega⟩
   · rename_i h2
     rw [if_neg h2]
     split at h
     · rename_i h3
       rw [if_pos h3]
       exact rowR_ok h
     · omega
theorem plA_len {k : Int} {bs : List Nat} : ∀ (n : Nat) (a : Int) (acc : List Cv), (plA k bs n a acc).2.2 = 0 → (plA k bs n a acc).1.length = acc.length + n
 | 0, a, acc, _ => rfl
 | n + 1, a, acc, h => by
   unfold plA at h ⊢
   split at h
   · rename_i q
     exact absurd h q
   · rename_i q
     rw [if_neg q, plA_len n _ _ h, List.length_append, List.length_singleton]
     omega
theorem valuesR_len {k cd : Int} {bs : List Nat} {n : Nat} (h : (valuesR k cd bs n).2 = 0) : (valuesR k cd bs n).1.length = n := by
 unfold valuesR at h ⊢
 split at h
 · rename_i h1
   rw [if_pos h1]
   unfold gplR at h ⊢
   split at h
   · rename_i q
     exact absurd h q
   · rename_i q
     rw [if_neg q]
     split at h
     · omega
     · rename_i q2
       rw [if_neg q2]
       have := plA_len n 0 [] (by simpa using q)
       simpa using this
 · rename_i h1
   rw [if_neg h1]
   split at h
   · rename_i q
     exact absurd h q
   · rename_i q
     rw [if_neg q]
     split at h
     · omega
     · rename_i q2
       rw [if_neg q2]
       simpa using q2
theorem codecs_range {k v : Int} (h : v ∈ codecs k) : 1 ≤ v ∧ v ≤ 5 := by
 unfold codecs at h
 split at h
 · simp at h; omega
 · simp at h; omega
def getB (k : Int) (bs : List Nat) : List Cv × Int :=
 if bs.length = 0 then ([], 2) else if ¬ ((bs.getD 0 0 : Nat) : Int) ∈ codecs k then ([], 120)
 else if (vget bs 1).2.2 ≠ 0 then ([], (vget bs 1).2.2)
 else if 4096 < (vget bs 1).1 then ([], 4)
 else if (nullR bs (vget bs 1).2.1.toNat (vget bs 1).1).2 ≠ 0 then ([], (nullR bs (vget bs 1).2.1.toNat (vget bs 1).1).2)
 else if (valuesR k (bs.getD 0 0 : Nat) (bs.drop (nullR bs (vget bs 1).2.1.toNat (vget bs 1).1).1.2.toNat) ((nullR bs (vget bs 1).2.1.toNat (vget bs 1).1).1.1.count 0)).2 ≠ 0 then ([], (valuesR k (bs.getD 0 0 : Nat) (bs.drop (nullR bs (vget bs 1).2.1.toNat (vget bs 1).1).1.2.toNat) ((nullR bs (vget bs 1).2.1.toNat (vget bs 1).1).1.1.count 0)).2)
 else (wN (nullR bs (vget bs 1).2.1.toNat (vget bs 1).1).1.1 (valuesR k (bs.getD 0 0 : Nat) (bs.drop (nullR bs (vget bs 1).2.1.toNat (vget bs 1).1).1.2.toNat) ((nullR bs (vget bs 1).2.1.toNat (vget bs 1).1).1.1.count 0)).1, 0)
set_option maxHeartbeats 3200000 in
theorem get12_any (k : Int) (A : Option Addr) (m c : Nat) (bs : List Nat) (w : World) (hx : Rd .u8 w A m bs) (hu : U8 bs) (hm : m ≤ 65000) (hc : m ≤ c) (hcm : c ≤ 9223372036854775807) :
   Calls Tryz.prog 41 #[.int .i64 k, .slice A m c] w (GcPost (getB k bs) w) := by
 have hl := hx.len
 have hR := getB.eq_1 k bs
 obtain ⟨R, hRR⟩ : ∃ R, R = getB k bs := ⟨_, rfl⟩
 rw [← hRR] at hR ⊢
 clear hRR
 rw [hl] at hR
 by_cases h0 : m = 0
 · rw [if_pos h0] at hR
   have HR := Lib.hid hR
   clear hR hx hl
   subst h0
   go_enter Tryz.func41, Tryz.ntmps41
   go_wp2_with fail
   go_ret2
   exact GcPost.bad _ HR.out (Ext.refl w)
 rw [if_neg h0] at hR
 have hm0 : 0 < m := by omega
 have hb0 : ((m : Int) == 0) = false := by simp [h0]
 obtain ⟨b, o, hA, hbl, hc0⟩ := hx.at_ hm0
 rw [Nat.add_zero] at hc0
 obtain ⟨cd, hcd⟩ : ∃ cd, cd = bs.getD 0 0 := ⟨_, rfl⟩
 rw [← hcd] at hR hc0
 have hcd8 : cd < 256 := by rw [hcd]; exact hu.at_ 0
 have HF := Lib.hid (fun W => isFor_any k (cd : Int) W)
 subst hA
 clear hcd
 by_cases hf : ((cd : Nat) : Int) ∈ codecs k
 rotate_left
 · rw [if_pos hf] at hR
   have HR := Lib.hid hR
   rw [decide_eq_false hf] at HF
   clear hR hx hl hf h0 hu
   go_enter Tryz.func41, Tryz.ntmps41
   go_wp2_with fail
   refine (HF.out _).mono ?_
   rintro e w1 ⟨rfl, he1⟩
   go_wp2_with fail
   go_ret2
   exact GcPost.bad _ HR.out he1
 rw [if_neg (fun q => q hf)] at hR
 have hcr := codecs_range hf
 rw [decide_eq_true hf] at HF
 have HG := Lib.hid (fun W (hW : Ext w W) => get_any (some ⟨b, o, none⟩) m c 1 bs W (hx.ext hW) hu (by omega) hc hcm)
 unfold GetPost at HG
 have hva := fun v n => vget_at (bs := bs) (a := 1) (n := n) (v := v) hu
 obtain ⟨⟨u, a, er⟩, hv⟩ : ∃ V, V = vget bs 1 := ⟨_, rfl⟩
 rw [← hv] at HG hR hva
 simp only at HG hR
 clear hv hf
 by_cases he : er = 0
 rotate_left
 · rw [if_pos he] at hR
   have HR := Lib.hid hR
   have hb1 : (er != 0) = true := by simp [he]
   clear hR hx hl h0 hu hva he
   go_enter Tryz.func41, Tryz.ntmps41
   go_wp2_with fail
   refine (HF.out _).mono ?_
   rintro e w1 ⟨rfl, he1⟩
   go_wp2_with fail
   refine (HG.out _ he1).mono ?_
   rintro e w2 ⟨rfl, rfl⟩
   go_wp2_with fail
   go_ret2
   exact GcPost.bad _ HR.out he1
 subst he
 rw [if_neg (fun q => q rfl)] at hR
 obtain ⟨v1, v2, v3, v4, _⟩ := hva u a rfl
 rw [hl] at v3
 obtain ⟨a, rfl⟩ := Int.eq_ofNat_of_zero_le (show 0 ≤ a by omega)
 rw [Int.toNat_natCast] at hR
 have ham : a ≤ m := by omega
 clear hva v1 v2 v3
 by_cases hbig : 4096 < u
 · rw [if_pos hbig] at hR
   have HR := Lib.hid hR
   have hb2 : decide ((4096 : Int) < (u : Int)) = true := decide_eq_true (by omega)
   clear hR hx hl h0 hu
   go_enter Tryz.func41, Tryz.ntmps41
   go_wp2_with fail
   refine (HF.out _).mono ?_
   rintro e w1 ⟨rfl, he1⟩
   go_wp2_with fail
   refine (HG.out _ he1).mono ?_
   rintro e w2 ⟨rfl, rfl⟩
   go_wp2_with fail
   go_ret2
   exact GcPost.bad _ HR.out he1
 rw [if_neg hbig] at hR
 have hb2 : decide ((4096 : Int) < (u : Int)) = false := decide_eq_false (by omega)
 have hu4 : u ≤ 4096 := by omega
 have HN := Lib.hid (fun W (hW : Ext w W) => getNulls_any (some ⟨b, o, none⟩) m c a u bs W (hx.ext hW) hu (by omega) hc hcm ham hu4)
 have hno := nullR_ok (bs := bs) (a := a) (n := u) (by omega)
 unfold NulPost at HN
 obtain ⟨⟨⟨us, p⟩, en⟩, hN⟩ : ∃ V, V = nullR bs a u := ⟨_, rfl⟩
 rw [← hN] at HN hR hno
 simp only at HN hR hno
 clear hN hbig
 by_cases hen : en = 0
 rotate_left
 · rw [if_pos hen] at hR
   have HR := Lib.hid hR
   have hb1 : (en != 0) = true := by simp [hen]
   clear hR hx hl h0 hu hno hen
   go_enter Tryz.func41, Tryz.ntmps41
   go_wp2_with fail
   refine (HF.out _).mono ?_
   rintro e w1 ⟨rfl, he1⟩
   go_wp2_with fail
   refine (HG.out _ he1).mono ?_
   rintro e w2 ⟨rfl, rfl⟩
   go_wp2_with fail
   refine (HN.out _ he1).mono ?_
   rintro e w3 ⟨A3, c3, rfl, _, he3⟩
   go_wp2_with fail
   go_ret2
   exact GcPost.bad _ HR.out (he1.trans he3)
 subst hen
 rw [if_neg (fun q => q rfl)] at hR
 obtain ⟨n1, n2, p, rfl, n3⟩ := hno rfl
 rw [hl] at n3
 rw [Int.toNat_natCast] at hR
 rw [n1] at HN
 have HM : Hid (∀ W A3 c3, Rd .u64 W A3 u us → Calls Tryz.prog 80 #[.slice A3 u c3, .int .u64 0] W fun e w' => e = .returned (.int .i64 (us.count 0 : Nat)) ∧ W = w') := Lib.hid (fun W A3 c3 h3 => howMany_any A3 u c3 us 0 W h3 (by omega))
 have hz : us.count 0 ≤ u := by rw [← n1]; exact List.count_le_length
 obtain ⟨z, hze⟩ : ∃ z, z = us.count 0 := ⟨_, rfl⟩
 rw [← hze] at HM hR hz
 have HV := Lib.hid (fun W (hW : Ext w W) => getValues_any k (cd : Int) hcr (offA (some ⟨b, o, none⟩) p c) (m - p) (c - p) z (bs.drop p) W ((hx.ext hW).offA n3 hc) (fun v hv => hu v (List.mem_of_mem_drop hv)) (by omega) (by omega) (by omega) (by omega))
 have hvi := valuesR_in (k := k) (cd := (cd : Int)) (n := z) (bs := bs.drop p) (fun v hv => hu v (List.mem_of_mem_drop hv))
 have hvl := valuesR_len (k := k) (cd := (cd : Int)) (bs := bs.drop p) (n := z)
 obtain ⟨⟨vs, ev⟩, hV⟩ : ∃ V, V = valuesR k (cd : Int) (bs.drop p) z := ⟨_, rfl⟩
 unfold GcPost at HV
 rw [← hV] at HV hR hvl hvi
 simp only at HV hR hvl hvi
 have HSl := run_from (some ⟨b, o, none⟩) m c p n3
 have Hn1 := Lib.hid n1
 have Hn2 := Lib.hid n2
 have Hze := Lib.hid hze
 have HR := Lib.hid hR
 have Hvl := Lib.hid hvl
 have Hvi := Lib.hid hvi
 clear hV hx hl h0 hu hR hno n1 n2 hze hvl hvi
 go_enter Tryz.func41, Tryz.ntmps41
 go_wp2_with fail
 refine (HF.out _).mono ?_
 rintro e w1 ⟨rfl, he1⟩
 go_wp2_with fail
 refine (HG.out _ he1).mono ?_
 rintro e w2 ⟨rfl, rfl⟩
 go_wp2_with fail
 refine (HN.out _ he1).mono ?_
 rintro e w3 ⟨A3, c3, rfl, hown3, he3⟩
 have HE3 := Lib.hid (he1.trans he3)
 have HU3 := Lib.hid (hown3.rd' Hn1.out)
 clear hown3 he3 he1
 go_wp2_with fail
 go_region_held3 (fun _ => True) (exact trivial)
   (first
     | (go_at_call 80; (with_reducible refine (HM.out _ _ _ (Rd.ext HU3.out ?_)).mono ?_); (focus ((repeat (first | exact Ext.refl _ |  apply Ext.drew | apply Ext.alloc | fail)); done)); rintro e w4 ⟨rfl, rfl⟩)
     | (go_at_call 79; (with_reducible refine (HV.out _ (Ext.trans HE3.out ?_)).mono ?_); (focus ((repeat (first | exact Ext.refl _ |  apply Ext.drew | apply Ext.alloc | fail)); done)); rintro e w5 ⟨fs, A5, c5, rfl, hv5, ho5, ht5, he5⟩)
     | fail)
 have hE35 : Ext w3 w5 := by (repeat (first | exact Ext.refl _ | (with_reducible refine Ext.trans ?_ he5) |  apply Ext.drew | apply Ext.alloc | fail))
 have ho5' : OwnX w5 w3.heap.size A5 c5 fs := ho5
 have ht5' : TxtX w5 w3.heap.size fs := ht5
 by_cases hev : ev = 0
 · subst hev
   have hR := HR.out
   rw [if_neg (fun q => q rfl)] at hR
   have hvz := Hvl.out rfl
   have hfl : fs.length = z := by rw [← hvz, ← hv5, List.length_map]
   have hrx := ans_rdX hv5 hfl Hvi.out ho5' (fun f hf => (ht5'.1 f hf).rd)
   have hcap := ho5'.cap
   rw [hfl] at hcap
   have hW := withNulls_any A3 u c3 us A5 z c5 w3.heap.size fs w5 (HU3.out.ext hE35) Hn2.out hrx ht5' hE35.size Hze.out.symm hu4 hcap.1 hcap.2
   rw [hv5] at hW
   have HRg := Lib.hid hR
   rw [hvz]
   clear hR he5 ho5 ht5 hcap hrx
   go_wp2_with fail
   refine hW.mono ?_
   rintro e w6 ⟨gs, c6, rfl, hgl, hgv, hgo, hgt, he6⟩
   go_wp2_with fail
   go_ret2
   rw [HRg.out]
   refine ⟨gs, _, c6, ?_, hgv, hgo.mono (HE3.out.trans hE35).size, hgt.mono HE3.out.size, (HE3.out.trans hE35).trans he6⟩
   rw [← hgv, List.length_map, hgl]
   rfl
 · have hR := HR.out
   rw [if_pos hev] at hR
   have HRb := Lib.hid hR
   have hb3 : (ev != 0) = true := by simp [hev]
   clear hR hev he5 ho5 ht5
   go_wp2_with fail
   go_ret2
   exact GcPost.bad _ HRb.out (HE3.out.trans hE35)
def chkV (k : Int) : List Cv → Int
 | [] => 0
 | v :: r => if chk k true v.1 v.2.1 v.2.2 ≠ 0 then chk k true v.1 v.2.1 v.2.2 else chkV k r
def chkBv (k : Int) (vs : List Cv) : Int := if 4096 < vs.length then 4 else chkV k vs
theorem chkA_val (k : Int) : ∀ (xs : List Ci), chkA k xs = chkV k (xs.map Ci.val)
 | [] => rfl
 | x :: r => by
   show (if chk k true x.nul x.num x.txt ≠ 0 then _ else chkA k r) = if chk k true x.nul x.num x.txt ≠ 0 then _ else chkV k (r.map Ci.val)
   rw [chkA_val k r]
   rfl
theorem chkB_val (k : Int) (xs : List Ci) : chkB k xs = chkBv k (xs.map Ci.val) := by
 unfold chkB chkBv
 rw [List.length_map, chkA_val]
theorem getB_in {k : Int} {bs : List Nat} (hu : U8 bs) : ∀ v ∈ (getB k bs).1, VIn v := by
 have h0 : ∀ v ∈ ([] : List Cv), VIn v := fun v hv => by cases hv
 unfold getB
 split
 · exact h0
 · split
   · exact h0
   · split
     · exact h0
     · split
       · exact h0
       · split
         · exact h0
         · split
           · exact h0
           · exact wN_in _ _ (valuesR_in (fun v hv => hu v (List.mem_of_mem_drop hv)))
theorem wN_len : ∀ (us : List Nat) (vs : List Cv), (wN us vs).length ≤ us.length
 | [], _ => Nat.le_refl _
 | u :: r, vs => by
   by_cases q : u = 1
   · rw [wN_null q, List.length_cons, List.length_cons]
     have := wN_len r vs
     omega
   · cases vs with
     | nil => simp [wN, q]
     | cons x s =>
       rw [wN_val q, List.length_cons, List.length_cons]
       have := wN_len r s
       omega
theorem getB_len {k : Int} {bs : List Nat} (hu : U8 bs) : (getB k bs).1.length ≤ 4096 := by
 unfold getB
 split
 · simp
 · split
   · simp
   · split
     · simp
     · rename_i q3
       split
       · simp
       · rename_i q4
         split
         · simp
         · rename_i q5
           split
           · simp
           · dsimp only
             rcases hg : vget bs 1 with ⟨u, nx, e⟩
             rw [hg] at q3 q4 q5
             obtain rfl : e = 0 := by simpa using q3
             obtain ⟨_, v1, v2, _, _⟩ := vget_at hu hg
             have h1 := nullR_ok (bs := bs) (a := nx.toNat) (n := u) (by omega) (by simpa using q5)
             refine Nat.le_trans (wN_len _ _) ?_
             rw [h1.1]
             simp only at q4
             omega
def bdecR (k : Int) (bs : List Nat) : List Cv × Int :=
 if kindK k = false then ([], 1) else if 65000 < bs.length then ([], 4) else if ¬ sld bs then ([], 6)
 else if (getB k (bs.take (bs.length - 4))).2 ≠ 0 then ([], (getB k (bs.take (bs.length - 4))).2)
 else if chkBv k (getB k (bs.take (bs.length - 4))).1 ≠ 0 then ([], chkBv k (getB k (bs.take (bs.length - 4))).1)
 else ((getB k (bs.take (bs.length - 4))).1, 0)
set_option maxHeartbeats 3200000 in
theorem bdecode_any (k : Int) (A : Option Addr) (n c : Nat) (bs : List Nat) (w : World) (hx : Rd .u8 w A n bs) (hu : U8 bs) (hn : n ≤ 140737488351232) (hc : n ≤ c) (hcm : c ≤ 9223372036854775807) :
   Calls Tryz.prog 10 #[.int .i64 k, .slice A n c] w (GcPost (bdecR k bs) w) := by
 have hl := hx.len
 have hR := bdecR.eq_1 k bs
 obtain ⟨R, hRR⟩ : ∃ R, R = bdecR k bs := ⟨_, rfl⟩
 rw [← hRR] at hR ⊢
 rw [hl] at hR
 clear hRR
 have HK := Lib.hid (fun W => isKindB_any k W)
 cases hk : kindK k with
 | false =>
   rw [hk, if_pos rfl] at hR
   rw [hk] at HK
   have HR := Lib.hid hR
   clear hR hx hu hl hk
   go_enter Tryz.func10, Tryz.ntmps10
   go_wp2_with fail
   refine (HK.out _).mono ?_
   rintro e w1 ⟨rfl, he1⟩
   go_wp2_with fail
   go_ret2
   exact GcPost.bad _ HR.out he1
 | true =>
 rw [hk, if_neg (by decide)] at hR
 rw [hk] at HK
 clear hk
 by_cases hbig : 65000 < n
 · rw [if_pos hbig] at hR
   have HR := Lib.hid hR
   have hb1 : decide ((65000 : Int) < (n : Int)) = true := decide_eq_true (by omega)
   have hb2 : (65000 : Int) < (n : Int) := by omega
   clear hR hx hu hl hbig
   go_enter Tryz.func10, Tryz.ntmps10
   go_wp2_with fail
   refine (HK.out _).mono ?_
   rintro e w1 ⟨rfl, he1⟩
   go_wp2_with fail
   go_ret2
   exact GcPost.bad _ HR.out he1
 rw [if_neg hbig] at hR
 have hb1 : ¬ (65000 : Int) < (n : Int) := by omega
 have HS := Lib.hid (fun W (hW : Ext w W) => sealed_any A n c bs W (hx.ext hW) hu (by omega) hc hcm)
 by_cases hs : sld bs
 rotate_left
 · rw [if_pos hs] at hR
   have HR := Lib.hid hR
   rw [decide_eq_false hs] at HS
   clear hR hx hu hl hbig hs
   go_enter Tryz.func10, Tryz.ntmps10
   go_wp2_with fail
   refine (HK.out _).mono ?_
   rintro e w1 ⟨rfl, he1⟩
   go_wp2_with fail
   refine (HS.out _ he1).mono ?_
   rintro e w2 ⟨rfl, he2⟩
   go_wp2_with fail
   go_ret2
   exact GcPost.bad _ HR.out (he1.trans he2)
 rw [if_neg (fun q => q hs)] at hR
 rw [decide_eq_true hs] at HS
 have h4 : 4 ≤ n := by have := hs.1; omega
 have hup := run_upto .i64 A n c (n - 4) (by omega)
 have hn4 : ((n - 4 : Nat) : Int) = (n : Int) - 4 := by omega
 rw [hn4] at hup
 have HG := Lib.hid (fun W (hW : Ext w W) => get12_any k A (n - 4) c (bs.take (n - 4)) W ((hx.ext hW).upto (by omega)) (fun v hv => hu v (List.mem_of_mem_take hv)) (by omega) (by omega) hcm)
 have hvi := getB_in (k := k) (bs := bs.take (n - 4)) (fun v hv => hu v (List.mem_of_mem_take hv))
 have hvl := getB_len (k := k) (bs := bs.take (n - 4)) (fun v hv => hu v (List.mem_of_mem_take hv))
 obtain ⟨⟨vs, ev⟩, hV⟩ : ∃ V, V = getB k (bs.take (n - 4)) := ⟨_, rfl⟩
 unfold GcPost at HG
 rw [← hV] at HG hR hvi hvl
 simp only at HG hR hvi hvl
 have Hvl := Lib.hid hvl
 have HR := Lib.hid hR
 have Hvi := Lib.hid hvi
 clear hV hx hu hl hs hR hvi hvl hn4 hbig
 go_enter Tryz.func10, Tryz.ntmps10
 go_wp2_with fail
 refine (HK.out _).mono ?_
 rintro e w1 ⟨rfl, he1⟩
 go_wp2_with fail
 refine (HS.out _ he1).mono ?_
 rintro e w2 ⟨rfl, he2⟩
 have hE2 := he1.trans he2
 go_wp2_with fail
 refine (HG.out _ hE2).mono ?_
 rintro e w3 ⟨fs, A3, c3, rfl, hv3, ho3, ht3, he3⟩
 have hE3 := hE2.trans he3
 by_cases hev : ev = 0
 · subst hev
   have hR := HR.out
   rw [if_neg (fun q => q rfl)] at hR
   have hfl : fs.length = vs.length := by rw [← hv3, List.length_map]
   obtain ⟨z, hz⟩ : ∃ z, z = vs.length := ⟨_, rfl⟩
   rw [← hz] at hfl ⊢
   have hrx := ans_rdX hv3 hfl Hvi.out ho3 (fun f hf => (ht3.1 f hf).rd)
   have hCh := checkB_any k A3 z c3 fs w3 hrx (by have := Hvl.out; omega)
   rw [chkB_val, hv3] at hCh
   obtain ⟨E, hE⟩ : ∃ E, E = chkBv k vs := ⟨_, rfl⟩
   rw [← hE] at hCh hR
   have HRg := Lib.hid hR
   have Hz := Lib.hid hz
   clear hR hrx hE hz hfl
   go_wp2_with fail
   refine hCh.mono ?_
   rintro e w4 ⟨rfl, he4⟩
   by_cases hq : E = 0
   · have hR := HRg.out
     rw [if_neg (fun q => q hq)] at hR
     have HRk := Lib.hid hR
     subst hq
     clear hR
     go_wp2_with fail
     go_ret2
     rw [HRk.out]
     exact ⟨fs, A3, c3, by rw [← Hz.out]; rfl, hv3, (ho3.mono hE2.size).ext he4, TxtX.ext (TxtX.mono ht3 hE2.size) he4, hE3.trans he4⟩
   · have hR := HRg.out
     rw [if_pos hq] at hR
     have HRk := Lib.hid hR
     have hb3 : (E != 0) = true := by simp [hq]
     clear hR
     go_wp2_with fail
     go_ret2
     exact GcPost.bad _ HRk.out (hE3.trans he4)
 · have hR := HR.out
   rw [if_pos hev] at hR
   have HRb := Lib.hid hR
   have hb3 : (ev != 0) = true := by simp [hev]
   clear hR hev
   go_wp2_with fail
   go_ret2
   exact GcPost.bad _ HRb.out hE3
theorem RdX.lit (w : World) (xs : List Ci) (h : ∀ x ∈ xs, x.In (w.alloc (.cells (xcells xs).toArray 61))) : RdX (w.alloc (.cells (xcells xs).toArray 61)) (some ⟨w.heap.size, 0, none⟩) xs.length xs :=
 ⟨rfl, fun _ => ⟨w.heap.size, 0, rfl, by simp, fun j x hj => by
   refine ⟨?_, ?_, ?_, h x (List.mem_of_getElem? hj)⟩
   · rw [cell_of_row _ w.heap.size _ _ _ (0, 0) (heap_alloc_new w _), Nat.zero_add, List.getElem?_toArray]
     exact xcells_at hj 0 (by omega)
   · rw [cell_of_row _ w.heap.size _ _ _ (0, 0) (heap_alloc_new w _), Nat.zero_add, List.getElem?_toArray]
     exact xcells_at hj 1 (by omega)
   · rw [cell_of_row _ w.heap.size _ _ _ (0, 0) (heap_alloc_new w _), Nat.zero_add, List.getElem?_toArray]
     exact xcells_at hj 2 (by omega)⟩⟩
theorem RdX.at {w : World} {A : Option Addr} {n : Nat} {xs : List Ci} (h : RdX w A n xs) (hn : 0 < n) : ∃ b o, A = some ⟨b, o, none⟩ ∧ b < w.heap.size ∧ ∀ j x, xs[j]? = some x → w.cell? ⟨b, o + j * 3, none⟩ = some (.bool x.nul) ∧ w.cell? ⟨b, o + j * 3 + 1, none⟩ = some (.int .i64 x.num) := by
 obtain ⟨b, o, e, hb, hc⟩ := h.2 hn
 exact ⟨b, o, e, hb, fun j x hj => ⟨(hc j x hj).1, (hc j x hj).2.1⟩⟩
def e7 : Ci := ⟨false, 7, none, 0, []⟩
theorem e7_in (w : World) : e7.In w := ⟨Rd.nil .., (by intro x hx; cases hx), by decide, by decide, by decide⟩
set_option maxHeartbeats 1600000 in
theorem refFits_any (k v : Int) (w : World) (hk : 1 ≤ k ∧ k ≤ 8) : Calls Tryz.prog 45 #[.int .i64 k, .int .i64 v] w fun e w' => e = .returned (.bool (decide (v ∈ codecs k))) ∧ w = w' := by
 unfold codecs
 by_cases h6 : k ≤ 6
 · have h7 : ¬ 6 < k := by omega
   rw [numK_yes ⟨hk.1, h6⟩, if_pos rfl]
   by_cases h1 : v = 1
   · subst h1
     go_enter Tryz.func45, Tryz.ntmps45
     go_wp2
     go_ret
     exact ⟨rfl, rfl⟩
   · by_cases h2 : v = 2
     · subst h2
       go_enter Tryz.func45, Tryz.ntmps45
       go_wp2
       go_ret
       exact ⟨rfl, rfl⟩
     · by_cases h3 : v = 3
       · subst h3
         go_enter Tryz.func45, Tryz.ntmps45
         go_wp2
         go_ret
         exact ⟨rfl, rfl⟩
       · rw [decide_eq_false (by simp [h1, h2, h3])]
         have b1 : (v == 1) = false := by simp [h1]
         have b2 : (v == 2) = false := by simp [h2]
         have b3 : (v == 3) = false := by simp [h3]
         clear h1 h2 h3
         go_enter Tryz.func45, Tryz.ntmps45
         go_wp2
         go_ret
         exact ⟨rfl, rfl⟩
 · have h7 : 6 < k := by omega
   rw [numK_no (fun q => h6 q.2), if_neg (by decide)]
   by_cases h1 : v = 1
   · subst h1
     go_enter Tryz.func45, Tryz.ntmps45
     go_wp2
     go_ret
     exact ⟨rfl, rfl⟩
   · by_cases h2 : v = 4
     · subst h2
       go_enter Tryz.func45, Tryz.ntmps45
       go_wp2
       go_ret
       exact ⟨rfl, rfl⟩
     · by_cases h3 : v = 5
       · subst h3
         go_enter Tryz.func45, Tryz.ntmps45
         go_wp2
         go_ret
         exact ⟨rfl, rfl⟩
       · rw [decide_eq_false (by simp [h1, h2, h3])]
         have b1 : (v == 1) = false := by simp [h1]
         have b2 : (v == 4) = false := by simp [h2]
         have b3 : (v == 5) = false := by simp [h3]
         clear h1 h2 h3
         go_enter Tryz.func45, Tryz.ntmps45
         go_wp2
         go_ret
         exact ⟨rfl, rfl⟩
set_option maxHeartbeats 1600000 in
theorem refCheckB_any (k : Int) (A : Option Addr) (n c : Nat) (xs : List Ci) (w : World) (hx : RdX w A n xs) (hn : n ≤ 281474976710656) :
   Calls Tryz.prog 49 #[.int .i64 k, .slice A n c] w fun e w' => e = .returned (.int .i64 (chkB k xs)) ∧ Ext w w' := by
 have hl := hx.1
 by_cases hbig : 4096 < n
 · have hE : chkB k xs = 4 := by unfold chkB; rw [hl, if_pos hbig]
   have hb : (4096 : Int) < (n : Int) := by omega
   rw [hE]
   clear hE hx hl hbig
   go_enter Tryz.func49, Tryz.ntmps49
   go_wp2
   go_ret
   exact ⟨rfl, Ext.refl w⟩
 · have hE : chkB k xs = chkA k xs := by unfold chkB; rw [hl, if_neg hbig]
   have hb : ¬ (4096 : Int) < (n : Int) := by omega
   rw [hE]
   obtain ⟨R, hR⟩ : ∃ R, R = chkA k xs := ⟨_, rfl⟩
   rw [← hR]
   have HR0 := Lib.hid (show R = chkA k (xs.drop 0) by simpa using hR)
   have Hx := Lib.hid hx
   have Hl := Lib.hid hl
   clear hR hE hx hl hbig
   go_enter Tryz.func49, Tryz.ntmps49
   go_wp2
   go_loopw [5] (fun i wr => ∃ j : Nat, j ≤ n ∧ i = .int .i64 j ∧ Hid (R = chkA k (xs.drop j)) ∧ Hid (Ext w wr)) (fun i _ => n - (intOf i).toNat)
   case atStart => exact ⟨0, Nat.zero_le _, rfl, HR0.out, Ext.refl w⟩
   case round =>
     clear HR0
     obtain ⟨j, hj, rfl, HR, HE⟩ := hrel
     by_cases hlt : j < n
     · obtain ⟨b, o, x, hA, hbl, hxj, x0, x1, x2, xin⟩ := (Hx.out.ext HE.out).at_ hlt
       subst hA
       have hst := HR.out.trans (chkA_at hxj)
       obtain ⟨xn, xi, xA, xc, xt⟩ := x
       simp only at x0 x1 x2 hst
       have hxl := xin.len
       simp only at hxl
       have HC := refCheck_any k true xn xi xA xt.length xc xt wr xin.rd xin.lo xin.hi (by omega)
       obtain ⟨E, hE⟩ : ∃ E, E = chk k true xn xi xt := ⟨_, rfl⟩
       rw [← hE] at HC hst
       obtain ⟨xl, hxe⟩ : ∃ xl, xl = xt.length := ⟨_, rfl⟩
       rw [← hxe] at HC x2
       have HCh := Lib.hid HC
       have Hst := Lib.hid hst
       clear HC hst hE xin hxl hxe hxj
       go_wp2_with fail
       refine HCh.out.mono ?_
       rintro e w1 ⟨rfl, he1⟩
       have HE1 := Lib.hid (HE.out.trans he1)
       by_cases q : E = 0
       · have HN := Lib.hid (Hst.out.trans (if_neg (fun z => z q)))
         subst q
         go_wp2_with fail
         go_roundw
         case rel => exact ⟨j + 1, by omega, by go_num, HN.out, HE1.out⟩
         case measure => simp [intOf]; omega
       · have HN := Lib.hid (Hst.out.trans (if_pos q))
         have b1 : (E != 0) = true := by simp [q]
         go_wp2_with fail
         go_ret
         exact ⟨by rw [HN.out]; rfl, HE1.out⟩
     · obtain rfl : j = n := by omega
       have HN := Lib.hid (show R = 0 by rw [HR.out, List.drop_of_length_le (Nat.le_of_eq Hl.out)]; rfl)
       go_wp2_with fail
       go_ret
       exact ⟨by rw [HN.out]; rfl, HE.out⟩
theorem grown_step {w wr w1 : World} {g : Option Nat} {A1 A2 : Option Addr} (h : w.grownBy wr g) (hA : ∀ p, A1 = some p → some p.block = g ∨ w.heap.size ≤ p.block)
   (hs : A2 = A1 ∧ wr.grownBy w1 (A1.map (·.block)) ∨ Ext wr w1 ∧ ∀ q, A2 = some q → wr.heap.size ≤ q.block) :
   w.grownBy w1 g ∧ ∀ p, A2 = some p → some p.block = g ∨ w.heap.size ≤ p.block := by
 rcases hs with ⟨rfl, h1⟩ | ⟨h1, h2⟩
 · refine ⟨⟨h1.os.trans h.os, h1.tape.trans h.tape, h1.output.trans h.output, Nat.le_trans h.size h1.size, fun b hb hne => (h1.block b (Nat.lt_of_lt_of_le hb h.size) (fun e => ?_)).trans (h.block b hb hne)⟩, hA⟩
   cases hA2 : A2 with
   | none => rw [hA2] at e; cases e
   | some p =>
     rw [hA2] at e
     injection e with e
     have e' : p.block = b := e.symm
     rcases hA p hA2 with q | q
     · exact hne (by rw [← e']; exact q)
     · omega
 · exact ⟨⟨h1.os.trans h.os, h1.tape.trans h.tape, h1.output.trans h.output, Nat.le_trans h.size h1.size, fun b hb hne => (h1.block b (Nat.lt_of_lt_of_le hb h.size)).trans (h.block b hb hne)⟩, fun p hp => .inr (Nat.le_trans h.size (h2 p hp))⟩
set_option maxHeartbeats 800000 in
theorem add12_any (A A2 : Option Addr) (n c m c2 base : Nat) (xs ys : List Nat) (w : World) (hown : Own .u8 5 w base A c xs) (hn : xs.length = n) (hy : Rd .u8 w A2 m ys)
   (hne : 0 < m → ∀ p q, A = some p → A2 = some q → p.block ≠ q.block) (hz : base ≤ w.heap.size) (hlen : n + m ≤ 100000000) :
   Calls Tryz.prog 164 #[.slice A n c, .slice A2 m c2] w fun e w' => ∃ A' c', e = .returned (.slice A' (n + m : Nat) c') ∧ Own .u8 5 w' base A' c' (xs ++ ys) ∧ w.grownBy w' (A.map (·.block)) := by
 have Hl := Lib.hid hy.len
 have Hn := Lib.hid hn
 have h0 : Own .u8 5 w base A c (xs ++ ys.take 0) := by simpa using hown
 have H0 := Lib.hid h0
 have Hy := Lib.hid hy
 have Hne := Lib.hid hne
 clear hn hown h0 hy hne
 go_enter Tryz.func164, Tryz.ntmps164
 go_wp2
 go_loopw [0, 5] (fun v i wr => ∃ (j : Nat) (A' : Option Addr) (c' : Nat), j ≤ m ∧ i = .int .i64 j ∧ v = .slice A' (n + j : Nat) c' ∧ Hid (Own .u8 5 wr base A' c' (xs ++ ys.take j)) ∧ Hid (w.grownBy wr (A.map (·.block)) ∧ ∀ p, A' = some p → some p.block = A.map (·.block) ∨ w.heap.size ≤ p.block)) (fun _ i _ => m - (intOf i).toNat)
 case atStart => exact ⟨0, A, c, Nat.zero_le _, rfl, rfl, H0.out, ⟨⟨rfl, rfl, rfl, Nat.le_refl _, fun _ _ _ => rfl⟩, fun p hp => .inl (by rw [hp]; rfl)⟩⟩
 case round =>
   clear H0
   obtain ⟨j, A', c', hj, rfl, rfl, HO, HG⟩ := hrel
   by_cases hlt : j < m
   · have hyr := Hy.out.grown HG.out.1 (fun a ha e => by
       cases hA : A with
       | none => rw [hA] at e; cases e
       | some p => rw [hA] at e; injection e with e; exact Hne.out (by omega) p a hA ha e.symm)
     obtain ⟨b, o, hA2, hbl, hc⟩ := hyr.at_ hlt
     have Htl := Lib.hid (show (xs ++ ys.take j).length = n + j by rw [List.length_append, List.length_take, Hl.out, Hn.out]; omega)
     have hzr : base ≤ wr.heap.size := Nat.le_trans hz HG.out.1.size
     subst hA2
     clear hyr
     go_wp2_with (at_builtin; refine wpList_push2 .u8 (ys.getD j 0) 5 rfl _ _ 22 rfl _ 1 Tryz.underlying22 Tryz.infoU8 rfl HO.out (n + j) Htl.out rfl rfl rfl (by omega) (by omega) hzr ?_; intro A1 c1 w1 hown1 hw1 hz1)
     have HG1 := Lib.hid (grown_step HG.out.1 HG.out.2 hw1)
     have HO1 : Hid (Own .u8 5 w1 base A1 c1 (xs ++ ys.take (j + 1))) := Lib.hid (by rw [take_next _ _ (by have := Hl.out; omega), ← List.append_assoc]; exact hown1)
     clear hown1 hw1
     go_roundw
     case rel => exact ⟨j + 1, A1, c1, by omega, by go_num, by go_num, HO1.out, HG1.out⟩
     case measure => simp [intOf]; omega
   · obtain rfl : j = m := by omega
     have ho := HO.out
     rw [List.take_of_length_le (Nat.le_of_eq Hl.out)] at ho
     have HO2 := Lib.hid ho
     clear ho
     go_wp2
     go_ret
     exact ⟨_, _, rfl, HO2.out, HG.out.1⟩
set_option maxHeartbeats 400000 in
theorem refPutT_any (A A2 : Option Addr) (n c m c2 base : Nat) (xs ys : List Nat) (w0 w : World) (hown : Own .u8 5 w base A c xs) (hn : xs.length = n) (hy : Rd .u8 w A2 m ys)
   (hne : 0 < m → ∀ p q, A = some p → A2 = some q → p.block ≠ q.block) (hb : Below base w0 w) (hz : base ≤ w.heap.size) (hlen : n + m ≤ 100000000) :
   Calls Tryz.prog 213 #[.slice A n c, .slice A2 m c2] w fun e w' => ∃ A' c', e = .returned (.slice A' (n + m : Nat) c') ∧ Own .u8 5 w' base A' c' (xs ++ ys) ∧ Below base w0 w' ∧ base ≤ w'.heap.size := by
 have hl := hy.len
 have Hl := Lib.hid hl
 have Hn := Lib.hid hn
 clear hl hn
 have h0 : Own .u8 5 w base A c (xs ++ ys.take 0) := by simpa using hown
 go_enter Tryz.func213, Tryz.ntmps213
 go_wp2
 go_loopw [0, 5] (fun v i wr => ∃ (j : Nat) (A' : Option Addr) (c' : Nat), j ≤ m ∧ i = .int .i64 j ∧ v = .slice A' (n + j : Nat) c' ∧ Own .u8 5 wr base A' c' (xs ++ ys.take j) ∧ Rd .u8 wr A2 m ys ∧ (0 < m → ∀ p q, A' = some p → A2 = some q → p.block ≠ q.block) ∧ Below base w0 wr ∧ base ≤ wr.heap.size) (fun _ i _ => m - (intOf i).toNat)
 case atStart => exact ⟨0, A, c, Nat.zero_le _, rfl, rfl, h0, hy, hne, hb, hz⟩
 case round =>
   clear h0 hown hy hne hb hz
   obtain ⟨j, A', c', hj, rfl, rfl, hown, hy, hne, hb, hz⟩ := hrel
   by_cases hlt : j < m
   · have hy' := hy
     obtain ⟨b, o, rfl, hbl, hc⟩ := hy.at_ hlt
     have htl : (xs ++ ys.take j).length = n + j := by rw [List.length_append, List.length_take, Hl.out, Hn.out]; omega
     have Htl := Lib.hid htl
     have Hne := Lib.hid (hne (by omega))
     have Hown := Lib.hid hown
     have Hy := Lib.hid hy'
     clear htl hne hown hy hy'
     go_wp2_with (at_builtin; refine wpList_push2 .u8 (ys.getD j 0) 5 rfl _ _ 22 rfl _ 1 Tryz.underlying22 Tryz.infoU8 rfl Hown.out (n + j) Htl.out rfl rfl rfl (by omega) (by omega) hz ?_; intro A1 c1 w1 hown1 hw1 hz1)
     have hN : Rd .u8 w1 (some ⟨b, o, none⟩) m ys ∧ (∀ p q, A1 = some p → some (⟨b, o, none⟩ : Addr) = some q → p.block ≠ q.block) ∧ Below base w0 w1 := by
       rcases hw1 with ⟨rfl, hg⟩ | ⟨he, hq⟩
       · refine ⟨Hy.out.grown hg (fun a ha e => ?_), Hne.out, Below.grown hb hg hz (fun g hg' => (Hown.out.lt g (by cases A1 with | none => cases hg' | some p => exact hg')).1)⟩
         cases hA : A1 with
         | none => rw [hA] at e; cases e
         | some p => rw [hA] at e; injection e with e; exact Hne.out p a hA ha e.symm
       · refine ⟨Hy.out.ext he, fun p q hp hq2 e => ?_, Below.trans hb (Below.mono he hz)⟩
         have h1 := hq p hp
         injection hq2 with hq2
         subst hq2
         have h2 : p.block = b := e
         omega
     have HN := Lib.hid hN
     clear hN hw1
     go_roundw
     case rel => exact ⟨j + 1, A1, c1, by omega, by go_num, rfl, by rw [take_next _ _ (by have := Hl.out; omega), ← List.append_assoc]; exact hown1, HN.out.1, fun _ => HN.out.2.1, HN.out.2.2, hz1⟩
     case measure => simp [intOf]; omega
   · obtain rfl : j = m := by omega
     rw [List.take_of_length_le (Nat.le_of_eq Hl.out)] at hown
     go_wp2
     go_ret
     exact ⟨_, _, rfl, hown, hb, hz⟩
set_option maxHeartbeats 1600000 in
theorem refEncode11_any (A : Option Addr) (n c : Nat) (ss : List Sl) (w : World) (hx : TxL w A n ss) (hn : n ≤ 140737488355328) :
   Calls Tryz.prog 200 #[.slice A n c] w (PEncPost (pencR (bodies ss)) w) := by
 have Hl := Lib.hid hx.len
 have hbl : (bodies ss).length = n := by rw [bodies_len, Hl.out]
 by_cases hbig : 4096 < n
 · have HR := Lib.hid (pencR_bad (ss := bodies ss) (.inl (by rw [hbl]; exact hbig)))
   clear hbl
   go_enter Tryz.func200, Tryz.ntmps200
   go_wp2_with fail
   go_ret2
   exact PEncPost.bad _ HR.out (Ext.refl w)
 · have hb4 : n ≤ 4096 := by omega
   have Hbl := Lib.hid hbl
   clear hbl
   go_enter Tryz.func200, Tryz.ntmps200
   go_wp2_with fail
   refine (refPut_any n _ (by omega)).mono ?_
   rintro e w2 ⟨A2, c2, rfl, hown2, he2⟩
   go_wp2_with fail
   go_loopw [5] (fun i wr => ∃ j : Nat, j ≤ n ∧ i = .int .i64 j ∧ wr = w2 ∧ Hid (anyLong (bodies (ss.take j)) = false)) (fun i _ => n - (intOf i).toNat)
   case atStart => exact ⟨0, Nat.zero_le _, rfl, rfl, rfl⟩
   case round =>
     obtain ⟨j, hj, rfl, rfl, HA⟩ := hrel
     by_cases hlt : j < n
     · obtain ⟨b, o, s, rfl, hf, h1, _⟩ := (hx.ext he2).at_ hlt
       obtain ⟨sA, sc, body⟩ := s
       simp only at h1
       have e0 : bodies (ss.take (j + 1)) = bodies (ss.take j) ++ [body] := by rw [List.take_add_one, hf]; unfold bodies; rw [List.map_append]; rfl
       have hbj := bodies_at hf
       by_cases hb : 200 < body.length
       · have HR := Lib.hid (pencR_bad (.inr (anyLong_iff.2 ⟨body, List.mem_of_getElem? hbj, hb⟩)))
         clear e0 hf hbj
         obtain ⟨m, hm⟩ : ∃ m, m = body.length := ⟨_, rfl⟩
         rw [← hm] at h1 hb
         clear hm
         go_wp2_with fail
         go_ret2
         exact PEncPost.bad _ HR.out he2
       · have hN := Lib.hid (show anyLong (bodies (ss.take (j + 1))) = false by
           have h2 : anyLong [body] = false := by simp [anyLong]; omega
           have h3 := HA.out
           unfold anyLong at h2 h3 ⊢
           rw [e0, List.any_append, h3, h2]; rfl)
         clear e0 hf hbj
         obtain ⟨m, hm⟩ : ∃ m, m = body.length := ⟨_, rfl⟩
         rw [← hm] at h1 hb
         clear hm
         go_wp2_with fail
         go_roundw
         case rel => exact ⟨j + 1, by omega, by go_num, by first | trivial | rfl, hN⟩
         case measure => simp [intOf]; omega
     · obtain rfl : n = j := by omega
       have hany : anyLong (bodies ss) = false := by rw [← HA.out, List.take_of_length_le (by rw [Hl.out]; exact Nat.le_refl _)]
       have HR := Lib.hid (pencR_good (by rw [Hbl.out]; omega) hany)
       have hlong := anyLong_no hany
       have Hvl := Lib.hid (penc_len (by rw [Hbl.out]; omega) hlong)
       have Hlong := Lib.hid hlong
       obtain ⟨V, hV⟩ : ∃ V, V = penc (bodies ss) := ⟨_, rfl⟩
       rw [← hV] at HR Hvl
       have HV := Lib.hid hV
       have HP0 := Lib.hid (show vput n ++ pencA ((bodies ss).take 0) ((bodies ss).drop 0) = V by rw [HV.out, penc, Hbl.out]; rfl)
       clear hV hany hlong HA
       go_wp2_with fail
       go_loopw [4, 6, 7] (fun v i _ wr => ∃ (q : Nat) (P : List Nat) (A' : Option Addr) (c' : Nat), q ≤ n ∧ i = .int .i64 q ∧ v = .slice A' P.length c' ∧ Hid (P ++ pencA ((bodies ss).take q) ((bodies ss).drop q) = V) ∧ Own .u8 5 wr w.heap.size A' c' P ∧ Ext w wr) (fun _ i _ _ => n - (intOf i).toNat)
       case atStart => exact ⟨0, _, A2, c2, Nat.zero_le _, rfl, rfl, HP0.out, hown2, he2⟩
       case round =>
         clear HP0 hown2
         have he0 := he2
         clear he2
         obtain ⟨j, P, A', c', hj, rfl, rfl, HP, hown, he⟩ := hrel
         by_cases hlt : j < n
         · obtain ⟨b, o, s, rfl, hf, hc, hs⟩ := hx.at_ hlt
           have blt := World.block_lt_of_cell? _ _ hc
           have hbj := bodies_at hf
           have hst := pencA_step hbj
           have hah := ahead_take (ss := bodies ss) (j := j) (by rw [Hbl.out]; exact hj)
           have hsl : s.body.length ≤ 200 := Hlong.out _ (List.mem_of_getElem? hbj)
           obtain ⟨sA, sc, body⟩ := s
           simp only at hc hs hsl hst
           obtain ⟨srd, su8, scap, stop, slen⟩ := hs
           simp only at srd su8 scap stop slen
           obtain ⟨k, hk⟩ : ∃ k, k = cp (ahead ((bodies ss).take j)) body := ⟨_, rfl⟩
           have hkb : k ≤ body.length := by rw [hk]; exact (cp_le _ _).2
           have hN : (P ++ vput k ++ vput (body.length - k) ++ body.drop k) ++ pencA ((bodies ss).take (j + 1)) ((bodies ss).drop (j + 1)) = V := by
             rw [← HP.out, hst, ptext, ← hk]
             simp
           have hPl : P.length ≤ 1000000 := by have := Hvl.out; rw [← HP.out, List.length_append] at this; omega
           have HN := Lib.hid hN
           have Hk := Lib.hid hk
           clear hN hst hbj hk HP
           obtain ⟨m, hm⟩ : ∃ m, m = body.length := ⟨_, rfl⟩
           rw [← hm] at hc srd scap hsl hkb HN slen
           have Hm := Lib.hid hm
           clear hm
           have Hc := Lib.hid (fun (W : World) (hW : Below w.heap.size w W) => (Below.cell hW (p := ⟨b, o + j, none⟩) blt).trans hc)
           have cell := Hc.out wr he
           have hmk : (m : Int) - (k : Int) = ((m - k : Nat) : Int) := by omega
           have hk200 : k ≤ 200 := by omega
           have hmk200 : m - k ≤ 200 := by omega
           have sl9 := run_from sA m sc k hkb
           have sh9 := srd.offA hkb scap
           obtain ⟨A9, hA9⟩ : ∃ A9, A9 = offA sA k sc := ⟨_, rfl⟩
           rw [← hA9] at sl9 sh9
           have Hsl9 := Lib.hid sl9
           have Hsh9 := Lib.hid sh9
           clear sl9 sh9 hA9 hkb hc
           by_cases hw16 : j % 16 = 0
           · have hk0 : k = 0 := by rw [Hk.out, hah, if_pos hw16]; rfl
             have Hk0 := Lib.hid hk0
             have hd : (((j : Int) % 16) != 0) = false := by simp; omega
             clear hk0
             go_wp2_with fail
             rw [show Value.int .i64 0 = Value.int .i64 (k : Int) by rw [Hk0.out]; rfl, show Value.int .u64 0 = Value.int .u64 (k : Int) by rw [Hk0.out]; rfl]
             refine (refPut_any k _ (by omega)).mono ?_
             rintro e w4 ⟨A4, c4, rfl, hown4, he4⟩
             have hown3 := hown.ext he4
             have hE4 := he.trans he4
             have hv1 := vput_le (u := k) (by omega)
             go_wp2_with fail
             refine (refPutT_any _ _ P.length _ _ _ w.heap.size P (vput k) w _ hown3 rfl hown4.rd (fun _ p q hp hq e => by
               have h1 := (hown.block p hp).2
               have h2 := (hown4.block q hq).1
               omega) hE4 hE4.size (by omega)).mono ?_
             rintro e w5 ⟨A5, c5, rfl, hown5, hb5, hz5⟩
             have cell5 := Hc.out w5 hb5
             go_wp2_with fail
             refine (refPut_any (m - k) _ (by omega)).mono ?_
             rintro e w6 ⟨A6, c6, rfl, hown6, he6⟩
             have hown7 := hown5.ext he6
             have hE6 := Ext.trans hb5 he6
             have hv2 := vput_le (u := m - k) (by omega)
             have hL5 : (P ++ vput k).length = P.length + (vput k).length := List.length_append
             go_wp2_with fail
             refine (refPutT_any _ _ _ _ _ _ w.heap.size _ (vput (m - k)) w _ hown7 hL5 hown6.rd (fun _ p q hp hq e => by
               have h1 := (hown5.block p hp).2
               have h2 := (hown6.block q hq).1
               omega) hE6 hE6.size (by omega)).mono ?_
             rintro e w7 ⟨A7, c7, rfl, hown8, hb7, hz7⟩
             have hL7 : (P ++ vput k ++ vput (m - k)).length = P.length + (vput k).length + (vput (m - k)).length := by rw [List.length_append, List.length_append]
             have cell7 := Hc.out w7 hb7
             have sl9 := Hsl9.out
             go_wp2_with fail
             refine (refPutT_any _ A9 _ _ (m - k) _ w.heap.size _ _ w _ hown8 hL7 (Hsh9.out.ext hb7) (fun h0 p q hp hq e => by
               have h1 := (hown8.block p hp).1
               have h2 := Hsh9.out.lt h0 q hq
               omega) hb7 hz7 (by omega)).mono ?_
             rintro e w8 ⟨A8, c8, rfl, hown9, hb8, hz8⟩
             go_wp2_with fail
             go_roundw
             case rel => exact ⟨j + 1, _, A8, c8, by omega, by go_num, by rw [List.length_append, List.length_append, List.length_append, List.length_drop, ← Hm.out], HN.out, hown9, hb8⟩
             case measure => simp [intOf]; omega
           · obtain ⟨q, rfl⟩ : ∃ q, j = q + 1 := ⟨j - 1, by omega⟩
             obtain ⟨b', o', s', e', hf', hc', hs'⟩ := hx.at_ (j := q) (by omega)
             injection e' with e'
             injection e' with e1 e2
             subst e1 e2
             have blt' := World.block_lt_of_cell? _ _ hc'
             have hk1 : k = cp s'.body body := by rw [Hk.out, hah, if_neg hw16, Nat.add_sub_cancel, bodies_get hf']
             obtain ⟨sA', sc', body'⟩ := s'
             simp only at hc' hs' hk1
             have cell' : wr.cell? ⟨b, o + q, none⟩ = _ := (Below.cell he (p := ⟨b, o + q, none⟩) blt').trans hc'
             have Hk1 := Lib.hid hk1
             have hd : (((q : Int) + 1) % 16 != 0) = true := by simp; omega
             have H66 := Lib.hid (fun W (hW : Ext wr W) => refSame11_any sA' sA body'.length sc' m sc body' body W ((hs'.rd.ext he).ext hW) ((srd.ext he).ext hW) hs'.len slen)
             clear hk1 hf' hc'
             go_wp2_with fail
             go_quiet ((go_at_call 161; exact Calls.quiet_of (H66.out _ (Ext.of_drewN _ _))))
             rw [← Hk1.out]
             have cell4 := Hc.out (wr.drewN nq) (he.drewN nq)
             go_wp2_with fail
             refine (refPut_any k _ (by omega)).mono ?_
             rintro e w4 ⟨A4, c4, rfl, hown4, he4⟩
             have hown3 := (hown.ext (Ext.of_drewN _ nq)).ext he4
             have hE4 := (he.drewN nq).trans he4
             have hv1 := vput_le (u := k) (by omega)
             go_wp2_with fail
             refine (refPutT_any _ _ P.length _ _ _ w.heap.size P (vput k) w _ hown3 rfl hown4.rd (fun _ p q hp hq e => by
               have h1 := (hown.block p hp).2
               have h2 := (hown4.block q hq).1
               have h2 : wr.heap.size ≤ q.block := h2
               omega) hE4 hE4.size (by omega)).mono ?_
             rintro e w5 ⟨A5, c5, rfl, hown5, hb5, hz5⟩
             have cell5 := Hc.out w5 hb5
             go_wp2_with fail
             refine (refPut_any (m - k) _ (by omega)).mono ?_
             rintro e w6 ⟨A6, c6, rfl, hown6, he6⟩
             have hown7 := hown5.ext he6
             have hE6 := Ext.trans hb5 he6
             have hv2 := vput_le (u := m - k) (by omega)
             have hL5 : (P ++ vput k).length = P.length + (vput k).length := List.length_append
             go_wp2_with fail
             refine (refPutT_any _ _ _ _ _ _ w.heap.size _ (vput (m - k)) w _ hown7 hL5 hown6.rd (fun _ p q hp hq e => by
               have h1 := (hown5.block p hp).2
               have h2 := (hown6.block q hq).1
               omega) hE6 hE6.size (by omega)).mono ?_
             rintro e w7 ⟨A7, c7, rfl, hown8, hb7, hz7⟩
             have hL7 : (P ++ vput k ++ vput (m - k)).length = P.length + (vput k).length + (vput (m - k)).length := by rw [List.length_append, List.length_append]
             have cell7 := Hc.out w7 hb7
             have sl9 := Hsl9.out
             go_wp2_with fail
             refine (refPutT_any _ A9 _ _ (m - k) _ w.heap.size _ _ w _ hown8 hL7 (Hsh9.out.ext hb7) (fun h0 p q hp hq e => by
               have h1 := (hown8.block p hp).1
               have h2 := Hsh9.out.lt h0 q hq
               omega) hb7 hz7 (by omega)).mono ?_
             rintro e w8 ⟨A8, c8, rfl, hown9, hb8, hz8⟩
             go_wp2_with fail
             go_roundw
             case rel => exact ⟨q + 1 + 1, _, A8, c8, by omega, by go_num, by rw [List.length_append, List.length_append, List.length_append, List.length_drop, ← Hm.out], HN.out, hown9, hb8⟩
             case measure => simp [intOf]; omega
         · obtain rfl : n = j := by omega
           have hfin := Lib.hid (show P = V by rw [← HP.out, List.drop_of_length_le (by rw [Hbl.out]; exact Nat.le_refl _)]; simp [pencA])
           go_wp2_with fail
           go_ret2
           exact PEncPost.good _ HR.out (by rw [hfin.out]) (by rw [← hfin.out]; exact hown) he
end Go.Proofs.YthibbgmicmfkfaaGreat
