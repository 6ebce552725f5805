/-
  Layer 9: the document's Encode.
-/
import Derived.Test.YtoefhblojoaikaaP9c
import Derived.Test.YtoefhblojoaikaaA2
import Derived.Test.YtoefhblojoaikaaR8e
namespace Go.Proofs.Ytoefhblojoaikaa
open Go.RowKit

set_option maxHeartbeats 3200000 in
theorem refPencode_any (A : Option Addr) (n c : Nat) (vs : List Int) (w : World) (hx : RdG shZ w A n vs) (hv : R64s vs) :
    Calls Try.prog 33 #[.slice A n c] w (Enc9Post vs w) := by
  have hl := hx.len
  unfold Enc9Post
  by_cases hbig : 4096 < n
  · rw [show encode9 vs = ([], 4) by unfold encode9; rw [if_pos (by omega)]]
    clear hl
    go_enter Try.func33, Try.ntmps33
    go_wp2_with fail
    go_ret2
    exact ⟨none, 0, rfl, Own.nil _ _ _ _, Ext.refl w⟩
  · have hd4 : decide ((4096 : Int) < (n : Int)) = false := decide_eq_false (by omega)
    rw [show encode9 vs = (encP vs, 0) by unfold encode9; rw [if_neg (by omega)]]
    rcases Nat.eq_zero_or_pos n with h0 | hp
    · subst h0
      have hP : encP vs = vput 0 := by unfold encP; rw [if_pos hl]
      rw [hP]
      have HV := Lib.hid hP
      clear hl hP
      go_enter Try.func33, Try.ntmps33
      go_wp2_with fail
      refine (refPut_any 0 _ (by omega)).mono ?_
      rintro e w2 ⟨A2, c2, rfl, hown2, he2⟩
      go_wp2_with fail
      go_ret2
      exact ⟨A2, c2, rfl, hown2, he2⟩
    · have hP : encP vs = vput n ++ (vput (foldS (lo vs)).toNat ++ ([wid vs] ++ packB (wid vs) (dst (lo vs) vs))) := by unfold encP; rw [if_neg (by omega), hl]
      rw [hP]
      have hlm := hv _ (lo_mem (show 0 < vs.length by omega))
      have hle := lo_le (xs := vs)
      have hw64 := wid_le hv (show 0 < vs.length by omega)
      obtain ⟨hpE, hpL⟩ := pack_dst hv (show 0 < vs.length by omega) (by omega)
      have hpl := packB_len (wid vs) (dst (lo vs) vs)
      rw [dst_len, hl] at hpl
      have hdu := dst_u64 hv hlm
      have hdl := (dst_len (lo vs) vs).trans hl
      obtain ⟨f0, f1⟩ := fold_range hlm
      obtain ⟨u, hu⟩ : ∃ u : Nat, foldS (lo vs) = (u : Int) := ⟨(foldS (lo vs)).toNat, by omega⟩
      rw [hu, Int.toNat_natCast]
      have hMin : Hid (∀ W, Ext w W → Calls Try.prog 37 #[.slice A n c] W fun e w' => e = .returned (.int .i64 (lo vs)) ∧ W = w') := Lib.hid fun W hW => least_any A n c vs W (hx.ext hW) hp (by omega)
      have hDst : Hid (∀ j, j < n → R64 (vs.getD j 0) ∧ lo vs ≤ vs.getD j 0 ∧ (dst (lo vs) vs).getD j 0 = (vs.getD j 0 - lo vs).toNat) := Lib.hid fun j hj => ⟨hv _ (mem_getD (by omega)), hle _ (mem_getD (by omega)), dst_at (by omega)⟩
      have hLm := Lib.hid hlm
      have hPk : Hid (∀ (B : Option Addr) (cb : Nat) W, Rd .u64 W B n (dst (lo vs) vs) → Calls Try.prog 57 #[.int .i64 (wid vs : Nat), .slice B n cb] W fun e w' => ∃ A' c', e = .returned (.tuple #[.slice A' (packB (wid vs) (dst (lo vs) vs)).length c', .int .i64 0]) ∧ Own .u8 5 w' W.heap.size A' c' (packB (wid vs) (dst (lo vs) vs)) ∧ Ext W w') := Lib.hid fun B cb W h => by
        have := refPack_any B n cb (wid vs) (dst (lo vs) vs) W h hdu (by omega)
        unfold PackPost at this
        rw [hpE, hpL] at this
        exact this
      have hWd : Hid (∀ (B : Option Addr) (cb : Nat) W, Rd .u64 W B n (dst (lo vs) vs) → Calls Try.prog 56 #[.slice B n cb] W fun e w' => e = .returned (.int .i64 (wid vs : Nat)) ∧ W = w') := Lib.hid fun B cb W h => refWidth_any B n cb (dst (lo vs) vs) W h hdu (by omega)
      have hFo : Hid (∀ W, Calls Try.prog 43 #[.int .i64 (lo vs)] W fun e w' => e = .returned (.int .u64 (u : Int)) ∧ W = w') := Lib.hid fun W => by rw [← hu]; exact refFold_any _ W hlm.1 hlm.2
      obtain ⟨l, hle'⟩ : ∃ l, l = lo vs := ⟨_, rfl⟩
      obtain ⟨d, hde⟩ : ∃ d, d = wid vs := ⟨_, rfl⟩
      obtain ⟨D, hDe⟩ : ∃ D, D = dst (lo vs) vs := ⟨_, rfl⟩
      rw [← hDe, ← hde] at hPk hpl
      rw [← hDe] at hDst hWd hdl
      rw [← hde] at hWd hw64
      rw [← hDe, ← hde]
      rw [← hle'] at hMin hDst hFo hLm
      obtain ⟨Q, hQ⟩ : ∃ Q, Q = packB d D := ⟨_, rfl⟩
      rw [← hQ] at hPk hpl ⊢
      obtain ⟨q, hq⟩ : ∃ q, q = Q.length := ⟨_, rfl⟩
      rw [← hq] at hPk hpl
      have Hq := Lib.hid hq.symm
      have Hdl := Lib.hid hdl
      have hdn : d * n ≤ 64 * 4096 := Nat.mul_le_mul hw64 (by omega)
      have hq4 : q ≤ 40000 := by rw [hpl]; omega
      have hvn := vsize_le (u := n) (by omega)
      have hvu := vsize_le (u := u) (by omega)
      rw [← vput_len] at hvn hvu
      obtain ⟨V1, hV1⟩ : ∃ V, V = vput n := ⟨_, rfl⟩
      obtain ⟨V2, hV2⟩ : ∃ V, V = vput u := ⟨_, rfl⟩
      have HV1 := Lib.hid hV1
      have HV2 := Lib.hid hV2
      rw [← hV1] at hvn ⊢
      rw [← hV2] at hvu ⊢
      obtain ⟨L, hL⟩ : ∃ L, L = V1 ++ (V2 ++ ([d] ++ Q)) := ⟨_, rfl⟩
      rw [← hL]
      have HLe := Lib.hid hL
      have hn4 : n ≤ 4096 := by omega
      have Hu64 := Lib.hid (show u < 18446744073709551616 by omega)
      have hd8 : IntKind.u8.wrap (d : Int) = (d : Int) := IntWalk.u8_in _ (by omega)
      have hn0 : ((n : Int) == 0) = false := by rw [beq_eq_false_iff_ne]; omega
      have hwn : IntKind.u64.wrap (n : Int) = (n : Int) := IntWalk.u64_in _ (by omega)
      clear hl hlm hle hpE hpL hdu hdl f0 f1 hu hle' hde hDe hQ hq hpl hdn hV1 hV2 hL hP hv hbig
      go_enter Try.func33, Try.ntmps33
      go_wp2_with fail
      refine (refPut_any n _ (by omega)).mono ?_
      rintro e w1 ⟨A1, c1, rfl, hown1, he1⟩
      rw [← HV1.out] at hown1 ⊢
      have hr1 := hown1.rd
      clear hown1
      go_wp2_with fail
      refine (hMin.out _ he1).mono ?_
      rintro e w2 ⟨rfl, rfl⟩
      go_wp2_with fail
      go_loopw [6, 7] (fun y i wr => ∃ (j : Nat) (A' : Option Addr) (c' : Nat), j ≤ n ∧ i = .int .i64 j ∧ y = .slice A' j c' ∧ Own .u64 58 wr w1.heap.size A' c' (D.take j) ∧ Below w1.heap.size w1 wr) (fun _ i _ => n - (intOf i).toNat)
      case atStart => exact ⟨0, _, _, Nat.zero_le _, rfl, rfl, Own.made _ _ _ (Nat.le_refl _), (Ext.refl w1).alloc _⟩
      case round =>
        obtain ⟨j, A', c', hj, rfl, rfl, hown, hb⟩ := hrel
        have hz : w1.heap.size ≤ wr.heap.size := hb.size
        by_cases hlt : j < n
        · obtain ⟨b, o, rfl, hbl, hc⟩ := ((hx.ext he1).ext hb).atZ hlt
          obtain ⟨g1, g2, g3⟩ := hDst.out j hlt
          have hw := wrap_dist g1 hLm.out g2
          obtain ⟨v, hve⟩ : ∃ v, v = vs.getD j 0 := ⟨_, rfl⟩
          obtain ⟨x, hxe⟩ : ∃ x, x = D.getD j 0 := ⟨_, rfl⟩
          rw [← hve] at hc g2 g3 hw
          rw [← hxe] at g3
          rw [show v - l = (x : Int) by omega] at hw
          have htl : (D.take j).length = j := by rw [List.length_take, Hdl.out]; omega
          have Htl := Lib.hid htl
          have Htk := Lib.hid (take_next D j (by have := Hdl.out; omega))
          rw [← hxe] at Htk
          clear htl hve hxe g1 g2 g3
          go_wp2_with (at_builtin; refine wpList_push .u64 x 58 rfl _ _ 75 rfl _ 8 Try.underlying75 Try.infoU64 rfl hown j Htl.out rfl rfl rfl (by omega) (by omega) hb hz ?_; intro A1 c1 w2 hown1 hb1 hz1)
          go_roundw
          case rel => exact ⟨j + 1, A1, c1, by omega, by go_num, rfl, by rw [Htk.out]; exact hown1, hb1⟩
          case measure => simp [intOf]; omega
        · obtain rfl : j = n := by omega
          rw [List.take_of_length_le (by have := Hdl.out; omega)] at hown
          have hr2 := hown.rd' Hdl.out
          have he2 : Ext w1 wr := hb
          clear hown hb
          go_wp2_with fail
          refine (hWd.out _ _ _ hr2).mono ?_
          rintro e w3 ⟨rfl, rfl⟩
          go_wp2_with fail
          refine (hPk.out _ _ _ hr2).mono ?_
          rintro e w3 ⟨A3, c3, rfl, hown3, he3⟩
          have hr3 := hown3.rd' Hq.out
          clear hown3
          go_wp2_with fail
          refine (hFo.out _).mono ?_
          rintro e w4 ⟨rfl, rfl⟩
          go_wp2_with fail
          refine (refPut_any u _ Hu64.out).mono ?_
          rintro e w4 ⟨A4, c4, rfl, hown4, he4⟩
          rw [← HV2.out] at hown4 ⊢
          have hr4 := hown4.rd
          clear hown4
          go_wp2_with fail
          refine (cat_any _ _ V1.length _ V2.length _ V1 V2 _ (((hr1.ext he2).ext he3).ext he4) hr4 (by omega)).mono ?_
          rintro e w5 ⟨A5, c5, rfl, hown5, he5⟩
          have hl5 : (V1 ++ V2).length = V1.length + V2.length := List.length_append
          have Hl5 := Lib.hid hl5
          have hb5 := he5.size
          clear hl5
          go_wp2_with (at_builtin; refine wpList_push (w0 := w4) (base := w4.heap.size) .u8 d 5 rfl _ _ 34 rfl _ 1 Try.underlying34 Try.infoU8 rfl hown5 (V1.length + V2.length) Hl5.out rfl rfl rfl (by omega) (by omega) he5 hb5 ?_; intro A6 c6 w6 hown6 hb6 hz6)
          have hl6 : (V1 ++ V2 ++ [d]).length = V1.length + V2.length + 1 := by rw [List.length_append, Hl5.out]; rfl
          have hr6 := hown6.rd' hl6
          have he6 : Ext w4 w6 := hb6
          clear hl6 hown6 hown5
          refine (cat_any _ _ (V1.length + V2.length + 1) _ q _ (V1 ++ V2 ++ [d]) Q _ hr6 ((hr3.ext he4).ext he6) (by omega)).mono ?_
          rintro e w7 ⟨A7, c7, rfl, hown7, he7⟩
          have hfin : V1 ++ V2 ++ [d] ++ Q = L := by rw [HLe.out]; simp
          have hlen : V1.length + V2.length + 1 + q = L.length := by rw [← hfin]; simp [Hq.out]; omega
          rw [hfin] at hown7
          rw [hlen]
          have hE7 : Ext w w7 := ((((he1.trans he2).trans he3).trans he4).trans he6).trans he7
          have hb7 := (((he1.trans he2).trans he3).trans he4).trans he6 |>.size
          clear hfin hlen
          go_wp2_with fail
          go_ret2
          exact ⟨A7, c7, rfl, hown7.mono hb7, hE7⟩

end Go.Proofs.Ytoefhblojoaikaa
