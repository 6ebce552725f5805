import Derived.Test.YtlgcghjbekgnmaaGreatG14
import Derived.Test.YtlgcghjbekgnmaaGreatG7
import Derived.Test.YtlgcghjbekgnmaaGreatG1
import Derived.Test.YtlgcghjbekgnmaaGreatG11
import Derived.Test.YtlgcghjbekgnmaaGreatG13
import Derived.Test.YtlgcghjbekgnmaaGreatG9
import Derived.Deep.RegionHeld3
import Derived.Test.YtlgcghjbekgnmaaGreatG5

/-
  Layer 9: the document's Encode.
-/
namespace Go.Proofs.YtlgcghjbekgnmaaGreat
open Go.RowKit
set_option maxRecDepth 100000

set_option maxHeartbeats 3200000 in
theorem refPencode_any (A : Option Addr) (n c : Nat) (vs : List Int) (w : World) (hx : RdG shZ w A n vs) (hv : R64s vs) :
    Calls Tryz.prog 198 #[.slice A n c] w (Enc9Post vs w) := by
  have hl := hx.len
  unfold Enc9Post
  by_cases hbig : 4096 < n
  · rw [show encode9 vs = ([], 4) by unfold encode9; rw [if_pos (by omega)]]
    clear hl
    go_enter Tryz.func198, Tryz.ntmps198
    go_wp2_with fail
    go_ret2
    exact ⟨none, 0, rfl, Own.nil _ _ _ _, Ext.refl w⟩
  · have hd4 : decide ((4096 : Int) < (n : Int)) = false := decide_eq_false (by omega)
    rw [show encode9 vs = (encP vs, 0) by unfold encode9; rw [if_neg (by omega)]]
    rcases Nat.eq_zero_or_pos n with h0 | hp
    · subst h0
      have hP : encP vs = vput 0 := by unfold encP; rw [if_pos hl]
      rw [hP]
      have HV := Lib.hid hP
      clear hl hP
      go_enter Tryz.func198, Tryz.ntmps198
      go_wp2_with fail
      refine (refPut_any 0 _ (by omega)).mono ?_
      rintro e w2 ⟨A2, c2, rfl, hown2, he2⟩
      go_wp2_with fail
      go_ret2
      exact ⟨A2, c2, rfl, hown2, he2⟩
    · have hP : encP vs = vput n ++ (vput (foldS (lo vs)).toNat ++ ([wid vs] ++ packB (wid vs) (dst (lo vs) vs))) := by unfold encP; rw [if_neg (by omega), hl]
      rw [hP]
      have hlm := hv _ (lo_mem (show 0 < vs.length by omega))
      have hle := lo_le (xs := vs)
      have hw64 := wid_le hv (show 0 < vs.length by omega)
      obtain ⟨hpE, hpL⟩ := pack_dst hv (show 0 < vs.length by omega) (by omega)
      have hpl := packB_len9 (wid vs) (dst (lo vs) vs)
      rw [dst_len, hl] at hpl
      have hdu := dst_u64 hv hlm
      have hdl := (dst_len (lo vs) vs).trans hl
      obtain ⟨f0, f1⟩ := fold_range hlm
      obtain ⟨u, hu⟩ : ∃ u : Nat, foldS (lo vs) = (u : Int) := ⟨(foldS (lo vs)).toNat, by omega⟩
      rw [hu, Int.toNat_natCast]
      have hMin : Hid (∀ W, Ext w W → Calls Tryz.prog 211 #[.slice A n c] W fun e w' => e = .returned (.int .i64 (lo vs)) ∧ W = w') := Lib.hid fun W hW => pleast_any A n c vs W (hx.ext hW) hp (by omega)
      have hDst : Hid (∀ j, j < n → R64 (vs.getD j 0) ∧ lo vs ≤ vs.getD j 0 ∧ (dst (lo vs) vs).getD j 0 = (vs.getD j 0 - lo vs).toNat) := Lib.hid fun j hj => ⟨hv _ (mem_getD (by omega)), hle _ (mem_getD (by omega)), dst_at (by omega)⟩
      have hLm := Lib.hid hlm
      have hPk : Hid (∀ (B : Option Addr) (cb : Nat) W, Rd .u64 W B n (dst (lo vs) vs) → Calls Tryz.prog 165 #[.int .i64 (wid vs : Nat), .slice B n cb] W fun e w' => ∃ A' c', e = .returned (.tuple #[.slice A' (packB (wid vs) (dst (lo vs) vs)).length c', .int .i64 0]) ∧ Own .u8 5 w' W.heap.size A' c' (packB (wid vs) (dst (lo vs) vs)) ∧ Ext W w') := Lib.hid fun B cb W h => by
        have := refPack_any B n cb (wid vs) (dst (lo vs) vs) W h hdu (by omega)
        unfold PackPost at this
        rw [hpE, hpL] at this
        exact this
      have hWd : Hid (∀ (B : Option Addr) (cb : Nat) W, Rd .u64 W B n (dst (lo vs) vs) → Calls Tryz.prog 84 #[.slice B n cb] W fun e w' => e = .returned (.int .i64 (wid vs : Nat)) ∧ W = w') := Lib.hid fun B cb W h => refWidth_any B n cb (dst (lo vs) vs) W h hdu (by omega)
      have hFo : Hid (∀ W, Calls Tryz.prog 196 #[.int .i64 (lo vs)] W fun e w' => e = .returned (.int .u64 (u : Int)) ∧ W = w') := Lib.hid fun W => by rw [← hu]; exact refFold_any _ W hlm.1 hlm.2
      obtain ⟨l, hle'⟩ : ∃ l, l = lo vs := ⟨_, rfl⟩
      obtain ⟨d, hde⟩ : ∃ d, d = wid vs := ⟨_, rfl⟩
      obtain ⟨D, hDe⟩ : ∃ D, D = dst (lo vs) vs := ⟨_, rfl⟩
      rw [← hDe, ← hde] at hPk hpl
      rw [← hDe] at hDst hWd hdl
      rw [← hde] at hWd hw64
      rw [← hDe, ← hde]
      rw [← hle'] at hMin hDst hFo hLm
      obtain ⟨Q, hQ⟩ : ∃ Q, Q = packB d D := ⟨_, rfl⟩
      rw [← hQ] at hPk hpl ⊢
      obtain ⟨q, hq⟩ : ∃ q, q = Q.length := ⟨_, rfl⟩
      rw [← hq] at hPk hpl
      have Hq := Lib.hid hq.symm
      have Hdl := Lib.hid hdl
      have hdn : d * n ≤ 64 * 4096 := Nat.mul_le_mul hw64 (by omega)
      have hq4 : q ≤ 40000 := by rw [hpl]; omega
      have hvn := vsize_le (u := n) (by omega)
      have hvu := vsize_le (u := u) (by omega)
      rw [← vput_len] at hvn hvu
      obtain ⟨V1, hV1⟩ : ∃ V, V = vput n := ⟨_, rfl⟩
      obtain ⟨V2, hV2⟩ : ∃ V, V = vput u := ⟨_, rfl⟩
      have HV1 := Lib.hid hV1
      have HV2 := Lib.hid hV2
      rw [← hV1] at hvn ⊢
      rw [← hV2] at hvu ⊢
      obtain ⟨L, hL⟩ : ∃ L, L = V1 ++ (V2 ++ ([d] ++ Q)) := ⟨_, rfl⟩
      rw [← hL]
      have HLe := Lib.hid hL
      have hn4 : n ≤ 4096 := by omega
      have Hu64 := Lib.hid (show u < 18446744073709551616 by omega)
      have hd8 : IntKind.u8.wrap (d : Int) = (d : Int) := IntWalk.u8_in _ (by omega)
      have hn0 : ((n : Int) == 0) = false := by rw [beq_eq_false_iff_ne]; omega
      have hwn : IntKind.u64.wrap (n : Int) = (n : Int) := IntWalk.u64_in _ (by omega)
      clear hl hlm hle hpE hpL hdu hdl f0 f1 hu hle' hde hDe hQ hq hpl hdn hV1 hV2 hL hP hv hbig
      go_enter Tryz.func198, Tryz.ntmps198
      go_wp2_with fail
      refine (refPut_any n _ (by omega)).mono ?_
      rintro e w1 ⟨A1, c1, rfl, hown1, he1⟩
      rw [← HV1.out] at hown1 ⊢
      have hr1 := hown1.rd
      clear hown1
      go_wp2_with fail
      refine (hMin.out _ he1).mono ?_
      rintro e w2 ⟨rfl, rfl⟩
      go_wp2_with fail
      go_loopw [6, 7] (fun y i wr => ∃ (j : Nat) (A' : Option Addr) (c' : Nat), j ≤ n ∧ i = .int .i64 j ∧ y = .slice A' j c' ∧ Own .u64 69 wr w1.heap.size A' c' (D.take j) ∧ Below w1.heap.size w1 wr) (fun _ i _ => n - (intOf i).toNat)
      case atStart => exact ⟨0, _, _, Nat.zero_le _, rfl, rfl, Own.made _ _ _ (Nat.le_refl _), (Ext.refl w1).alloc _⟩
      case round =>
        obtain ⟨j, A', c', hj, rfl, rfl, hown, hb⟩ := hrel
        have hz : w1.heap.size ≤ wr.heap.size := hb.size
        by_cases hlt : j < n
        · obtain ⟨b, o, rfl, hbl, hc⟩ := ((hx.ext he1).ext hb).atZ hlt
          obtain ⟨g1, g2, g3⟩ := hDst.out j hlt
          have hw := wrap_dist g1 hLm.out g2
          obtain ⟨v, hve⟩ : ∃ v, v = vs.getD j 0 := ⟨_, rfl⟩
          obtain ⟨x, hxe⟩ : ∃ x, x = D.getD j 0 := ⟨_, rfl⟩
          rw [← hve] at hc g2 g3 hw
          rw [← hxe] at g3
          rw [show v - l = (x : Int) by omega] at hw
          have htl : (D.take j).length = j := by rw [List.length_take, Hdl.out]; omega
          have Htl := Lib.hid htl
          have Htk := Lib.hid (take_next D j (by have := Hdl.out; omega))
          rw [← hxe] at Htk
          clear htl hve hxe g1 g2 g3
          go_wp2_with (at_builtin; refine wpList_push .u64 x 69 rfl _ _ 72 rfl _ 8 Tryz.underlying72 Tryz.infoU64 rfl hown j Htl.out rfl rfl rfl (by omega) (by omega) hb hz ?_; intro A1 c1 w2 hown1 hb1 hz1)
          go_roundw
          case rel => exact ⟨j + 1, A1, c1, by omega, by go_num, rfl, by rw [Htk.out]; exact hown1, hb1⟩
          case measure => simp [intOf]; omega
        · obtain rfl : j = n := by omega
          rw [List.take_of_length_le (by have := Hdl.out; omega)] at hown
          have hr2 := hown.rd' Hdl.out
          have he2 : Ext w1 wr := hb
          clear hown hb
          go_wp2_with fail
          refine (hWd.out _ _ _ hr2).mono ?_
          rintro e w3 ⟨rfl, rfl⟩
          go_wp2_with fail
          refine (hPk.out _ _ _ hr2).mono ?_
          rintro e w3 ⟨A3, c3, rfl, hown3, he3⟩
          have hr3 := hown3.rd' Hq.out
          clear hown3
          go_wp2_with fail
          refine (hFo.out _).mono ?_
          rintro e w4 ⟨rfl, rfl⟩
          go_wp2_with fail
          refine (refPut_any u _ Hu64.out).mono ?_
          rintro e w4 ⟨A4, c4, rfl, hown4, he4⟩
          rw [← HV2.out] at hown4 ⊢
          have hr4 := hown4.rd
          clear hown4
          go_wp2_with fail
          refine (cat_any _ _ V1.length _ V2.length _ V1 V2 _ (((hr1.ext he2).ext he3).ext he4) hr4 (by omega)).mono ?_
          rintro e w5 ⟨A5, c5, rfl, hown5, he5⟩
          have hl5 : (V1 ++ V2).length = V1.length + V2.length := List.length_append
          have Hl5 := Lib.hid hl5
          have hb5 := he5.size
          clear hl5
          go_wp2_with (at_builtin; refine wpList_push (w0 := w4) (base := w4.heap.size) .u8 d 5 rfl _ _ 22 rfl _ 1 Tryz.underlying22 Tryz.infoU8 rfl hown5 (V1.length + V2.length) Hl5.out rfl rfl rfl (by omega) (by omega) he5 hb5 ?_; intro A6 c6 w6 hown6 hb6 hz6)
          have hl6 : (V1 ++ V2 ++ [d]).length = V1.length + V2.length + 1 := by rw [List.length_append, Hl5.out]; rfl
          have hr6 := hown6.rd' hl6
          have he6 : Ext w4 w6 := hb6
          clear hl6 hown6 hown5
          refine (cat_any _ _ (V1.length + V2.length + 1) _ q _ (V1 ++ V2 ++ [d]) Q _ hr6 ((hr3.ext he4).ext he6) (by omega)).mono ?_
          rintro e w7 ⟨A7, c7, rfl, hown7, he7⟩
          have hfin : V1 ++ V2 ++ [d] ++ Q = L := by rw [HLe.out]; simp
          have hlen : V1.length + V2.length + 1 + q = L.length := by rw [← hfin]; simp [Hq.out]; omega
          rw [hfin] at hown7
          rw [hlen]
          have hE7 : Ext w w7 := ((((he1.trans he2).trans he3).trans he4).trans he6).trans he7
          have hb7 := (((he1.trans he2).trans he3).trans he4).trans he6 |>.size
          clear hfin hlen
          go_wp2_with fail
          go_ret2
          exact ⟨A7, c7, rfl, hown7.mono hb7, hE7⟩

end Go.Proofs.YtlgcghjbekgnmaaGreat

/-
  Close numbers as bytes, as mathematics (out of P9j).
-/
namespace Go.Proofs.YtlgcghjbekgnmaaGreat
open Go.RowKit
set_option maxRecDepth 100000

theorem encP_u8 (vs : List Int) (h : R64s vs) : U8 (encP vs) := by
  unfold encP
  split
  · exact vput_u8 _
  · rename_i hn
    have := wid_le h (by omega)
    intro v hv
    rcases List.mem_append.1 hv with h1 | h1
    · exact vput_u8 _ v h1
    · rcases List.mem_append.1 h1 with h1 | h1
      · exact vput_u8 _ v h1
      · rcases List.mem_append.1 h1 with h1 | h1
        · simp at h1; omega
        · exact packB_u8 _ _ v h1
theorem encode9_u8 (vs : List Int) (h : R64s vs) : U8 (encode9 vs).1 := by
  unfold encode9
  split
  · intro v hv; cases hv
  · exact encP_u8 vs h
theorem encP_len {vs : List Int} (h : R64s vs) (h4 : vs.length ≤ 4096) : (encP vs).length ≤ 40000 := by
  unfold encP
  split
  · rw [vput_len]; have := vsize_le (u := 0) (by omega); omega
  · rename_i hn
    have h1 := wid_le h (by omega)
    have h2 := fold_range (h _ (lo_mem (show 0 < vs.length by omega)))
    have a1 := vsize_le (u := vs.length) (by omega)
    have a2 := vsize_le (u := (foldS (lo vs)).toNat) (by omega)
    have a3 : wid vs * vs.length ≤ 64 * 4096 := Nat.mul_le_mul h1 h4
    rw [List.length_append, List.length_append, List.length_append, vput_len, vput_len, packB_len9, dst_len]
    simp only [List.length_singleton]
    omega
theorem encode9_len {vs : List Int} (h : R64s vs) : (encode9 vs).1.length ≤ 40000 := by
  unfold encode9
  split
  · simp
  · exact encP_len h (by omega)

end Go.Proofs.YtlgcghjbekgnmaaGreat

/-
  Layer 9 as mathematics: what is encoded is decoded; bytes that are decoded are the only ones.
-/
namespace Go.Proofs.YtlgcghjbekgnmaaGreat
open Go.RowKit
set_option maxRecDepth 100000

theorem dst_above (l : Int) (far : List Nat) : dst l (above l far) = far := by
  unfold dst above
  rw [List.map_map]
  conv => rhs; rw [← List.map_id far]
  refine List.map_congr_left fun x _ => ?_
  show (l + (x : Int) - l).toNat = x
  omega
theorem above_dst {l : Int} {vs : List Int} (h : ∀ v ∈ vs, l ≤ v) : above l (dst l vs) = vs := by
  unfold dst above
  rw [List.map_map]
  conv => rhs; rw [← List.map_id vs]
  refine List.map_congr_left fun v hv => ?_
  have := h v hv
  show l + (((v - l).toNat : Nat) : Int) = v
  omega
theorem lo_above {l : Int} {far : List Nat} (h : 0 ∈ far) : lo (above l far) = l := by
  have h1 : l ∈ above l far := List.mem_map.2 ⟨0, h, by simp⟩
  have h2 := lo_le _ h1
  have h3 := lo_mem (List.length_pos_of_mem h1)
  obtain ⟨x, _, hx⟩ := List.mem_map.1 h3
  omega

theorem packL_ok {wd : Nat} {vs : List Nat} (h : packE wd vs = 0) : packL wd vs = packB wd vs := by unfold packL; rw [if_pos h]; rfl

/-- Bytes that are decoded are those of their numbers. -/
theorem only9 {bs : List Nat} (hu : U8 bs) (h : (decode9 bs).2 = 0) : encode9 (decode9 bs).1 = (bs, 0) ∧ R64s (decode9 bs).1 := by
  rcases hd : decode9 bs with ⟨vs, e⟩
  rw [hd] at h
  simp only at h
  subst h
  show encode9 vs = (bs, 0) ∧ R64s vs
  unfold decode9 at hd
  rcases hg : vget bs 0 with ⟨M, a, e1⟩
  rw [hg] at hd
  simp only at hd
  by_cases h1 : e1 = 0
  · subst h1
    rw [if_neg (by simp)] at hd
    obtain ⟨p1, p2, p3, p4, p5⟩ := vget_at hu hg
    by_cases h2 : 4096 < M
    · rw [if_pos h2] at hd; injection hd with _ hd; exact absurd hd (by decide)
    rw [if_neg h2] at hd
    by_cases h3 : M = 0
    · subst h3
      rw [if_pos rfl] at hd
      by_cases h4 : a < (bs.length : Int)
      · rw [if_pos h4] at hd; injection hd with _ hd; exact absurd hd (by decide)
      · rw [if_neg h4] at hd
        injection hd with hd _
        subst hd
        refine ⟨?_, fun v hv => by cases hv⟩
        have : bs = vput 0 := by
          rw [p5, show (0 : Int).toNat = 0 from rfl, List.drop_zero, List.take_of_length_le (by omega)]
        rw [this]
        rfl
    · rw [if_neg h3] at hd
      unfold decSome at hd
      rcases hg2 : vget bs a with ⟨u, a2, e2⟩
      rw [hg2] at hd
      simp only at hd
      by_cases h4 : e2 = 0
      · subst h4
        rw [if_neg (by simp)] at hd
        obtain ⟨q1, q2, q3, q4, q5⟩ := vget_at hu hg2
        obtain ⟨k, rfl⟩ : ∃ k : Nat, a = (k : Int) := ⟨a.toNat, by omega⟩
        obtain ⟨q, rfl⟩ : ∃ q : Nat, a2 = (q : Int) := ⟨a2.toNat, by omega⟩
        rw [Int.toNat_natCast] at hd
        simp only [Int.toNat_natCast, Int.toNat_zero, List.drop_zero, Nat.sub_zero] at p5 q5
        have hle := unf_range q4
        have hfu : foldS (unfS (u : Int)) = (u : Int) := fold_unf (by omega)
        obtain ⟨l, hl⟩ : ∃ l, l = unfS (u : Int) := ⟨_, rfl⟩
        rw [← hl] at hd hle hfu
        unfold decTail at hd
        by_cases h5 : q = bs.length
        · rw [if_pos h5] at hd; injection hd with _ hd; exact absurd hd (by decide)
        rw [if_neg h5] at hd
        obtain ⟨d, hde⟩ : ∃ d, d = bs.getD q 0 := ⟨_, rfl⟩
        rw [← hde] at hd
        by_cases h6 : 64 < d
        · rw [if_pos h6] at hd; injection hd with _ hd; exact absurd hd (by decide)
        rw [if_neg h6] at hd
        by_cases h7 : secE bs q M = 0
        · rw [if_neg (by simpa using h7)] at hd
          have hF := secL_len h7
          have hUe : secL bs q M = upk d M (pk 8 (bs.drop (q + 1))) := by
            unfold secL
            rw [unp_ok h7, ← hde, Int.toNat_natCast, Int.toNat_natCast]
          have hE : unpE (pk 8 (bs.drop (q + 1))) (bs.drop (q + 1)).length (d : Int) (M : Int) = 0 := by
            rw [List.length_drop]
            unfold secE at h7
            rw [← hde] at h7
            exact h7
          obtain ⟨c1, c2⟩ := pack_unp (by omega) (by omega) (fun v hv => hu v (List.mem_of_mem_drop hv)) hE
          rw [packL_ok c1, ← hUe] at c2
          obtain ⟨F, hFe⟩ : ∃ F, F = secL bs q M := ⟨_, rfl⟩
          rw [← hFe] at hd hF c2
          by_cases h8 : onlyF l d F = true
          · rw [if_pos h8] at hd
            injection hd with hd _
            subst hd
            unfold onlyF at h8
            simp only [Bool.and_eq_true, decide_eq_true_eq] at h8
            obtain ⟨g1, g2, g3⟩ := h8
            have hz := (loN_zero (by omega)).1 g2
            have hlo := lo_above (l := l) hz
            have hM : (above l F).length = M := by rw [above_len, hF]
            refine ⟨?_, ?_⟩
            · have hw : wid (above l F) = d := by unfold wid; rw [hlo, dst_above]; omega
              unfold encode9
              rw [if_neg (by omega)]
              unfold encP
              rw [if_neg (by omega), hM, hw, hlo, dst_above, c2, hfu, Int.toNat_natCast, p5, q5]
              congr 1
              have e1 : bs.drop q = d :: bs.drop (q + 1) := by rw [hde]; exact drop_cons (by omega)
              have e2 : (bs.drop k).take (q - k) ++ bs.drop q = bs.drop k := by
                conv => rhs; rw [← List.take_append_drop (q - k) (bs.drop k)]
                rw [List.drop_drop, show k + (q - k) = q from by omega]
              rw [List.singleton_append, ← e1, e2, List.take_append_drop]
            · intro v hv
              obtain ⟨x, hx, rfl⟩ := List.mem_map.1 hv
              have := le_hiN x hx
              unfold R64 at hle ⊢
              omega
          · rw [if_neg h8] at hd; injection hd with _ hd; exact absurd hd (by decide)
        · rw [if_pos h7] at hd; injection hd with _ hd; exact absurd hd h7
      · rw [if_pos h4] at hd; injection hd with _ hd; exact absurd hd h4
  · rw [if_pos h1] at hd; injection hd with _ hd; exact absurd hd h1

theorem decTail_err {bs : List Nat} {l : Int} {a n : Nat} (he : (decTail bs l a n).2 ≠ 0) : (decTail bs l a n).1 = [] := by
  unfold decTail at he ⊢
  by_cases h1 : a = bs.length
  · rw [if_pos h1]
  rw [if_neg h1] at he ⊢
  by_cases h2 : 64 < bs.getD a 0
  · rw [if_pos h2]
  rw [if_neg h2] at he ⊢
  by_cases h3 : secE bs a n ≠ 0
  · rw [if_pos h3]
  rw [if_neg h3] at he ⊢
  by_cases h4 : onlyF l (bs.getD a 0 : Nat) (secL bs a n) = true
  · rw [if_pos h4] at he; exact absurd rfl he
  · rw [if_neg h4]
theorem decode9_err {bs : List Nat} (he : (decode9 bs).2 ≠ 0) : (decode9 bs).1 = [] := by
  unfold decode9 at he ⊢
  by_cases h1 : (vget bs 0).2.2 ≠ 0
  · rw [if_pos h1]
  rw [if_neg h1] at he ⊢
  by_cases h2 : 4096 < (vget bs 0).1
  · rw [if_pos h2]
  rw [if_neg h2] at he ⊢
  by_cases h3 : (vget bs 0).1 = 0
  · rw [if_pos h3] at he ⊢
    by_cases h4 : (vget bs 0).2.1 < (bs.length : Int)
    · rw [if_pos h4]
    · rw [if_neg h4]
  rw [if_neg h3] at he ⊢
  unfold decSome at he ⊢
  by_cases h4 : (vget bs (vget bs 0).2.1).2.2 ≠ 0
  · rw [if_pos h4]
  rw [if_neg h4] at he ⊢
  exact decTail_err he

/-- What Decode answers of bytes that begin as Encode's do. -/
theorem decode9_form {V1 V2 T : List Nat} {n u d : Nat} (hn1 : 1 ≤ n) (hn : n ≤ 4096) (h1 : V1 = vput n) (h2 : V2 = vput u) (hu : u < 18446744073709551616) (hd : d ≤ 64) :
    decode9 (V1 ++ (V2 ++ (d :: T))) = if unpE (pk 8 T) T.length (d : Int) (n : Int) ≠ 0 then ([], unpE (pk 8 T) T.length (d : Int) (n : Int)) else
      if onlyF (unfS u) d (unpL (pk 8 T) T.length (d : Int) (n : Int)) = true then (above (unfS u) (unpL (pk 8 T) T.length (d : Int) (n : Int)), 0) else ([], 5) := by
  obtain ⟨bs, hb⟩ : ∃ bs, bs = V1 ++ (V2 ++ (d :: T)) := ⟨_, rfl⟩
  rw [← hb]
  obtain ⟨g1, b1, d1⟩ := vget_put (bs := bs) (a := 0) (u := n) (rest := V2 ++ (d :: T)) (by omega) (Nat.zero_le _) (by rw [List.drop_zero, hb, h1])
  rw [← h1] at g1 b1 d1
  obtain ⟨g2, b2, d2⟩ := vget_put (bs := bs) (a := 0 + V1.length) (u := u) (rest := d :: T) hu b1 (by rw [d1, h2])
  rw [← h2] at g2 b2 d2
  obtain ⟨q, hq⟩ : ∃ q, q = 0 + V1.length + V2.length := ⟨_, rfl⟩
  rw [← hq] at b2 d2
  have hql : q < bs.length := by
    have := congrArg List.length d2
    rw [List.length_drop, List.length_cons] at this
    omega
  have e1 := drop_cons hql
  rw [d2] at e1
  injection e1 with e2 e3
  have e4 : bs.length - (q + 1) = T.length := by rw [e3, List.length_drop]
  have hE : secE bs q n = unpE (pk 8 T) T.length (d : Int) (n : Int) := by unfold secE; rw [← e3, e4, ← e2]
  have hL : secL bs q n = unpL (pk 8 T) T.length (d : Int) (n : Int) := by unfold secL; rw [← e3, e4, ← e2]
  have g1' : vget bs 0 = (n, (((0 + V1.length : Nat)) : Int), 0) := by rw [show (0 : Int) = ((0 : Nat) : Int) from rfl, g1, Int.natCast_add]; rfl
  unfold decode9
  rw [g1']
  simp only
  rw [if_neg (by simp), if_neg (by omega), if_neg (by omega)]
  unfold decSome
  rw [g2]
  simp only
  rw [if_neg (by simp), ← Int.natCast_add, Int.toNat_natCast, ← hq]
  unfold decTail
  rw [if_neg (by omega), ← e2, if_neg (by omega), hE, hL]

/-- What is encoded is decoded again; a byte more isn't. -/
theorem back9 {vs : List Int} (hv : R64s vs) (h4 : vs.length ≤ 4096) : decode9 (encP vs) = (vs, 0) ∧ decode9 (encP vs ++ [0]) = ([], 3) := by
  by_cases hn : vs.length = 0
  · obtain rfl : vs = [] := List.eq_nil_of_length_eq_zero hn
    exact ⟨by decide +kernel, by decide +kernel⟩
  · have hlm := hv _ (lo_mem (show 0 < vs.length by omega))
    obtain ⟨f0, f1⟩ := fold_range hlm
    obtain ⟨u, hu⟩ : ∃ u : Nat, foldS (lo vs) = (u : Int) := ⟨(foldS (lo vs)).toNat, by omega⟩
    have hul : unfS (u : Int) = lo vs := by rw [← hu, unf_fold]
    have hw := wid_le hv (show 0 < vs.length by omega)
    have hdl := dst_len (lo vs) vs
    have hwd : Wd (wid vs) (dst (lo vs) vs) := wdt_le.1 (Nat.le_refl _)
    obtain ⟨c1, c2, c3⟩ := unp_pack hw (by omega) hwd
    rw [hdl] at c1 c2 c3
    have hP : ∀ r, encP vs ++ r = vput vs.length ++ (vput u ++ (wid vs :: (packB (wid vs) (dst (lo vs) vs) ++ r))) := fun r => by
      unfold encP
      rw [if_neg hn, hu, Int.toNat_natCast]
      simp
    refine ⟨?_, ?_⟩
    · have := hP []
      rw [List.append_nil, List.append_nil] at this
      rw [this, decode9_form (by omega) h4 rfl rfl (by omega) hw, if_neg (by simpa using c1), c2, hul, if_pos, above_dst lo_le]
      unfold onlyF
      simp only [Bool.and_eq_true, decide_eq_true_eq]
      have hz : 0 ∈ dst (lo vs) vs := List.mem_map.2 ⟨lo vs, lo_mem (by omega), by simp⟩
      refine ⟨rfl, (loN_zero (by omega)).2 hz, ?_⟩
      obtain ⟨v, hvm, hve⟩ := List.mem_map.1 (hiN_mem (xs := dst (lo vs) vs) (by omega))
      have h1 := hv v hvm
      have h2 := lo_le v hvm
      unfold R64 at h1
      omega
    · rw [hP [0], decode9_form (by omega) h4 rfl rfl (by omega) hw, List.length_append, List.length_singleton, c3, if_pos (by decide)]

end Go.Proofs.YtlgcghjbekgnmaaGreat

/-
  Layer 12: what is read lies within a cell's numbers and bytes.
-/
namespace Go.Proofs.YtlgcghjbekgnmaaGreat
open Go.RowKit
set_option maxRecDepth 100000

/-- A value that a cell may hold. -/
def VIn (v : Cv) : Prop := U8 v.2.2 ∧ -9223372036854775808 ≤ v.2.1 ∧ v.2.1 ≤ 9223372036854775807 ∧ v.2.2.length ≤ 200

theorem pcR_in {k : Int} {bs : List Nat} {a : Int} (hu : U8 bs) (h : (pcR k bs a).2.2 = 0) : VIn (false, (pcR k bs a).1.1, (pcR k bs a).1.2) := by
  unfold pcR at h ⊢
  split at h
  · rename_i hk
    rw [if_pos hk]
    split at h
    · rename_i h2; exact absurd h h2
    · rename_i h2
      rw [if_neg h2]
      rcases hg : vget bs a with ⟨u, nx, e⟩
      rw [hg] at h2
      obtain rfl : e = 0 := by simpa using h2
      obtain ⟨_, hv1, hv2, h3, _⟩ := vget_at hu hg
      have : -9223372036854775808 ≤ unfS (u : Int) ∧ unfS (u : Int) ≤ 9223372036854775807 := by unfold unfS; split <;> omega
      exact ⟨(by intro v hv; cases hv), this.1, this.2, by simp⟩
  · rename_i hk
    rw [if_neg hk]
    have := dtx_ok (s := (dtx bs a).1) (n := (dtx bs a).2.1) hu (by simp only at h; rw [← h])
    exact ⟨this.2.2.2.2.1, (show (-9223372036854775808 : Int) ≤ 0 by decide), (show (0 : Int) ≤ 9223372036854775807 by decide), this.2.2.2.1⟩

theorem plA_in {k : Int} {bs : List Nat} (hu : U8 bs) : ∀ (n : Nat) (a : Int) (acc : List Cv), (∀ v ∈ acc, VIn v) → ∀ v ∈ (plA k bs n a acc).1, VIn v
  | 0, _, _, h => h
  | n + 1, a, acc, h => by
    unfold plA
    split
    · intro v hv; cases hv
    · rename_i q
      refine plA_in hu n _ _ (fun v hv => ?_)
      rcases List.mem_append.1 hv with h1 | h1
      · exact h v h1
      · rw [List.mem_singleton.1 h1]
        exact pcR_in hu (by simpa using q)

theorem zR_in {R : List Int × Int} (h : R.2 = 0 → R64s R.1) : ∀ v ∈ (zR R).1, VIn v := by
  unfold zR
  split
  · intro v hv; cases hv
  · rename_i q
    intro v hv
    obtain ⟨z, hz, rfl⟩ := List.mem_map.1 hv
    have := h (by simpa using q) z hz
    exact ⟨(by intro v hv; cases hv), this.1, this.2, by simp⟩

theorem tR_in {R : List (List Nat) × Int} (h : R.2 = 0 → ∀ s ∈ R.1, U8 s ∧ s.length ≤ 200) : ∀ v ∈ (tR R).1, VIn v := by
  unfold tR
  split
  · intro v hv; cases hv
  · rename_i q
    intro v hv
    obtain ⟨z, hz, rfl⟩ := List.mem_map.1 hv
    have := h (by simpa using q) z hz
    exact ⟨this.1, (show (-9223372036854775808 : Int) ≤ 0 by decide), (show (0 : Int) ≤ 9223372036854775807 by decide), this.2⟩

theorem codR_in {cd : Int} {bs : List Nat} (hu : U8 bs) : ∀ v ∈ (codR cd bs).1, VIn v := by
  unfold codR
  split
  · exact zR_in fun h => (back8 hu h).2
  · split
    · exact zR_in fun h => (only9 hu h).2
    · split
      · exact tR_in fun h => (ddec_ok hu (ss := (ddec bs).1) (by rw [← h])).2.2.2
      · exact tR_in fun h s hs => by
          have := (pdec_ok hu (ss := (pdec bs).1) (by rw [← h])).2.2 s hs
          exact ⟨this.2, this.1⟩

theorem valuesR_in {k cd : Int} {bs : List Nat} {n : Nat} (hu : U8 bs) : ∀ v ∈ (valuesR k cd bs n).1, VIn v := by
  have h0 : ∀ v ∈ ([] : List Cv), VIn v := fun v hv => by cases hv
  unfold valuesR
  split
  · unfold gplR
    split
    · exact h0
    · split
      · exact h0
      · exact plA_in hu n 0 [] h0
  · split
    · exact h0
    · split
      · exact h0
      · exact codR_in hu

theorem wN_in : ∀ (us : List Nat) (vs : List Cv), (∀ v ∈ vs, VIn v) → ∀ v ∈ wN us vs, VIn v
  | [], _, _, v, hv => by simp [wN] at hv
  | u :: r, vs, h, v, hv => by
    by_cases q : u = 1
    · rw [wN_null q] at hv
      rcases List.mem_cons.1 hv with rfl | hv
      · exact ⟨(by intro v hv; cases hv), (show (-9223372036854775808 : Int) ≤ 0 by decide), (show (0 : Int) ≤ 9223372036854775807 by decide), by simp⟩
      · exact wN_in r vs h v hv
    · cases vs with
      | nil => simp [wN, q] at hv
      | cons x s =>
        rw [wN_val q] at hv
        rcases List.mem_cons.1 hv with rfl | hv
        · exact h _ (List.mem_cons_self ..)
        · exact wN_in r s (fun y hy => h y (List.mem_cons_of_mem _ hy)) v hv

/-- An answer's cells, to be read. -/
theorem ans_rdX {W : World} {base c n : Nat} {A : Option Addr} {fs : List Ci} {R : List Cv} (hv : fs.map Ci.val = R) (hn : fs.length = n) (hok : ∀ v ∈ R, VIn v) (ho : OwnX W base A c fs) (hown : ∀ f ∈ fs, Rd .u8 W f.A f.txt.length f.txt) : RdX W A n fs := by
  rw [← hn]
  refine ho.rdX (fun f hf => ?_)
  obtain ⟨h1, h2, h3, h4⟩ := hok f.val (by rw [← hv]; exact List.mem_map.2 ⟨f, hf, rfl⟩)
  have h4' : f.txt.length ≤ 200 := h4
  exact ⟨hown f hf, h1, h2, h3, by omega⟩

end Go.Proofs.YtlgcghjbekgnmaaGreat

/-
  Layer 12: the program's get.
-/
namespace Go.Proofs.YtlgcghjbekgnmaaGreat
open Go.RowKit
set_option maxRecDepth 100000

theorem OwnX.cap {w : World} {base c : Nat} {A : Option Addr} {xs : List Ci} (h : OwnX w base A c xs) : xs.length ≤ c ∧ c ≤ 9223372036854775807 := by
  rcases h.2 with ⟨hv, h0⟩ | ⟨g, cap, cur, hv, hg, hh, hnc, hcm, _⟩
  · injection hv with _ _ hc
    subst hc
    exact ⟨by omega, by decide⟩
  · injection hv with _ _ hc
    subst hc
    exact ⟨hnc, by simpa [maxLen] using hcm⟩

theorem rowR_ok {bs : List Nat} {a n : Nat} (h : (rowR bs a n).2 = 0) : (rowR bs a n).1.1.length = n ∧ (∀ u ∈ (rowR bs a n).1.1, u < 2) ∧ ∃ p : Nat, (rowR bs a n).1.2 = (p : Int) ∧ p ≤ bs.length := by
  unfold rowR at h ⊢
  split at h
  · omega
  · rename_i h1
    rw [if_neg h1]
    split at h
    · rename_i h2
      exact absurd h h2
    · rename_i h2
      rw [if_neg h2]
      split at h
      · omega
      · rename_i h3
        rw [if_neg h3]
        have h2' : unpE (pk 8 ((bs.drop a).take ((n + 7) / 8))) ((n + 7) / 8) 1 n = 0 := by simpa using h2
        refine ⟨by have := unp_len12 h2'; simpa using this, fun u hu => ?_, a + (n + 7) / 8, rfl, by omega⟩
        dsimp only at hu
        rw [unp_ok h2'] at hu
        exact upk_wd _ _ _ u hu

theorem nullR_ok {bs : List Nat} {a n : Nat} (ha : a ≤ bs.length) (h : (nullR bs a n).2 = 0) : (nullR bs a n).1.1.length = n ∧ (∀ u ∈ (nullR bs a n).1.1, u < 2) ∧ ∃ p : Nat, (nullR bs a n).1.2 = (p : Int) ∧ p ≤ bs.length := by
  unfold nullR at h ⊢
  split at h
  · omega
  · rename_i h1
    rw [if_neg h1]
    split at h
    · rename_i h2
      rw [if_pos h2]
      exact ⟨List.length_replicate, fun u hu => by rw [(List.mem_replicate.1 hu).2]; decide, a + 1, rfl, by omega⟩
    · rename_i h2
      rw [if_neg h2]
      split at h
      · rename_i h3
        rw [if_pos h3]
        exact rowR_ok h
      · omega

theorem plA_len {k : Int} {bs : List Nat} : ∀ (n : Nat) (a : Int) (acc : List Cv), (plA k bs n a acc).2.2 = 0 → (plA k bs n a acc).1.length = acc.length + n
  | 0, a, acc, _ => rfl
  | n + 1, a, acc, h => by
    unfold plA at h ⊢
    split at h
    · rename_i q
      exact absurd h q
    · rename_i q
      rw [if_neg q, plA_len n _ _ h, List.length_append, List.length_singleton]
      omega

theorem valuesR_len {k cd : Int} {bs : List Nat} {n : Nat} (h : (valuesR k cd bs n).2 = 0) : (valuesR k cd bs n).1.length = n := by
  unfold valuesR at h ⊢
  split at h
  · rename_i h1
    rw [if_pos h1]
    unfold gplR at h ⊢
    split at h
    · rename_i q
      exact absurd h q
    · rename_i q
      rw [if_neg q]
      split at h
      · omega
      · rename_i q2
        rw [if_neg q2]
        have := plA_len n 0 [] (by simpa using q)
        simpa using this
  · rename_i h1
    rw [if_neg h1]
    split at h
    · rename_i q
      exact absurd h q
    · rename_i q
      rw [if_neg q]
      split at h
      · omega
      · rename_i q2
        rw [if_neg q2]
        simpa using q2

theorem codecs_range {k v : Int} (h : v ∈ codecs k) : 1 ≤ v ∧ v ≤ 5 := by
  unfold codecs at h
  split at h
  · simp at h; omega
  · simp at h; omega

/-- What stands ahead of the sum, read. -/
def getB (k : Int) (bs : List Nat) : List Cv × Int :=
  if bs.length = 0 then ([], 2) else if ¬ ((bs.getD 0 0 : Nat) : Int) ∈ codecs k then ([], 120)
  else if (vget bs 1).2.2 ≠ 0 then ([], (vget bs 1).2.2)
  else if 4096 < (vget bs 1).1 then ([], 4)
  else if (nullR bs (vget bs 1).2.1.toNat (vget bs 1).1).2 ≠ 0 then ([], (nullR bs (vget bs 1).2.1.toNat (vget bs 1).1).2)
  else if (valuesR k (bs.getD 0 0 : Nat) (bs.drop (nullR bs (vget bs 1).2.1.toNat (vget bs 1).1).1.2.toNat) ((nullR bs (vget bs 1).2.1.toNat (vget bs 1).1).1.1.count 0)).2 ≠ 0 then ([], (valuesR k (bs.getD 0 0 : Nat) (bs.drop (nullR bs (vget bs 1).2.1.toNat (vget bs 1).1).1.2.toNat) ((nullR bs (vget bs 1).2.1.toNat (vget bs 1).1).1.1.count 0)).2)
  else (wN (nullR bs (vget bs 1).2.1.toNat (vget bs 1).1).1.1 (valuesR k (bs.getD 0 0 : Nat) (bs.drop (nullR bs (vget bs 1).2.1.toNat (vget bs 1).1).1.2.toNat) ((nullR bs (vget bs 1).2.1.toNat (vget bs 1).1).1.1.count 0)).1, 0)

set_option maxHeartbeats 3200000 in
theorem get12_any (k : Int) (A : Option Addr) (m c : Nat) (bs : List Nat) (w : World) (hx : Rd .u8 w A m bs) (hu : U8 bs) (hm : m ≤ 65000) (hc : m ≤ c) (hcm : c ≤ 9223372036854775807) :
    Calls Tryz.prog 41 #[.int .i64 k, .slice A m c] w (GcPost (getB k bs) w) := by
  have hl := hx.len
  have hR := getB.eq_1 k bs
  obtain ⟨R, hRR⟩ : ∃ R, R = getB k bs := ⟨_, rfl⟩
  rw [← hRR] at hR ⊢
  clear hRR
  rw [hl] at hR
  by_cases h0 : m = 0
  · rw [if_pos h0] at hR
    have HR := Lib.hid hR
    clear hR hx hl
    subst h0
    go_enter Tryz.func41, Tryz.ntmps41
    go_wp2_with fail
    go_ret2
    exact GcPost.bad _ HR.out (Ext.refl w)
  rw [if_neg h0] at hR
  have hm0 : 0 < m := by omega
  have hb0 : ((m : Int) == 0) = false := by simp [h0]
  obtain ⟨b, o, hA, hbl, hc0⟩ := hx.at_ hm0
  rw [Nat.add_zero] at hc0
  obtain ⟨cd, hcd⟩ : ∃ cd, cd = bs.getD 0 0 := ⟨_, rfl⟩
  rw [← hcd] at hR hc0
  have hcd8 : cd < 256 := by rw [hcd]; exact hu.at_ 0
  have HF := Lib.hid (fun W => isFor_any k (cd : Int) W)
  subst hA
  clear hcd
  by_cases hf : ((cd : Nat) : Int) ∈ codecs k
  rotate_left
  · rw [if_pos hf] at hR
    have HR := Lib.hid hR
    rw [decide_eq_false hf] at HF
    clear hR hx hl hf h0 hu
    go_enter Tryz.func41, Tryz.ntmps41
    go_wp2_with fail
    refine (HF.out _).mono ?_
    rintro e w1 ⟨rfl, he1⟩
    go_wp2_with fail
    go_ret2
    exact GcPost.bad _ HR.out he1
  rw [if_neg (fun q => q hf)] at hR
  have hcr := codecs_range hf
  rw [decide_eq_true hf] at HF
  have HG := Lib.hid (fun W (hW : Ext w W) => get_any (some ⟨b, o, none⟩) m c 1 bs W (hx.ext hW) hu (by omega) hc hcm)
  unfold GetPost at HG
  have hva := fun v n => vget_at (bs := bs) (a := 1) (n := n) (v := v) hu
  obtain ⟨⟨u, a, er⟩, hv⟩ : ∃ V, V = vget bs 1 := ⟨_, rfl⟩
  rw [← hv] at HG hR hva
  simp only at HG hR
  clear hv hf
  by_cases he : er = 0
  rotate_left
  · rw [if_pos he] at hR
    have HR := Lib.hid hR
    have hb1 : (er != 0) = true := by simp [he]
    clear hR hx hl h0 hu hva he
    go_enter Tryz.func41, Tryz.ntmps41
    go_wp2_with fail
    refine (HF.out _).mono ?_
    rintro e w1 ⟨rfl, he1⟩
    go_wp2_with fail
    refine (HG.out _ he1).mono ?_
    rintro e w2 ⟨rfl, rfl⟩
    go_wp2_with fail
    go_ret2
    exact GcPost.bad _ HR.out he1
  subst he
  rw [if_neg (fun q => q rfl)] at hR
  obtain ⟨v1, v2, v3, v4, _⟩ := hva u a rfl
  rw [hl] at v3
  obtain ⟨a, rfl⟩ := Int.eq_ofNat_of_zero_le (show 0 ≤ a by omega)
  rw [Int.toNat_natCast] at hR
  have ham : a ≤ m := by omega
  clear hva v1 v2 v3
  by_cases hbig : 4096 < u
  · rw [if_pos hbig] at hR
    have HR := Lib.hid hR
    have hb2 : decide ((4096 : Int) < (u : Int)) = true := decide_eq_true (by omega)
    clear hR hx hl h0 hu
    go_enter Tryz.func41, Tryz.ntmps41
    go_wp2_with fail
    refine (HF.out _).mono ?_
    rintro e w1 ⟨rfl, he1⟩
    go_wp2_with fail
    refine (HG.out _ he1).mono ?_
    rintro e w2 ⟨rfl, rfl⟩
    go_wp2_with fail
    go_ret2
    exact GcPost.bad _ HR.out he1
  rw [if_neg hbig] at hR
  have hb2 : decide ((4096 : Int) < (u : Int)) = false := decide_eq_false (by omega)
  have hu4 : u ≤ 4096 := by omega
  have HN := Lib.hid (fun W (hW : Ext w W) => getNulls_any (some ⟨b, o, none⟩) m c a u bs W (hx.ext hW) hu (by omega) hc hcm ham hu4)
  have hno := nullR_ok (bs := bs) (a := a) (n := u) (by omega)
  unfold NulPost at HN
  obtain ⟨⟨⟨us, p⟩, en⟩, hN⟩ : ∃ V, V = nullR bs a u := ⟨_, rfl⟩
  rw [← hN] at HN hR hno
  simp only at HN hR hno
  clear hN hbig
  by_cases hen : en = 0
  rotate_left
  · rw [if_pos hen] at hR
    have HR := Lib.hid hR
    have hb1 : (en != 0) = true := by simp [hen]
    clear hR hx hl h0 hu hno hen
    go_enter Tryz.func41, Tryz.ntmps41
    go_wp2_with fail
    refine (HF.out _).mono ?_
    rintro e w1 ⟨rfl, he1⟩
    go_wp2_with fail
    refine (HG.out _ he1).mono ?_
    rintro e w2 ⟨rfl, rfl⟩
    go_wp2_with fail
    refine (HN.out _ he1).mono ?_
    rintro e w3 ⟨A3, c3, rfl, _, he3⟩
    go_wp2_with fail
    go_ret2
    exact GcPost.bad _ HR.out (he1.trans he3)
  subst hen
  rw [if_neg (fun q => q rfl)] at hR
  obtain ⟨n1, n2, p, rfl, n3⟩ := hno rfl
  rw [hl] at n3
  rw [Int.toNat_natCast] at hR
  rw [n1] at HN
  have HM : Hid (∀ W A3 c3, Rd .u64 W A3 u us → Calls Tryz.prog 80 #[.slice A3 u c3, .int .u64 0] W fun e w' => e = .returned (.int .i64 (us.count 0 : Nat)) ∧ W = w') := Lib.hid (fun W A3 c3 h3 => howMany_any A3 u c3 us 0 W h3 (by omega))
  have hz : us.count 0 ≤ u := by rw [← n1]; exact List.count_le_length
  obtain ⟨z, hze⟩ : ∃ z, z = us.count 0 := ⟨_, rfl⟩
  rw [← hze] at HM hR hz
  have HV := Lib.hid (fun W (hW : Ext w W) => getValues_any k (cd : Int) hcr (offA (some ⟨b, o, none⟩) p c) (m - p) (c - p) z (bs.drop p) W ((hx.ext hW).offA n3 hc) (fun v hv => hu v (List.mem_of_mem_drop hv)) (by omega) (by omega) (by omega) (by omega))
  have hvi := valuesR_in (k := k) (cd := (cd : Int)) (n := z) (bs := bs.drop p) (fun v hv => hu v (List.mem_of_mem_drop hv))
  have hvl := valuesR_len (k := k) (cd := (cd : Int)) (bs := bs.drop p) (n := z)
  obtain ⟨⟨vs, ev⟩, hV⟩ : ∃ V, V = valuesR k (cd : Int) (bs.drop p) z := ⟨_, rfl⟩
  unfold GcPost at HV
  rw [← hV] at HV hR hvl hvi
  simp only at HV hR hvl hvi
  have HSl := run_from (some ⟨b, o, none⟩) m c p n3
  have Hn1 := Lib.hid n1
  have Hn2 := Lib.hid n2
  have Hze := Lib.hid hze
  have HR := Lib.hid hR
  have Hvl := Lib.hid hvl
  have Hvi := Lib.hid hvi
  clear hV hx hl h0 hu hR hno n1 n2 hze hvl hvi
  go_enter Tryz.func41, Tryz.ntmps41
  go_wp2_with fail
  refine (HF.out _).mono ?_
  rintro e w1 ⟨rfl, he1⟩
  go_wp2_with fail
  refine (HG.out _ he1).mono ?_
  rintro e w2 ⟨rfl, rfl⟩
  go_wp2_with fail
  refine (HN.out _ he1).mono ?_
  rintro e w3 ⟨A3, c3, rfl, hown3, he3⟩
  have HE3 := Lib.hid (he1.trans he3)
  have HU3 := Lib.hid (hown3.rd' Hn1.out)
  clear hown3 he3 he1
  go_wp2_with fail
  go_region_held3 (fun _ => True) (exact trivial)
    (first
      | (go_at_call 80; (with_reducible refine (HM.out _ _ _ (Rd.ext HU3.out ?_)).mono ?_); (focus ((repeat (first | exact Ext.refl _ |  apply Ext.drew | apply Ext.alloc | fail)); done)); rintro e w4 ⟨rfl, rfl⟩)
      | (go_at_call 79; (with_reducible refine (HV.out _ (Ext.trans HE3.out ?_)).mono ?_); (focus ((repeat (first | exact Ext.refl _ |  apply Ext.drew | apply Ext.alloc | fail)); done)); rintro e w5 ⟨fs, A5, c5, rfl, hv5, ho5, ht5, he5⟩)
      | fail)
  have hE35 : Ext w3 w5 := by (repeat (first | exact Ext.refl _ | (with_reducible refine Ext.trans ?_ he5) |  apply Ext.drew | apply Ext.alloc | fail))
  have ho5' : OwnX w5 w3.heap.size A5 c5 fs := ho5
  have ht5' : TxtX w5 w3.heap.size fs := ht5
  by_cases hev : ev = 0
  · subst hev
    have hR := HR.out
    rw [if_neg (fun q => q rfl)] at hR
    have hvz := Hvl.out rfl
    have hfl : fs.length = z := by rw [← hvz, ← hv5, List.length_map]
    have hrx := ans_rdX hv5 hfl Hvi.out ho5' (fun f hf => (ht5'.1 f hf).rd)
    have hcap := ho5'.cap
    rw [hfl] at hcap
    have hW := withNulls_any A3 u c3 us A5 z c5 w3.heap.size fs w5 (HU3.out.ext hE35) Hn2.out hrx ht5' hE35.size Hze.out.symm hu4 hcap.1 hcap.2
    rw [hv5] at hW
    have HRg := Lib.hid hR
    rw [hvz]
    clear hR he5 ho5 ht5 hcap hrx
    go_wp2_with fail
    refine hW.mono ?_
    rintro e w6 ⟨gs, c6, rfl, hgl, hgv, hgo, hgt, he6⟩
    go_wp2_with fail
    go_ret2
    rw [HRg.out]
    refine ⟨gs, _, c6, ?_, hgv, hgo.mono (HE3.out.trans hE35).size, hgt.mono HE3.out.size, (HE3.out.trans hE35).trans he6⟩
    rw [← hgv, List.length_map, hgl]
    rfl
  · have hR := HR.out
    rw [if_pos hev] at hR
    have HRb := Lib.hid hR
    have hb3 : (ev != 0) = true := by simp [hev]
    clear hR hev he5 ho5 ht5
    go_wp2_with fail
    go_ret2
    exact GcPost.bad _ HRb.out (HE3.out.trans hE35)

end Go.Proofs.YtlgcghjbekgnmaaGreat

/-
  Layer 12: the program's Decode.
-/
namespace Go.Proofs.YtlgcghjbekgnmaaGreat
open Go.RowKit
set_option maxRecDepth 100000

def chkV (k : Int) : List Cv → Int
  | [] => 0
  | v :: r => if chk k true v.1 v.2.1 v.2.2 ≠ 0 then chk k true v.1 v.2.1 v.2.2 else chkV k r
def chkBv (k : Int) (vs : List Cv) : Int := if 4096 < vs.length then 4 else chkV k vs
theorem chkA_val (k : Int) : ∀ (xs : List Ci), chkA k xs = chkV k (xs.map Ci.val)
  | [] => rfl
  | x :: r => by
    show (if chk k true x.nul x.num x.txt ≠ 0 then _ else chkA k r) = if chk k true x.nul x.num x.txt ≠ 0 then _ else chkV k (r.map Ci.val)
    rw [chkA_val k r]
    rfl
theorem chkB_val (k : Int) (xs : List Ci) : chkB k xs = chkBv k (xs.map Ci.val) := by
  unfold chkB chkBv
  rw [List.length_map, chkA_val]

theorem getB_in {k : Int} {bs : List Nat} (hu : U8 bs) : ∀ v ∈ (getB k bs).1, VIn v := by
  have h0 : ∀ v ∈ ([] : List Cv), VIn v := fun v hv => by cases hv
  unfold getB
  split
  · exact h0
  · split
    · exact h0
    · split
      · exact h0
      · split
        · exact h0
        · split
          · exact h0
          · split
            · exact h0
            · exact wN_in _ _ (valuesR_in (fun v hv => hu v (List.mem_of_mem_drop hv)))

theorem wN_len : ∀ (us : List Nat) (vs : List Cv), (wN us vs).length ≤ us.length
  | [], _ => Nat.le_refl _
  | u :: r, vs => by
    by_cases q : u = 1
    · rw [wN_null q, List.length_cons, List.length_cons]
      have := wN_len r vs
      omega
    · cases vs with
      | nil => simp [wN, q]
      | cons x s =>
        rw [wN_val q, List.length_cons, List.length_cons]
        have := wN_len r s
        omega

theorem getB_len {k : Int} {bs : List Nat} (hu : U8 bs) : (getB k bs).1.length ≤ 4096 := by
  unfold getB
  split
  · simp
  · split
    · simp
    · split
      · simp
      · rename_i q3
        split
        · simp
        · rename_i q4
          split
          · simp
          · rename_i q5
            split
            · simp
            · dsimp only
              rcases hg : vget bs 1 with ⟨u, nx, e⟩
              rw [hg] at q3 q4 q5
              obtain rfl : e = 0 := by simpa using q3
              obtain ⟨_, v1, v2, _, _⟩ := vget_at hu hg
              have h1 := nullR_ok (bs := bs) (a := nx.toNat) (n := u) (by omega) (by simpa using q5)
              refine Nat.le_trans (wN_len _ _) ?_
              rw [h1.1]
              simp only at q4
              omega

/-- What Decode answers. -/
def bdecR (k : Int) (bs : List Nat) : List Cv × Int :=
  if kindK k = false then ([], 1) else if 65000 < bs.length then ([], 4) else if ¬ sld bs then ([], 6)
  else if (getB k (bs.take (bs.length - 4))).2 ≠ 0 then ([], (getB k (bs.take (bs.length - 4))).2)
  else if chkBv k (getB k (bs.take (bs.length - 4))).1 ≠ 0 then ([], chkBv k (getB k (bs.take (bs.length - 4))).1)
  else ((getB k (bs.take (bs.length - 4))).1, 0)

set_option maxHeartbeats 3200000 in
theorem bdecode_any (k : Int) (A : Option Addr) (n c : Nat) (bs : List Nat) (w : World) (hx : Rd .u8 w A n bs) (hu : U8 bs) (hn : n ≤ 140737488351232) (hc : n ≤ c) (hcm : c ≤ 9223372036854775807) :
    Calls Tryz.prog 10 #[.int .i64 k, .slice A n c] w (GcPost (bdecR k bs) w) := by
  have hl := hx.len
  have hR := bdecR.eq_1 k bs
  obtain ⟨R, hRR⟩ : ∃ R, R = bdecR k bs := ⟨_, rfl⟩
  rw [← hRR] at hR ⊢
  rw [hl] at hR
  clear hRR
  have HK := Lib.hid (fun W => isKindB_any k W)
  cases hk : kindK k with
  | false =>
    rw [hk, if_pos rfl] at hR
    rw [hk] at HK
    have HR := Lib.hid hR
    clear hR hx hu hl hk
    go_enter Tryz.func10, Tryz.ntmps10
    go_wp2_with fail
    refine (HK.out _).mono ?_
    rintro e w1 ⟨rfl, he1⟩
    go_wp2_with fail
    go_ret2
    exact GcPost.bad _ HR.out he1
  | true =>
  rw [hk, if_neg (by decide)] at hR
  rw [hk] at HK
  clear hk
  by_cases hbig : 65000 < n
  · rw [if_pos hbig] at hR
    have HR := Lib.hid hR
    have hb1 : decide ((65000 : Int) < (n : Int)) = true := decide_eq_true (by omega)
    have hb2 : (65000 : Int) < (n : Int) := by omega
    clear hR hx hu hl hbig
    go_enter Tryz.func10, Tryz.ntmps10
    go_wp2_with fail
    refine (HK.out _).mono ?_
    rintro e w1 ⟨rfl, he1⟩
    go_wp2_with fail
    go_ret2
    exact GcPost.bad _ HR.out he1
  rw [if_neg hbig] at hR
  have hb1 : ¬ (65000 : Int) < (n : Int) := by omega
  have HS := Lib.hid (fun W (hW : Ext w W) => sealed_any A n c bs W (hx.ext hW) hu (by omega) hc hcm)
  by_cases hs : sld bs
  rotate_left
  · rw [if_pos hs] at hR
    have HR := Lib.hid hR
    rw [decide_eq_false hs] at HS
    clear hR hx hu hl hbig hs
    go_enter Tryz.func10, Tryz.ntmps10
    go_wp2_with fail
    refine (HK.out _).mono ?_
    rintro e w1 ⟨rfl, he1⟩
    go_wp2_with fail
    refine (HS.out _ he1).mono ?_
    rintro e w2 ⟨rfl, he2⟩
    go_wp2_with fail
    go_ret2
    exact GcPost.bad _ HR.out (he1.trans he2)
  rw [if_neg (fun q => q hs)] at hR
  rw [decide_eq_true hs] at HS
  have h4 : 4 ≤ n := by have := hs.1; omega
  have hup := run_upto .i64 A n c (n - 4) (by omega)
  have hn4 : ((n - 4 : Nat) : Int) = (n : Int) - 4 := by omega
  rw [hn4] at hup
  have HG := Lib.hid (fun W (hW : Ext w W) => get12_any k A (n - 4) c (bs.take (n - 4)) W ((hx.ext hW).upto (by omega)) (fun v hv => hu v (List.mem_of_mem_take hv)) (by omega) (by omega) hcm)
  have hvi := getB_in (k := k) (bs := bs.take (n - 4)) (fun v hv => hu v (List.mem_of_mem_take hv))
  have hvl := getB_len (k := k) (bs := bs.take (n - 4)) (fun v hv => hu v (List.mem_of_mem_take hv))
  obtain ⟨⟨vs, ev⟩, hV⟩ : ∃ V, V = getB k (bs.take (n - 4)) := ⟨_, rfl⟩
  unfold GcPost at HG
  rw [← hV] at HG hR hvi hvl
  simp only at HG hR hvi hvl
  have Hvl := Lib.hid hvl
  have HR := Lib.hid hR
  have Hvi := Lib.hid hvi
  clear hV hx hu hl hs hR hvi hvl hn4 hbig
  go_enter Tryz.func10, Tryz.ntmps10
  go_wp2_with fail
  refine (HK.out _).mono ?_
  rintro e w1 ⟨rfl, he1⟩
  go_wp2_with fail
  refine (HS.out _ he1).mono ?_
  rintro e w2 ⟨rfl, he2⟩
  have hE2 := he1.trans he2
  go_wp2_with fail
  refine (HG.out _ hE2).mono ?_
  rintro e w3 ⟨fs, A3, c3, rfl, hv3, ho3, ht3, he3⟩
  have hE3 := hE2.trans he3
  by_cases hev : ev = 0
  · subst hev
    have hR := HR.out
    rw [if_neg (fun q => q rfl)] at hR
    have hfl : fs.length = vs.length := by rw [← hv3, List.length_map]
    obtain ⟨z, hz⟩ : ∃ z, z = vs.length := ⟨_, rfl⟩
    rw [← hz] at hfl ⊢
    have hrx := ans_rdX hv3 hfl Hvi.out ho3 (fun f hf => (ht3.1 f hf).rd)
    have hCh := checkB_any k A3 z c3 fs w3 hrx (by have := Hvl.out; omega)
    rw [chkB_val, hv3] at hCh
    obtain ⟨E, hE⟩ : ∃ E, E = chkBv k vs := ⟨_, rfl⟩
    rw [← hE] at hCh hR
    have HRg := Lib.hid hR
    have Hz := Lib.hid hz
    clear hR hrx hE hz hfl
    go_wp2_with fail
    refine hCh.mono ?_
    rintro e w4 ⟨rfl, he4⟩
    by_cases hq : E = 0
    · have hR := HRg.out
      rw [if_neg (fun q => q hq)] at hR
      have HRk := Lib.hid hR
      subst hq
      clear hR
      go_wp2_with fail
      go_ret2
      rw [HRk.out]
      exact ⟨fs, A3, c3, by rw [← Hz.out]; rfl, hv3, (ho3.mono hE2.size).ext he4, TxtX.ext (TxtX.mono ht3 hE2.size) he4, hE3.trans he4⟩
    · have hR := HRg.out
      rw [if_pos hq] at hR
      have HRk := Lib.hid hR
      have hb3 : (E != 0) = true := by simp [hq]
      clear hR
      go_wp2_with fail
      go_ret2
      exact GcPost.bad _ HRk.out (hE3.trans he4)
  · have hR := HR.out
    rw [if_pos hev] at hR
    have HRb := Lib.hid hR
    have hb3 : (ev != 0) = true := by simp [hev]
    clear hR hev
    go_wp2_with fail
    go_ret2
    exact GcPost.bad _ HRb.out hE3

end Go.Proofs.YtlgcghjbekgnmaaGreat

/-
  Layer 12: bytes that are read are those that their cells write (mathematics).
-/
namespace Go.Proofs.YtlgcghjbekgnmaaGreat
open Go.RowKit
set_option maxRecDepth 100000

theorem wN_back : ∀ (us : List Nat) (ws : List Cv) (xs : List Ci), (∀ u ∈ us, u < 2) → us.count 0 = ws.length → (∀ v ∈ ws, v.1 = false) → xs.map Ci.val = wN us ws → nb xs = us ∧ (nn xs).map Ci.val = ws
  | [], ws, xs, _, hc, _, hx => by
    have h1 : ws = [] := List.eq_nil_of_length_eq_zero (by simpa using hc.symm)
    have h2 : xs = [] := by simpa [wN] using hx
    subst h1 h2
    exact ⟨rfl, rfl⟩
  | u :: r, ws, xs, hu, hc, hf, hx => by
    have hur : ∀ v ∈ r, v < 2 := fun v hv => hu v (List.mem_cons_of_mem _ hv)
    by_cases q : u = 1
    · subst q
      rw [wN_null rfl] at hx
      cases xs with
      | nil => cases hx
      | cons x s =>
        rw [List.map_cons] at hx
        injection hx with h1 h2
        have hn : x.nul = true := congrArg (fun v : Cv => v.1) h1
        obtain ⟨i1, i2⟩ := wN_back r ws s hur (by simpa using hc) hf h2
        refine ⟨?_, ?_⟩
        · show (if x.nul then 1 else 0) :: nb s = _
          rw [hn, i1]; rfl
        · show ((x :: s).filter fun x => !x.nul).map Ci.val = ws
          rw [List.filter_cons_of_neg (by simp [hn])]
          exact i2
    · have hu0 : u = 0 := by have := hu u (List.mem_cons_self ..); omega
      subst hu0
      cases ws with
      | nil => simp at hc
      | cons v t =>
        rw [wN_val (by decide)] at hx
        cases xs with
        | nil => cases hx
        | cons x s =>
          rw [List.map_cons] at hx
          injection hx with h1 h2
          have hn : x.nul = false := by
            have := congrArg (fun v : Cv => v.1) h1
            exact this.trans (hf v (List.mem_cons_self ..))
          obtain ⟨i1, i2⟩ := wN_back r t s hur (by simpa using hc) (fun v hv => hf v (List.mem_cons_of_mem _ hv)) h2
          refine ⟨?_, ?_⟩
          · show (if x.nul then 1 else 0) :: nb s = _
            rw [hn, i1]; rfl
          · show ((x :: s).filter fun x => !x.nul).map Ci.val = v :: t
            rw [List.filter_cons_of_pos (by simp [hn]), List.map_cons, h1]
            exact congrArg _ i2

theorem packB_of {wd n : Nat} {bs : List Nat} (hw : wd ≤ 64) (hn : n ≤ 4096) (hu : U8 bs) (h : unpE (pk 8 bs) bs.length (wd : Int) (n : Int) = 0) : packB wd (unpL (pk 8 bs) bs.length (wd : Int) (n : Int)) = bs := by
  obtain ⟨h1, h2⟩ := pack_unp hw hn hu h
  rw [unp_ok h]
  simp only [Int.toNat_natCast]
  unfold packL at h2
  rw [if_pos h1] at h2
  simpa using h2

theorem nullR_back {bs : List Nat} {a n : Nat} {us : List Nat} {p : Int} {xs : List Ci} (hu : U8 bs) (ha : a ≤ bs.length) (hn : n ≤ 4096) (h : nullR bs a n = ((us, p), 0)) (hx : nb xs = us) :
    nullsL xs = (bs.drop a).take (p.toNat - a) ∧ a ≤ p.toNat ∧ p.toNat ≤ bs.length := by
  unfold nullR at h
  by_cases h1 : a = bs.length
  · rw [if_pos h1] at h
    injection h with _ h
    exact absurd h (by decide)
  rw [if_neg h1] at h
  have hd : bs.drop a = bs.getD a 0 :: bs.drop (a + 1) := by
    have hl : a < bs.length := by omega
    rw [List.drop_eq_getElem_cons hl]
    simp [List.getD_eq_getElem?_getD, List.getElem?_eq_getElem hl]
  unfold nullsL
  rw [hx]
  by_cases h2 : bs.getD a 0 = 0
  · rw [if_pos h2] at h
    injection h with h _
    injection h with e1 e2
    subst e1 e2
    rw [if_neg (fun q => by have := (List.mem_replicate.1 q).2; omega), hd, h2, Int.toNat_natCast, show a + 1 - a = 1 by omega]
    exact ⟨rfl, by omega, by omega⟩
  rw [if_neg h2] at h
  by_cases h3 : bs.getD a 0 = 1
  · rw [if_pos h3] at h
    unfold rowR at h
    by_cases g1 : bs.length < a + 1 + (n + 7) / 8
    · rw [if_pos g1] at h
      injection h with _ h
      exact absurd h (by decide)
    rw [if_neg g1] at h
    obtain ⟨S, hS⟩ : ∃ S, S = (bs.drop (a + 1)).take ((n + 7) / 8) := ⟨_, rfl⟩
    have hSl : S.length = (n + 7) / 8 := by rw [hS, List.length_take, List.length_drop]; omega
    have hSu : U8 S := by rw [hS]; exact fun v hv => hu v (List.mem_of_mem_drop (List.mem_of_mem_take hv))
    rw [← hS] at h
    by_cases g2 : unpE (pk 8 S) ((n + 7) / 8) 1 n = 0
    · rw [if_neg (fun q => q g2)] at h
      by_cases g3 : (unpL (pk 8 S) ((n + 7) / 8) 1 n).count 1 = 0
      · rw [if_pos g3] at h
        injection h with _ h
        exact absurd h (by decide)
      rw [if_neg g3] at h
      injection h with h _
      injection h with e1 e2
      subst e2
      have hmem : 1 ∈ us := by rw [← e1]; exact List.count_pos_iff.1 (by omega)
      have hp := packB_of (wd := 1) (n := n) (by decide) hn hSu (by rw [hSl]; exact g2)
      rw [hSl] at hp
      rw [if_pos hmem, ← e1]
      have hp' : packB 1 (unpL (pk 8 S) ((n + 7) / 8) 1 n) = S := hp
      rw [hp', hd, h3, Int.toNat_natCast, show a + 1 + (n + 7) / 8 - a = (n + 7) / 8 + 1 by omega, List.take_succ_cons, ← hS]
      exact ⟨rfl, by omega, by omega⟩
    · rw [if_pos g2] at h
      injection h with _ h
      exact absurd h g2
  · rw [if_neg h3] at h
    injection h with _ h
    exact absurd h (by decide)

theorem anyLong_few {ss : List (List Nat)} (h : ∀ s ∈ ss, s.length ≤ 200) : anyLong ss = false := by
  cases q : anyLong ss with
  | false => rfl
  | true =>
    obtain ⟨s, hs, h2⟩ := anyLong_iff.1 q
    have := h s hs
    omega

/-- A plain value's bytes. -/
def plainV (k : Int) (v : Cv) : List Nat := if numK k then vput (foldS v.2.1).toNat else vput v.2.2.length ++ v.2.2
theorem plain1_val (k : Int) (x : Ci) : plain1 k x = plainV k x.val := rfl
theorem plainL_val (k : Int) (xs : List Ci) : plainL k xs = ((xs.map Ci.val).map (plainV k)).flatten := by
  unfold plainL
  rw [List.map_map]
  rfl

theorem pcR_back {k : Int} {bs : List Nat} {a : Int} (hu : U8 bs) (h : (pcR k bs a).2.2 = 0) : 0 ≤ a ∧ a ≤ (pcR k bs a).2.1 ∧ (pcR k bs a).2.1 ≤ bs.length ∧ plainV k (false, (pcR k bs a).1.1, (pcR k bs a).1.2) = (bs.drop a.toNat).take ((pcR k bs a).2.1.toNat - a.toNat) := by
  unfold plainV
  unfold pcR at h ⊢
  by_cases hk : numK k = true
  · rw [if_pos hk] at h ⊢
    rw [if_pos hk]
    rcases hg : vget bs a with ⟨u, nx, e⟩
    rw [hg] at h
    by_cases he : e = 0
    · subst he
      obtain ⟨v0, v1, v2, v3, v4⟩ := vget_at hu hg
      simp only [ne_eq, not_true_eq_false, if_false]
      rw [fold_unf (by omega), Int.toNat_natCast]
      exact ⟨v0, by omega, v2, v4⟩
    · simp only [ne_eq, he, not_false_eq_true, if_true] at h
  · rw [if_neg hk] at h ⊢
    rw [if_neg hk]
    obtain ⟨d1, d2, d3, d4, d5, d6⟩ := dtx_ok (s := (dtx bs a).1) (n := (dtx bs a).2.1) hu (by simp only at h; rw [← h])
    exact ⟨d1, d2, d3, d6⟩

theorem plA_back {k : Int} {bs : List Nat} (hu : U8 bs) : ∀ (n : Nat) (a : Int) (acc : List Cv), 0 ≤ a → a ≤ bs.length → (plA k bs n a acc).2.2 = 0 →
    ∃ ws, (plA k bs n a acc).1 = acc ++ ws ∧ (∀ v ∈ ws, v.1 = false) ∧ a ≤ (plA k bs n a acc).2.1 ∧ (plA k bs n a acc).2.1 ≤ bs.length ∧ (ws.map (plainV k)).flatten = (bs.drop a.toNat).take ((plA k bs n a acc).2.1.toNat - a.toNat)
  | 0, a, acc, h0, h1, h => ⟨[], by simp [plA], fun v hv => (by cases hv), Int.le_refl _, h1, by simp [plA]⟩
  | n + 1, a, acc, h0, h1, h => by
    unfold plA at h ⊢
    by_cases q : (pcR k bs a).2.2 = 0
    · rw [if_neg (fun z => z q)] at h ⊢
      obtain ⟨p1, p2, p3, p4⟩ := pcR_back hu q
      obtain ⟨ws, w1, w2, w3, w4, w5⟩ := plA_back hu n _ _ (by omega) p3 h
      refine ⟨(false, (pcR k bs a).1.1, (pcR k bs a).1.2) :: ws, by rw [w1]; simp, ?_, by omega, w4, ?_⟩
      · intro v hv
        rcases List.mem_cons.1 hv with rfl | hv
        · rfl
        · exact w2 v hv
      · rw [List.map_cons, List.flatten_cons, p4, w5]
        obtain ⟨A, hA⟩ : ∃ A, A = a.toNat := ⟨_, rfl⟩
        obtain ⟨B, hB⟩ : ∃ B, B = (pcR k bs a).2.1.toNat := ⟨_, rfl⟩
        have hBa : bs.drop B = (bs.drop A).drop (B - A) := by rw [List.drop_drop]; congr 1; omega
        rw [← hA, ← hB, hBa]
        generalize bs.drop A = D
        generalize hC : (plA k bs n (pcR k bs a).2.1 (acc ++ [(false, (pcR k bs a).1.1, (pcR k bs a).1.2)])).2.1.toNat = C
        have hBC : B ≤ C := by rw [hB, ← hC]; omega
        have hAB : A ≤ B := by rw [hA, hB]; omega
        rw [show C - A = (B - A) + (C - B) by omega, List.take_add]
    · rw [if_pos q] at h
      exact absurd h q

theorem map_all {T U : Type} {f : T → U} {xs : List T} {ys : List U} (h : xs.map f = ys) {g : U → Int} {e : T → Int} (hg : ∀ x, g (f x) = e x) : xs.map e = ys.map g := by
  rw [← h, List.map_map]
  exact List.map_congr_left fun x _ => (hg x).symm

theorem valuesR_back {k cd : Int} {bs : List Nat} {n : Nat} {ws : List Cv} {ys : List Ci} (hcd : 1 ≤ cd ∧ cd ≤ 5) (hu : U8 bs) (h : valuesR k cd bs n = (ws, 0)) (hy : ys.map Ci.val = ws) :
    valR k cd ys = (bs, 0) ∧ ∀ v ∈ ws, v.1 = false := by
  have hnum : ∀ (zs : List Int), ws = zs.map (fun v => (false, v, ([] : List Nat))) → ys.map Ci.num = zs := fun zs hz => by
    have h1 : ys.map Ci.num = (ys.map Ci.val).map (fun v => v.2.1) := by rw [List.map_map]; rfl
    rw [h1, hy, hz, List.map_map]
    simp [Function.comp_def]
  have htxt : ∀ (ss : List (List Nat)), ws = ss.map (fun t => (false, (0 : Int), t)) → ys.map Ci.txt = ss := fun ss hz => by
    have h1 : ys.map Ci.txt = (ys.map Ci.val).map (fun v => v.2.2) := by rw [List.map_map]; rfl
    rw [h1, hy, hz, List.map_map]
    simp [Function.comp_def]
  unfold valuesR at h
  unfold valR
  by_cases c1 : cd = 1
  · subst c1
    rw [if_pos rfl] at h
    rw [if_neg (by decide), if_neg (by decide), if_neg (by decide), if_neg (by decide)]
    unfold gplR at h
    by_cases g1 : (plA k bs n 0 []).2.2 = 0
    · rw [if_neg (fun q => q g1)] at h
      by_cases g2 : (plA k bs n 0 []).2.1 < bs.length
      · rw [if_pos g2] at h
        injection h with _ h
        exact absurd h (by decide)
      · rw [if_neg g2] at h
        injection h with h _
        obtain ⟨zs, z1, z2, z3, z4, z5⟩ := plA_back (k := k) hu n 0 [] (Int.le_refl _) (by omega) g1
        rw [List.nil_append, h] at z1
        subst z1
        refine ⟨?_, z2⟩
        rw [plainL_val, hy, z5]
        have e : (plA k bs n 0 []).2.1.toNat = bs.length := by omega
        rw [e]
        simp
    · rw [if_pos g1] at h
      injection h with _ h
      exact absurd h g1
  rw [if_neg c1] at h
  by_cases g1 : (codR cd bs).2 = 0
  · rw [if_neg (fun q => q g1)] at h
    by_cases g2 : (codR cd bs).1.length = n
    · rw [if_neg (fun q => q g2)] at h
      injection h with h _
      unfold codR at g1 h
      by_cases c2 : cd = 2
      · subst c2
        rw [if_pos rfl] at g1 h
        rw [if_pos rfl]
        unfold zR at g1 h
        by_cases d : (decode8 bs).2 = 0
        · rw [if_neg (fun q => q d)] at h
          refine ⟨?_, ?_⟩
          · rw [hnum _ h.symm]; exact (back8 hu d).1
          · rw [← h]; intro v hv; obtain ⟨z, _, rfl⟩ := List.mem_map.1 hv; rfl
        · rw [if_pos d] at g1; exact absurd g1 d
      rw [if_neg c2] at g1 h
      rw [if_neg c2]
      by_cases c3 : cd = 3
      · subst c3
        rw [if_pos rfl] at g1 h
        rw [if_pos rfl]
        unfold zR at g1 h
        by_cases d : (decode9 bs).2 = 0
        · rw [if_neg (fun q => q d)] at h
          refine ⟨?_, ?_⟩
          · rw [hnum _ h.symm]; exact (only9 hu d).1
          · rw [← h]; intro v hv; obtain ⟨z, _, rfl⟩ := List.mem_map.1 hv; rfl
        · rw [if_pos d] at g1; exact absurd g1 d
      rw [if_neg c3] at g1 h
      rw [if_neg c3]
      by_cases c4 : cd = 4
      · subst c4
        rw [if_pos rfl] at g1 h
        rw [if_pos rfl]
        unfold tR at g1 h
        by_cases d : (ddec bs).2 = 0
        · rw [if_neg (fun q => q d)] at h
          obtain ⟨x1, x2, x3, _⟩ := ddec_ok hu (ss := (ddec bs).1) (by rw [← d])
          refine ⟨?_, ?_⟩
          · rw [htxt _ h.symm, dencR_good x2 x3, x1]
          · rw [← h]; intro v hv; obtain ⟨z, _, rfl⟩ := List.mem_map.1 hv; rfl
        · rw [if_pos d] at g1; exact absurd g1 d
      · have c5 : cd = 5 := by omega
        subst c5
        rw [if_neg (by decide)] at g1 h
        rw [if_neg (by decide), if_pos rfl]
        unfold tR at g1 h
        by_cases d : (pdec bs).2 = 0
        · rw [if_neg (fun q => q d)] at h
          obtain ⟨x1, x2, x3⟩ := pdec_ok hu (ss := (pdec bs).1) (by rw [← d])
          refine ⟨?_, ?_⟩
          · rw [htxt _ h.symm, pencR_good x2 (anyLong_few fun s hs => (x3 s hs).1), x1]
          · rw [← h]; intro v hv; obtain ⟨z, _, rfl⟩ := List.mem_map.1 hv; rfl
        · rw [if_pos d] at g1; exact absurd g1 d
    · rw [if_pos g2] at h
      injection h with _ h
      exact absurd h (by decide)
  · rw [if_pos g1] at h
    injection h with _ h
    exact absurd h g1

end Go.Proofs.YtlgcghjbekgnmaaGreat

/-
  Layer 12: the document's examples.
-/
namespace Go.Proofs.YtlgcghjbekgnmaaGreat
open Go.RowKit
set_option maxRecDepth 100000

theorem RdX.lit (w : World) (xs : List Ci) (h : ∀ x ∈ xs, x.In (w.alloc (.cells (xcells xs).toArray 61))) : RdX (w.alloc (.cells (xcells xs).toArray 61)) (some ⟨w.heap.size, 0, none⟩) xs.length xs :=
  ⟨rfl, fun _ => ⟨w.heap.size, 0, rfl, by simp, fun j x hj => by
    refine ⟨?_, ?_, ?_, h x (List.mem_of_getElem? hj)⟩
    · rw [cell_of_row _ w.heap.size _ _ _ (0, 0) (heap_alloc_new w _), Nat.zero_add, List.getElem?_toArray]
      exact xcells_at hj 0 (by omega)
    · rw [cell_of_row _ w.heap.size _ _ _ (0, 0) (heap_alloc_new w _), Nat.zero_add, List.getElem?_toArray]
      exact xcells_at hj 1 (by omega)
    · rw [cell_of_row _ w.heap.size _ _ _ (0, 0) (heap_alloc_new w _), Nat.zero_add, List.getElem?_toArray]
      exact xcells_at hj 2 (by omega)⟩⟩

theorem RdX.at {w : World} {A : Option Addr} {n : Nat} {xs : List Ci} (h : RdX w A n xs) (hn : 0 < n) : ∃ b o, A = some ⟨b, o, none⟩ ∧ b < w.heap.size ∧ ∀ j x, xs[j]? = some x → w.cell? ⟨b, o + j * 3, none⟩ = some (.bool x.nul) ∧ w.cell? ⟨b, o + j * 3 + 1, none⟩ = some (.int .i64 x.num) := by
  obtain ⟨b, o, e, hb, hc⟩ := h.2 hn
  exact ⟨b, o, e, hb, fun j x hj => ⟨(hc j x hj).1, (hc j x hj).2.1⟩⟩

def e7 : Ci := ⟨false, 7, none, 0, []⟩
theorem e7_in (w : World) : e7.In w := ⟨Rd.nil .., (by intro x hx; cases hx), by decide, by decide, by decide⟩
theorem eN_in (w : World) : Ci.null.In w := ⟨Rd.nil .., (by intro x hx; cases hx), by decide, by decide, by decide⟩
def b12 : List Nat := sl [2, 3, 1, 2, 1, 14, 2]
theorem ex12_len : b12.length = 11 := by decide +kernel
theorem ex12_u8 : U8 b12 := by decide +kernel
theorem ex12_enc : bencR 1 2 [e7, Ci.null, e7] = (b12, 0) := by decide +kernel
theorem ex12_no : bencR 7 2 [] = ([], 120) := by decide +kernel
theorem ex12_dec : bdecR 1 b12 = ([(false, 7, []), (true, 0, []), (false, 7, [])], 0) := by decide +kernel
theorem ex12_best : (bbestR 1 [e7, e7, e7, e7]).1.1 = 2 ∧ (bbestR 1 [e7, e7, e7, e7]).1.2.length = 10 ∧ (bbestR 1 [e7, e7, e7, e7]).2 = 0 := by decide +kernel

end Go.Proofs.YtlgcghjbekgnmaaGreat

/-
  Layer 12: the document's examples hold.
-/
namespace Go.Proofs.YtlgcghjbekgnmaaGreat
open Go.RowKit
set_option maxRecDepth 100000

set_option maxHeartbeats 6400000 in
theorem alive12 (w : World) : Calls Tryz.prog 8 #[] w fun e w' => e = .returned (.bool true) ∧ Ext w w' := by
  obtain ⟨W0, hW0⟩ : ∃ W0, W0 = w.alloc (.cells #[.bool false, .int .i64 7, .slice none 0 0] 61) := ⟨_, rfl⟩
  have hE0 : Ext w W0 := by rw [hW0]; exact (Ext.refl w).alloc _
  have hs0 : W0.heap.size = w.heap.size + 1 := by rw [hW0]; simp
  have hK0 : W0.heap[w.heap.size]? = some (.cells #[.bool false, .int .i64 7, .slice none 0 0] 61) := by rw [hW0]; exact heap_alloc_new w _
  have K := Lib.hid (fun W (hW : Ext W0 W) => (show W.cell? ⟨w.heap.size, 0, none⟩ = some (.bool false) ∧ W.cell? ⟨w.heap.size, 1, none⟩ = some (.int .i64 7) ∧ W.cell? ⟨w.heap.size, 2, none⟩ = some (.slice none 0 0) from by
    have h := (hW.block w.heap.size (by rw [hs0]; omega)).trans hK0
    exact ⟨cell_of_row W w.heap.size 0 _ _ (0, 0) h, cell_of_row W w.heap.size 1 _ _ (0, 0) h, cell_of_row W w.heap.size 2 _ _ (0, 0) h⟩))
  have HW0 := Lib.hid hW0
  have HE0 := Lib.hid hE0
  have Hs0 := Lib.hid hs0
  have hX := RdX.lit W0 [e7, Ci.null, e7] (fun x hx => by
    simp at hx
    rcases hx with rfl | rfl | rfl
    · exact e7_in _
    · exact eN_in _
    · exact e7_in _)
  rw [hs0] at hX
  have hC := bencode_any 1 2 (some ⟨w.heap.size + 1, 0, none⟩) 3 3 [e7, Ci.null, e7] _ hX (fun x hx => by
    simp at hx
    rcases hx with rfl | rfl | rfl
    · exact ⟨by decide, by decide⟩
    · exact ⟨by decide, by decide⟩
    · exact ⟨by decide, by decide⟩) (by decide)
  unfold PEncPost at hC
  rw [ex12_enc] at hC
  simp only [ex12_len] at hC
  have HC := Lib.hid hC
  clear hW0 hE0 hs0 hK0 hX hC
  go_enter Tryz.func8, Tryz.ntmps8
  go_wp2_with fail
  rw [← HW0.out]
  refine HC.out.mono ?_
  rintro e w1 ⟨A1, c1, rfl, ho1, he1⟩
  have hE1 : Ext W0 w1 := ((Ext.refl W0).alloc _).trans he1
  have hC := bencode_any 7 2 none 0 0 [] w1 ⟨rfl, fun h => absurd h (by decide)⟩ (fun x hx => by cases hx) (by decide)
  unfold PEncPost at hC
  rw [ex12_no] at hC
  clear HC he1
  go_wp2_with fail
  refine hC.mono ?_
  rintro e w2 ⟨A2, c2, rfl, _, he2⟩
  have hE2 := hE1.trans he2
  have hr1 := (ho1.rd' ex12_len).ext he2
  have hcp := ho1.cap
  rw [ex12_len] at hcp
  have hC := bdecode_any 1 A1 11 c1 b12 w2 hr1 ex12_u8 (by decide) hcp.1 hcp.2
  unfold GcPost at hC
  rw [ex12_dec] at hC
  clear ho1 he2 hE1 hcp
  go_wp2_with fail
  refine hC.mono ?_
  rintro e w3 ⟨fs, A3, c3, rfl, hv3, ho3, ht3, he3⟩
  have hE3 := hE2.trans he3
  have hl3 : fs.length = 3 := by have := congrArg List.length hv3; simpa using this
  have hrx := ans_rdX hv3 hl3 (fun v hv => by
    simp at hv
    rcases hv with rfl | rfl | rfl
    all_goals exact ⟨(by intro x hx; cases hx), by decide, by decide, by decide⟩) ho3 (fun f hf => (ht3.1 f hf).rd)
  obtain ⟨b3, o3, hA3, hb3, hcl⟩ := hrx.at (by decide)
  subst hA3
  have hf1 : fs[1]? = some fs[1] := List.getElem?_eq_getElem (by omega)
  have hf2 : fs[2]? = some fs[2] := List.getElem?_eq_getElem (by omega)
  have hv1 : fs[1].val = (true, 0, []) := by
    have h1 : (fs.map Ci.val)[1]? = some (true, 0, []) := by rw [hv3]; rfl
    rw [List.getElem?_map, hf1] at h1
    simpa using h1
  have hv2 : fs[2].val = (false, 7, []) := by
    have h1 : (fs.map Ci.val)[2]? = some (false, 7, []) := by rw [hv3]; rfl
    rw [List.getElem?_map, hf2] at h1
    simpa using h1
  have k1 := (hcl 1 _ hf1).1
  have k2 := (hcl 2 _ hf2).2
  have e1 : fs[1].nul = true := congrArg (fun v : Cv => v.1) hv1
  have e2 : fs[2].num = 7 := congrArg (fun v : Cv => v.2.1) hv2
  rw [e1] at k1
  rw [e2] at k2
  simp only [Nat.one_mul, Nat.reduceMul] at k1 k2
  obtain ⟨c0, c1', c2'⟩ := K.out w3 hE3
  have hr3 := hr1.ext he3
  have Hk1 := Lib.hid k1
  have Hk2 := Lib.hid k2
  have Hb3 := Lib.hid hb3
  have HE3 := Lib.hid hE3
  have Hr3 := Lib.hid hr3
  have hX := RdX.lit w3 [e7, e7, e7, e7] (fun x hx => by
    simp at hx
    subst hx
    exact e7_in _)
  have hC := bbest_any 1 (some ⟨w3.heap.size, 0, none⟩) 4 4 [e7, e7, e7, e7] _ hX (fun x hx => by
    simp at hx
    subst hx
    exact ⟨by decide, by decide⟩) (by decide)
  unfold BestPost at hC
  obtain ⟨x1, x2, x3⟩ := ex12_best
  rw [x1, x2, x3] at hC
  clear he3 hv3 ho3 ht3 hl3 hrx hcl hf1 hf2 hv1 hv2 e1 e2 k1 k2 hE2 hr1 hr3 hX x1 x2 x3 hb3
  go_wp2_with fail
  refine hC.mono ?_
  rintro e w4 ⟨A4, c4, rfl, _, he4⟩
  have hE34 : Ext w3 w4 := ((Ext.refl w3).alloc _).trans he4
  have k1 := (hE34.cells b3 _ Hb3.out).trans Hk1.out
  have k2 := (hE34.cells b3 _ Hb3.out).trans Hk2.out
  have HE34 := Lib.hid hE34
  clear hC he4 hE34 c0 c1' c2'
  go_wp2_with fail
  refine (refSeal_any (some ⟨w4.heap.size, 0, none⟩) 7 7 [2, 3, 1, 2, 1, 14, 2] _ (Rd.lit_at .u8 5 w4 [2, 3, 1, 2, 1, 14, 2] rfl rfl) (by decide) (by decide)).mono ?_
  rintro e w5 ⟨A5, c5, rfl, ho5, he5⟩
  have hE45 : Ext w4 w5 := ((Ext.refl w4).alloc _).trans he5
  have hE5 := HE34.out.trans hE45
  go_wp2_with fail
  refine (same_yes (c := c1) (c' := c5) (Hr3.out.ext hE5) (ho5.rd' ex12_len) (by decide)).mono ?_
  rintro e w6 ⟨rfl, q6, rfl⟩
  go_wp2_with fail
  go_ret
  exact ⟨rfl, HE0.out.trans ((HE3.out.trans hE5).drewN q6)⟩

end Go.Proofs.YtlgcghjbekgnmaaGreat

/-
  Layer 12: a block that is read is the only one of its cells and codec; the statement BlockOnly, walked.
-/
namespace Go.Proofs.YtlgcghjbekgnmaaGreat
open Go.RowKit
set_option maxRecDepth 100000

theorem getB_back {k : Int} {bs : List Nat} {vs : List Cv} {xs : List Ci} (hu : U8 bs) (h : getB k bs = (vs, 0)) (hx : xs.map Ci.val = vs) :
    1 ≤ bs.length ∧ ((bs.getD 0 0 : Nat) : Int) ∈ codecs k ∧ putR k (bs.getD 0 0 : Nat) xs = (bs, 0) := by
  unfold getB at h
  by_cases h0 : bs.length = 0
  · rw [if_pos h0] at h; injection h with _ h; exact absurd h (by decide)
  rw [if_neg h0] at h
  by_cases h1 : ((bs.getD 0 0 : Nat) : Int) ∈ codecs k
  rotate_left
  · rw [if_pos h1] at h; injection h with _ h; exact absurd h (by decide)
  rw [if_neg (fun q => q h1)] at h
  have hcd := codecs_range h1
  rcases hg : vget bs 1 with ⟨u, nx, e⟩
  rw [hg] at h
  simp only at h
  by_cases he : e = 0
  rotate_left
  · rw [if_pos he] at h; injection h with _ h; exact absurd h he
  subst he
  rw [if_neg (fun q => q rfl)] at h
  obtain ⟨v1, v2, v3, v4, v5⟩ := vget_at hu hg
  obtain ⟨a, rfl⟩ := Int.eq_ofNat_of_zero_le (show 0 ≤ nx by omega)
  rw [Int.toNat_natCast] at h v5
  by_cases hb : 4096 < u
  · rw [if_pos hb] at h; injection h with _ h; exact absurd h (by decide)
  rw [if_neg hb] at h
  have hno := nullR_ok (bs := bs) (a := a) (n := u) (by omega)
  rcases hN : nullR bs a u with ⟨⟨us, p⟩, en⟩
  rw [hN] at h hno
  simp only at h hno
  by_cases hen : en = 0
  rotate_left
  · rw [if_pos hen] at h; injection h with _ h; exact absurd h hen
  subst hen
  rw [if_neg (fun q => q rfl)] at h
  obtain ⟨n1, n2, q, rfl, n3⟩ := hno rfl
  rw [Int.toNat_natCast] at h
  have hvl := valuesR_len (k := k) (cd := ((bs.getD 0 0 : Nat) : Int)) (bs := bs.drop q) (n := us.count 0)
  rcases hV : valuesR k ((bs.getD 0 0 : Nat) : Int) (bs.drop q) (us.count 0) with ⟨ws, ev⟩
  rw [hV] at h hvl
  simp only at h hvl
  by_cases hev : ev = 0
  rotate_left
  · rw [if_pos hev] at h; injection h with _ h; exact absurd h hev
  subst hev
  rw [if_neg (fun q => q rfl)] at h
  injection h with h _
  have hud : U8 (bs.drop q) := fun v hv => hu v (List.mem_of_mem_drop hv)
  -- the values without nulls
  have hws : ∀ v ∈ ws, v.1 = false := by
    -- a list of cells with just these values
    have hy : ((ws.map fun v => (⟨v.1, v.2.1, none, 0, v.2.2⟩ : Ci)).map Ci.val) = ws := by
      rw [List.map_map]
      conv => rhs; rw [← List.map_id ws]
      exact List.map_congr_left fun v _ => rfl
    exact (valuesR_back hcd hud hV hy).2
  obtain ⟨w1, w2⟩ := wN_back us ws xs n2 (hvl rfl).symm hws (by rw [hx, ← h])
  obtain ⟨r1, r2, r3⟩ := nullR_back hu (by omega) (by omega) hN w1
  rw [Int.toNat_natCast] at r1 r2 r3
  obtain ⟨x1, _⟩ := valuesR_back hcd hud hV w2
  have hxl : xs.length = u := by rw [← n1, ← w1, nb_len]
  refine ⟨by omega, h1, ?_⟩
  unfold putR
  rw [x1, if_neg (fun q => q rfl), hxl, r1, v5, Int.toNat_natCast]
  congr 1
  have hl : 0 < bs.length := by omega
  have hb0 : bs = [bs.getD 0 0] ++ bs.drop 1 := by
    have := List.drop_eq_getElem_cons hl
    rw [List.drop_zero] at this
    rw [List.getD_eq_getElem?_getD, List.getElem?_eq_getElem hl]
    exact this
  have e1 : bs.drop 1 = (bs.drop 1).take (a - 1) ++ bs.drop a := by
    have h1 := (List.take_append_drop (a - 1) (bs.drop 1)).symm
    rw [List.drop_drop, show 1 + (a - 1) = a by omega] at h1
    exact h1
  have e2 : bs.drop a = (bs.drop a).take (q - a) ++ bs.drop q := by
    have h1 := (List.take_append_drop (q - a) (bs.drop a)).symm
    rw [List.drop_drop, show a + (q - a) = q by omega] at h1
    exact h1
  have e3 : (1 : Int).toNat = 1 := rfl
  rw [e3, ← e2, ← e1, ← hb0]

theorem bdec_back {k : Int} {bs : List Nat} {vs : List Cv} {xs : List Ci} (hu : U8 bs) (h : bdecR k bs = (vs, 0)) (hx : xs.map Ci.val = vs) :
    5 ≤ bs.length ∧ bencR k (bs.getD 0 0 : Nat) xs = (bs, 0) := by
  unfold bdecR at h
  by_cases h1 : kindK k = false
  · rw [if_pos h1] at h; injection h with _ h; exact absurd h (by decide)
  rw [if_neg h1] at h
  by_cases h2 : 65000 < bs.length
  · rw [if_pos h2] at h; injection h with _ h; exact absurd h (by decide)
  rw [if_neg h2] at h
  by_cases h3 : sld bs
  rotate_left
  · rw [if_pos h3] at h; injection h with _ h; exact absurd h (by decide)
  rw [if_neg (fun q => q h3)] at h
  have h4 := h3.1
  have hsl : sl (bs.take (bs.length - 4)) = bs := by
    unfold sl
    have hd : (bs.drop (bs.length - 4)).length = 4 := by rw [List.length_drop]; omega
    have hw : Wd 8 (bs.drop (bs.length - 4)) := U8_wd.1 (fun v hv => hu v (List.mem_of_mem_drop hv))
    have := upk_pk hw
    rw [hd] at this
    rw [← h3.2, this, List.take_append_drop]
  have hut : U8 (bs.take (bs.length - 4)) := fun v hv => hu v (List.mem_of_mem_take hv)
  have htl : (bs.take (bs.length - 4)).length = bs.length - 4 := by rw [List.length_take]; omega
  rcases hG : getB k (bs.take (bs.length - 4)) with ⟨gs, eg⟩
  rw [hG] at h
  simp only at h
  by_cases hg : eg = 0
  rotate_left
  · rw [if_pos hg] at h; injection h with _ h; exact absurd h hg
  subst hg
  rw [if_neg (fun q => q rfl)] at h
  by_cases hc : chkBv k gs = 0
  rotate_left
  · rw [if_pos hc] at h; injection h with _ h; exact absurd h hc
  rw [if_neg (fun q => q hc)] at h
  injection h with h _
  subst h
  obtain ⟨g1, g2, g3⟩ := getB_back hut hG hx
  have hb0 : (bs.take (bs.length - 4)).getD 0 0 = bs.getD 0 0 := by
    simp only [List.getD_eq_getElem?_getD]
    rw [List.getElem?_take, if_pos (by omega)]
  rw [hb0] at g2 g3
  refine ⟨by omega, ?_⟩
  unfold bencR
  have hcx : chkB k xs = 0 := by rw [chkB_val, hx]; exact hc
  rw [if_neg h1, if_neg (fun q => q g2), if_neg (fun q => q hcx), g3, if_neg (fun q => q rfl)]
  unfold sealL sealE
  rw [htl, if_neg (by omega), if_neg (by omega), hsl]

theorem bdec_bad {k : Int} {bs : List Nat} (h : (bdecR k bs).2 ≠ 0) : (bdecR k bs).1 = [] := by
  unfold bdecR at h ⊢
  split
  · rfl
  · rename_i q1
    rw [if_neg q1] at h
    split
    · rfl
    · rename_i q2
      rw [if_neg q2] at h
      split
      · rfl
      · rename_i q3
        rw [if_neg q3] at h
        split
        · rfl
        · rename_i q4
          rw [if_neg q4] at h
          split
          · rfl
          · rename_i q5
            rw [if_neg q5] at h
            exact absurd rfl h

end Go.Proofs.YtlgcghjbekgnmaaGreat
