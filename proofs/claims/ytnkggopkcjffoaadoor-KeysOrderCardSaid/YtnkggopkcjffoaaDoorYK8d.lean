import Derived.Test.YtnkggopkcjffoaaDoorYK8c
import Derived.Test.YtnkggopkcjffoaaDoorG8

/-
  Layer 7: the document's Encode.
-/
namespace Go.Proofs.YtnkggopkcjffoaaDoor
open Go.RowKit

theorem refPut_any (k num : Int) (nul : Bool) (A : Option Addr) (n c : Nat) (txt : List Nat) (w : World) (hx : Rd .u8 w A n txt) (hn : n ≤ 200) (hk : 1 ≤ k ∧ k ≤ 8) (hnum : k ≤ 6 → least k ≤ num ∧ num ≤ great k) :
    Calls Tryd.prog 38 #[.int .i64 k, .agg #[.bool nul, .int .i64 num, .slice A n c]] w fun e w' => ∃ A' c', e = .returned (.slice A' (kput k num txt).length c') ∧ Own .u8 5 w' w.heap.size A' c' (kput k num txt) ∧ Ext w w' := by
  unfold kput
  by_cases h6 : k ≤ 6
  · rw [if_pos h6, be_len]
    exact refPutN_any k num nul A n c w ⟨hk.1, h6⟩ (hnum h6).1 (hnum h6).2
  · rw [if_neg h6]
    by_cases h7 : k = 7
    · subst h7
      rw [if_pos rfl, List.length_append, hx.len]
      exact refPut7_any num nul A n c txt w hx (by omega)
    · obtain rfl : k = 8 := by omega
      rw [if_neg (by decide), List.length_append]
      exact refPut8_any num nul A n c txt w hx (by omega)

set_option maxHeartbeats 3200000 in
set_option maxRecDepth 100000 in
theorem refKEncode_any (A : Option Addr) (n c : Nat) (keys : Int) (cs : List Col) (A2 : Option Addr) (n2 c2 : Nat) (xs : List Ci) (w : World) (hs : SchIn w A n c cs) (hx : RdX w A2 n2 xs) (hn2 : n2 ≤ 140737488351232) :
    Calls Tryd.prog 12 #[.agg #[.slice A n c, .int .i64 keys], .slice A2 n2 c2] w (KEncPost (kencE keys cs xs) w) := by
  have hl2 := hx.1
  have HS := Lib.hid (fun (W : World) (hW : Ext w W) => refScheck_any A n c keys cs W (hs.rd.ext hW) hs.nm hs.le)
  by_cases z1 : schE keys cs = 0
  · obtain ⟨i1, i2, i3, i4, i5⟩ := schE_inv z1
    rw [z1] at HS
    by_cases hb : n2 < 1 ∨ keys < n2
    · have HR := Lib.hid (show kencE keys cs xs = ([], 61) by unfold kencE; rw [if_neg (by simp [z1]), if_pos (by rw [hl2]; exact hb)])
      clear hs hx z1 hl2 i1 i2
      by_cases h1 : n2 < 1
      · obtain rfl : n2 = 0 := by omega
        clear hb
        go_enter Tryd.func12, Tryd.ntmps12
        go_wp2_with fail
        refine (HS.out _ ((Ext.refl w).alloc _)).mono ?_
        rintro e w1 ⟨rfl, he1⟩
        go_wp2_with fail
        go_ret2
        exact KEncPost.bad _ HR.out (((Ext.refl w).alloc _).trans he1)
      · have h2 : keys < n2 := by omega
        have d2 : decide ((n2 : Int) < 1) = false := decide_eq_false (by omega)
        have h3 : ¬ (n2 : Int) < 1 := by omega
        clear hb
        go_enter Tryd.func12, Tryd.ntmps12
        go_wp2_with fail
        refine (HS.out _ ((Ext.refl w).alloc _)).mono ?_
        rintro e w1 ⟨rfl, he1⟩
        have ha := (AtS.box w A n c keys).ext he1
        have hc1 := ha.c1
        go_wp2_with fail
        go_ret2
        exact KEncPost.bad _ HR.out (((Ext.refl w).alloc _).trans he1)
    · have hm1 : 1 ≤ n2 := by omega
      have hmk : (n2 : Int) ≤ keys := by omega
      have hcn := hs.rd.1
      obtain ⟨R, hR⟩ : ∃ R, R = kencE keys cs xs := ⟨_, rfl⟩
      have hR2 : R = if rowF cs xs ≠ 0 then ([], rowF cs xs) else (keyB cs (xs.map Ci.val), 0) := by rw [hR]; unfold kencE; rw [if_neg (by simp [z1]), if_neg (by rw [hl2]; exact hb)]
      rw [← hR]
      have HRe := Lib.hid (fun (h : rowF cs xs ≠ 0) => hR2.trans (if_pos h))
      have HRo := Lib.hid (fun (h : rowF cs xs = 0) => hR2.trans (if_neg (fun q => q h)))
      have d2 : decide ((n2 : Int) < 1) = false := decide_eq_false (by omega)
      have h3 : ¬ (n2 : Int) < 1 := by omega
      have h4 : ¬ keys < (n2 : Int) := by omega
      have Hl2 := Lib.hid hl2
      have Hs := Lib.hid hs
      have Hx := Lib.hid hx
      have hnn : n2 ≤ n := by omega
      have hn12 : n ≤ 12 := by omega
      have hn23 : n2 ≤ 3 := by omega
      have Hcols : Hid (∀ (j : Nat) (d : Col), cs[j]? = some d → (j : Int) < keys → d.null = false) := Lib.hid (fun j d hj hk => key_null z1 j d hj hk)
      clear hR hR2 hl2 hs hx z1 hb hcn i1 i2
      go_enter Tryd.func12, Tryd.ntmps12
      go_wp2_with fail
      refine (HS.out _ ((Ext.refl w).alloc _)).mono ?_
      rintro e w1 ⟨rfl, he1⟩
      have ha := (AtS.box w A n c keys).ext he1
      have hc1 := ha.c1
      have hE1 : Ext w w1 := ((Ext.refl w).alloc _).trans he1
      have Ha := Lib.hid ha
      have HE1 := Lib.hid hE1
      have H0 := Lib.hid (show Own .u8 5 (w1.alloc (.cells #[] 5)) w1.heap.size (some ⟨w1.heap.size, 0, none⟩) 0 (keyB cs ((xs.take 0).map Ci.val)) by
        have : keyB cs ((xs.take 0).map Ci.val) = [] := by cases cs <;> rfl
        rw [this]; exact Own.made .u8 _ w1 (Nat.le_refl _))
      have H00 := Lib.hid (show (keyB cs ((xs.take 0).map Ci.val)).length = 0 by cases cs <;> rfl)
      clear ha hE1 he1
      go_wp2_with fail
      obtain ⟨g, hg⟩ : ∃ g, g = w.heap.size := ⟨_, rfl⟩
      rw [← hg] at Ha hc1 ⊢
      have Hg := Lib.hid hg
      clear hg hc1
      go_loopw [7, 8] (fun kv i wr => ∃ (j L : Nat) (A' : Option Addr) (c' : Nat), j ≤ n2 ∧ i = .int .i64 j ∧ kv = .slice A' L c' ∧ Hid ((keyB cs ((xs.take j).map Ci.val)).length = L) ∧ Hid (Own .u8 5 wr w1.heap.size A' c' (keyB cs ((xs.take j).map Ci.val))) ∧ Hid (rowF (cs.drop j) (xs.drop j) = rowF cs xs) ∧ Hid (Ext w1 wr) ∧ Hid (L ≤ 402 * j)) (fun _ i _ => n2 - (intOf i).toNat)
      case atStart => exact ⟨0, 0, _, _, Nat.zero_le _, rfl, rfl, H00.out, H0.out, rfl, (Ext.refl w1).alloc _, Nat.zero_le _⟩
      case round =>
        clear H0 H00
        obtain ⟨j, L, A', c', hj, rfl, rfl, HL, HO, HF, HE, HB⟩ := hrel
        by_cases hlt : j < n2
        · obtain ⟨b, o, x, hA2, hbl, hxj, x0, x1, x2, xin⟩ := (Hx.out.ext (HE1.out.trans HE.out)).at_ hlt
          subst hA2
          obtain ⟨bc, oc, d, hA, hbl2, hdj, y0, y1, y2⟩ := (Hs.out.rd.ext (HE1.out.trans HE.out)).at_ (show j < n by omega)
          subst hA
          have hst := rowF_at hdj hxj
          rw [HF.out] at hst
          have ha2 := Ha.out.ext HE.out
          have a0 := ha2.c0
          have hglt := ha2.lt
          obtain ⟨xn, xi, xA, xc, xt⟩ := x
          obtain ⟨dn, dk, du⟩ := d
          simp only at x0 x1 x2 y0 y1 y2
          have hdu : du = false := Hcols.out j _ hdj (by omega)
          subst hdu
          have hce : chkC ⟨dn, dk, false⟩ ⟨xn, xi, xA, xc, xt⟩ = chk dk false xn xi xt := rfl
          rw [hce] at hst
          have hxl := xin.len
          simp only at hxl
          have HC := Lib.hid (fun (W : World) (hW : Ext wr W) => refCheck_any dk false xn xi xA xt.length xc xt W (xin.rd.ext hW) xin.lo xin.hi (by omega))
          obtain ⟨E, hEe⟩ : ∃ E, E = chk dk false xn xi xt := ⟨_, rfl⟩
          rw [← hEe] at hst HC
          obtain ⟨xl, hxl2⟩ : ∃ xl, xl = xt.length := ⟨_, rfl⟩
          rw [← hxl2] at x2 HC hxl
          have K : Hid (∀ w', Ext wr w' → w'.cell? ⟨g, 0, none⟩ = some (.slice (some ⟨bc, oc, none⟩) n c) ∧ w'.cell? ⟨bc, oc + j * 3 + 1, none⟩ = some (.int .i64 dk) ∧ w'.cell? ⟨b, o + j * 3, none⟩ = some (.bool xn) ∧ w'.cell? ⟨b, o + j * 3 + 1, none⟩ = some (.int .i64 xi) ∧ w'.cell? ⟨b, o + j * 3 + 2, none⟩ = some (.slice xA xl xc)) := Lib.hid (fun w' he =>
            ⟨(he.cells g 0 hglt).trans a0, (he.cells bc _ hbl2).trans y1, (he.cells b _ hbl).trans x0, (he.cells b _ hbl).trans x1, (he.cells b _ hbl).trans x2⟩)
          have Hst := Lib.hid hst
          have Hxj := Lib.hid hxj
          have Hdj := Lib.hid hdj
          have Hxin := Lib.hid xin
          have Hxl := Lib.hid hxl2
          have HEe := Lib.hid hEe
          have i6 : (j : Int) < (n : Int) := by omega
          have g8 := K.out _ (Ext.refl wr)
          clear hst hce xin hxj hdj hxl2 ha2 hEe x0 x1 x2 y0 y1 y2 a0
          go_wp2_with fail
          go_region_held3 (fun w' => w'.cell? ⟨g, 0, none⟩ = some (.slice (some ⟨bc, oc, none⟩) n c) ∧ w'.cell? ⟨bc, oc + j * 3 + 1, none⟩ = some (.int .i64 dk) ∧ w'.cell? ⟨b, o + j * 3, none⟩ = some (.bool xn) ∧ w'.cell? ⟨b, o + j * 3 + 1, none⟩ = some (.int .i64 xi) ∧ w'.cell? ⟨b, o + j * 3 + 2, none⟩ = some (.slice xA xl xc))
            (first | exact g8 | (refine K.out _ ?_; (repeat (first | exact Ext.refl _ | (with_reducible refine Ext.trans ?_ he3) | apply Ext.drew | apply Ext.alloc | fail))) | fail)
            (first
              | (go_at_call 37; (with_reducible refine (HC.out _ ?_).mono ?_); (focus ((repeat (first | exact Ext.refl _ | (with_reducible refine Ext.trans ?_ he3) | apply Ext.drew | apply Ext.alloc | fail)); done)); rintro e w3 ⟨rfl, he3⟩)
              | fail)
          have hE3' : Ext wr w3 := by (repeat (first | exact Ext.refl _ | (with_reducible refine Ext.trans ?_ he3) | apply Ext.drew | apply Ext.alloc | fail))
          have HE3 := Lib.hid hE3'
          clear he3
          by_cases hz : E = 0
          · have hst := Hst.out
            rw [if_neg (fun q => q hz)] at hst
            have hz2 : chk dk false xn xi xt = 0 := HEe.out.symm.trans hz
            have hxn : xn = false := by
              cases xn with
              | false => rfl
              | true => exact absurd (chk_nul0 hz2).1 (by decide)
            subst hxn
            have hk := chk_kind hz2
            have h200 : xl ≤ 200 := by
              rw [Hxl.out]
              by_cases h6 : dk ≤ 6
              · rw [(chk_num0 ⟨hk.1, h6⟩ hz2).1]; simp
              · exact (chk_txt0 (by omega) hz2).2.1
            have HP := Lib.hid (fun (W : World) (hW : Ext w3 W) => refPut_any dk xi false xA xl xc xt W (by rw [Hxl.out]; exact Hxin.out.rd.ext (HE3.out.trans hW)) h200 hk (fun h6 => (chk_num0 ⟨hk.1, h6⟩ hz2).2))
            have hkl := kput_len (k := dk) (num := xi) (txt := xt) (by rw [← Hxl.out]; exact h200)
            have HK := Lib.hid (show keyB cs ((xs.take (j + 1)).map Ci.val) = keyB cs ((xs.take j).map Ci.val) ++ kput dk xi xt by
              have := keyB_step (cs := cs) (vs := xs.map Ci.val) Hdj.out (by rw [List.getElem?_map, Hxj.out]; rfl)
              simp only [List.map_take]
              exact this)
            obtain ⟨X, hX⟩ : ∃ X, X = kput dk xi xt := ⟨_, rfl⟩
            rw [← hX] at HP hkl HK
            obtain ⟨xk, hxk⟩ : ∃ xk, X.length = xk := ⟨_, rfl⟩
            rw [hxk] at HP hkl
            have Hxk := Lib.hid hxk
            have HF2 := Lib.hid (hst.symm)
            have hLb := HB.out
            have HCat := Lib.hid (fun (W : World) (hW : Ext w3 W) (A5 : Option Addr) (c5 : Nat) (h5 : Rd .u8 W A5 xk X) => cat_any A' A5 L c' xk c5 _ X W ((HO.out.rd' HL.out).ext (HE3.out.trans hW)) h5 (by omega))
            have K2 : Hid (∀ w', Ext w3 w' → w'.cell? ⟨g, 0, none⟩ = some (.slice (some ⟨bc, oc, none⟩) n c) ∧ w'.cell? ⟨bc, oc + j * 3 + 1, none⟩ = some (.int .i64 dk) ∧ w'.cell? ⟨b, o + j * 3, none⟩ = some (.bool false) ∧ w'.cell? ⟨b, o + j * 3 + 1, none⟩ = some (.int .i64 xi) ∧ w'.cell? ⟨b, o + j * 3 + 2, none⟩ = some (.slice xA xl xc)) := Lib.hid (fun w' he => K.out w' (HE3.out.trans he))
            have g9 := K2.out _ (Ext.refl w3)
            subst hz
            clear hst hz2 hX hxk
            go_wp2_with fail
            go_region_held3 (fun w' => w'.cell? ⟨g, 0, none⟩ = some (.slice (some ⟨bc, oc, none⟩) n c) ∧ w'.cell? ⟨bc, oc + j * 3 + 1, none⟩ = some (.int .i64 dk) ∧ w'.cell? ⟨b, o + j * 3, none⟩ = some (.bool false) ∧ w'.cell? ⟨b, o + j * 3 + 1, none⟩ = some (.int .i64 xi) ∧ w'.cell? ⟨b, o + j * 3 + 2, none⟩ = some (.slice xA xl xc))
              (first | exact g9 | (refine K2.out _ ?_; (repeat (first | exact Ext.refl _ | (with_reducible refine Ext.trans ?_ he5) | (with_reducible refine Ext.trans ?_ he4) | apply Ext.drew | apply Ext.alloc | fail))) | fail)
              (first
                | (go_at_call 38; (with_reducible refine (HP.out _ ?_).mono ?_); (focus ((repeat (first | exact Ext.refl _ | apply Ext.drew | apply Ext.alloc | fail)); done)); rintro e w4 ⟨A4, c4, rfl, hown4, he4⟩)
                | (go_at_call 21; (with_reducible refine (HCat.out _ ?_ _ _ ?_).mono ?_); (focus ((repeat (first | exact Ext.refl _ | (with_reducible refine Ext.trans ?_ he4) | apply Ext.drew | apply Ext.alloc | fail)); done)); (focus ((refine Rd.ext (hown4.rd' Hxk.out) ?_); (repeat (first | exact Ext.refl _ | apply Ext.drew | apply Ext.alloc | fail)); done)); rintro e w5 ⟨A5, c5, rfl, hown5, he5⟩)
                | fail)
            have hE5' : Ext w3 w5 := by (refine Ext.trans ?_ he5; (repeat (first | exact Ext.refl _ | (with_reducible refine Ext.trans ?_ he4) | apply Ext.drew | apply Ext.alloc | fail)))
            have HL7 := Lib.hid (show (keyB cs ((xs.take (j + 1)).map Ci.val)).length = L + xk by rw [HK.out, List.length_append, HL.out, Hxk.out])
            have HO7 := Lib.hid (show Own .u8 5 w5 w1.heap.size A5 c5 (keyB cs ((xs.take (j + 1)).map Ci.val)) by
              rw [HK.out]
              refine hown5.mono ?_
              refine Nat.le_trans (HE.out.trans HE3.out).size (Ext.size ?_)
              (repeat (first | exact Ext.refl _ | (with_reducible refine Ext.trans ?_ he4) | apply Ext.drew | apply Ext.alloc | fail)))
            have HE7 := Lib.hid ((HE.out.trans HE3.out).trans hE5')
            have HB7 := Lib.hid (show L + xk ≤ 402 * (j + 1) by omega)
            clear hown5 hown4 he4 he5 hE5'
            go_wp2
            go_roundw
            case rel => exact ⟨j + 1, L + xk, A5, c5, by omega, by go_num, by go_num, HL7.out, HO7.out, HF2.out, HE7.out, HB7.out⟩
            case measure => simp [intOf]; omega
          · have hst := Hst.out
            rw [if_pos hz] at hst
            have HRb := Lib.hid (show R = ([], E) by rw [HRe.out (by rw [hst]; exact hz), hst])
            have hb1 : (E != 0) = true := by rw [bne_iff_ne]; exact hz
            clear hst
            go_wp2_with fail
            go_ret2
            exact KEncPost.bad _ HRb.out ((HE1.out.trans HE.out).trans HE3.out)
        · obtain rfl : j = n2 := by omega
          have hz := HF.out
          rw [rowF_end (by rw [Hl2.out]; exact Nat.le_refl _)] at hz
          have htk : xs.take j = xs := List.take_of_length_le (by rw [Hl2.out]; exact Nat.le_refl _)
          rw [htk] at HL HO
          have HRg := Lib.hid (HRo.out hz.symm)
          clear hz htk
          go_wp2_with fail
          go_ret2
          exact KEncPost.good _ HRg.out HL.out (HO.out.mono HE1.out.size) (HE1.out.trans HE.out)
  · have HR := Lib.hid (show kencE keys cs xs = ([], schE keys cs) from if_pos z1)
    obtain ⟨E, hE⟩ : ∃ E, E = schE keys cs := ⟨_, rfl⟩
    rw [← hE] at HS HR z1
    have hb1 : (E != 0) = true := by rw [bne_iff_ne]; exact z1
    clear hs hx hl2 hE
    go_enter Tryd.func12, Tryd.ntmps12
    go_wp2_with fail
    refine (HS.out _ ((Ext.refl w).alloc _)).mono ?_
    rintro e w1 ⟨rfl, he1⟩
    go_wp2_with fail
    go_ret2
    exact KEncPost.bad _ HR.out (((Ext.refl w).alloc _).trans he1)

end Go.Proofs.YtnkggopkcjffoaaDoor
