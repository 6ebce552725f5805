/-
  Layer 10: the document's Decode.
-/
import Derived.Test.YtpdppldkebfikaaD10o
import Derived.Test.YtpdppldkebfikaaD10h
namespace Go.Proofs.Ytpdppldkebfikaa
open Go.RowKit

theorem piece_rest10 {bs : List Nat} {n : Nat} (h : bs.length = n) (q : Nat) : piece bs (q : Int) (n : Int) = bs.drop q := by
  rw [piece_of, Int.toNat_natCast, Int.toNat_natCast, List.take_of_length_le]
  rw [List.length_drop, h]
  exact Nat.le_refl _
theorem bodies_snoc10 (ts : List Sl) (s : Sl) : bodies (ts ++ [s]) = bodies ts ++ [s.body] := by unfold bodies; rw [List.map_append]; rfl

set_option maxHeartbeats 3200000 in
set_option maxRecDepth 100000 in
theorem refDdecode_any (A : Option Addr) (n c : Nat) (bs : List Nat) (w : World) (hx : Rd .u8 w A n bs) (hu : U8 bs) (hn : n ≤ 140737488351232) :
    Calls Try.prog 23 #[.slice A n c] w (TxtsPost (ddec bs) w) := by
  have hbl := hx.len
  rcases g1 : vget bs 0 with ⟨k, n1, e1⟩
  have G1 := Lib.hid (rget10_is (c := c) hx hu (by omega) g1)
  by_cases z1 : e1 = 0
  · subst z1
    obtain ⟨a1, a2, a3, a4, _⟩ := vget_at hu g1
    rw [hbl] at a3
    obtain ⟨m1, rfl⟩ := Int.eq_ofNat_of_zero_le (show 0 ≤ n1 by omega)
    by_cases hk : 4096 < k
    · have HR := Lib.hid (ddec_long g1 hk)
      clear hx hu hbl g1 a1 a2 a3
      go_enter Try.func23, Try.ntmps23
      go_wp2_with fail
      refine G1.out.mono ?_
      rintro e w1 ⟨rfl, rfl⟩
      go_wp2_with fail
      go_ret2
      exact TxtsPost.bad _ HR.out (Ext.refl _)
    · have hk2 : k ≤ 4096 := by omega
      obtain ⟨R, hR⟩ : ∃ R, R = ddec bs := ⟨_, rfl⟩
      obtain ⟨⟨L, aE, eE⟩, gE⟩ : ∃ E, E = dnA bs (k - 0) (m1 : Int) (bodies []) := ⟨_, rfl⟩
      have hRe : eE ≠ 0 → R = ([], eE) := fun h => by rw [hR]; exact ddec_e2 g1 hk2 gE.symm h
      have hRo : eE = 0 → R = ddec.ddecB bs L aE := fun h => by subst h; rw [hR]; exact ddec_go g1 hk2 gE.symm
      have hok : eE = 0 → L.length ≤ 4096 := fun h => by
        subst h
        obtain ⟨T, r1, r2, r3, r4, r5, r6, r7, r8⟩ := dnA_ok hu k (acc := []) List.Pairwise.nil (by omega) (by rw [hbl]; exact a3) gE.symm
        rw [List.nil_append] at r1
        subst r1
        omega
      rw [← hR]
      have HRe := Lib.hid hRe
      have HRo := Lib.hid hRo
      have Hok := Lib.hid hok
      have HgE := Lib.hid gE.symm
      have Hbl := Lib.hid hbl
      have Hx := Lib.hid hx
      have Hu := Lib.hid hu
      clear hR g1 hbl hx hu a1 a2 hRe hRo hok gE
      have hm1 : m1 ≤ n := by omega
      go_enter Try.func23, Try.ntmps23
      go_wp2_with fail
      refine G1.out.mono ?_
      rintro e w1 ⟨rfl, rfl⟩
      obtain ⟨w, hw⟩ : ∃ w, w = w1 := ⟨_, rfl⟩
      subst hw
      go_wp2_with fail
      go_loopw [5, 7, 8, 9, 10, 11] (fun at_ v i _ _ _ wr => ∃ (j a : Nat) (ts : List Sl) (A' : Option Addr) (c' : Nat), j ≤ k ∧ i = .int .u64 j ∧ a ≤ n ∧ at_ = .int .i64 a ∧ v = .slice A' j c' ∧ Hid (ts.length = j) ∧ Hid (dnA bs (k - j) (a : Int) (bodies ts) = (L, aE, eE)) ∧ Hid (DTd w wr A' c' ts) ∧ Hid (∀ t ∈ ts, t.body.length ≤ 200 ∧ U8 t.body)) (fun _ _ i _ _ _ _ => k - (intOf i).toNat)
      case atStart => exact ⟨0, m1, [], _, _, Nat.zero_le _, rfl, hm1, rfl, rfl, rfl, HgE.out, ⟨OwnG.made _ _ _ (Nat.le_refl _), Txts.nil .., (Ext.refl _).alloc _⟩, fun t ht => (by cases ht)⟩
      case round =>
        clear HgE
        obtain ⟨j, a, ts, A', c', hj, rfl, ha, rfl, rfl, Hl, HR, HD, HT⟩ := hrel
        by_cases hlt : j < k
        · obtain ⟨q, hq⟩ : ∃ q, k - j = q + 1 := ⟨k - j - 1, by omega⟩
          have Hq2 := Lib.hid (show k - (j + 1) = q by omega)
          have Hq := Lib.hid hq
          clear hq
          have HG := refText10_any A n c a bs wr (Hx.out.ext HD.out.ext) Hu.out (by omega)
          rcases hg : dtx bs (a : Int) with ⟨s, m, e⟩
          unfold PTxPost at HG
          rw [hg] at HG
          have HGe := Lib.hid HG
          have Hg := Lib.hid hg
          have hbt : (bodies ts).length = j := by rw [bodies_len, Hl.out]
          clear HG hg
          by_cases he0 : e = 0
          · subst he0
            obtain ⟨b1, b2, b3, b4, b5, _⟩ := dtx_ok Hu.out Hg.out
            rw [Hbl.out] at b3
            obtain ⟨m', rfl⟩ := Int.eq_ofNat_of_zero_le (show 0 ≤ m by omega)
            have hm' : m' ≤ n := by omega
            have Hb := Lib.hid (And.intro b4 b5)
            clear b1 b2 b3 b4 b5
            by_cases hj0 : j = 0
            · have Ho := Lib.hid (show ¬ (0 < (bodies ts).length ∧ 0 ≤ ordT ((bodies ts).getD ((bodies ts).length - 1) []) s) from fun h => by have := h.1; omega)
              subst hj0
              go_wp2_with fail
              refine HGe.out.mono ?_
              rintro e' w3 ⟨A3, c3, rfl, hown3, he3⟩
              simp only at hown3 ⊢
              have HN := Lib.hid (show dnA bs (k - (0 + 1)) (m' : Int) (bodies (ts ++ [⟨A3, c3, s⟩])) = (L, aE, eE) by
                rw [Hq2.out, ← HR.out, Hq.out, dnA_next Hg.out Ho.out, bodies_snoc10])
              go_wp2_with (at_builtin; refine wpList_pushT (w0 := w) ⟨A3, c3, s⟩ rfl _ _ rfl ((HD.out.row.ext he3).ext ((Ext.refl _).alloc _)) (0) Hl.out rfl rfl (heap_alloc_new _ _) (by omega) (Ext.trans (HD.out.ext.trans he3) ((Ext.refl _).alloc _)) (by have := (HD.out.ext.trans he3).size; simp; omega) ?_; intro A4 c4 w4 hown4 hg4 hb4 _)
              have HD4 := Lib.hid (HD.out.snoc (s := ⟨A3, c3, s⟩) hown3 he3 hown4 (by rw [Hl.out]; exact hg4) hb4)
              have HT4 := Lib.hid (show ∀ t ∈ ts ++ [(⟨A3, c3, s⟩ : Sl)], t.body.length ≤ 200 ∧ U8 t.body by
                intro t ht
                rcases List.mem_append.1 ht with h1 | h1
                · exact HT.out t h1
                · simp at h1; subst h1; exact Hb.out)
              clear hown4 hb4 hg4 hown3
              go_wp2_with fail
              go_roundw
              case rel => exact ⟨0 + 1, m', _, A4, c4, by omega, by go_num, hm', rfl, by go_num, by rw [List.length_append, Hl.out]; rfl, HN.out, HD4.out, HT4.out⟩
              case measure => simp [intOf]; omega
            · obtain ⟨p, rfl⟩ : ∃ p, j = p + 1 := ⟨j - 1, by omega⟩
              obtain ⟨b, o, t, rfl, hf, hc⟩ := HD.out.row.rdL.at_ (j := p) (by rw [Hl.out]; omega)
              have hblt := World.block_lt_of_cell? _ _ hc
              have hmt := List.mem_of_getElem? hf
              have hlast : (bodies ts).getD ((bodies ts).length - 1) [] = t.body := by rw [hbt, Nat.add_sub_cancel, bodies_get hf]
              have hrt := HD.out.txt.rd t hmt
              have hlt2 := (HT.out t hmt).1
              obtain ⟨tA, tc, tb⟩ := t
              simp only at hc hrt hlt2 hlast
              have hsl := Hb.out.1
              have HC := Lib.hid (fun (A3 : Option Addr) (c3 : Nat) (W : World) (hE : Ext wr W) (h3 : Rd .u8 W A3 s.length s) => order_any A3 tA s.length c3 tb.length tc s tb W h3 (hrt.ext hE) (by omega) (by omega))
              obtain ⟨tl, htl⟩ : ∃ tl, tl = tb.length := ⟨_, rfl⟩
              rw [← htl] at hc HC
              have ho1 : ordT s tb ≤ 0 → dnA bs (q + 1) (a : Int) (bodies ts) = ([], 0, 5) := fun h => dnA_form Hg.out ⟨by omega, by rw [hlast, ordT_swap]; omega⟩
              have ho2 : ¬ ordT s tb ≤ 0 → ¬ (0 < (bodies ts).length ∧ 0 ≤ ordT ((bodies ts).getD ((bodies ts).length - 1) []) s) := fun h h2 => by
                have := h2.2
                rw [hlast, ordT_swap] at this
                omega
              obtain ⟨r, hr⟩ : ∃ r, r = ordT s tb := ⟨_, rfl⟩
              rw [← hr] at HC ho1 ho2
              have hpw : IntKind.u64.wrap (p : Int) = (p : Int) := IntWalk.u64_in _ (by omega)
              have Hc := Lib.hid hc
              clear hr htl hmt hf hrt hlt2 hlast hbt hc
              go_wp2_with fail
              refine HGe.out.mono ?_
              rintro e' w3 ⟨A3, c3, rfl, hown3, he3⟩
              simp only at hown3 ⊢
              have hc3 : w3.cell? ⟨b, o + p, none⟩ = some (.slice tA tl tc) := (he3.cells b (o + p) hblt).trans Hc.out
              by_cases hle : r ≤ 0
              · have h5 := ho1 hle
                rw [← Hq.out, HR.out] at h5
                injection h5 with _ h5
                injection h5 with _ h5
                have HRb := Lib.hid (show R = ([], 5) by rw [HRe.out (by rw [h5]; decide), h5])
                clear ho1 ho2 h5
                go_wp2_with fail
                refine (HC.out _ _ _ he3 hown3.rd).mono ?_
                rintro e' w5 ⟨rfl, q5, rfl⟩
                go_wp2_with fail
                go_ret2
                exact TxtsPost.bad _ HRb.out ((HD.out.ext.trans he3).drewN _)
              · have Ho := Lib.hid (ho2 (by omega))
                have HN := Lib.hid (show dnA bs (k - (p + 1 + 1)) (m' : Int) (bodies (ts ++ [⟨A3, c3, s⟩])) = (L, aE, eE) by
                  rw [Hq2.out, ← HR.out, Hq.out, dnA_next Hg.out Ho.out, bodies_snoc10])
                clear ho1 ho2
                go_wp2_with fail
                refine (HC.out _ _ _ he3 hown3.rd).mono ?_
                rintro e' w5 ⟨rfl, q5, rfl⟩
                have he5 := he3.drewN q5
                have hown5 := hown3.ext (Ext.of_drewN w3 q5)
                obtain ⟨W5, hW5⟩ : ∃ W5, W5 = w3.drewN q5 := ⟨_, rfl⟩
                rw [← hW5] at he5 hown5 ⊢
                clear hW5 hc3 he3 hown3
                go_wp2_with (at_builtin; refine wpList_pushT (w0 := w) ⟨A3, c3, s⟩ rfl _ _ rfl ((HD.out.row.ext he5).ext ((Ext.refl _).alloc _)) (p + 1) Hl.out rfl rfl (heap_alloc_new _ _) (by omega) (Ext.trans (HD.out.ext.trans he5) ((Ext.refl _).alloc _)) (by have := (HD.out.ext.trans he5).size; simp; omega) ?_; intro A4 c4 w4 hown4 hg4 hb4 _)
                rw [← Hl.out] at hg4
                have HD4 := Lib.hid (HD.out.snoc (s := ⟨A3, c3, s⟩) hown5 he5 hown4 hg4 hb4)
                have HT4 := Lib.hid (show ∀ t ∈ ts ++ [(⟨A3, c3, s⟩ : Sl)], t.body.length ≤ 200 ∧ U8 t.body by
                  intro t ht
                  rcases List.mem_append.1 ht with h1 | h1
                  · exact HT.out t h1
                  · simp at h1; subst h1; exact Hb.out)
                clear hown4 hb4 hg4 hown5
                go_wp2_with fail
                go_roundw
                case rel => exact ⟨p + 1 + 1, m', _, A4, c4, by omega, by go_num, hm', rfl, by go_num, by rw [List.length_append, Hl.out]; rfl, HN.out, HD4.out, HT4.out⟩
                case measure => simp [intOf]; omega
          · have h5 := dnA_err (n := q) (acc := bodies ts) Hg.out he0
            rw [← Hq.out, HR.out] at h5
            injection h5 with _ h5
            injection h5 with _ h5
            have HRb := Lib.hid (show R = ([], e) by rw [HRe.out (by rw [h5]; exact he0), h5])
            have hb1 : (e != 0) = true := by rw [bne_iff_ne]; exact he0
            clear h5
            go_wp2_with fail
            refine HGe.out.mono ?_
            rintro e' w3 ⟨A3, c3, rfl, _, he3⟩
            simp only
            go_wp2_with fail
            go_ret2
            exact TxtsPost.bad _ HRb.out (HD.out.ext.trans he3)
        · obtain rfl : j = k := by omega
          have h5 := HR.out
          rw [Nat.sub_self, dnA] at h5
          injection h5 with h6 h5
          injection h5 with h7 h5
          subst h6 h7 h5
          have HRo2 := Lib.hid (HRo.out rfl)
          clear HR HRo HRe Hok
          rcases g2 : vget bs (a : Int) with ⟨kk, n2, e2⟩
          have G2 := Lib.hid (rget10_is (c := c) (Hx.out.ext HD.out.ext) Hu.out (by omega) g2)
          by_cases z2 : e2 = 0
          · subst z2
            obtain ⟨b1, b2, b3, b4, _⟩ := vget_at Hu.out g2
            rw [Hbl.out] at b3
            obtain ⟨m2, rfl⟩ := Int.eq_ofNat_of_zero_le (show 0 ≤ n2 by omega)
            by_cases hkk : 4096 < kk
            · have HRb := Lib.hid (HRo2.out.trans (ddecB_long g2 hkk))
              clear g2 b1 b2 b3
              go_wp2_with fail
              refine G2.out.mono ?_
              rintro e w2 ⟨rfl, rfl⟩
              go_wp2_with fail
              go_ret2
              exact TxtsPost.bad _ HRb.out HD.out.ext
            · have hD := HRo2.out.trans (ddecB_go g2 (by omega))
              rw [Int.toNat_natCast] at hD
              have hkw : IntKind.i64.wrap (kk : Int) = (kk : Int) := IntWalk.i64_in _ (by omega)
              have hdk : decide (4096 < kk) = false := decide_eq_false hkk
              have P2 := piece_any A n c (m2 : Int) (n : Int) bs wr (Hx.out.ext HD.out.ext) (by omega) (by omega)
              rw [piece_rest10 Hbl.out] at P2
              obtain ⟨r, hre⟩ : ∃ r, r = bs.drop m2 := ⟨_, rfl⟩
              rw [← hre] at P2 hD
              have hru : U8 r := by rw [hre]; exact u8_drop Hu.out _
              obtain ⟨rl, hrl⟩ : ∃ rl, r.length = rl := ⟨_, rfl⟩
              have hrl2 : rl ≤ n := by rw [← hrl, hre, List.length_drop, Hbl.out]; omega
              rw [hrl] at P2
              have HP2 := Lib.hid P2
              have Hrl := Lib.hid hrl
              have hbl2 : (bodies ts).length = j := by rw [bodies_len, Hl.out]
              have hCe : unpE (pk 8 r) rl (wfor j : Int) (kk : Int) ≠ 0 → R = ([], unpE (pk 8 r) rl (wfor j : Int) (kk : Int)) := fun h0 => by
                rw [← hrl, ← hbl2] at h0 ⊢
                rw [hD, ddecC_err h0]
              have hCy : unpE (pk 8 r) rl (wfor j : Int) (kk : Int) = 0 → R = textsR (bodies ts) (unpL (pk 8 r) rl (wfor j : Int) (kk : Int)) := fun h0 => by
                rw [← hrl, ← hbl2] at h0 ⊢
                unfold textsR
                rw [hD]
                by_cases hm : meant (unpL (pk 8 r) r.length (wfor (bodies ts).length : Int) (kk : Int)) (bodies ts).length = true
                · rw [if_pos hm, ddecC_yes h0 rfl hm]
                · rw [if_neg hm, ddecC_form h0 rfl (by
                    cases q : meant (unpL (pk 8 r) r.length (wfor (bodies ts).length : Int) (kk : Int)) (bodies ts).length with
                    | true => exact absurd q hm
                    | false => rfl)]
              have hwf : wfor j ≤ 12 := wfor_le hk2
              have HU := fun (A5 : Option Addr) (c5 : Nat) (W : World) (hr5 : Rd .u8 W A5 rl r) => refUnpack_any A5 rl c5 (wfor j : Int) (kk : Int) r W hr5 hru (by omega)
              unfold UnpPost at HU
              obtain ⟨e3, hE3⟩ : ∃ e3, e3 = unpE (pk 8 r) rl (wfor j : Int) (kk : Int) := ⟨_, rfl⟩
              obtain ⟨us, huse⟩ : ∃ us, us = unpL (pk 8 r) rl (wfor j : Int) (kk : Int) := ⟨_, rfl⟩
              have hul : e3 = 0 → us.length = kk := fun h => by rw [huse, unpL_len10 (by rw [← hE3]; exact h), Int.toNat_natCast]
              have huu : e3 = 0 → U64 us := fun h => by rw [huse]; exact unpL_u6410 (by rw [← hE3]; exact h) (by omega)
              have hnil : e3 ≠ 0 → us = [] := fun h => by rw [huse]; exact unp_err hE3.symm h
              rw [← hE3] at hCe hCy HU
              rw [← huse] at hCy HU
              have hrow := HD.out.row.rdL
              rw [Hl.out] at hrow
              have Hrow := Lib.hid hrow
              have HRd := Lib.hid HD.out.txt.rd
              clear hrow huse hE3 hD hre hru hrl g2 b1 b2 b3 hbl2 P2
              by_cases z3 : e3 = 0
              · subst z3
                have HCy := Lib.hid (hCy rfl)
                have Hul := Lib.hid (hul rfl)
                have Huu := Lib.hid (huu rfl)
                rw [Hul.out] at HU
                have HUh := Lib.hid HU
                have HTx := Lib.hid (fun (B : Option Addr) (cB : Nat) (W : World) (hE : Ext wr W) (hB : Rd .u64 W B kk us) => refTexts_any A' j c' ts B kk cB us W (RdL.ext Hrow.out hE) (fun s hs => (HRd.out s hs).ext hE) (fun s hs => (HT.out s hs).1) hk2 hB (by omega) Huu.out)
                clear hCe hCy hul huu hnil HU
                go_wp2_with fail
                refine G2.out.mono ?_
                rintro e w2 ⟨rfl, rfl⟩
                go_wp2_with fail
                refine HP2.out.mono ?_
                rintro e w3 ⟨A5, c5, rfl, hown5, he5⟩
                have hr5 := hown5.rd' Hrl.out
                clear hown5
                go_wp2_with fail
                refine (refWidth10_any j _ (by omega)).mono ?_
                rintro e w4 ⟨rfl, he4⟩
                go_wp2_with fail
                refine (HUh.out A5 c5 _ (hr5.ext he4)).mono ?_
                rintro e w5 ⟨A6, c6, rfl, hown6, he6⟩
                have hr6 := hown6.rd' Hul.out
                have HE6 := Lib.hid ((he5.trans he4).trans he6)
                clear hown6 hr5 he5 he4 he6
                go_wp2_with fail
                refine (HTx.out A6 c6 _ HE6.out hr6).mono ?_
                rintro e w6 ⟨A9, c9, vs, rfl, hb9, hown9, htx9, he9⟩
                have HE9 := Lib.hid (HD.out.ext.trans HE6.out)
                rw [← HCy.out] at hb9 ⊢
                have Hfin := Lib.hid (show TxtsPost R w (.returned (.tuple #[.slice A9 vs.length c9, .int .i64 R.2])) w6 from ⟨A9, c9, vs, rfl, hb9, hown9.mono HE9.out.size, htx9.mono10 HE9.out.size, HE9.out.trans he9⟩)
                clear hb9 hown9 htx9
                go_wp2_with fail
                go_ret2
                exact Hfin.out
              · have HCe := Lib.hid (hCe z3)
                have hb3 : (e3 != 0) = true := by rw [bne_iff_ne]; exact z3
                rw [hnil z3] at HU
                have HUh := Lib.hid HU
                clear hCe hCy hul huu hnil HU
                go_wp2_with fail
                refine G2.out.mono ?_
                rintro e w2 ⟨rfl, rfl⟩
                go_wp2_with fail
                refine HP2.out.mono ?_
                rintro e w3 ⟨A5, c5, rfl, hown5, he5⟩
                have hr5 := hown5.rd' Hrl.out
                clear hown5
                go_wp2_with fail
                refine (refWidth10_any j _ (by omega)).mono ?_
                rintro e w4 ⟨rfl, he4⟩
                go_wp2_with fail
                refine (HUh.out A5 c5 _ (hr5.ext he4)).mono ?_
                rintro e w5 ⟨A6, c6, rfl, hown6, he6⟩
                have HE6 := Lib.hid ((he5.trans he4).trans he6)
                clear hown6 hr5 he5 he4 he6
                go_wp2_with fail
                go_ret2
                exact TxtsPost.bad _ HCe.out (HD.out.ext.trans HE6.out)
          · have HRb := Lib.hid (HRo2.out.trans (ddecB_err g2 z2))
            have hb1 : (e2 != 0) = true := by rw [bne_iff_ne]; exact z2
            clear g2
            go_wp2_with fail
            refine G2.out.mono ?_
            rintro e w2 ⟨rfl, rfl⟩
            go_wp2_with fail
            go_ret2
            exact TxtsPost.bad _ HRb.out HD.out.ext
  · have HR := Lib.hid (ddec_e1 g1 z1)
    have hb1 : (e1 != 0) = true := by rw [bne_iff_ne]; exact z1
    clear hx hu hbl g1
    go_enter Try.func23, Try.ntmps23
    go_wp2_with fail
    refine G1.out.mono ?_
    rintro e w1 ⟨rfl, rfl⟩
    go_wp2_with fail
    go_ret2
    exact TxtsPost.bad _ HR.out (Ext.refl _)

end Go.Proofs.Ytpdppldkebfikaa
