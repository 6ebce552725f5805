/-
  Layer 11: the document's Decode.
-/
import Derived.Test.YtpdppldkebfikaaP11f
import Derived.Test.YtpdppldkebfikaaP11h
namespace Go.Proofs.Ytpdppldkebfikaa
open Go.RowKit

set_option maxHeartbeats 1600000 in
set_option maxRecDepth 100000 in
theorem refDecode11_any (A : Option Addr) (n c : Nat) (bs : List Nat) (w : World) (hx : Rd .u8 w A n bs) (hu : U8 bs) (hn : n ≤ 140737488355328) :
    Calls Try.prog 32 #[.slice A n c] w (TxtsPost (pdec bs) w) := by
  have hbl := hx.len
  rcases g1 : vget bs 0 with ⟨k, n1, e1⟩
  have G1 := Lib.hid (rget_is (c := c) hx hu hn g1)
  by_cases z1 : e1 = 0
  · subst z1
    obtain ⟨a1, a2, a3, a4, _⟩ := vget_at hu g1
    rw [hbl] at a3
    obtain ⟨m1, rfl⟩ := Int.eq_ofNat_of_zero_le (show 0 ≤ n1 by omega)
    by_cases hk : 4096 < k
    · have HR := Lib.hid (pdec_long g1 hk)
      clear hx hu hbl g1 a1 a2 a3
      go_enter Try.func32, Try.ntmps32
      go_wp2_with fail
      refine G1.out.mono ?_
      rintro e w1 ⟨rfl, rfl⟩
      go_wp2_with fail
      go_ret2
      exact TxtsPost.bad _ HR.out (Ext.refl _)
    · have hk2 : k ≤ 4096 := by omega
      obtain ⟨R, hR⟩ : ∃ R, R = pdec bs := ⟨_, rfl⟩
      have HR := Lib.hid (show pdA bs (k - 0) (m1 : Int) (bodies []) = R by rw [hR, pdec_go g1 hk2]; rfl)
      rw [← hR]
      have Hbl := Lib.hid hbl
      have Hx := Lib.hid hx
      have Hu := Lib.hid hu
      clear hR g1 hbl hx hu a1 a2
      have hm1 : m1 ≤ n := by omega
      go_enter Try.func32, Try.ntmps32
      go_wp2_with fail
      refine G1.out.mono ?_
      rintro e w1 ⟨rfl, rfl⟩
      obtain ⟨w, hw⟩ : ∃ w, w = w1 := ⟨_, rfl⟩
      subst hw
      go_wp2_with fail
      go_loopw [5, 7, 8, 9, 10, 11, 12] (fun at_ v l i _ _ _ wr => ∃ (j a : Nat) (ts : List Sl) (A' : Option Addr) (c' : Nat) (AL : Option Addr) (mL cL : Nat), j ≤ k ∧ i = .int .u64 j ∧ a ≤ n ∧ at_ = .int .i64 a ∧ v = .slice A' j c' ∧ l = .slice AL mL cL ∧ Hid (ts.length = j) ∧ Hid (pdA bs (k - j) a (bodies ts) = R) ∧ Hid (DTx w wr A' c' ts) ∧ Hid (j = 0 ∧ mL = 0 ∨ ∃ (p : Nat) (t : Sl), j = p + 1 ∧ ts[p]? = some t ∧ AL = t.A ∧ mL = t.body.length)) (fun _ _ _ i _ _ _ _ => k - (intOf i).toNat)
      case atStart => exact ⟨0, m1, [], _, _, _, _, _, Nat.zero_le _, rfl, hm1, rfl, rfl, rfl, rfl, HR.out, ⟨(OwnG.made _ _ _ (Nat.le_refl _)).ext ((Ext.refl _).alloc _), Txts.nil .., ((Ext.refl _).alloc _).alloc _, fun t ht => (by cases ht), fun t ht => (by cases ht)⟩, .inl ⟨rfl, rfl⟩⟩
      case round =>
        clear HR
        obtain ⟨j, a, ts, A', c', AL, mL, cL, hj, rfl, ha, rfl, rfl, rfl, Hl, HR, HD, HL⟩ := hrel
        by_cases hlt : j < k
        · obtain ⟨q, hq⟩ : ∃ q, k - j = q + 1 := ⟨k - j - 1, by omega⟩
          have Hq2 := Lib.hid (show k - (j + 1) = q by omega)
          have Hq := Lib.hid hq
          clear hq
          have hua : U8 (ahead (bodies ts)) := ahead_u8 (fun s hs => by
            obtain ⟨t, ht, rfl⟩ := List.mem_map.1 hs
            exact HD.out.u8 t ht)
          have Hua := Lib.hid hua
          have hbt : (bodies ts).length = j := by rw [bodies_len, Hl.out]
          rcases hg : ptx bs a (ahead (bodies ts)) with ⟨s, m, e⟩
          have Hg := Lib.hid hg
          have hL : ∃ L, Rd .u8 wr AL mL L ∧ mL ≤ 200 ∧ (¬ j % 16 = 0 → ahead (bodies ts) = L) := by
            rcases HL.out with ⟨h0, rfl⟩ | ⟨p, t, hp, ht, rfl, rfl⟩
            · exact ⟨[], Rd.nil .., by omega, fun h => absurd (by rw [h0]) h⟩
            · have hm := List.mem_of_getElem? ht
              exact ⟨t.body, HD.out.txt.rd t hm, HD.out.len t hm, fun h => by rw [ahead_not (by rw [hbt]; exact h), hbt, hp, Nat.add_sub_cancel, bodies_get ht]⟩
          obtain ⟨L, hLr, hL2, hLa⟩ := hL
          clear hua
          by_cases hw16 : j % 16 = 0
          · have hd : decide ((j : Int) % 16 = 0) = true := decide_eq_true (by omega)
            have hdb : (((j : Int) % 16) == 0) = true := by rw [beq_iff_eq]; omega
            have hah : ahead (bodies ts) = [] := ahead_whole (by rw [hbt]; exact hw16)
            have HG := Lib.hid (fun W (hW : Ext wr W) => refText11_true A n c a AL mL cL bs L W ((Hx.out.ext HD.out.ext).ext hW) Hu.out hn (hLr.ext hW) hL2)
            rw [← hah, hg] at HG
            clear hg hah hbt hLa hLr
            go_wp2_with fail
            refine (HG.out _ (Ext.refl _)).mono ?_
            rintro e' w3 ⟨A3, c3, rfl, hown3, he3⟩
            by_cases he0 : e = 0
            · subst he0
              obtain ⟨b1, b2, b3, b4, b5, _⟩ := ptx_ok Hu.out Hua.out Hg.out
              rw [Hbl.out] at b3
              obtain ⟨m', rfl⟩ := Int.eq_ofNat_of_zero_le (show 0 ≤ m by omega)
              have HN := Lib.hid (show pdA bs (k - (j + 1)) (m' : Int) (bodies (ts ++ [⟨A3, c3, s⟩])) = R by
                rw [Hq2.out, ← HR.out, Hq.out, pdA_next Hg.out]; unfold bodies; rw [List.map_append]; rfl)
              have Hb4 := Lib.hid b4
              have Hb5 := Lib.hid b5
              have hm' : m' ≤ n := by omega
              clear b1 b2 b3 b4 b5
              go_wp2_with (at_builtin; refine wpList_pushT (w0 := w) ⟨A3, c3, s⟩ rfl _ _ rfl ((HD.out.row.ext he3).ext ((Ext.refl _).alloc _)) j Hl.out rfl rfl (heap_alloc_new _ _) (by omega) (Ext.trans (HD.out.ext.trans he3) ((Ext.refl _).alloc _)) (by have := (HD.out.ext.trans he3).size; simp; omega) ?_; intro A4 c4 w4 hown4 hg4 hb4 hz4)
              rw [← Hl.out] at hg4
              have HD4 := Lib.hid (HD.out.snoc (s := ⟨A3, c3, s⟩) hown3 he3 hown4 hg4 hb4 Hb4.out Hb5.out)
              clear hg4 hown4
              have hlast : (ts ++ [(⟨A3, c3, s⟩ : Sl)])[j]? = some ⟨A3, c3, s⟩ := by rw [← Hl.out, List.getElem?_append_right (Nat.le_refl _), Nat.sub_self]; rfl
              have Hlast := Lib.hid hlast
              clear hlast
              go_wp2_with fail
              go_roundw
              case rel => exact ⟨j + 1, m', _, A4, c4, A3, s.length, c3, by omega, by go_num, hm', rfl, by go_num, rfl, by rw [List.length_append, Hl.out]; rfl, HN.out, HD4.out, .inr ⟨j, ⟨A3, c3, s⟩, rfl, Hlast.out, rfl, rfl⟩⟩
              case measure => simp [intOf]; omega
            · have hb1 : (e != 0) = true := by rw [bne_iff_ne]; exact he0
              have HE := Lib.hid (show R = ([], e) by rw [← HR.out, Hq.out, pdA_err Hg.out he0])
              have He := Lib.hid (HD.out.ext.trans he3)
              go_wp2_with fail
              go_ret2
              exact TxtsPost.bad _ HE.out He.out
          · have hd : decide ((j : Int) % 16 = 0) = false := decide_eq_false (by omega)
            have hdb : (((j : Int) % 16) == 0) = false := by rw [beq_eq_false_iff_ne]; omega
            have HG := Lib.hid (fun W (hW : Ext wr W) => refText11_false A n c a AL mL cL bs L W ((Hx.out.ext HD.out.ext).ext hW) Hu.out hn (hLr.ext hW) hL2)
            rw [← hLa hw16, hg] at HG
            clear hg hbt hLa hLr
            go_wp2_with fail
            refine (HG.out _ (Ext.refl _)).mono ?_
            rintro e' w3 ⟨A3, c3, rfl, hown3, he3⟩
            by_cases he0 : e = 0
            · subst he0
              obtain ⟨b1, b2, b3, b4, b5, _⟩ := ptx_ok Hu.out Hua.out Hg.out
              rw [Hbl.out] at b3
              obtain ⟨m', rfl⟩ := Int.eq_ofNat_of_zero_le (show 0 ≤ m by omega)
              have HN := Lib.hid (show pdA bs (k - (j + 1)) (m' : Int) (bodies (ts ++ [⟨A3, c3, s⟩])) = R by
                rw [Hq2.out, ← HR.out, Hq.out, pdA_next Hg.out]; unfold bodies; rw [List.map_append]; rfl)
              have Hb4 := Lib.hid b4
              have Hb5 := Lib.hid b5
              have hm' : m' ≤ n := by omega
              clear b1 b2 b3 b4 b5
              go_wp2_with (at_builtin; refine wpList_pushT (w0 := w) ⟨A3, c3, s⟩ rfl _ _ rfl ((HD.out.row.ext he3).ext ((Ext.refl _).alloc _)) j Hl.out rfl rfl (heap_alloc_new _ _) (by omega) (Ext.trans (HD.out.ext.trans he3) ((Ext.refl _).alloc _)) (by have := (HD.out.ext.trans he3).size; simp; omega) ?_; intro A4 c4 w4 hown4 hg4 hb4 hz4)
              rw [← Hl.out] at hg4
              have HD4 := Lib.hid (HD.out.snoc (s := ⟨A3, c3, s⟩) hown3 he3 hown4 hg4 hb4 Hb4.out Hb5.out)
              clear hg4 hown4
              have hlast : (ts ++ [(⟨A3, c3, s⟩ : Sl)])[j]? = some ⟨A3, c3, s⟩ := by rw [← Hl.out, List.getElem?_append_right (Nat.le_refl _), Nat.sub_self]; rfl
              have Hlast := Lib.hid hlast
              clear hlast
              go_wp2_with fail
              go_roundw
              case rel => exact ⟨j + 1, m', _, A4, c4, A3, s.length, c3, by omega, by go_num, hm', rfl, by go_num, rfl, by rw [List.length_append, Hl.out]; rfl, HN.out, HD4.out, .inr ⟨j, ⟨A3, c3, s⟩, rfl, Hlast.out, rfl, rfl⟩⟩
              case measure => simp [intOf]; omega
            · have hb1 : (e != 0) = true := by rw [bne_iff_ne]; exact he0
              have HE := Lib.hid (show R = ([], e) by rw [← HR.out, Hq.out, pdA_err Hg.out he0])
              have He := Lib.hid (HD.out.ext.trans he3)
              go_wp2_with fail
              go_ret2
              exact TxtsPost.bad _ HE.out He.out
        · obtain rfl : j = k := by omega
          have hR := HR.out
          rw [Nat.sub_self] at hR
          by_cases hat : a < n
          · have HR := Lib.hid (show R = ([], 3) by rw [← hR, pdA_trail (by rw [Hbl.out]; omega)])
            have He := Lib.hid HD.out.ext
            clear hR
            go_wp2_with fail
            go_ret2
            exact TxtsPost.bad _ HR.out He.out
          · have HR := Lib.hid (show R = (bodies ts, 0) by rw [← hR, pdA_end (by rw [Hbl.out]; omega)])
            clear hR
            go_wp2_with fail
            go_ret2
            exact TxtsPost.good _ HR.out Hl.out HD.out.row HD.out.txt HD.out.ext
  · have HR := Lib.hid (pdec_err g1 z1)
    have hb1 : (e1 != 0) = true := by rw [bne_iff_ne]; exact z1
    clear hx hu hbl g1
    go_enter Try.func32, Try.ntmps32
    go_wp2_with fail
    refine G1.out.mono ?_
    rintro e w1 ⟨rfl, rfl⟩
    go_wp2_with fail
    go_ret2
    exact TxtsPost.bad _ HR.out (Ext.refl _)

end Go.Proofs.Ytpdppldkebfikaa
