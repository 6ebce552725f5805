/-
  Layer 10: the document's Encode.
-/
import Derived.Test.YtpdppldkebfikaaD10b
import Derived.Test.YtpdppldkebfikaaM10b
import Derived.Test.YtpdppldkebfikaaBP2
import Derived.Test.YtpdppldkebfikaaP11b
import Derived.Test.YtpdppldkebfikaaTXK
namespace Go.Proofs.Ytpdppldkebfikaa
open Go.RowKit

theorem wdt_one' (v : Nat) : wdt [v] = bl v := by simp [wdt]
theorem rd_zs {w : World} {A : Option Addr} {n : Nat} {ns : List Nat} (h : RdG shZ w A n (zs ns)) : Rd .i64 w A n ns := by
  refine ⟨by rw [← h.1, zs_len], fun hn => ?_⟩
  obtain ⟨b, o, rfl, hb, hc⟩ := h.2 hn
  refine ⟨b, o, rfl, hb, fun j hj => ?_⟩
  have hjl : j < ns.length := by have := h.1; rw [zs_len] at this; omega
  have h1 := hc j (ns[j] : Int) (by unfold zs; rw [List.getElem?_map, List.getElem?_eq_getElem hjl]; rfl) 0 (.int .i64 (ns[j] : Int)) rfl
  rw [show o + j * shZ.sz + 0 = o + j from by show o + j * 1 + 0 = o + j; omega] at h1
  rw [h1]
  simp [List.getD, hjl]

theorem refWidth10_any (n : Nat) (w : World) (hn : n ≤ 1000000) :
    Calls Try.prog 52 #[.int .i64 (n : Int)] w fun e w' => e = .returned (.int .i64 (wfor n)) ∧ Ext w w' := by
  by_cases h : n = 0
  · subst h
    go_enter Try.func52, Try.ntmps52
    go_wp2
    go_ret
    exact ⟨rfl, Ext.refl w⟩
  · obtain ⟨m, rfl⟩ : ∃ m, n = m + 1 := ⟨n - 1, by omega⟩
    have HW := Lib.hid (show wfor (m + 1) = bl m by unfold wfor; rw [if_neg h, Nat.add_sub_cancel])
    have hz : (((m : Int) + 1) == 0) = false := by rw [beq_eq_false_iff_ne]; omega
    clear h
    go_enter Try.func52, Try.ntmps52
    go_wp2_with fail
    refine (refWidth_any _ 1 1 [m] _ (Rd.lit_at .u64 71 w [m] rfl rfl) (by intro v hv; simp at hv; omega) (by omega)).mono ?_
    rintro e w1 ⟨rfl, rfl⟩
    rw [wdt_one', ← HW.out]
    go_wp2_with fail
    go_ret
    exact ⟨rfl, (Ext.refl w).alloc _⟩

set_option maxHeartbeats 1600000 in
theorem refDencode_any (A : Option Addr) (n c : Nat) (ss : List Sl) (w : World) (hx : TxL w A n ss) (hn : n ≤ 140737488355328) :
    Calls Try.prog 19 #[.slice A n c] w (PEncPost (dencR (bodies ss)) w) := by
  have HI := Lib.hid (refIndex_any A n c ss w hx hn)
  have hbl : (bodies ss).length = n := by rw [bodies_len, hx.len]
  by_cases hbad : 4096 < (bodies ss).length ∨ anyLong (bodies ss) = true
  · have HR := Lib.hid (dencR_bad hbad)
    rw [idxR_bad hbad] at HI
    clear hbad hx hbl
    go_enter Try.func19, Try.ntmps19
    go_wp2_with fail
    refine HI.out.mono ?_
    rintro e w1 ⟨A1, c1, us, B, cB, rfl, hb, _, _, he1⟩
    simp only at hb ⊢
    rw [show us.length = 0 by rw [← bodies_len, hb]; rfl, show ([] : List Nat).length = 0 from rfl]
    clear hb
    go_wp2_with fail
    go_ret2
    exact PEncPost.bad _ HR.out he1
  · have hgn : (bodies ss).length ≤ 4096 := by
      rcases Nat.lt_or_ge 4096 (bodies ss).length with q | q
      · exact absurd (.inl q) hbad
      · exact q
    have hgl : anyLong (bodies ss) = false := by
      cases q : anyLong (bodies ss) with
      | true => exact absurd (.inr q) hbad
      | false => rfl
    have HR := Lib.hid (dencR_good hgn hgl)
    rw [idxR_good hgn hgl, show (bodies ss).map (fun s => skN s (dents (bodies ss))) = dcodes (bodies ss) from rfl] at HI
    have hdl := denc_len hgn hgl
    have hLn := dents_len _ (bodies ss) rfl
    have hns := dcodes_lt (ss := bodies ss)
    have hcl := dcodes_len (bodies ss)
    have hshort := dents_short hgl
    obtain ⟨hp1, hp2⟩ := pack_good (by omega) (by omega) hns
    obtain ⟨L, hL⟩ : ∃ L, L = dents (bodies ss) := ⟨_, rfl⟩
    obtain ⟨ns, hnse⟩ : ∃ ns, ns = dcodes (bodies ss) := ⟨_, rfl⟩
    have hden : denc (bodies ss) = (vput L.length ++ entB L) ++ (vput ns.length ++ packB (wfor L.length) ns) := by rw [hL, hnse]; rfl
    rw [← hL] at HI hLn hns hp1 hp2 hshort
    rw [← hnse] at HI hns hp1 hp2 hcl
    obtain ⟨V, hV⟩ : ∃ V, V = denc (bodies ss) := ⟨_, rfl⟩
    rw [← hV] at HR hdl hden
    obtain ⟨m, hm⟩ : ∃ m, m = L.length := ⟨_, rfl⟩
    obtain ⟨k, hk⟩ : ∃ k, k = ns.length := ⟨_, rfl⟩
    rw [← hm] at hns hp1 hp2 hden hLn
    rw [← hk] at hden hcl
    have hVl := hdl
    rw [hden] at hVl
    simp only [List.length_append] at hVl
    have Hden := Lib.hid hden
    have Hm := Lib.hid hm
    have Hk := Lib.hid hk
    have Hp1 := Lib.hid hp1
    have Hp2 := Lib.hid hp2
    have Hns := Lib.hid (show ∀ v ∈ ns, v ≤ 1000000 from fun v h => by have := hns v h; omega)
    have HnsU := Lib.hid (show U64 ns from fun v h => by have := hns v h; omega)
    have Hshort := Lib.hid hshort
    have hm4 : m ≤ 4096 := by omega
    have hk4 : k ≤ 4096 := by omega
    obtain ⟨E, hE⟩ : ∃ E, E = vput m ++ entB L := ⟨_, rfl⟩
    have hEl : E.length ≤ 1000000 := by rw [hE, List.length_append]; omega
    have HE0 := Lib.hid hE
    obtain ⟨pl, hpl⟩ : ∃ pl, (packB (wfor m) ns).length = pl := ⟨_, rfl⟩
    have Hpl := Lib.hid hpl
    have hpl6 : pl ≤ 1000000 := by rw [← hpl]; omega
    clear hbad hx hbl hL hnse hden hV hm hk hp1 hp2 hns hshort hgn hgl hLn hcl hVl hE hpl
    go_enter Try.func19, Try.ntmps19
    go_wp2_with fail
    refine HI.out.mono ?_
    rintro e w1 ⟨A1, c1, us, B, cB, rfl, hb, hen, hnum, he1⟩
    simp only at hb hnum ⊢
    have hul : us.length = m := by rw [Hm.out, ← hb, bodies_len]
    rw [hul] at hen ⊢
    rw [← Hk.out]
    have hnr := rd_zs (hnum.rd' (n := k) (by rw [zs_len]; exact Hk.out.symm))
    have Hen := Lib.hid hen
    have Hb := Lib.hid hb
    have Hul := Lib.hid hul
    clear hb hen hul hnum
    go_wp2_with fail
    refine (refPut_any m _ (by omega)).mono ?_
    rintro e w2 ⟨A2, c2, rfl, hown2, he2⟩
    have HP0 := Lib.hid (show vput m ++ entB ((bodies us).drop 0) = E by rw [HE0.out, Hb.out]; rfl)
    go_wp2_with fail
    go_loopw [7, 8] (fun v i wr => ∃ (j : Nat) (P : List Nat) (A' : Option Addr) (c' : Nat), j ≤ m ∧ i = .int .i64 j ∧ v = .slice A' P.length c' ∧ Hid (P ++ entB ((bodies us).drop j) = E) ∧ Own .u8 5 wr w1.heap.size A' c' P ∧ Ext w1 wr) (fun _ i _ => m - (intOf i).toNat)
    case atStart => exact ⟨0, _, A2, c2, Nat.zero_le _, rfl, rfl, HP0.out, hown2, he2⟩
    case round =>
      clear HP0 hown2 he2
      obtain ⟨j, P, A', c', hj, rfl, rfl, HP, hown, he⟩ := hrel
      by_cases hlt : j < m
      · obtain ⟨b, o, s, rfl, hf, hc0⟩ := Hen.out.rd.at_ hlt
        have blt := World.block_lt_of_cell? _ _ hc0
        have hst := entB_step (bodies_at hf)
        have hmem := List.mem_of_getElem? hf
        have hsl := Hshort.out s.body (by rw [← Hb.out]; exact List.mem_map.2 ⟨s, hmem, rfl⟩)
        have hrs := (Hen.out.own s hmem).rd
        obtain ⟨sA, sc, body⟩ := s
        simp only at hc0 hsl hst hrs
        have hPl : P.length ≤ 1000000 := by rw [← HP.out, List.length_append] at hEl; omega
        have hN : (P ++ vput body.length ++ body) ++ entB ((bodies us).drop (j + 1)) = E := by
          rw [← HP.out, hst]
          simp
        have HN := Lib.hid hN
        obtain ⟨bl2, hm⟩ : ∃ bl2, bl2 = body.length := ⟨_, rfl⟩
        rw [← hm] at hc0 hsl hrs HN
        have Hm2 := Lib.hid hm
        have Hrs := Lib.hid hrs
        have Hc := Lib.hid (fun (W : World) (hW : Ext w1 W) => (Below.cell hW (p := ⟨b, o + j, none⟩) blt).trans hc0)
        have hc := Hc.out wr he
        clear hN hst hf hm hrs HP hc0 hmem
        go_wp2_with fail
        refine (refPut_any bl2 _ (by omega)).mono ?_
        rintro e w4 ⟨A4, c4, rfl, hown4, he4⟩
        have hv1 := vput_le (u := bl2) (by omega)
        go_wp2_with fail
        refine (cat_any _ _ _ _ _ _ P (vput bl2) _ ((hown.ext he4).rd) hown4.rd (by omega)).mono ?_
        rintro e w5 ⟨A5, c5, rfl, hown5, he5⟩
        have hE5 := (he.trans he4).trans he5
        have hL5 : (P ++ vput bl2).length = P.length + (vput bl2).length := List.length_append
        have hc5 := Hc.out w5 hE5
        go_wp2_with fail
        refine (cat_any _ _ _ _ _ _ (P ++ vput bl2) body _ (hown5.rd' hL5) (Hrs.out.ext hE5) (by omega)).mono ?_
        rintro e w6 ⟨A6, c6, rfl, hown6, he6⟩
        have hown7 := hown6.mono (base' := w1.heap.size) hE5.size
        have hE6 := hE5.trans he6
        clear hown5 hown6 hc hc5
        go_wp2_with fail
        go_roundw
        case rel => exact ⟨j + 1, _, A6, c6, by omega, by go_num, by rw [List.length_append, List.length_append, ← Hm2.out], HN.out, hown7, hE6⟩
        case measure => simp [intOf]; omega
      · obtain rfl : m = j := by omega
        have hfin := Lib.hid (show P = E by rw [← HP.out, List.drop_of_length_le (by rw [bodies_len, Hul.out]; exact Nat.le_refl _)]; simp [entB])
        have hownE := hown.rd
        rw [hfin.out] at hownE ⊢
        obtain ⟨el, hel⟩ : ∃ el, E.length = el := ⟨_, rfl⟩
        rw [hel] at hownE hEl ⊢
        have Hel := Lib.hid hel
        obtain ⟨W1, hW1⟩ : ∃ W1, W1 = wr := ⟨_, rfl⟩
        rw [← hW1] at hownE he ⊢
        clear HP hown hel hW1
        go_wp2_with fail
        go_loopw [9, 10] (fun v i wx => ∃ (q : Nat) (B' : Option Addr) (cB' : Nat), q ≤ k ∧ i = .int .i64 q ∧ v = .slice B' q cB' ∧ Hid (Own .u64 71 wx W1.heap.size B' cB' (ns.take q)) ∧ Hid (Ext W1 wx)) (fun _ i _ => k - (intOf i).toNat)
        case atStart => exact ⟨0, _, _, Nat.zero_le _, rfl, rfl, Own.made _ _ _ (Nat.le_refl _), (Ext.refl _).alloc _⟩
        case round =>
          obtain ⟨q, B', cB', hq, rfl, rfl, HO, HEx⟩ := hrel
          by_cases hlt2 : q < k
          · obtain ⟨b, o, rfl, hbb, hc⟩ := (hnr.ext (he.trans HEx.out)).at_ hlt2
            have hvs : ns[q]? = some (ns.getD q 0) := by simp [List.getD, show q < ns.length by rw [← Hk.out]; exact hlt2]
            have hv := Hns.out _ (List.mem_of_getElem? hvs)
            have htk : ns.take (q + 1) = ns.take q ++ [ns.getD q 0] := take_nextG ns q hvs
            obtain ⟨f, hfv⟩ : ∃ f, f = ns.getD q 0 := ⟨_, rfl⟩
            rw [← hfv] at hc hv htk
            have hlq : (ns.take q).length = q := by rw [List.length_take, ← Hk.out]; omega
            have Htk := Lib.hid htk
            have Hlq := Lib.hid hlq
            clear hvs hfv htk hlq
            go_wp2_with (at_builtin; refine wpList_push .u64 f 71 rfl _ _ 66 rfl _ 8 Try.underlying66 Try.infoU64 rfl HO.out q Hlq.out rfl rfl rfl (by omega) (by omega) HEx.out HEx.out.size ?_; intro A4 c4 w4 hown4 hb4 hz4)
            rw [← Htk.out] at hown4
            have HO4 := Lib.hid hown4
            have HE4 := Lib.hid (show Ext W1 w4 from hb4)
            clear hown4 hb4 hz4
            go_wp2_with fail
            go_roundw
            case rel => exact ⟨q + 1, A4, c4, by omega, by go_num, rfl, HO4.out, HE4.out⟩
            case measure => simp [intOf]; omega
          · obtain rfl : k = q := by omega
            have hO := HO.out
            rw [List.take_of_length_le (by rw [← Hk.out]; exact Nat.le_refl _)] at hO
            have hnu := hO.rd' (n := k) Hk.out.symm
            have hE9 := he.trans HEx.out
            have hownE2 := hownE.ext HEx.out
            clear hO HO
            go_wp2_with fail
            refine (refWidth10_any m _ (by omega)).mono ?_
            rintro e w5 ⟨rfl, he5⟩
            go_wp2_with fail
            refine (refPack_any _ k _ (wfor m : Int) ns _ (hnu.ext he5) HnsU.out (by omega)).mono ?_
            rintro e w6 ⟨A6, c6, rfl, hown6, he6⟩
            rw [Hp2.out] at hown6 ⊢
            rw [Hp1.out, Hpl.out]
            have hr6 := hown6.rd' Hpl.out
            clear hown6
            go_wp2_with fail
            refine (refPut_any k _ (by omega)).mono ?_
            rintro e w7 ⟨A7, c7, rfl, hown7, he7⟩
            have hv1 := vput_le (u := k) (by omega)
            go_wp2_with fail
            refine (cat_any _ _ _ _ _ _ E (vput k) _ (((hownE2.ext he5).ext he6).ext he7) hown7.rd (by omega)).mono ?_
            rintro e w8 ⟨A8, c8, rfl, hown8, he8⟩
            have hL8 : (E ++ vput k).length = el + (vput k).length := by rw [List.length_append, Hel.out]
            go_wp2_with fail
            refine (cat_any _ _ _ _ _ _ (E ++ vput k) (packB (wfor m) ns) _ (hown8.rd' hL8) ((hr6.ext he7).ext he8) (by omega)).mono ?_
            rintro e w9 ⟨A9, c9, rfl, hown9, he9⟩
            have hb9 := ((((he1.trans hE9).trans he5).trans he6).trans he7).trans he8
            have hfV : E ++ vput k ++ packB (wfor m) ns = V := by rw [Hden.out, HE0.out]; simp
            rw [hfV] at hown9
            have hfl := congrArg List.length hfV
            rw [List.length_append, hL8, Hpl.out] at hfl
            have Hfl := Lib.hid hfl.symm
            clear hfV hfl
            go_wp2_with fail
            go_ret2
            exact PEncPost.good _ HR.out Hfl.out (hown9.mono hb9.size) (hb9.trans he9)

end Go.Proofs.Ytpdppldkebfikaa
