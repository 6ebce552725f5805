import Derived.Test.YthibbgmicmfkfaaGreatGW7
namespace Go.Proofs.YthibbgmicmfkfaaGreat
open Go.RowKit Go.Maps Go.WideMaps
set_option maxRecDepth 100000
theorem bodies_mem_of' {w : World} {A : Option Addr} {n : Nat} {ss : List Sl} (h : TxL w A n ss) : ∀ x ∈ bodies ss, U8 x := by
 intro x hx
 obtain ⟨s, hs, rfl⟩ := List.mem_map.1 hx
 exact (h.each s hs).u8
theorem Ext.grownBy' {w w' : World} (h : Ext w w') : w.grownBy w' none := ⟨h.os, h.tape, h.output, h.size, fun i hi _ => h.block i hi⟩
set_option maxHeartbeats 3200000 in
set_option maxRecDepth 100000 in
theorem pindex_any (A : Option Addr) (n c : Nat) (ss : List Sl) (w : World) (hx : TxL w A n ss) (hn : n ≤ 140737488355328) :
   Calls Tryz.prog 177 #[.slice A n c] w (IdxPost (idxR (bodies ss)) w) := by
 have Hl := Lib.hid hx.len
 have hbl : (bodies ss).length = n := by rw [bodies_len, Hl.out]
 have HL := Lib.hid (containsLong10_any A n c ss w hx.rd hn)
 by_cases hbig : 4096 < n
 · have HR := Lib.hid (idxR_bad (ss := bodies ss) (.inl (by rw [hbl]; exact hbig)))
   clear hbl HL
   go_enter Tryz.func177, Tryz.ntmps177
   go_wp2_with fail
   go_ret3
   exact IdxPost.bad _ HR.out (Ext.refl w)
 · cases hany : anyLong (bodies ss) with
   | true =>
     have HR := Lib.hid (idxR_bad (.inr hany))
     rw [hany] at HL
     clear hbl hany
     go_enter Tryz.func177, Tryz.ntmps177
     go_wp2_with fail
     refine HL.out.mono ?_
     rintro e w1 ⟨rfl, rfl⟩
     go_wp2
     go_ret3
     exact IdxPost.bad _ HR.out (Ext.refl _)
   | false =>
     have HR := Lib.hid (idxR_good (by rw [hbl]; omega) hany)
     have hb4 : n ≤ 4096 := by omega
     rw [hany] at HL
     have Hbl := Lib.hid hbl
     have Hany := Lib.hid hany
     have Hx := Lib.hid hx
     obtain ⟨L, hL⟩ : ∃ L, L = dents (bodies ss) := ⟨_, rfl⟩
     rw [← hL] at HR
     have HLe := Lib.hid hL
     have hmk := run_mkM
     clear hbl hany hx hL
     go_enter Tryz.func177, Tryz.ntmps177
     go_wp2_with fail
     refine HL.out.mono ?_
     rintro e w1 ⟨rfl, rfl⟩
     obtain ⟨w, hw⟩ : ∃ w, w = w1 := ⟨_, rfl⟩
     subst hw
     go_wp2_with fail
     clear hmk
     obtain ⟨g, hg⟩ : ∃ g, g = w.heap.size := ⟨_, rfl⟩
     have hown0 := World.ownsMap_made (H := Unit) w Tryz.prog 9 (elI Unit)
     rw [← hg] at hown0 ⊢
     have Hg := Lib.hid hg
     have Hown0 := Lib.hid hown0
     clear hown0 hg
     go_loopw [7, 24] (fun _ i wr => ∃ j : Nat, j ≤ n ∧ i = .int .i64 j ∧ Hid (wr.ownsMap Tryz.prog 9 (elI Unit) g j (D0of ((bodies ss).take j))) ∧ Hid (Ext w wr)) (fun _ i _ => n - (intOf i).toNat)
     case atStart => exact ⟨0, Nat.zero_le _, rfl, Hown0.out, (Ext.refl w).alloc _⟩
     case round =>
       clear Hown0
       obtain ⟨j, hj, rfl, HM, HE⟩ := hrel
       by_cases hlt : j < n
       · obtain ⟨b, o, s, rfl, hf, hc, hs⟩ := (Hx.out.ext HE.out).at_ hlt
         have hbj := bodies_at hf
         have htk : (bodies ss).take (j + 1) = (bodies ss).take j ++ [s.body] := by
           obtain ⟨h1, h2⟩ := List.getElem?_eq_some_iff.1 hbj
           rw [List.take_succ_eq_append_getElem h1, h2]
         have hrd := hs.rd
         have hln := hs.len
         obtain ⟨sA, sc, body⟩ := s
         simp only at hc hrd hln htk
         have kst := conv_str (c := sc) hrd
         have Hk := Lib.hid (key_of body hln)
         have HD := Lib.hid (show D0of ((bodies ss).take (j + 1)) = (D0of ((bodies ss).take j)).put (keyL body) (.lit (.int .i64 0)) by rw [htk, D0of_snoc])
         obtain ⟨bl, hbl⟩ : ∃ bl, bl = body.length := ⟨_, rfl⟩
         rw [← hbl] at hc kst
         clear hf hbj htk hrd hln hs hbl
         go_wp2_with (at_mapUpdate; refine wpList_mapUpdate_own _ rfl _ _ _ 222 rfl 9 3 lawK Tryz.underlying222 (elI Unit) g j _ rfl HM.out (by unfold maxLen; omega) _ _ _ rfl rfl Hk.out _ [] (elI_mk 0 (by omega)) ?_; intro w2 hown2 hgrow2)
         have hown3 : w2.ownsMap Tryz.prog 9 (elI Unit) g (j + 1) (D0of ((bodies ss).take (j + 1))) := by rw [HD.out]; exact hown2
         have HN := Lib.hid hown3
         have HE2 := Lib.hid (show Ext w w2 from grownBy_ext HE.out hgrow2 (fun g' hg' => by injection hg' with hg'; have := Hg.out; omega))
         clear hown2 hown3 hgrow2 kst
         go_wp2_with fail
         go_roundw
         case rel => exact ⟨j + 1, by omega, by go_num, HN.out, HE2.out⟩
         case measure => simp [intOf]; omega
       · obtain rfl : n = j := by omega
         have hmm := HM.out
         rw [List.take_of_length_le (by rw [Hbl.out]; exact Nat.le_refl _)] at hmm
         have HM2 := Lib.hid hmm
         clear hmm HM
         obtain ⟨W1, hW1⟩ : ∃ W1, W1 = wr := ⟨_, rfl⟩
         rw [← hW1] at HM2 HE ⊢
         have hgl := HM2.out.lt
         have hsz := size_of_owns HM2.out
         clear hW1
         go_wp2_with fail
         refine (keys_any _ _).mono ?_
         rintro e w2 ⟨rfl, rfl⟩
         go_wp2_with fail
         refine (sortedKeys_any (H := Unit) g n _ (elI Unit) W1 HM2.out (by unfold maxLen; omega) (by omega)).mono ?_
         rintro e w3 ⟨v, ks, rfl, hperm, hrow, he3⟩
         have hLa : Asc L := by rw [HLe.out]; exact dents_asc _
         have hLu : ∀ x ∈ L, U8 x := by rw [HLe.out]; exact fun x h => bodies_mem_of' Hx.out x (dents_mem.1 h)
         have hLn : L.length ≤ n := by rw [HLe.out]; exact dents_len n _ Hbl.out
         have hLs : ∀ x ∈ L, x.length ≤ 200 := by rw [HLe.out]; exact dents_short Hany.out
         obtain ⟨hsort, hlen⟩ := sorted_is HM2.out hperm hLa hLu (fun x => by
           rw [D0of_has, List.mem_map, List.mem_map, HLe.out]
           constructor
           · rintro ⟨a, ha, h⟩; exact ⟨a, dents_mem.1 ha, h⟩
           · rintro ⟨a, ha, h⟩; exact ⟨a, dents_mem.2 ha, h⟩)
         rw [hsort] at hrow
         obtain ⟨AS, cS, rfl, hstr⟩ := strs_of hrow hlen
         have hE3 : Ext W1 w3 := Ext.trans ((Ext.refl _).alloc _) he3
         have hM3 : w3.ownsMap Tryz.prog 9 (elI Unit) g n (D0of (bodies ss)) := HM2.out.kept hE3.grownBy' (by simp)
         have hW3 : g < w3.heap.size := Nat.lt_of_lt_of_le hgl hE3.size
         have hstr2 := hstr.mono (base' := W1.heap.size) (by simp)
         obtain ⟨N, hN⟩ : ∃ N, N = L.length := ⟨_, rfl⟩
         rw [← hN] at hLn ⊢
         have HLa := Lib.hid hLa
         have HLu := Lib.hid hLu
         have HLs := Lib.hid hLs
         have HN := Lib.hid hN
         have HM3 := Lib.hid hM3
         have Hstr := Lib.hid hstr2
         have HE3 := Lib.hid (HE.out.trans hE3)
         have hgw : w.heap.size ≤ g := by rw [Hg.out]; exact Nat.le_refl _
         have hwg3 : w.heap.size ≤ w3.heap.size := HE3.out.size
         obtain ⟨W3, hW3e⟩ : ∃ W3, W3 = w3 := ⟨_, rfl⟩
         rw [← hW3e] at HM3 Hstr HE3 hW3 hwg3 ⊢
         clear hLa hLu hLs hN hM3 hstr hstr2 hE3 he3 hrow hsort hlen hperm hW3e hsz
         go_wp2_with fail
         go_loopw [8, 9, 10, 36] (fun v _ _ i wr => ∃ (j : Nat) (A' : Option Addr) (c' : Nat) (us : List Sl) (D : DataW Unit), j ≤ N ∧ i = .int .i64 j ∧ v = .slice A' j c' ∧ Hid (us.length = j ∧ bodies us = L.take j) ∧ Hid (OwnT wr W3.heap.size A' c' us ∧ TxtsM wr W3.heap.size us) ∧ Hid (wr.ownsMap Tryz.prog 9 (elI Unit) g (n + j) D ∧ NumD D L j) ∧ Hid (OwnG shStr 9 wr W1.heap.size AS cS L) ∧ Hid (Ext w wr ∧ W3.heap.size ≤ wr.heap.size)) (fun _ _ _ i _ => N - (intOf i).toNat)
         case atStart => exact ⟨0, none, 0, [], _, Nat.zero_le _, rfl, rfl, ⟨rfl, rfl⟩, ⟨OwnG.nil .., TxtsM.nil ..⟩, ⟨HM3.out, D0of_map _, fun i x hi => absurd hi (by omega)⟩, Hstr.out, HE3.out, Nat.le_refl _⟩
         case round =>
           clear HM3 Hstr HE3
           obtain ⟨j, A', c', us, D, hj, rfl, rfl, HU, HO, HMD, HS, HE⟩ := hrel
           by_cases hlt : j < N
           · obtain ⟨b, x, rfl, _, hbl, hxj, hcx, _⟩ := HS.out.at_ (j := j) (by rw [← HN.out]; exact hlt)
             have hc0 := hcx 0 (.string (sstr x)) rfl
             rw [show j * shStr.sz + 0 = j by show j * 1 + 0 = j; omega] at hc0
             have hxl := HLs.out x (List.mem_of_getElem? hxj)
             have hxu := HLu.out x (List.mem_of_getElem? hxj)
             have Hk := Lib.hid (key_of x (by omega))
             have HND := Lib.hid (HMD.out.2.step HLa.out HLu.out hxj)
             have Htk := Lib.hid (take_nextG L j hxj)
             have Hxu := Lib.hid hxu
             have hx1 : x.length ≤ 1000000 := by omega
             clear hxj hcx hxu
             go_wp2_with (first
               | (at_mapUpdate; refine wpList_mapUpdate_own _ rfl _ _ _ 222 rfl 9 3 lawK Tryz.underlying222 (elI Unit) g (n + j) _ rfl HMD.out.1 (by unfold maxLen; omega) _ _ _ rfl rfl Hk.out _ [] (elI_mk j (by omega)) ?_; intro w5 hown5 hg5; obtain ⟨w6, c6, hcv, hO6, hE6⟩ := conv_back w5 Hxu.out hx1; have Hown5 := Lib.hid hown5; have Hg5 := Lib.hid hg5; have HO6 := Lib.hid hO6; have HE6 := Lib.hid hE6; clear hown5 hg5 hO6 hE6)
               | (at_builtin; refine wpList_pushT (w0 := _) ⟨some ⟨w5.heap.size, 0, none⟩, c6, x⟩ rfl _ _ rfl (((HO.out.1.far Hg5.out hW3).ext HE6.out).ext ((Ext.refl w6).alloc (.cells #[.slice (some ⟨w5.heap.size, 0, none⟩) x.length c6] 22))) j HU.out.1 rfl rfl (heap_alloc_new _ _) (by omega) (Below.refl _ _) (by have := HE.out.2; have := Hg5.out.size; have := HE6.out.size; simp; omega) ?_; intro A7 c7 w7 hown7 hg7 _ _)
               | fail)
             have hX : Ext w6 (w6.alloc (.cells #[.slice (some ⟨w5.heap.size, 0, none⟩) x.length c6] 22)) := (Ext.refl w6).alloc _
             have hOT := ((HO.out.1.far Hg5.out hW3).ext HE6.out).ext hX
             have hg7' := hg7
             rw [← HU.out.1] at hg7'
             have HM7 := Lib.hid (((Hown5.out.kept HE6.out.grownBy' (by simp)).alloc (.cells #[.slice (some ⟨w5.heap.size, 0, none⟩) x.length c6] 22)).kept hg7 (row_above (fun a ha => (HO.out.1.block a ha).1) hW3))
             have HS7 := Lib.hid ((((HS.out.far Hg5.out hgl).ext HE6.out).ext hX).grown hg7' (own_neG (by decide) hOT (((HS.out.far Hg5.out hgl).ext HE6.out).ext hX)))
             have HT7 := Lib.hid ((((HO.out.2.far Hg5.out hW3).ext HE6.out).snoc (s := ⟨some ⟨w5.heap.size, 0, none⟩, c6, x⟩) HO6.out (Nat.le_trans HE.out.2 Hg5.out.size) (fun t ht p hp => (HO.out.2.far Hg5.out hW3).lt t ht p hp)).ext hX |>.grown hOT hg7')
             have HE7 := Lib.hid (show Ext w w7 ∧ W3.heap.size ≤ w7.heap.size from by
               have h5 : Ext w w5 := grownBy_ext HE.out.1 Hg5.out (fun g' hg' => by injection hg' with hg'; omega)
               have h6 := (h5.trans HE6.out).trans hX
               refine ⟨grownBy_ext h6 hg7 (fun g' hg' => ?_), ?_⟩
               · cases hA : A' with
                 | none => rw [hA] at hg'; simp [Value.ownBlock] at hg'
                 | some a =>
                   rw [hA] at hg'
                   simp [Value.ownBlock] at hg'
                   have := (HO.out.1.block a hA).1
                   omega
               · have := HE.out.2; have := Hg5.out.size; have := HE6.out.size; have := hX.size; have := hg7.size; omega)
             have HO7 := Lib.hid hown7
             have HU7 := Lib.hid (show (us ++ [(⟨some ⟨w5.heap.size, 0, none⟩, c6, x⟩ : Sl)]).length = j + 1 ∧ bodies (us ++ [⟨some ⟨w5.heap.size, 0, none⟩, c6, x⟩]) = L.take (j + 1) from ⟨by rw [List.length_append, HU.out.1]; rfl, by rw [Htk.out, ← HU.out.2]; unfold bodies; rw [List.map_append]; rfl⟩)
             clear hOT hg7 hg7' hown7 hX hcv
             go_wp2_with fail
             go_roundw
             case rel => exact ⟨j + 1, A7, c7, _, _, by omega, by go_num, rfl, HU7.out, ⟨HO7.out, HT7.out⟩, ⟨HM7.out, HND.out⟩, HS7.out, HE7.out⟩
             case measure => simp [intOf]; omega
           · obtain rfl : j = N := by omega
             have hLt : L.take j = L := List.take_of_length_le (by rw [← HN.out]; exact Nat.le_refl _)
             have hub := HU.out.2
             rw [hLt] at hub
             obtain ⟨vals, hvals⟩ : ∃ vals, vals = (bodies ss).map (fun s => skN s L) := ⟨_, rfl⟩
             have HR2 := Lib.hid (show idxR (bodies ss) = (bodies us, vals, 0) by rw [HR.out, hub, hvals])
             have hvl : vals.length = n := by rw [hvals, List.length_map, Hbl.out]
             have Hvl := Lib.hid hvl
             have Hvals := Lib.hid hvals
             obtain ⟨W5, hW5⟩ : ∃ W5, W5 = wr := ⟨_, rfl⟩
             rw [← hW5] at HO HMD HE HS ⊢
             have HlU := Lib.hid HU.out.1
             clear hLt hub hvals hvl hW5
             go_wp2_with (first | (at_make; refine wpList_mk .i64 3 rfl _ _ 140 rfl 8 Tryz.underlying140 Tryz.infoInt _ _ n rfl rfl rfl rfl (by omega) (by omega) ?_; intro w7 hown7 he7) | fail)
             have h0 : Own .i64 3 w7 W5.heap.size (some ⟨W5.heap.size, 0, none⟩) n (vals.take 0 ++ List.replicate (n - 0) 0) := hown7
             have H0 := Lib.hid h0
             have He7 := Lib.hid he7
             clear hown7 h0 he7
             go_loopw [12, 13, 55] (fun _ _ i wr => ∃ q : Nat, q ≤ n ∧ i = .int .i64 q ∧ Hid (Own .i64 3 wr W5.heap.size (some ⟨W5.heap.size, 0, none⟩) n (vals.take q ++ List.replicate (n - q) 0)) ∧ Hid (Ext W5 wr)) (fun _ _ i _ => n - (intOf i).toNat)
             case atStart => exact ⟨0, Nat.zero_le _, rfl, H0.out, He7.out⟩
             case round =>
               clear H0 He7
               obtain ⟨q, hq, rfl, HNs, HE5⟩ := hrel
               by_cases hlt2 : q < n
               · obtain ⟨b, o, s, rfl, hf, hc, hs⟩ := (Hx.out.ext (HE.out.1.trans HE5.out)).at_ hlt2
                 have hbj := bodies_at hf
                 have hrd := hs.rd
                 have hln := hs.len
                 have hmem : s.body ∈ L := by rw [HLe.out]; exact dents_mem.2 (List.mem_of_getElem? hbj)
                 have hat0 := HMD.out.2.2 _ s.body (by rw [HN.out]; exact (List.getElem?_eq_some_iff.1 (skN_at HLa.out hmem)).1) (skN_at HLa.out hmem) (.lit (.int .i64 0))
                 have hvq : vals[q]? = some (skN s.body L) := by rw [Hvals.out, List.getElem?_map, hbj]; rfl
                 obtain ⟨f, hfv⟩ : ∃ f, f = skN s.body L := ⟨_, rfl⟩
                 rw [← hfv] at hat0 hvq
                 obtain ⟨sA, sc, body⟩ := s
                 simp only at hc hrd hln hat0
                 have kst := conv_str (c := sc) hrd
                 have Hk := Lib.hid (key_of body hln)
                 have Hat := Lib.hid hat0
                 have HMq := Lib.hid (HMD.out.1.kept HE5.out.grownBy' (by simp))
                 obtain ⟨bl, hbl⟩ : ∃ bl, bl = body.length := ⟨_, rfl⟩
                 rw [← hbl] at hc kst
                 have hlen7 : (vals.take q ++ List.replicate (n - q) 0).length = n := by rw [List.length_append, List.length_take, List.length_replicate, Hvl.out]; omega
                 obtain ⟨b2, hb2, hbase, hblt, hcell, hfro, hset⟩ := HNs.out.at_ (j := q) (by rw [hlen7]; exact hlt2)
                 injection hb2 with hb2
                 injection hb2 with hb2
                 subst hb2
                 obtain ⟨hs1, hs2⟩ := hset f
                 have hstep : (vals.take q ++ List.replicate (n - q) 0).set q f = vals.take (q + 1) ++ List.replicate (n - (q + 1)) 0 := by
                   have hlq : (vals.take q).length = q := by rw [List.length_take, Hvl.out]; omega
                   rw [take_nextG vals q hvq, List.set_append_right _ _ (by omega), hlq, Nat.sub_self, show n - q = (n - (q + 1)) + 1 by omega, List.replicate_succ, List.set_cons_zero, List.append_assoc]
                   rfl
                 rw [hstep] at hs1
                 have Hs1 := Lib.hid hs1
                 have HE6 := Lib.hid (HE5.out.setCell (p := ⟨W5.heap.size, q, none⟩) (Nat.le_refl _) (.int .i64 (f : Int)))
                 obtain ⟨old, hold⟩ : ∃ v, v = Value.int .i64 (((vals.take q ++ List.replicate (n - q) 0).getD q 0 : Nat) : Int) := ⟨_, rfl⟩
                 rw [← hold] at hcell
                 clear hold hs1 hs2 hset hstep hlen7 hf hbj hrd hln hs hmem hat0 hvq hfv hbl hbase
                 go_wp2_with (first
                   | (at_lookup; refine wpList_lookup_own_int _ rfl _ _ 222 rfl 9 3 .i64 lawK Tryz.underlying222 Tryz.underlying3 (zero_int _) g _ _ rfl HMq.out _ _ rfl Hk.out ?_; intro cc hat hwc; obtain rfl : cc = (f : Int) := (by have h9 := hat.symm.trans Hat.out; injection h9 with h9; injection h9); clear hat hwc)
                   | fail)
                 go_roundw
                 case rel => exact ⟨q + 1, by omega, by go_num, Hs1.out, HE6.out⟩
                 case measure => simp [intOf]; omega
               · obtain rfl : n = q := by omega
                 have hN2 := HNs.out
                 rw [Nat.sub_self, List.replicate_zero, List.append_nil, List.take_of_length_le (by rw [Hvl.out]; exact Nat.le_refl _)] at hN2
                 have HNf := Lib.hid hN2
                 clear hN2
                 go_wp2_with fail
                 go_ret3
                 exact IdxPost.good _ HR2.out HlU.out Hvl.out ((HO.out.1.mono hwg3).ext HE5.out) ((HO.out.2.mono hwg3).ext HE5.out) (HNf.out.mono HE.out.1.size) (HE.out.1.trans HE5.out)
open Go.RowKit
theorem packB_u8 (wd : Nat) (vs : List Nat) : U8 (packB wd vs) := U8_wd.2 (upk_wd 8 _ _)
theorem unpE_bounds {N len : Nat} {wd cnt : Int} (h : unpE N len wd cnt = 0) : 0 ≤ wd ∧ wd ≤ 64 ∧ 0 ≤ cnt ∧ cnt ≤ 4096 ∧ wd * cnt ≤ 8 * (len : Int) ∧ 8 * (len : Int) - wd * cnt < 8 ∧ N < 2 ^ (wd * cnt).toNat := by
 unfold unpE at h
 by_cases h1 : wd < 0 ∨ 64 < wd ∨ cnt < 0 ∨ 4096 < cnt
 · rw [if_pos h1] at h; omega
 · rw [if_neg h1] at h
   by_cases h2 : 8 * (len : Int) < wd * cnt
   · rw [if_pos h2] at h; omega
   · rw [if_neg h2] at h
     by_cases h3 : 8 ≤ 8 * (len : Int) - wd * cnt
     · rw [if_pos h3] at h; omega
     · rw [if_neg h3] at h
       by_cases h4 : 2 ^ (wd * cnt).toNat ≤ N
       · rw [if_pos h4] at h; omega
       · exact ⟨by omega, by omega, by omega, by omega, by omega, by omega, by omega⟩
theorem unp_pack {wd : Nat} {vs : List Nat} (hw : wd ≤ 64) (hn : vs.length ≤ 4096) (hv : Wd wd vs) :
   unpE (pk 8 (packB wd vs)) (packB wd vs).length (wd : Int) (vs.length : Int) = 0 ∧ unpL (pk 8 (packB wd vs)) (packB wd vs).length (wd : Int) (vs.length : Int) = vs ∧
     ∀ N, unpE N ((packB wd vs).length + 1) (wd : Int) (vs.length : Int) = 3 := by
 have hlt := pk_lt hv
 have hlen : (packB wd vs).length = (wd * vs.length + 7) / 8 := upk_len ..
 have hpk : pk 8 (packB wd vs) = pk wd vs := by
   unfold packB
   rw [pk_upk, Nat.mod_eq_of_lt]
   exact Nat.lt_of_lt_of_le hlt (Nat.pow_le_pow_right (by omega) (by omega))
 have hm : (wd : Int) * (vs.length : Int) = ((wd * vs.length : Nat) : Int) := by norm_cast
 have h0 : unpE (pk wd vs) (packB wd vs).length (wd : Int) (vs.length : Int) = 0 := by
   refine unpE_ok (by omega) (by rw [hm, hlen]; omega) (by rw [hm, hlen]; omega) ?_
   rw [hm, Int.toNat_natCast]
   omega
 rw [hpk]
 refine ⟨h0, ?_, fun N => ?_⟩
 · rw [unp_ok h0, Int.toNat_natCast, Int.toNat_natCast, upk_pk hv]
 · exact unpE_trail (by omega) (by rw [hm, hlen]; omega) (by rw [hm, hlen]; omega)
theorem pack_unp {bs : List Nat} {wd n : Nat} (hw : wd ≤ 64) (hn : n ≤ 4096) (hu : U8 bs) (h : unpE (pk 8 bs) bs.length (wd : Int) (n : Int) = 0) :
   packE (wd : Int) (upk wd n (pk 8 bs)) = 0 ∧ packL (wd : Int) (upk wd n (pk 8 bs)) = bs := by
 obtain ⟨_, _, _, _, h5, h6, h7⟩ := unpE_bounds h
 have hm : (wd : Int) * (n : Int) = ((wd * n : Nat) : Int) := by norm_cast
 rw [hm] at h5 h6 h7
 rw [Int.toNat_natCast] at h7
 have hl := upk_len wd n (pk 8 bs)
 have hwd := wdt_le.2 (upk_wd wd n (pk 8 bs))
 have hE : packE (wd : Int) (upk wd n (pk 8 bs)) = 0 := packE_ok (by omega) (by omega) (by omega)
 refine ⟨hE, ?_⟩
 unfold packL
 rw [if_pos hE, Int.toNat_natCast]
 unfold packB
 rw [hl, pk_upk, Nat.mod_eq_of_lt h7, show (wd * n + 7) / 8 = bs.length from by omega]
 exact upk_pk (U8_wd.1 hu)
def wfor (n : Nat) : Nat := if n = 0 then 0 else bl (n - 1)
theorem wfor_le {n : Nat} (h : n ≤ 4096) : wfor n ≤ 12 := by
 unfold wfor
 split
 · omega
 · exact bl_le.2 (by have : (2 : Nat) ^ 12 = 4096 := by decide
                     omega)
theorem wfor_wd {n : Nat} {us : List Nat} (h : ∀ u ∈ us, u < n) : Wd (wfor n) us := by
 intro u hu
 have h1 := h u hu
 unfold wfor
 rw [if_neg (by omega)]
 have h2 := bl_le.1 (Nat.le_refl (bl (n - 1)))
 omega
def entB (L : List (List Nat)) : List Nat := (L.map fun s => vput s.length ++ s).flatten
theorem entB_cons (s : List Nat) (r : List (List Nat)) : entB (s :: r) = vput s.length ++ (s ++ entB r) := by simp [entB]
theorem entB_step {L : List (List Nat)} {j : Nat} {s : List Nat} (h : L[j]? = some s) : entB (L.drop j) = vput s.length ++ (s ++ entB (L.drop (j + 1))) := by
 obtain ⟨h1, rfl⟩ := List.getElem?_eq_some_iff.1 h
 rw [List.drop_eq_getElem_cons h1, entB_cons]
theorem entB_len : ∀ (L : List (List Nat)), (∀ s ∈ L, s.length ≤ 200) → (entB L).length ≤ 210 * L.length
 | [], _ => by simp [entB]
 | s :: r, h => by
   have h1 := h s (by simp)
   have h2 := vput_le (u := s.length) (by omega)
   have h3 := entB_len r (fun x hx => h x (by simp [hx]))
   rw [entB_cons, List.length_append, List.length_append, List.length_cons]
   omega
theorem entB_u8 : ∀ (L : List (List Nat)), (∀ s ∈ L, U8 s) → U8 (entB L)
 | [], _ => by intro v hv; cases hv
 | s :: r, h => by
   intro v hv
   rw [entB_cons] at hv
   rcases List.mem_append.1 hv with hv | hv
   · exact vput_u8 _ v hv
   · rcases List.mem_append.1 hv with hv | hv
     · exact h s (by simp) v hv
     · exact entB_u8 r (fun x hx => h x (by simp [hx])) v hv
def dencW (L : List (List Nat)) (ns : List Nat) : List Nat := (vput L.length ++ entB L) ++ (vput ns.length ++ packB (wfor L.length) ns)
def dcodes (ss : List (List Nat)) : List Nat := ss.map fun s => skN s (dents ss)
def denc (ss : List (List Nat)) : List Nat := dencW (dents ss) (dcodes ss)
def dencR (ss : List (List Nat)) : List Nat × Int := if 4096 < ss.length ∨ anyLong ss = true then ([], 4) else (denc ss, 0)
theorem dencR_bad {ss : List (List Nat)} (h : 4096 < ss.length ∨ anyLong ss = true) : dencR ss = ([], 4) := if_pos h
theorem dencR_good {ss : List (List Nat)} (h : ss.length ≤ 4096) (h2 : anyLong ss = false) : dencR ss = (denc ss, 0) := if_neg (fun q => by
 rcases q with q | q
 · omega
 · rw [h2] at q; cases q)
theorem dcodes_len (ss : List (List Nat)) : (dcodes ss).length = ss.length := List.length_map ..
theorem dcodes_lt {ss : List (List Nat)} : ∀ u ∈ dcodes ss, u < (dents ss).length := by
 intro u hu
 obtain ⟨s, hs, rfl⟩ := List.mem_map.1 hu
 exact (List.getElem?_eq_some_iff.1 (skN_at (dents_asc ss) (dents_mem.2 hs))).1
theorem packB_len {wd : Nat} {vs : List Nat} : (packB wd vs).length = (wd * vs.length + 7) / 8 := upk_len ..
theorem denc_len {ss : List (List Nat)} (hn : ss.length ≤ 4096) (h : anyLong ss = false) : (denc ss).length ≤ 1000000 := by
 have h1 := dents_len ss.length ss rfl
 have h2 := entB_len (dents ss) (fun x hx => anyLong_no h x (dents_mem.1 hx))
 have h3 := vput_le (u := (dents ss).length) (by omega)
 have h4 := vput_le (u := (dcodes ss).length) (by rw [dcodes_len]; omega)
 have h5 := wfor_le (n := (dents ss).length) (by omega)
 have h6 : wfor (dents ss).length * (dcodes ss).length ≤ 12 * 4096 := Nat.mul_le_mul h5 (by rw [dcodes_len]; exact hn)
 unfold denc dencW
 rw [List.length_append, List.length_append, List.length_append, packB_len]
 omega
theorem denc_u8 {ss : List (List Nat)} (h : ∀ s ∈ ss, U8 s) : U8 (denc ss) := by
 intro v hv
 unfold denc dencW at hv
 rcases List.mem_append.1 hv with hv | hv
 · rcases List.mem_append.1 hv with hv | hv
   · exact vput_u8 _ v hv
   · exact entB_u8 _ (fun x hx => h x (dents_mem.1 hx)) v hv
 · rcases List.mem_append.1 hv with hv | hv
   · exact vput_u8 _ v hv
   · exact packB_u8 _ _ v hv
theorem pack_good {L : List (List Nat)} {ns : List Nat} (hL : L.length ≤ 4096) (hn : ns.length ≤ 4096) (h : ∀ u ∈ ns, u < L.length) : packE (wfor L.length : Int) ns = 0 ∧ packL (wfor L.length : Int) ns = packB (wfor L.length) ns := by
 have h1 := wfor_le hL
 have h2 := wdt_le.2 (wfor_wd h)
 have hE : packE (wfor L.length : Int) ns = 0 := packE_ok (by omega) (by omega) (by omega)
 refine ⟨hE, ?_⟩
 unfold packL
 rw [if_pos hE, Int.toNat_natCast]
def dtx (bs : List Nat) (a : Int) : List Nat × Int × Int :=
 if (vget bs a).2.2 ≠ 0 then ([], 0, (vget bs a).2.2) else if 200 < (vget bs a).1 then ([], 0, 4) else
 if (bs.length : Int) - (vget bs a).2.1 < (vget bs a).1 then ([], 0, 2) else (cut bs (vget bs a).2.1.toNat (vget bs a).1, (vget bs a).2.1 + ((vget bs a).1 : Int), 0)
section
variable {bs : List Nat} {a n e : Int} {k : Nat}
theorem dtx_err (h : vget bs a = (k, n, e)) (he : e ≠ 0) : dtx bs a = ([], 0, e) := by unfold dtx; rw [h]; exact if_pos he
theorem dtx_long (h : vget bs a = (k, n, 0)) (hk : 200 < k) : dtx bs a = ([], 0, 4) := by unfold dtx; rw [h, if_neg (fun q => q rfl), if_pos hk]
theorem dtx_short (h : vget bs a = (k, n, 0)) (hk : k ≤ 200) (hs : (bs.length : Int) - n < k) : dtx bs a = ([], 0, 2) := by
 unfold dtx; rw [h, if_neg (fun q => q rfl), if_neg (by simp only; omega), if_pos hs]
theorem dtx_yes (h : vget bs a = (k, n, 0)) (hk : k ≤ 200) (hs : (k : Int) ≤ (bs.length : Int) - n) : dtx bs a = (cut bs n.toNat k, n + (k : Int), 0) := by
 unfold dtx; rw [h, if_neg (fun q => q rfl), if_neg (by simp only; omega), if_neg (by simp only; omega)]
end
theorem dtx_ok {bs s : List Nat} {a n : Int} (hb : U8 bs) (h : dtx bs a = (s, n, 0)) : 0 ≤ a ∧ a ≤ n ∧ n ≤ bs.length ∧ s.length ≤ 200 ∧ U8 s ∧ vput s.length ++ s = (bs.drop a.toNat).take (n.toNat - a.toNat) := by
 rcases h1 : vget bs a with ⟨k, n1, e1⟩
 by_cases g1 : e1 = 0
 · subst g1
   by_cases hk : 200 < k
   · rw [dtx_long h1 hk] at h; injection h with _ h; injection h with _ h; exact absurd h (by decide)
   · by_cases hs : (bs.length : Int) - n1 < k
     · rw [dtx_short h1 (by omega) hs] at h; injection h with _ h; injection h with _ h; exact absurd h (by decide)
     · rw [dtx_yes h1 (by omega) (by omega)] at h
       injection h with hs1 h
       injection h with hn1 _
       obtain ⟨a1, a2, a3, a4, a5⟩ := vget_at hb h1
       have hcl : (cut bs n1.toNat k).length = k := cut_len (by omega)
       subst hs1
       refine ⟨a1, by omega, by omega, by omega, cut_u8 hb _ _, ?_⟩
       rw [hcl, a5, ← hn1]
       unfold cut
       have e1 : n1.toNat = a.toNat + (n1.toNat - a.toNat) := by omega
       have e3 : (n1 + (k : Int)).toNat - a.toNat = (n1.toNat - a.toNat) + k := by omega
       rw [e3, List.take_add, List.drop_drop, ← e1]
 · rw [dtx_err h1 g1] at h; injection h with _ h; injection h with _ h; exact absurd h g1
theorem dtx_put (pre s post : List Nat) (hs : s.length ≤ 200) : dtx (pre ++ (vput s.length ++ (s ++ post))) (pre.length : Int) = (s, (pre.length : Int) + ((vput s.length ++ s).length : Int), 0) := by
 have g1 : vget (pre ++ (vput s.length ++ (s ++ post))) (pre.length : Int) = (s.length, (pre.length : Int) + (vsize s.length : Int), 0) := by
   refine vget_ok (by simp) ?_
   rw [List.drop_append_of_le_length (Nat.le_refl _), List.drop_length, List.nil_append]
   exact vgetF_vput (by omega) _
 have hcut : cut (pre ++ (vput s.length ++ (s ++ post))) ((pre.length : Int) + (vsize s.length : Int)).toNat s.length = s := by
   have e2 : ((pre.length : Int) + (vsize s.length : Int)).toNat = (pre ++ vput s.length).length := by rw [List.length_append, vput_len]; omega
   unfold cut
   rw [← List.append_assoc, e2, List.drop_append_of_le_length (Nat.le_refl _), List.drop_length, List.nil_append, List.take_append_of_le_length (Nat.le_refl _), List.take_length]
 rw [dtx_yes g1 hs (by simp only [List.length_append, vput_len]; omega), hcut, List.length_append, vput_len]
 simp only [Prod.mk.injEq, true_and, and_true]
 omega
def dnA (bs : List Nat) : Nat → Int → List (List Nat) → List (List Nat) × Int × Int
 | 0, a, acc => (acc, a, 0)
 | n + 1, a, acc => if (dtx bs a).2.2 ≠ 0 then ([], 0, (dtx bs a).2.2) else if 0 < acc.length ∧ 0 ≤ ordT (acc.getD (acc.length - 1) []) (dtx bs a).1 then ([], 0, 5) else dnA bs n (dtx bs a).2.1 (acc ++ [(dtx bs a).1])
section
variable {bs s : List Nat} {n : Nat} {a m e : Int} {acc : List (List Nat)}
theorem dnA_err (h : dtx bs a = (s, m, e)) (he : e ≠ 0) : dnA bs (n + 1) a acc = ([], 0, e) := by rw [dnA, h]; exact if_pos he
theorem dnA_form (h : dtx bs a = (s, m, 0)) (ho : 0 < acc.length ∧ 0 ≤ ordT (acc.getD (acc.length - 1) []) s) : dnA bs (n + 1) a acc = ([], 0, 5) := by rw [dnA, h, if_neg (fun q => q rfl)]; exact if_pos ho
theorem dnA_next (h : dtx bs a = (s, m, 0)) (ho : ¬ (0 < acc.length ∧ 0 ≤ ordT (acc.getD (acc.length - 1) []) s)) : dnA bs (n + 1) a acc = dnA bs n m (acc ++ [s]) := by rw [dnA, h, if_neg (fun q => q rfl)]; exact if_neg ho
end
theorem asc_snoc {acc : List (List Nat)} {s : List Nat} (h : Asc acc) (ho : ¬ (0 < acc.length ∧ 0 ≤ ordT (acc.getD (acc.length - 1) []) s)) : Asc (acc ++ [s]) := by
 refine List.pairwise_append.2 ⟨h, by simp, fun x hx y hy => ?_⟩
 simp at hy
 subst hy
 obtain ⟨i, hi⟩ := List.getElem?_of_mem hx
 obtain ⟨q1, e1⟩ := List.getElem?_eq_some_iff.1 hi
 have hl : acc.length - 1 < acc.length := by omega
 have hlast : ordT (acc.getD (acc.length - 1) []) y < 0 := by
   rcases Int.lt_or_le (ordT (acc.getD (acc.length - 1) []) y) 0 with h1 | h1
   · exact h1
   · exact absurd ⟨by omega, h1⟩ ho
 have hg : acc.getD (acc.length - 1) [] = acc[acc.length - 1] := by simp [List.getD, hl]
 rw [hg] at hlast
 by_cases hie : i = acc.length - 1
 · subst hie; rw [← e1]; exact hlast
 · have := List.pairwise_iff_getElem.1 h i (acc.length - 1) q1 hl (by omega)
   rw [e1] at this
   exact ordT_trans this hlast
theorem dnA_ok {bs : List Nat} (hb : U8 bs) : ∀ (n : Nat) {a m : Int} {acc L : List (List Nat)}, Asc acc → 0 ≤ a → a ≤ bs.length → dnA bs n a acc = (L, m, 0) →
   ∃ T, L = acc ++ T ∧ T.length = n ∧ 0 ≤ m ∧ a ≤ m ∧ m ≤ bs.length ∧ entB T = (bs.drop a.toNat).take (m.toNat - a.toNat) ∧ Asc L ∧ ∀ s ∈ T, s.length ≤ 200 ∧ U8 s
 | 0, a, m, acc, L, ha, h0, h1, h => by
   injection h with e1 h
   injection h with e2 _
   subst e1 e2
   exact ⟨[], by simp, rfl, h0, Int.le_refl _, h1, by rw [Nat.sub_self]; rfl, ha, fun s hs => by cases hs⟩
 | n + 1, a, m, acc, L, ha, h0, h1, h => by
   rcases hd : dtx bs a with ⟨s, m1, e⟩
   by_cases he : e = 0
   · subst he
     by_cases ho : 0 < acc.length ∧ 0 ≤ ordT (acc.getD (acc.length - 1) []) s
     · rw [dnA_form hd ho] at h; injection h with _ h; injection h with _ h; exact absurd h (by decide)
     · rw [dnA_next hd ho] at h
       obtain ⟨q1, q2, q3, q4, q5, q6⟩ := dtx_ok hb hd
       obtain ⟨T, r1, r2, r3, r4, r5, r6, r7, r8⟩ := dnA_ok hb n (asc_snoc ha ho) (by omega) q3 h
       refine ⟨s :: T, by rw [r1]; simp, by simp [r2], r3, by omega, r5, ?_, r7, ?_⟩
       · have e2 : m.toNat - a.toNat = (m1.toNat - a.toNat) + (m.toNat - m1.toNat) := by omega
         have e3 : a.toNat + (m1.toNat - a.toNat) = m1.toNat := by omega
         rw [entB_cons, ← List.append_assoc, q6, r6, e2, List.take_add, List.drop_drop, e3]
       · intro x hx
         rcases List.mem_cons.1 hx with rfl | hx
         · exact ⟨q4, q5⟩
         · exact r8 x hx
   · rw [dnA_err hd he] at h; injection h with _ h; injection h with _ h; exact absurd h he
theorem dnA_put : ∀ (T acc : List (List Nat)) (bs hd post : List Nat), (∀ s ∈ T, s.length ≤ 200) → bs = hd ++ (entB T ++ post) → Asc (acc ++ T) → dnA bs T.length (hd.length : Int) acc = (acc ++ T, ((hd ++ entB T).length : Int), 0)
 | [], acc, bs, hd, post, _, _, _ => by
   show (acc, (hd.length : Int), (0 : Int)) = _
   simp [entB]
 | s :: r, acc, bs, hd, post, h, hb, ha => by
   have h1 := dtx_put hd s (entB r ++ post) (h s (by simp))
   have e1 : bs = hd ++ (vput s.length ++ (s ++ (entB r ++ post))) := by rw [hb, entB_cons]; simp
   rw [← e1] at h1
   have ho : ¬ (0 < acc.length ∧ 0 ≤ ordT (acc.getD (acc.length - 1) []) s) := by
     rintro ⟨h2, h3⟩
     have hl : acc.length - 1 < acc.length := by omega
     have hm : acc.getD (acc.length - 1) [] ∈ acc := by simp [List.getD, hl]
     have := (List.pairwise_append.1 ha).2.2 _ hm s (by simp)
     omega
   show dnA bs (r.length + 1) _ acc = _
   rw [dnA_next h1 ho, show (hd.length : Int) + ((vput s.length ++ s).length : Int) = (((hd ++ (vput s.length ++ s)).length : Nat) : Int) from by simp only [List.length_append]; omega,
     dnA_put r (acc ++ [s]) bs (hd ++ (vput s.length ++ s)) post (fun x hx => h x (by simp [hx])) (by rw [e1]; simp) (by rw [List.append_assoc]; exact ha)]
   simp [entB_cons]
def meant (us : List Nat) (n : Nat) : Bool := decide (∀ u ∈ us, u < n) && (List.range n).all fun i => decide (i ∈ us)
theorem meant_iff {us : List Nat} {n : Nat} : meant us n = true ↔ (∀ u ∈ us, u < n) ∧ ∀ i, i < n → i ∈ us := by simp [meant]
def txtsOf (L : List (List Nat)) (us : List Nat) : List (List Nat) := us.map fun u => L.getD u []
def ddec (bs : List Nat) : List (List Nat) × Int :=
 if (vget bs 0).2.2 ≠ 0 then ([], (vget bs 0).2.2) else if 4096 < (vget bs 0).1 then ([], 4) else
 if (dnA bs (vget bs 0).1 (vget bs 0).2.1 []).2.2 ≠ 0 then ([], (dnA bs (vget bs 0).1 (vget bs 0).2.1 []).2.2) else
 ddecB bs (dnA bs (vget bs 0).1 (vget bs 0).2.1 []).1 (dnA bs (vget bs 0).1 (vget bs 0).2.1 []).2.1
where
 ddecB (bs : List Nat) (L : List (List Nat)) (a : Int) : List (List Nat) × Int :=
   if (vget bs a).2.2 ≠ 0 then ([], (vget bs a).2.2) else if 4096 < (vget bs a).1 then ([], 4) else
   ddecC L (bs.drop (vget bs a).2.1.toNat) (vget bs a).1
 ddecC (L : List (List Nat)) (r : List Nat) (n : Nat) : List (List Nat) × Int :=
   if unpE (pk 8 r) r.length (wfor L.length : Int) (n : Int) ≠ 0 then ([], unpE (pk 8 r) r.length (wfor L.length : Int) (n : Int)) else
   if meant (unpL (pk 8 r) r.length (wfor L.length : Int) (n : Int)) L.length = false then ([], 5) else (txtsOf L (unpL (pk 8 r) r.length (wfor L.length : Int) (n : Int)), 0)
theorem ddec_e1 {bs : List Nat} {k : Nat} {n e : Int} (h : vget bs 0 = (k, n, e)) (he : e ≠ 0) : ddec bs = ([], e) := by unfold ddec; rw [h]; exact if_pos he
theorem ddec_long {bs : List Nat} {k : Nat} {n : Int} (h : vget bs 0 = (k, n, 0)) (hk : 4096 < k) : ddec bs = ([], 4) := by unfold ddec; rw [h, if_neg (fun q => q rfl), if_pos hk]
theorem ddec_e2 {bs : List Nat} {k : Nat} {n m e : Int} {L : List (List Nat)} (h : vget bs 0 = (k, n, 0)) (hk : k ≤ 4096) (h2 : dnA bs k n [] = (L, m, e)) (he : e ≠ 0) : ddec bs = ([], e) := by
 unfold ddec; rw [h, if_neg (fun q => q rfl), if_neg (by simp only; omega)]; simp only [h2]; rw [if_pos he]
theorem ddec_go {bs : List Nat} {k : Nat} {n m : Int} {L : List (List Nat)} (h : vget bs 0 = (k, n, 0)) (hk : k ≤ 4096) (h2 : dnA bs k n [] = (L, m, 0)) : ddec bs = ddec.ddecB bs L m := by
 unfold ddec; rw [h, if_neg (fun q => q rfl), if_neg (by simp only; omega)]; simp only [h2]; rw [if_neg (fun q => q rfl)]
section
variable {bs : List Nat} {L : List (List Nat)} {a n e : Int} {k : Nat}
theorem ddecB_err (h : vget bs a = (k, n, e)) (he : e ≠ 0) : ddec.ddecB bs L a = ([], e) := by unfold ddec.ddecB; rw [h]; exact if_pos he
theorem ddecB_long (h : vget bs a = (k, n, 0)) (hk : 4096 < k) : ddec.ddecB bs L a = ([], 4) := by unfold ddec.ddecB; rw [h, if_neg (fun q => q rfl), if_pos hk]
theorem ddecB_go (h : vget bs a = (k, n, 0)) (hk : k ≤ 4096) : ddec.ddecB bs L a = ddec.ddecC L (bs.drop n.toNat) k := by unfold ddec.ddecB; rw [h, if_neg (fun q => q rfl), if_neg (by simp only; omega)]
theorem ddecC_err {r : List Nat} (h : unpE (pk 8 r) r.length (wfor L.length : Int) (k : Int) ≠ 0) : ddec.ddecC L r k = ([], unpE (pk 8 r) r.length (wfor L.length : Int) (k : Int)) := if_pos h
theorem ddecC_form {r us : List Nat} (h : unpE (pk 8 r) r.length (wfor L.length : Int) (k : Int) = 0) (h2 : unpL (pk 8 r) r.length (wfor L.length : Int) (k : Int) = us) (hm : meant us L.length = false) : ddec.ddecC L r k = ([], 5) := by
 unfold ddec.ddecC; rw [if_neg (fun q => q h), h2, if_pos hm]
theorem ddecC_yes {r us : List Nat} (h : unpE (pk 8 r) r.length (wfor L.length : Int) (k : Int) = 0) (h2 : unpL (pk 8 r) r.length (wfor L.length : Int) (k : Int) = us) (hm : meant us L.length = true) : ddec.ddecC L r k = (txtsOf L us, 0) := by
 unfold ddec.ddecC; rw [if_neg (fun q => q h), h2, if_neg (by rw [hm]; decide)]
end
theorem skN_of {L : List (List Nat)} {x : List Nat} {i : Nat} (ha : Asc L) (h : L[i]? = some x) : skN x L = i := by
 have h2 := skN_at ha (List.mem_of_getElem? h)
 obtain ⟨q1, e1⟩ := List.getElem?_eq_some_iff.1 h
 obtain ⟨q2, e2⟩ := List.getElem?_eq_some_iff.1 h2
 rcases Nat.lt_trichotomy (skN x L) i with g | g | g
 · have := List.pairwise_iff_getElem.1 ha _ _ q2 q1 g
   rw [e1, e2, ordT_self] at this; omega
 · exact g
 · have := List.pairwise_iff_getElem.1 ha _ _ q1 q2 g
   rw [e1, e2, ordT_self] at this; omega
theorem ddec_put {ss : List (List Nat)} (hn : ss.length ≤ 4096) (h : anyLong ss = false) : ddec (denc ss) = (ss, 0) := by
 have hL := dents_len ss.length ss rfl
 have hs := dents_short h
 have ha := dents_asc ss
 obtain ⟨L, hLe⟩ : ∃ L, L = dents ss := ⟨_, rfl⟩
 have hns : dcodes ss = ss.map (fun s => skN s L) := by rw [hLe]; rfl
 have hlt : ∀ u ∈ dcodes ss, u < L.length := by rw [hLe]; exact dcodes_lt
 have hcl := dcodes_len ss
 have hmem : ∀ x, x ∈ L ↔ x ∈ ss := fun x => by rw [hLe]; exact dents_mem
 have hden : denc ss = dencW L (dcodes ss) := by rw [hLe]; rfl
 rw [← hLe] at hL hs ha
 obtain ⟨ns, hnse⟩ : ∃ ns, ns = dcodes ss := ⟨_, rfl⟩
 rw [← hnse] at hns hlt hcl hden
 rw [hden]
 have hw : dencW L ns = vput L.length ++ (entB L ++ (vput ns.length ++ packB (wfor L.length) ns)) := by unfold dencW; simp
 have g1 : vget (dencW L ns) 0 = (L.length, (vsize L.length : Int), 0) := by
   have := vget_ok (bs := dencW L ns) (a := 0) (u := L.length) (k := vsize L.length) (Nat.zero_le _) (by
     rw [List.drop_zero, hw]
     exact vgetF_vput (by omega) _)
   simpa using this
 have g2 : dnA (dencW L ns) L.length (vsize L.length : Int) [] = (L, ((vput L.length ++ entB L).length : Int), 0) := by
   have := dnA_put L [] (dencW L ns) (vput L.length) (vput ns.length ++ packB (wfor L.length) ns) hs hw ha
   rw [vput_len] at this
   exact this
 have g3 : vget (dencW L ns) ((vput L.length ++ entB L).length : Int) = (ns.length, ((vput L.length ++ entB L).length : Int) + (vsize ns.length : Int), 0) := by
   refine vget_ok (by unfold dencW; simp only [List.length_append]; omega) ?_
   unfold dencW
   rw [List.drop_append_of_le_length (Nat.le_refl _), List.drop_length, List.nil_append]
   exact vgetF_vput (by omega) _
 have g4 : (dencW L ns).drop (((vput L.length ++ entB L).length : Int) + (vsize ns.length : Int)).toNat = packB (wfor L.length) ns := by
   have e : (((vput L.length ++ entB L).length : Int) + (vsize ns.length : Int)).toNat = ((vput L.length ++ entB L) ++ vput ns.length).length := by simp only [List.length_append, vput_len]; omega
   have e2 : dencW L ns = ((vput L.length ++ entB L) ++ vput ns.length) ++ packB (wfor L.length) ns := by unfold dencW; simp
   rw [e, e2, List.drop_append_of_le_length (Nat.le_refl _), List.drop_length, List.nil_append]
 have hwl := wfor_le (n := L.length) (by omega)
 obtain ⟨u1, u2, _⟩ := unp_pack (wd := wfor L.length) (vs := ns) (by omega) (by omega) (wfor_wd hlt)
 have hm : meant ns L.length = true := meant_iff.2 ⟨hlt, fun i hi => by
   have hi2 : L[i]? = some L[i] := List.getElem?_eq_getElem hi
   rw [hns]
   exact List.mem_map.2 ⟨L[i], (hmem _).1 (List.getElem_mem hi), skN_of ha hi2⟩⟩
 rw [ddec_go g1 (by omega) g2, ddecB_go g3 (by omega), g4, ddecC_yes u1 u2 hm]
 congr 1
 unfold txtsOf
 rw [hns, List.map_map]
 conv => rhs; rw [← List.map_id ss]
 refine List.map_congr_left fun x hx => ?_
 have := skN_at ha ((hmem x).2 hx)
 show L.getD (skN x L) [] = x
 simp [List.getD, this]
theorem ddec_ok {bs : List Nat} {ss : List (List Nat)} (hb : U8 bs) (h : ddec bs = (ss, 0)) : denc ss = bs ∧ ss.length ≤ 4096 ∧ anyLong ss = false ∧ ∀ s ∈ ss, U8 s ∧ s.length ≤ 200 := by
 rcases h1 : vget bs 0 with ⟨k, n, e⟩
 by_cases he : e = 0
 · subst he
   by_cases hk : 4096 < k
   · rw [ddec_long h1 hk] at h; injection h with _ h; exact absurd h (by decide)
   · obtain ⟨a1, a2, a3, a4, a5⟩ := vget_at hb h1
     rcases h2 : dnA bs k n [] with ⟨L, m, e2⟩
     by_cases he2 : e2 = 0
     · subst he2
       rw [ddec_go h1 (by omega) h2] at h
       obtain ⟨T, r1, r2, r3, r4, r5, r6, r7, r8⟩ := dnA_ok hb k (acc := []) List.Pairwise.nil (by omega) a3 h2
       rw [List.nil_append] at r1
       subst r1
       rcases h3 : vget bs m with ⟨k2, n2, e3⟩
       by_cases he3 : e3 = 0
       · subst he3
         by_cases hk2 : 4096 < k2
         · rw [ddecB_long h3 hk2] at h; injection h with _ h; exact absurd h (by decide)
         · obtain ⟨b1, b2, b3, b4, b5⟩ := vget_at hb h3
           rw [ddecB_go h3 (by omega)] at h
           obtain ⟨r, hr⟩ : ∃ r, r = bs.drop n2.toNat := ⟨_, rfl⟩
           rw [← hr] at h
           have hru : U8 r := by rw [hr]; exact u8_drop hb _
           by_cases hu : unpE (pk 8 r) r.length (wfor L.length : Int) (k2 : Int) = 0
           · have hus := unp_ok hu
             rw [Int.toNat_natCast, Int.toNat_natCast] at hus
             obtain ⟨us, huse⟩ : ∃ us, us = upk (wfor L.length) k2 (pk 8 r) := ⟨_, rfl⟩
             rw [← huse] at hus
             have hul : us.length = k2 := by rw [huse]; exact upk_len ..
             cases hm : meant us L.length with
             | false => rw [ddecC_form hu hus hm] at h; injection h with _ h; exact absurd h (by decide)
             | true =>
               rw [ddecC_yes hu hus hm] at h
               injection h with h _
               obtain ⟨m1, m2⟩ := meant_iff.1 hm
               have hget : ∀ u, u < L.length → L[u]? = some (L.getD u []) := fun u hu => by simp [List.getD, hu]
               have hmem : ∀ x, x ∈ ss ↔ x ∈ L := fun x => by
                 rw [← h]
                 unfold txtsOf
                 rw [List.mem_map]
                 constructor
                 · rintro ⟨u, hu, rfl⟩; exact List.mem_of_getElem? (hget u (m1 u hu))
                 · intro hx
                   obtain ⟨i, hi⟩ := List.getElem?_of_mem hx
                   have hil := (List.getElem?_eq_some_iff.1 hi).1
                   refine ⟨i, m2 i hil, ?_⟩
                   have := hget i hil
                   rw [hi] at this
                   injection this with this
                   exact this.symm
               have hd : dents ss = L := Asc.ext (dents_asc ss) r7 (fun x => by rw [dents_mem, hmem])
               have hc : dcodes ss = us := by
                 unfold dcodes
                 rw [hd, ← h]
                 unfold txtsOf
                 rw [List.map_map]
                 conv => rhs; rw [← List.map_id us]
                 refine List.map_congr_left fun u hu => ?_
                 exact skN_of r7 (hget u (m1 u hu))
               have hwl := wfor_le (n := L.length) (by omega)
               have hpk := (pack_unp (wd := wfor L.length) (n := k2) (by omega) (by omega) hru hu).2
               rw [← huse] at hpk
               have hpb : packB (wfor L.length) us = r := by rw [← hpk, (pack_good (by omega) (by omega) m1).2]
               have hlen : ss.length = k2 := by rw [← h]; unfold txtsOf; rw [List.length_map, hul]
               refine ⟨?_, by omega, ?_, fun s hs => ?_⟩
               · unfold denc
                 rw [hd, hc]
                 unfold dencW
                 rw [hul, hpb, r2, a5, r6, b5, hr]
                 have e1 : (0 : Int).toNat = 0 := rfl
                 rw [e1, List.drop_zero, Nat.sub_zero]
                 have e2 : (bs.take n.toNat) ++ ((bs.drop n.toNat).take (m.toNat - n.toNat)) = bs.take m.toNat := by
                   conv => rhs; rw [show m.toNat = n.toNat + (m.toNat - n.toNat) by omega, List.take_add]
                 have e3 : (bs.drop m.toNat).take (n2.toNat - m.toNat) ++ bs.drop n2.toNat = bs.drop m.toNat := by
                   conv => lhs; rhs; rw [show n2.toNat = m.toNat + (n2.toNat - m.toNat) by omega, ← List.drop_drop]
                   rw [List.take_append_drop]
                 rw [e2, e3, List.take_append_drop]
               · cases q : anyLong ss with
                 | false => rfl
                 | true =>
                   obtain ⟨s, hs, hl⟩ := anyLong_iff.1 q
                   have := (r8 s ((hmem s).1 hs)).1
                   omega
               · exact ⟨(r8 s ((hmem s).1 hs)).2, (r8 s ((hmem s).1 hs)).1⟩
           · rw [ddecC_err hu] at h; injection h with _ h; exact absurd h hu
       · rw [ddecB_err h3 he3] at h; injection h with _ h; exact absurd h he3
     · rw [ddec_e2 h1 (by omega) h2 he2] at h; injection h with _ h; exact absurd h he2
 · rw [ddec_e1 h1 he] at h; injection h with _ h; exact absurd h he
variable {w w' w0 : World} {base c n : Nat} {A : Option Addr} {ts ss : List Sl}
theorem isLong11_any (A : Option Addr) (n c : Nat) (w : World) :
   Calls Tryz.prog 182 #[.slice A n c] w fun e w' => e = .returned (.bool (decide (200 < n))) ∧ w' = w := by
 by_cases h : 200 < n
 · rw [decide_eq_true h]
   go_enter Tryz.func182, Tryz.ntmps182
   go_wp2
   go_ret
   exact ⟨by simp <;> omega, rfl⟩
 · rw [decide_eq_false h]
   go_enter Tryz.func182, Tryz.ntmps182
   go_wp2
   go_ret
   exact ⟨by simp <;> omega, rfl⟩
theorem indexLong11_any (A : Option Addr) (n c : Nat) (ss : List Sl) (w : World) (hx : RdL w A n ss) (hn : n ≤ 140737488355328) :
   Calls Tryz.prog 206 #[.slice A n c, .func (.func 182) #[] #[]] w fun e w' => ∃ r : Int, e = .returned (.int .i64 r) ∧ w' = w ∧ decide (0 ≤ r) = anyLong (bodies ss) := by
 have Hl := Lib.hid hx.1
 obtain ⟨R, hR⟩ : ∃ R, R = anyLong (bodies ss) := ⟨_, rfl⟩
 rw [← hR]
 have HR := Lib.hid hR
 clear hR
 go_enter Tryz.func206, Tryz.ntmps206
 go_wp2
 go_loopw [5, 8] (fun _ i wr => ∃ j : Nat, j ≤ n ∧ i = .int .i64 j ∧ wr = w ∧ Hid (anyLong (bodies (ss.take j)) = false)) (fun _ i _ => n - (intOf i).toNat)
 case atStart => exact ⟨0, Nat.zero_le _, rfl, rfl, rfl⟩
 case round =>
   obtain ⟨j, hj, rfl, rfl, HA⟩ := hrel
   by_cases hlt : j < n
   · obtain ⟨b, o, s, rfl, hf, h1⟩ := hx.at_ hlt
     obtain ⟨sA, sc, body⟩ := s
     simp only at h1
     have e0 : bodies (ss.take (j + 1)) = bodies (ss.take j) ++ [body] := by rw [List.take_add_one, hf]; unfold bodies; rw [List.map_append]; rfl
     by_cases hb : 200 < body.length
     · have hfin := Lib.hid (show true = R by rw [HR.out]; exact (anyLong_iff.2 ⟨body, List.mem_map.2 ⟨_, List.mem_of_getElem? hf, rfl⟩, hb⟩).symm)
       clear e0 hf
       obtain ⟨m, hm⟩ : ∃ m, m = body.length := ⟨_, rfl⟩
       rw [← hm] at h1 hb
       clear hm
       have hd : decide (200 < m) = true := decide_eq_true hb
       go_wp2_with (refine (isLong11_any _ _ _ _).mono ?_; rintro e w1 ⟨rfl, rfl⟩; rw [hd])
       go_ret
       exact ⟨_, rfl, rfl, by rw [← hfin.out]; exact decide_eq_true (by omega)⟩
     · have hN := Lib.hid (show anyLong (bodies (ss.take (j + 1))) = false by rw [e0, anyLong, List.any_append]; simp [anyLong] at HA; simp <;> first | omega | (refine ⟨HA.out, by omega⟩))
       clear e0 hf
       obtain ⟨m, hm⟩ : ∃ m, m = body.length := ⟨_, rfl⟩
       rw [← hm] at h1 hb
       clear hm
       have hd : decide (200 < m) = false := decide_eq_false hb
       go_wp2_with (refine (isLong11_any _ _ _ _).mono ?_; rintro e w1 ⟨rfl, rfl⟩; rw [hd])
       go_roundw
       case rel => exact ⟨j + 1, by omega, by go_num, by first | trivial | rfl, hN⟩
       case measure => simp [intOf]; omega
   · obtain rfl : j = n := by omega
     have hfin := Lib.hid (show false = R by rw [HR.out, ← HA.out, List.take_of_length_le (by rw [Hl.out]; exact Nat.le_refl _)])
     go_wp2
     go_ret
     exact ⟨_, rfl, by first | trivial | rfl, by rw [← hfin.out]; rfl⟩
theorem containsLong11_any (A : Option Addr) (n c : Nat) (ss : List Sl) (w : World) (hx : RdL w A n ss) (hn : n ≤ 140737488355328) :
   Calls Tryz.prog 181 #[.slice A n c, .func (.func 182) #[] #[]] w fun e w' => e = .returned (.bool (anyLong (bodies ss))) ∧ w' = w := by
 have H := Lib.hid (indexLong11_any A n c ss w hx hn)
 clear hx
 go_enter Tryz.func181, Tryz.ntmps181
 go_wp2_with fail
 refine H.out.mono ?_
 rintro e w1 ⟨r, rfl, rfl, hr⟩
 have Hr := Lib.hid hr
 clear hr
 go_wp2
 go_ret
 exact ⟨by rw [← Hr.out]; simp, by first | trivial | rfl⟩
theorem isWhole_any (j : Nat) (w : World) (hj : j ≤ 140737488355328) :
   Calls Tryz.prog 183 #[.int .i64 (j : Int)] w fun e w' => e = .returned (.bool (decide (j % 16 = 0))) ∧ w' = w := by
 by_cases h : j % 16 = 0
 · rw [decide_eq_true h]
   have hd : (((j : Int) % 16 : Int) == 0) = true := by rw [beq_iff_eq]; omega
   go_enter Tryz.func183, Tryz.ntmps183
   go_wp2
   go_ret
   exact ⟨by simp <;> omega, rfl⟩
 · rw [decide_eq_false h]
   go_enter Tryz.func183, Tryz.ntmps183
   go_wp2
   go_ret
   exact ⟨by simp <;> omega, rfl⟩
def pencR (ss : List (List Nat)) : List Nat × Int := if 4096 < ss.length ∨ anyLong ss = true then ([], 4) else (penc ss, 0)
theorem pencR_bad {ss : List (List Nat)} (h : 4096 < ss.length ∨ anyLong ss = true) : pencR ss = ([], 4) := if_pos h
theorem pencR_good {ss : List (List Nat)} (h : ss.length ≤ 4096) (h2 : anyLong ss = false) : pencR ss = (penc ss, 0) := if_neg (fun q => by
 rcases q with q | q
 · omega
 · rw [h2] at q; cases q)
def PEncPost (R : List Nat × Int) (w : World) (e : Ending) (w' : World) : Prop :=
 ∃ A' c', e = .returned (.tuple #[.slice A' R.1.length c', .int .i64 R.2]) ∧ Own .u8 5 w' w.heap.size A' c' R.1 ∧ Ext w w'
theorem PEncPost.bad {w w' : World} (R : List Nat × Int) {E : Int} (h : R = ([], E)) (he : Ext w w') : PEncPost R w (.returned (.tuple #[.slice none 0 0, .int .i64 E])) w' := by
 subst h
 exact ⟨none, 0, rfl, Own.nil .., he⟩
theorem PEncPost.good {w w' : World} (R : List Nat × Int) {xs : List Nat} {A : Option Addr} {m c : Nat} (h : R = (xs, 0)) (hm : xs.length = m) (ho : Own .u8 5 w' w.heap.size A c xs) (he : Ext w w') : PEncPost R w (.returned (.tuple #[.slice A m c, .int .i64 0])) w' := by
 subst h
 subst hm
 exact ⟨A, c, rfl, ho, he⟩
theorem wdt_one (v : Nat) : wdt [v] = bl v := by simp [wdt]
theorem widthFor_any (n : Nat) (w : World) (hn : n ≤ 1000000) :
   Calls Tryz.prog 178 #[.int .i64 (n : Int)] w fun e w' => e = .returned (.int .i64 (wfor n)) ∧ Ext w w' := by
 by_cases h : n = 0
 · subst h
   go_enter Tryz.func178, Tryz.ntmps178
   go_wp2
   go_ret
   exact ⟨rfl, Ext.refl w⟩
 · obtain ⟨m, rfl⟩ : ∃ m, n = m + 1 := ⟨n - 1, by omega⟩
   have HW := Lib.hid (show wfor (m + 1) = bl m by unfold wfor; rw [if_neg h, Nat.add_sub_cancel])
   have hz : (((m : Int) + 1) == 0) = false := by rw [beq_eq_false_iff_ne]; omega
   clear h
   go_enter Tryz.func178, Tryz.ntmps178
   go_wp2_with fail
   refine (width_any _ 1 1 [m] _ (Rd.lit_at .u64 69 w [m] rfl rfl) (by intro v hv; simp at hv; omega) (by omega)).mono ?_
   rintro e w1 ⟨rfl, rfl⟩
   rw [wdt_one, ← HW.out]
   go_wp2_with fail
   go_ret
   exact ⟨rfl, (Ext.refl w).alloc _⟩
set_option maxHeartbeats 400000 in
theorem toPack_any (A : Option Addr) (n c : Nat) (ns : List Nat) (w : World) (hx : Rd .i64 w A n ns) (hn : n ≤ 1000000) (hs : ∀ v ∈ ns, v ≤ 1000000) :
   Calls Tryz.prog 179 #[.slice A n c] w fun e w' => ∃ A' c', e = .returned (.slice A' n c') ∧ Own .u64 69 w' w.heap.size A' c' ns ∧ Ext w w' := by
 have hl := hx.len
 have Hl := Lib.hid hl
 clear hl
 go_enter Tryz.func179, Tryz.ntmps179
 go_wp2_with (first | (at_make; refine wpList_mk .u64 69 rfl _ _ 72 rfl 8 Tryz.underlying72 Tryz.infoU64 _ _ n rfl rfl rfl rfl (by omega) (by omega) ?_; intro w7 hown7 he7) | fail)
 have h0 : Own .u64 69 w7 w.heap.size (some ⟨w.heap.size, 0, none⟩) n (ns.take 0 ++ List.replicate (n - 0) 0) := hown7
 have H0 := Lib.hid h0
 have He7 := Lib.hid he7
 clear hown7 h0 he7
 go_loopw [4, 5, 11] (fun _ _ i wr => ∃ q : Nat, q ≤ n ∧ i = .int .i64 q ∧ Hid (Own .u64 69 wr w.heap.size (some ⟨w.heap.size, 0, none⟩) n (ns.take q ++ List.replicate (n - q) 0)) ∧ Hid (Ext w wr)) (fun _ _ i _ => n - (intOf i).toNat)
 case atStart => exact ⟨0, Nat.zero_le _, rfl, H0.out, He7.out⟩
 case round =>
   clear H0 He7
   obtain ⟨q, hq, rfl, HNs, HE5⟩ := hrel
   by_cases hlt2 : q < n
   · obtain ⟨b, o, rfl, hb, hc⟩ := (hx.ext HE5.out).at_ hlt2
     have hvs : ns[q]? = some (ns.getD q 0) := by simp [List.getD, show q < ns.length by rw [Hl.out]; exact hlt2]
     have hv := hs _ (List.mem_of_getElem? hvs)
     obtain ⟨f, hfv⟩ : ∃ f, f = ns.getD q 0 := ⟨_, rfl⟩
     rw [← hfv] at hc hvs hv
     have hlen7 : (ns.take q ++ List.replicate (n - q) 0).length = n := by rw [List.length_append, List.length_take, List.length_replicate, Hl.out]; omega
     obtain ⟨b2, hb2, hbase, hblt, hcell, hfro, hset⟩ := HNs.out.at_ (j := q) (by rw [hlen7]; exact hlt2)
     injection hb2 with hb2
     injection hb2 with hb2
     subst hb2
     obtain ⟨hs1, hs2⟩ := hset f
     have hstep : (ns.take q ++ List.replicate (n - q) 0).set q f = ns.take (q + 1) ++ List.replicate (n - (q + 1)) 0 := by
       have hlq : (ns.take q).length = q := by rw [List.length_take, Hl.out]; omega
       rw [take_nextG ns q hvs, List.set_append_right _ _ (by omega), hlq, Nat.sub_self, show n - q = (n - (q + 1)) + 1 by omega, List.replicate_succ, List.set_cons_zero, List.append_assoc]
       rfl
     rw [hstep] at hs1
     have Hs1 := Lib.hid hs1
     have HE6 := Lib.hid (HE5.out.setCell (p := ⟨w.heap.size, q, none⟩) (Nat.le_refl _) (.int .u64 (f : Int)))
     obtain ⟨old, hold⟩ : ∃ v, v = Value.int .u64 (((ns.take q ++ List.replicate (n - q) 0).getD q 0 : Nat) : Int) := ⟨_, rfl⟩
     rw [← hold] at hcell
     clear hold hs1 hs2 hset hstep hlen7 hvs hfv hbase
     go_wp2_with fail
     go_roundw
     case rel => exact ⟨q + 1, by omega, by go_num, Hs1.out, HE6.out⟩
     case measure => simp [intOf]; omega
   · obtain rfl : n = q := by omega
     have hN2 := HNs.out
     rw [Nat.sub_self, List.replicate_zero, List.append_nil, List.take_of_length_le (by rw [Hl.out]; exact Nat.le_refl _)] at hN2
     have HNf := Lib.hid hN2
     clear hN2
     go_wp2_with fail
     go_ret
     exact ⟨_, _, rfl, HNf.out, HE5.out⟩
set_option maxHeartbeats 800000 in
theorem putEntries_any (A : Option Addr) (n c : Nat) (us : List Sl) (w : World) (hx : RdL w A n us) (hr : ∀ s ∈ us, Rd .u8 w s.A s.body.length s.body) (hn : n ≤ 4096) (hs : ∀ s ∈ us, s.body.length ≤ 200) :
   Calls Tryz.prog 180 #[.slice A n c] w fun e w' => ∃ A' c', e = .returned (.slice A' (vput n ++ entB (bodies us)).length c') ∧ Own .u8 5 w' w.heap.size A' c' (vput n ++ entB (bodies us)) ∧ Ext w w' := by
 have Hl := Lib.hid hx.1
 have hbl : (bodies us).length = n := by rw [bodies_len, Hl.out]
 have hVl := entB_len (bodies us) (fun x h => by obtain ⟨s, hs2, rfl⟩ := List.mem_map.1 h; exact hs s hs2)
 rw [hbl] at hVl
 obtain ⟨V, hV⟩ : ∃ V, V = vput n ++ entB (bodies us) := ⟨_, rfl⟩
 have hvn := vput_le (u := n) (by omega)
 have hVl2 : V.length ≤ 1000000 := by rw [hV, List.length_append]; omega
 rw [← hV]
 have HV := Lib.hid hV
 have HVl := Lib.hid hVl2
 clear hV hVl hVl2 hbl
 go_enter Tryz.func180, Tryz.ntmps180
 go_wp2_with fail
 refine (put_any n _ (by omega)).mono ?_
 rintro e w2 ⟨A2, c2, rfl, hown2, he2⟩
 have HP0 := Lib.hid (show vput n ++ entB ((bodies us).drop 0) = V by rw [HV.out]; rfl)
 go_wp2_with fail
 go_loopw [3, 5, 12] (fun v _ i wr => ∃ (j : Nat) (P : List Nat) (A' : Option Addr) (c' : Nat), j ≤ n ∧ i = .int .i64 j ∧ v = .slice A' P.length c' ∧ Hid (P ++ entB ((bodies us).drop j) = V) ∧ Own .u8 5 wr w.heap.size A' c' P ∧ Ext w wr) (fun _ _ i _ => n - (intOf i).toNat)
 case atStart => exact ⟨0, _, A2, c2, Nat.zero_le _, rfl, rfl, HP0.out, hown2, he2⟩
 case round =>
   clear HP0 hown2 he2
   obtain ⟨j, P, A', c', hj, rfl, rfl, HP, hown, he⟩ := hrel
   by_cases hlt : j < n
   · obtain ⟨b, o, s, rfl, hf, hc⟩ := (hx.ext he).at_ hlt
     have hst := entB_step (bodies_at hf)
     have hsl := hs s (List.mem_of_getElem? hf)
     have hrs := hr s (List.mem_of_getElem? hf)
     obtain ⟨sA, sc, body⟩ := s
     simp only at hc hsl hst hrs
     have hPl : P.length ≤ 1000000 := by have := HVl.out; rw [← HP.out, List.length_append] at this; omega
     have hN : (P ++ vput body.length ++ body) ++ entB ((bodies us).drop (j + 1)) = V := by
       rw [← HP.out, hst]
       simp
     have HN := Lib.hid hN
     obtain ⟨m, hm⟩ : ∃ m, m = body.length := ⟨_, rfl⟩
     rw [← hm] at hc hsl hrs HN
     have Hm := Lib.hid hm
     have Hrs := Lib.hid hrs
     clear hN hst hf hm hrs HP
     go_wp2_with fail
     refine (put_any m _ (by omega)).mono ?_
     rintro e w4 ⟨A4, c4, rfl, hown4, he4⟩
     have hown3 := hown.ext he4
     have hE4 := he.trans he4
     have hv1 := vput_le (u := m) (by omega)
     have hL5 : (P ++ vput m).length = P.length + (vput m).length := List.length_append
     go_wp2_with (first
       | (at_builtin; refine wpList_pushes .u8 5 rfl _ _ 22 rfl _ 1 Tryz.underlying22 Tryz.infoU8 rfl hown3 P.length rfl rfl rfl hown4.rd (by omega) (by omega) hE4 hE4.size ?_; intro A5 c5 w5 hown5 hb5 hz5)
       | (at_builtin; refine wpList_pushes .u8 5 rfl _ _ 22 rfl _ 1 Tryz.underlying22 Tryz.infoU8 rfl hown5 _ hL5 rfl rfl (Hrs.out.ext hb5) (by omega) (by omega) hb5 hz5 ?_; intro A6 c6 w6 hown6 hb6 hz6)
       | fail)
     go_roundw
     case rel => exact ⟨j + 1, _, A6, c6, by omega, by go_num, by rw [List.length_append, List.length_append, ← Hm.out], HN.out, hown6, hb6⟩
     case measure => simp [intOf]; omega
   · obtain rfl : j = n := by omega
     have hfin := Lib.hid (show P = V by rw [← HP.out, List.drop_of_length_le (by rw [bodies_len, Hl.out]; exact Nat.le_refl _)]; simp [entB])
     go_wp2
     go_ret
     exact ⟨A', c', by rw [hfin.out]; rfl, by rw [← hfin.out]; exact hown, he⟩
set_option maxHeartbeats 1600000 in
theorem dencode_any (A : Option Addr) (n c : Nat) (ss : List Sl) (w : World) (hx : TxL w A n ss) (hn : n ≤ 140737488355328) :
   Calls Tryz.prog 145 #[.slice A n c] w (PEncPost (dencR (bodies ss)) w) := by
 have HI := Lib.hid (pindex_any A n c ss w hx hn)
 have hbl : (bodies ss).length = n := by rw [bodies_len, hx.len]
 by_cases hbad : 4096 < (bodies ss).length ∨ anyLong (bodies ss) = true
 · have HR := Lib.hid (dencR_bad hbad)
   rw [idxR_bad hbad] at HI
   clear hbad hx hbl
   go_enter Tryz.func145, Tryz.ntmps145
   go_wp2_with fail
   refine HI.out.mono ?_
   rintro e w1 ⟨A1, c1, us, B, cB, rfl, hb, _, _, _, he1⟩
   simp only at hb ⊢
   rw [show us.length = 0 by rw [← bodies_len, hb]; rfl, show ([] : List Nat).length = 0 from rfl]
   clear hb
   go_wp2_with fail
   go_ret2
   exact PEncPost.bad _ HR.out he1
 · have hgn : (bodies ss).length ≤ 4096 := by
     rcases Nat.lt_or_ge 4096 (bodies ss).length with q | q
     · exact absurd (.inl q) hbad
     · exact q
   have hgl : anyLong (bodies ss) = false := by
     cases q : anyLong (bodies ss) with
     | true => exact absurd (.inr q) hbad
     | false => rfl
   have HR := Lib.hid (dencR_good hgn hgl)
   rw [idxR_good hgn hgl, show (bodies ss).map (fun s => skN s (dents (bodies ss))) = dcodes (bodies ss) from rfl] at HI
   have hdl := denc_len hgn hgl
   have hLn := dents_len _ (bodies ss) rfl
   have hns := dcodes_lt (ss := bodies ss)
   have hcl := dcodes_len (bodies ss)
   have hshort := dents_short hgl
   obtain ⟨hp1, hp2⟩ := pack_good (by omega) (by omega) hns
   obtain ⟨L, hL⟩ : ∃ L, L = dents (bodies ss) := ⟨_, rfl⟩
   obtain ⟨ns, hnse⟩ : ∃ ns, ns = dcodes (bodies ss) := ⟨_, rfl⟩
   have hden : denc (bodies ss) = (vput L.length ++ entB L) ++ (vput ns.length ++ packB (wfor L.length) ns) := by rw [hL, hnse]; rfl
   rw [← hL] at HI hLn hns hp1 hp2 hshort
   rw [← hnse] at HI hns hp1 hp2 hcl
   obtain ⟨V, hV⟩ : ∃ V, V = denc (bodies ss) := ⟨_, rfl⟩
   rw [← hV] at HR hdl hden
   obtain ⟨m, hm⟩ : ∃ m, m = L.length := ⟨_, rfl⟩
   obtain ⟨k, hk⟩ : ∃ k, k = ns.length := ⟨_, rfl⟩
   rw [← hm] at hns hp1 hp2 hden hLn
   rw [← hk] at hden hcl
   have hcat : ([vput m ++ entB L, vput k, packB (wfor m) ns] : List (List Nat)).flatten = V := by rw [hden]; simp
   have Hcat := Lib.hid hcat
   have Hm := Lib.hid hm
   have Hk := Lib.hid hk
   have Hp1 := Lib.hid hp1
   have Hp2 := Lib.hid hp2
   have Hns := Lib.hid (show ∀ v ∈ ns, v ≤ 1000000 from fun v h => by have := hns v h; omega)
   have HnsU := Lib.hid (show U64 ns from fun v h => by have := hns v h; omega)
   have Hshort := Lib.hid hshort
   have hm4 : m ≤ 4096 := by omega
   have hk4 : k ≤ 4096 := by omega
   clear hbad hx hbl hL hnse hden hV hm hk hcat hp1 hp2 hns hshort hgn hgl hLn hcl
   go_enter Tryz.func145, Tryz.ntmps145
   go_wp2_with fail
   refine HI.out.mono ?_
   rintro e w1 ⟨A1, c1, us, B, cB, rfl, hb, hown, htx, hnum, he1⟩
   simp only at hb hnum ⊢
   have hul : us.length = m := by rw [Hm.out, ← hb, bodies_len]
   have hrd := hown.rdL
   rw [hul] at hrd ⊢
   rw [← Hk.out]
   have hnr := hnum.rd' Hk.out.symm
   have HPe := Lib.hid (fun (W : World) (hW : Ext w1 W) => putEntries_any A1 m c1 us W (hrd.ext hW) (fun s hs => (htx.rd s hs).ext hW) hm4 (fun s hs => Hshort.out _ (by rw [← hb]; exact List.mem_map.2 ⟨s, hs, rfl⟩)))
   rw [hb] at HPe
   clear hb hown htx hul hrd hnum
   go_wp2_with fail
   refine (widthFor_any m _ (by omega)).mono ?_
   rintro e w2 ⟨rfl, he2⟩
   go_wp2_with fail
   refine (toPack_any B k cB ns _ (hnr.ext he2) (by omega) Hns.out).mono ?_
   rintro e w3 ⟨A3, c3, rfl, hown3, he3⟩
   go_wp2_with fail
   refine (pack_any A3 k c3 (wfor m : Int) ns _ (hown3.rd' Hk.out.symm) HnsU.out (by omega)).mono ?_
   rintro e w4 ⟨A4, c4, rfl, hown4, he4⟩
   rw [Hp2.out] at hown4 ⊢
   rw [Hp1.out]
   obtain ⟨pl, hpl⟩ : ∃ pl, (packB (wfor m) ns).length = pl := ⟨_, rfl⟩
   rw [hpl]
   have hE4 : Ext w1 w4 := (he2.trans he3).trans he4
   have hr4 := hown4.rd' hpl
   clear hown3 hown4
   go_wp2_with fail
   refine (HPe.out _ hE4).mono ?_
   rintro e w5 ⟨A5, c5, rfl, hown5, he5⟩
   obtain ⟨el, hel⟩ : ∃ el, (vput m ++ entB L).length = el := ⟨_, rfl⟩
   rw [hel]
   have hr5 := hown5.rd' hel
   clear hown5
   go_wp2_with fail
   refine (put_any k _ (by omega)).mono ?_
   rintro e w6 ⟨A6, c6, rfl, hown6, he6⟩
   have hr6 := hown6.rd
   have hX := (Ext.refl w6).alloc (.cells #[.slice A5 el c5, .slice A6 (vput k).length c6, .slice A4 pl c4] 22)
   go_wp2_with fail
   refine (concat_any _ 3 3 [vput m ++ entB L, vput k, packB (wfor m) ns] _ (RdSS.three 22 w6 rfl (hr5.ext he6) hr6 ((hr4.ext he5).ext he6)) (by rw [Hcat.out]; omega) (by omega)).mono ?_
   rintro e w7 ⟨A7, c7, rfl, hown7, he7⟩
   rw [Hcat.out] at hown7 ⊢
   have hE7 : Ext w w7 := ((((he1.trans hE4).trans he5).trans he6).trans hX).trans he7
   have hb7 := (((he1.trans hE4).trans he5).trans he6).trans hX
   go_wp2_with fail
   go_ret2
   exact PEncPost.good _ HR.out rfl (hown7.mono hb7.size) hE7
def Ci.sb (x : Ci) : Sl := ⟨x.A, x.c, x.txt⟩
def CapX (xs : List Ci) : Prop := ∀ x ∈ xs, x.txt.length ≤ x.c ∧ x.c ≤ 9223372036854775807
theorem wpList_mkS {P : Program} {w : World} {ops : Array Oper} {rest : List Oper} {o : Oper} {a : Act} {Q : Exit → Act → World → Prop} (e : TypeId) (hgd : o.guard = none) (l c : Operand) (t : TypeId)
   (hop : o.op = Op.makeSlice t l c) (bytes : Nat) (ht : P.underlying t = some (.slice e)) (hi : (P.info? e).map (fun i => (i.zero, i.size, i.bytes)) = some (some (.slice none 0 0), 1, bytes))
   (kl kc : IntKind) {L C : Int} (n : Nat) (hl : a.eval l = .int kl L) (hc : a.eval c = .int kc C) (hL : L = (n : Int)) (hC : C = (n : Int)) (hb : bytes * n ≤ 281474976710656) (hn : n ≤ 9223372036854775807)
   (h : ∀ w', OwnG shS e w' w.heap.size (some ⟨w.heap.size, 0, none⟩) n (List.replicate n (⟨none, 0, []⟩ : Sl)) → Ext w w' → wpList P ops Q rest (a.put o.dst (.slice (some ⟨w.heap.size, 0, none⟩) n n)) w') :
   wpList P ops Q (o :: rest) a w := by
 obtain ⟨i, hi0, hz, hsz, hbs⟩ := info_parts hi
 refine wpList_make_full w hgd l c t hop w.heap.size e i (.slice none 0 0) 1 ht hi0 hz hsz kl kc L C n hl hc hL hC (by rw [hbs]; exact hb) (by unfold maxLen; omega) (Nat.le_refl _) ?_
 intro w' h1 h2
 refine h w' ?_ ⟨h2.os, h2.tape, h2.output, h2.size, fun j hj => h2.block j hj (by simp)⟩
 unfold OwnG
 have e1 : (madeCells (Value.slice none 0 0).cells (n * 1)).toList = List.replicate n (Value.slice none 0 0) := by
   rw [Nat.mul_one]; exact toList_madeCells_one _ _
 rw [e1] at h1
 have e2 : shS.all (List.replicate n (⟨none, 0, []⟩ : Sl)) = List.replicate n (Value.slice none 0 0) := by
   simp [Shape.all, shS, Sl.v]
 rw [e2, List.length_replicate]
 exact h1
theorem set_nextS {T : Type} {xs : List T} {n j : Nat} {x z : T} (hl : xs.length = n) (h : j < n) (hx : xs[j]? = some x) : (xs.take j ++ List.replicate (n - j) z).set j x = xs.take (j + 1) ++ List.replicate (n - (j + 1)) z := by
 have h1 : (xs.take j).length = j := by rw [List.length_take]; omega
 rw [List.set_append_right _ _ (by omega), h1, Nat.sub_self, show n - j = (n - (j + 1)) + 1 from by omega, List.replicate_succ, List.set_cons_zero, List.take_add_one, hx]
 simp
set_option maxHeartbeats 2000000 in
theorem toTexts_any (A : Option Addr) (n c : Nat) (xs : List Ci) (w : World) (hx : RdX w A n xs) (hn : n ≤ 4398046511104) :
   Calls Tryz.prog 146 #[.slice A n c] w fun e w' => ∃ A' c', e = .returned (.slice A' n c') ∧ OwnT w' w.heap.size A' c' (xs.map Ci.sb) ∧ Ext w w' := by
 have Hx := Lib.hid hx
 have Hl := Lib.hid hx.1
 have Hml := Lib.hid (show (xs.map Ci.sb).length = n by rw [List.length_map]; exact hx.1)
 clear hx
 go_enter Tryz.func146, Tryz.ntmps146
 go_wp2_with (first | (at_make; refine wpList_mkS 22 rfl _ _ 33 rfl 24 Tryz.underlying33 Tryz.infoS _ _ n rfl rfl rfl rfl (by omega) (by omega) ?_; intro w7 hown7 he7) | fail)
 have hz7 := he7.size
 have hb7 := (hown7.block _ rfl).2
 go_loopw [11] (fun i wr => ∃ j : Nat, j ≤ n ∧ i = .int .i64 (j : Int) ∧ OwnG shS 22 wr w.heap.size (some ⟨w.heap.size, 0, none⟩) n ((xs.map Ci.sb).take j ++ List.replicate (n - j) ⟨none, 0, []⟩) ∧ Ext w wr ∧ w.heap.size < wr.heap.size) (fun i _ => n - (intOf i).toNat)
 case atStart => exact ⟨0, Nat.zero_le _, rfl, by simpa using hown7, he7, hb7⟩
 case round =>
   clear hown7 he7
   obtain ⟨j, hj, rfl, hO, hE, hsz⟩ := hrel
   by_cases hlt : j < n
   · obtain ⟨b, o, x, rfl, hb, hxj, hc0, hc1, hc2, hin⟩ := (Hx.out.ext hE).at_ hlt
     have hsl : (xs.map Ci.sb)[j]? = some x.sb := by rw [List.getElem?_map, hxj]; rfl
     have Hn := Lib.hid (set_nextS (z := (⟨none, 0, []⟩ : Sl)) Hml.out hlt hsl)
     have hg := heap_cell (w := wr) x rfl
     have hO2 := hO.ext ((Ext.refl wr).alloc (.cells #[.bool x.nul, .int .i64 x.num, .slice x.A x.txt.length x.c] 61))
     obtain ⟨b', y, e', hb1, hb2, hy, hcell, hfr, hset⟩ := hO2.at_ (j := j) (by rw [List.length_append, List.length_take, List.length_replicate, Hml.out]; omega)
     injection e' with e'
     injection e' with e1
     subst e1
     have hf0 := hfr j
     have ej : j * shS.sz + 0 = j := by show j * 1 + 0 = j; omega
     have hold : ∃ v, (wr.alloc (.cells #[.bool x.nul, .int .i64 x.num, .slice x.A x.txt.length x.c] 61)).cell? ⟨w.heap.size, j, none⟩ = some v := ⟨y.v, by have := hcell 0 y.v rfl; rwa [ej] at this⟩
     obtain ⟨v0, hold⟩ := hold
     obtain ⟨_, _, e4, _, _, _, _, _, hset4⟩ := hO.at_ (j := j) (by rw [List.length_append, List.length_take, List.length_replicate, Hml.out]; omega)
     injection e4 with e4
     injection e4 with e4
     subst e4
     obtain ⟨hO5, hg5⟩ := hset4 0 x.sb (.slice x.A x.txt.length x.c) (by decide) rfl
     rw [ej] at hO5 hg5
     rw [Hn.out] at hO5
     have HO3 := Lib.hid hO5
     have HE3 := Lib.hid (grownBy_ext hE hg5 (fun x e => by have e2 : w.heap.size = x := Option.some.inj e; omega))
     have hs3 := hg5.size
     obtain ⟨nu, num, xA, xc, xt⟩ := x
     simp only at hc0 hc1 hc2 hg HO3 HE3 hold hf0 hs3 ⊢
     obtain ⟨hg0, hg1, hg2⟩ := hg
     clear hO hO2 hO5 hg5 hset hset4 hcell hfr hin hxj hsl
     go_wp2_with fail
     go_roundw
     case rel => exact ⟨j + 1, hlt, by go_num, HO3.out.ext ((Ext.refl _).alloc _), HE3.out.alloc _, by simp; omega⟩
     case measure => simp [intOf]; omega
   · obtain rfl : j = n := by omega
     rw [List.take_of_length_le (Nat.le_of_eq Hml.out), Nat.sub_self, List.replicate_zero, List.append_nil] at hO
     go_wp2
     go_ret
     exact ⟨_, _, rfl, hO, hE⟩
theorem RdX.txl {w w' : World} {A A' : Option Addr} {n base c' : Nat} {xs : List Ci} (hx : RdX w A n xs) (hc : CapX xs) (ho : OwnT w' base A' c' (xs.map Ci.sb)) (hn : xs.length = n) (he : Ext w w') : TxL w' A' n (xs.map Ci.sb) := by
 have hr := OwnG.rdL ho
 rw [List.length_map, hn] at hr
 refine ⟨hr, fun s hs => ?_⟩
 obtain ⟨x, hxm, rfl⟩ := List.mem_map.1 hs
 obtain ⟨j, hj, e⟩ := List.getElem_of_mem hxm
 obtain ⟨b, o, y, _, _, hy, _, _, _, hin⟩ := hx.at_ (j := j) (by omega)
 rw [List.getElem?_eq_getElem hj, e] at hy
 have hy2 := Option.some.inj hy
 subst hy2
 exact ⟨hin.rd.ext he, hin.u8, (hc x hxm).1, (hc x hxm).2, by have := hin.len; show x.txt.length ≤ _; omega⟩
end Go.Proofs.YthibbgmicmfkfaaGreat
