/-
  Layer 10: the program's Index.
-/
import Derived.Test.YtpdppldkebfikaaDM1
namespace Go.Proofs.Ytpdppldkebfikaa
open Go.RowKit Go.Maps Go.WideMaps

theorem bodies_mem_of' {w : World} {A : Option Addr} {n : Nat} {ss : List Sl} (h : TxL w A n ss) : ∀ x ∈ bodies ss, U8 x := by
  intro x hx
  obtain ⟨s, hs, rfl⟩ := List.mem_map.1 hx
  exact (h.each s hs).u8
theorem Ext.grownBy' {w w' : World} (h : Ext w w') : w.grownBy w' none := ⟨h.os, h.tape, h.output, h.size, fun i hi _ => h.block i hi⟩

set_option maxHeartbeats 3200000 in
set_option maxRecDepth 100000 in
theorem pindex_any (A : Option Addr) (n c : Nat) (ss : List Sl) (w : World) (hx : TxL w A n ss) (hn : n ≤ 140737488355328) :
    Calls Try.prog 13 #[.slice A n c] w (IdxPost (idxR (bodies ss)) w) := by
  have Hl := Lib.hid hx.len
  have hbl : (bodies ss).length = n := by rw [bodies_len, Hl.out]
  have HL := Lib.hid (containsLong10_any A n c ss w hx.rd hn)
  by_cases hbig : 4096 < n
  · have HR := Lib.hid (idxR_bad (ss := bodies ss) (.inl (by rw [hbl]; exact hbig)))
    clear hbl HL
    go_enter Try.func13, Try.ntmps13
    go_wp2_with fail
    go_ret3
    exact IdxPost.bad _ HR.out (Ext.refl w)
  · cases hany : anyLong (bodies ss) with
    | true =>
      have HR := Lib.hid (idxR_bad (.inr hany))
      rw [hany] at HL
      clear hbl hany
      go_enter Try.func13, Try.ntmps13
      go_wp2_with fail
      refine HL.out.mono ?_
      rintro e w1 ⟨rfl, rfl⟩
      go_wp2
      go_ret3
      exact IdxPost.bad _ HR.out (Ext.refl _)
    | false =>
      have HR := Lib.hid (idxR_good (by rw [hbl]; omega) hany)
      have hb4 : n ≤ 4096 := by omega
      rw [hany] at HL
      have Hbl := Lib.hid hbl
      have Hany := Lib.hid hany
      have Hx := Lib.hid hx
      obtain ⟨L, hL⟩ : ∃ L, L = dents (bodies ss) := ⟨_, rfl⟩
      rw [← hL] at HR
      have HLe := Lib.hid hL
      have hmk := run_mkM
      clear hbl hany hx hL
      go_enter Try.func13, Try.ntmps13
      go_wp2_with fail
      refine HL.out.mono ?_
      rintro e w1 ⟨rfl, rfl⟩
      obtain ⟨w, hw⟩ : ∃ w, w = w1 := ⟨_, rfl⟩
      subst hw
      go_wp2_with fail
      clear hmk
      obtain ⟨g, hg⟩ : ∃ g, g = w.heap.size := ⟨_, rfl⟩
      have hown0 := World.ownsMap_made (H := Unit) w Try.prog 9 (elI Unit)
      rw [← hg] at hown0 ⊢
      have Hg := Lib.hid hg
      have Hown0 := Lib.hid hown0
      clear hown0 hg
      go_loopw [7, 24] (fun _ i wr => ∃ j : Nat, j ≤ n ∧ i = .int .i64 j ∧ Hid (wr.ownsMap Try.prog 9 (elI Unit) g j (D0of ((bodies ss).take j))) ∧ Hid (Ext w wr)) (fun _ i _ => n - (intOf i).toNat)
      case atStart => exact ⟨0, Nat.zero_le _, rfl, Hown0.out, (Ext.refl w).alloc _⟩
      case round =>
        clear Hown0
        obtain ⟨j, hj, rfl, HM, HE⟩ := hrel
        by_cases hlt : j < n
        · obtain ⟨b, o, s, rfl, hf, hc, hs⟩ := (Hx.out.ext HE.out).at_ hlt
          have hbj := bodies_at hf
          have htk : (bodies ss).take (j + 1) = (bodies ss).take j ++ [s.body] := by
            obtain ⟨h1, h2⟩ := List.getElem?_eq_some_iff.1 hbj
            rw [List.take_succ_eq_append_getElem h1, h2]
          have hrd := hs.rd
          have hln := hs.len
          obtain ⟨sA, sc, body⟩ := s
          simp only at hc hrd hln htk
          have kst := conv_str (c := sc) hrd
          have Hk := Lib.hid (key_of body hln)
          have HD := Lib.hid (show D0of ((bodies ss).take (j + 1)) = (D0of ((bodies ss).take j)).put (keyL body) (.lit (.int .i64 0)) by rw [htk, D0of_snoc])
          obtain ⟨bl, hbl⟩ : ∃ bl, bl = body.length := ⟨_, rfl⟩
          rw [← hbl] at hc kst
          clear hf hbj htk hrd hln hs hbl
          go_wp2_with (at_mapUpdate; refine wpList_mapUpdate_own _ rfl _ _ _ 55 rfl 9 3 lawK Try.underlying55 (elI Unit) g j _ rfl HM.out (by unfold maxLen; omega) _ _ _ rfl rfl Hk.out _ [] (elI_mk 0 (by omega)) ?_; intro w2 hown2 hgrow2)
          have hown3 : w2.ownsMap Try.prog 9 (elI Unit) g (j + 1) (D0of ((bodies ss).take (j + 1))) := by rw [HD.out]; exact hown2
          have HN := Lib.hid hown3
          have HE2 := Lib.hid (show Ext w w2 from grownBy_ext HE.out hgrow2 (fun g' hg' => by injection hg' with hg'; have := Hg.out; omega))
          clear hown2 hown3 hgrow2 kst
          go_wp2_with fail
          go_roundw
          case rel => exact ⟨j + 1, by omega, by go_num, HN.out, HE2.out⟩
          case measure => simp [intOf]; omega
        · obtain rfl : n = j := by omega
          have hmm := HM.out
          rw [List.take_of_length_le (by rw [Hbl.out]; exact Nat.le_refl _)] at hmm
          have HM2 := Lib.hid hmm
          clear hmm HM
          obtain ⟨W1, hW1⟩ : ∃ W1, W1 = wr := ⟨_, rfl⟩
          rw [← hW1] at HM2 HE ⊢
          have hgl := HM2.out.lt
          have hsz := size_of_owns HM2.out
          clear hW1
          go_wp2_with fail
          refine (keys_any _ _).mono ?_
          rintro e w2 ⟨rfl, rfl⟩
          go_wp2_with fail
          refine (sortedKeys_any (H := Unit) g n _ (elI Unit) W1 HM2.out (by unfold maxLen; omega) (by omega)).mono ?_
          rintro e w3 ⟨v, ks, rfl, hperm, hrow, he3⟩
          have hLa : Asc L := by rw [HLe.out]; exact dents_asc _
          have hLu : ∀ x ∈ L, U8 x := by rw [HLe.out]; exact fun x h => bodies_mem_of' Hx.out x (dents_mem.1 h)
          have hLn : L.length ≤ n := by rw [HLe.out]; exact dents_len n _ Hbl.out
          have hLs : ∀ x ∈ L, x.length ≤ 200 := by rw [HLe.out]; exact dents_short Hany.out
          obtain ⟨hsort, hlen⟩ := sorted_is HM2.out hperm hLa hLu (fun x => by
            rw [D0of_has, List.mem_map, List.mem_map, HLe.out]
            constructor
            · rintro ⟨a, ha, h⟩; exact ⟨a, dents_mem.1 ha, h⟩
            · rintro ⟨a, ha, h⟩; exact ⟨a, dents_mem.2 ha, h⟩)
          rw [hsort] at hrow
          obtain ⟨AS, cS, rfl, hstr⟩ := strs_of hrow hlen
          have hE3 : Ext W1 w3 := Ext.trans ((Ext.refl _).alloc _) he3
          have hM3 : w3.ownsMap Try.prog 9 (elI Unit) g n (D0of (bodies ss)) := HM2.out.kept hE3.grownBy' (by simp)
          have hW3 : g < w3.heap.size := Nat.lt_of_lt_of_le hgl hE3.size
          have hstr2 := hstr.mono (base' := W1.heap.size) (by simp)
          obtain ⟨N, hN⟩ : ∃ N, N = L.length := ⟨_, rfl⟩
          rw [← hN] at hLn ⊢
          have HLa := Lib.hid hLa
          have HLu := Lib.hid hLu
          have HLs := Lib.hid hLs
          have HN := Lib.hid hN
          have HM3 := Lib.hid hM3
          have Hstr := Lib.hid hstr2
          have HE3 := Lib.hid (HE.out.trans hE3)
          have hgw : w.heap.size ≤ g := by rw [Hg.out]; exact Nat.le_refl _
          have hwg3 : w.heap.size ≤ w3.heap.size := HE3.out.size
          obtain ⟨W3, hW3e⟩ : ∃ W3, W3 = w3 := ⟨_, rfl⟩
          rw [← hW3e] at HM3 Hstr HE3 hW3 hwg3 ⊢
          clear hLa hLu hLs hN hM3 hstr hstr2 hE3 he3 hrow hsort hlen hperm hW3e hsz
          go_wp2_with fail
          go_loopw [8, 9, 10, 36] (fun v _ _ i wr => ∃ (j : Nat) (A' : Option Addr) (c' : Nat) (us : List Sl) (D : DataW Unit), j ≤ N ∧ i = .int .i64 j ∧ v = .slice A' j c' ∧ Hid (us.length = j ∧ bodies us = L.take j) ∧ Hid (OwnT wr W3.heap.size A' c' us ∧ TxtsM wr W3.heap.size us) ∧ Hid (wr.ownsMap Try.prog 9 (elI Unit) g (n + j) D ∧ NumD D L j) ∧ Hid (OwnG shStr 9 wr W1.heap.size AS cS L) ∧ Hid (Ext w wr ∧ W3.heap.size ≤ wr.heap.size)) (fun _ _ _ i _ => N - (intOf i).toNat)
          case atStart => exact ⟨0, none, 0, [], _, Nat.zero_le _, rfl, rfl, ⟨rfl, rfl⟩, ⟨OwnG.nil .., TxtsM.nil ..⟩, ⟨HM3.out, D0of_map _, fun i x hi => absurd hi (by omega)⟩, Hstr.out, HE3.out, Nat.le_refl _⟩
          case round =>
            clear HM3 Hstr HE3
            obtain ⟨j, A', c', us, D, hj, rfl, rfl, HU, HO, HMD, HS, HE⟩ := hrel
            by_cases hlt : j < N
            · obtain ⟨b, x, rfl, _, hbl, hxj, hcx, _⟩ := HS.out.at_ (j := j) (by rw [← HN.out]; exact hlt)
              have hc0 := hcx 0 (.string (sstr x)) rfl
              rw [show j * shStr.sz + 0 = j by show j * 1 + 0 = j; omega] at hc0
              have hxl := HLs.out x (List.mem_of_getElem? hxj)
              have hxu := HLu.out x (List.mem_of_getElem? hxj)
              have Hk := Lib.hid (key_of x (by omega))
              have HND := Lib.hid (HMD.out.2.step HLa.out HLu.out hxj)
              have Htk := Lib.hid (take_nextG L j hxj)
              have Hxu := Lib.hid hxu
              have hx1 : x.length ≤ 1000000 := by omega
              clear hxj hcx hxu
              go_wp2_with (first
                | (at_mapUpdate; refine wpList_mapUpdate_own _ rfl _ _ _ 55 rfl 9 3 lawK Try.underlying55 (elI Unit) g (n + j) _ rfl HMD.out.1 (by unfold maxLen; omega) _ _ _ rfl rfl Hk.out _ [] (elI_mk j (by omega)) ?_; intro w5 hown5 hg5; obtain ⟨w6, c6, hcv, hO6, hE6⟩ := conv_back w5 Hxu.out hx1; have Hown5 := Lib.hid hown5; have Hg5 := Lib.hid hg5; have HO6 := Lib.hid hO6; have HE6 := Lib.hid hE6; clear hown5 hg5 hO6 hE6)
                | (at_builtin; refine wpList_pushT (w0 := _) ⟨some ⟨w5.heap.size, 0, none⟩, c6, x⟩ rfl _ _ rfl (((HO.out.1.far Hg5.out hW3).ext HE6.out).ext ((Ext.refl w6).alloc (.cells #[.slice (some ⟨w5.heap.size, 0, none⟩) x.length c6] 34))) j HU.out.1 rfl rfl (heap_alloc_new _ _) (by omega) (Below.refl _ _) (by have := HE.out.2; have := Hg5.out.size; have := HE6.out.size; simp; omega) ?_; intro A7 c7 w7 hown7 hg7 _ _)
                | fail)
              have hX : Ext w6 (w6.alloc (.cells #[.slice (some ⟨w5.heap.size, 0, none⟩) x.length c6] 34)) := (Ext.refl w6).alloc _
              have hOT := ((HO.out.1.far Hg5.out hW3).ext HE6.out).ext hX
              have hg7' := hg7
              rw [← HU.out.1] at hg7'
              have HM7 := Lib.hid (((Hown5.out.kept HE6.out.grownBy' (by simp)).alloc (.cells #[.slice (some ⟨w5.heap.size, 0, none⟩) x.length c6] 34)).kept hg7 (row_above (fun a ha => (HO.out.1.block a ha).1) hW3))
              have HS7 := Lib.hid ((((HS.out.far Hg5.out hgl).ext HE6.out).ext hX).grown hg7' (own_neG (by decide) hOT (((HS.out.far Hg5.out hgl).ext HE6.out).ext hX)))
              have HT7 := Lib.hid ((((HO.out.2.far Hg5.out hW3).ext HE6.out).snoc (s := ⟨some ⟨w5.heap.size, 0, none⟩, c6, x⟩) HO6.out (Nat.le_trans HE.out.2 Hg5.out.size) (fun t ht p hp => (HO.out.2.far Hg5.out hW3).lt t ht p hp)).ext hX |>.grown hOT hg7')
              have HE7 := Lib.hid (show Ext w w7 ∧ W3.heap.size ≤ w7.heap.size from by
                have h5 : Ext w w5 := grownBy_ext HE.out.1 Hg5.out (fun g' hg' => by injection hg' with hg'; omega)
                have h6 := (h5.trans HE6.out).trans hX
                refine ⟨grownBy_ext h6 hg7 (fun g' hg' => ?_), ?_⟩
                · cases hA : A' with
                  | none => rw [hA] at hg'; simp [Value.ownBlock] at hg'
                  | some a =>
                    rw [hA] at hg'
                    simp [Value.ownBlock] at hg'
                    have := (HO.out.1.block a hA).1
                    omega
                · have := HE.out.2; have := Hg5.out.size; have := HE6.out.size; have := hX.size; have := hg7.size; omega)
              have HO7 := Lib.hid hown7
              have HU7 := Lib.hid (show (us ++ [(⟨some ⟨w5.heap.size, 0, none⟩, c6, x⟩ : Sl)]).length = j + 1 ∧ bodies (us ++ [⟨some ⟨w5.heap.size, 0, none⟩, c6, x⟩]) = L.take (j + 1) from ⟨by rw [List.length_append, HU.out.1]; rfl, by rw [Htk.out, ← HU.out.2]; unfold bodies; rw [List.map_append]; rfl⟩)
              clear hOT hg7 hg7' hown7 hX hcv
              go_wp2_with fail
              go_roundw
              case rel => exact ⟨j + 1, A7, c7, _, _, by omega, by go_num, rfl, HU7.out, ⟨HO7.out, HT7.out⟩, ⟨HM7.out, HND.out⟩, HS7.out, HE7.out⟩
              case measure => simp [intOf]; omega
            · obtain rfl : j = N := by omega
              have hLt : L.take j = L := List.take_of_length_le (by rw [← HN.out]; exact Nat.le_refl _)
              have hub := HU.out.2
              rw [hLt] at hub
              obtain ⟨vals, hvals⟩ : ∃ vals, vals = (bodies ss).map (fun s => skN s L) := ⟨_, rfl⟩
              have HR2 := Lib.hid (show idxR (bodies ss) = (bodies us, vals, 0) by rw [HR.out, hub, hvals])
              have hvl : vals.length = n := by rw [hvals, List.length_map, Hbl.out]
              have Hvl := Lib.hid hvl
              have Hvals := Lib.hid hvals
              obtain ⟨W5, hW5⟩ : ∃ W5, W5 = wr := ⟨_, rfl⟩
              rw [← hW5] at HO HMD HE HS ⊢
              have HlU := Lib.hid HU.out.1
              clear hLt hub hvals hvl hW5
              go_wp2_with (first | (at_make; refine wpList_mk .i64 3 rfl _ _ 25 rfl 8 Try.underlying25 Try.infoInt _ _ n rfl rfl rfl rfl (by omega) (by omega) ?_; intro w7 hown7 he7) | fail)
              have h0 : Own .i64 3 w7 W5.heap.size (some ⟨W5.heap.size, 0, none⟩) n (vals.take 0 ++ List.replicate (n - 0) 0) := hown7
              have H0 := Lib.hid h0
              have He7 := Lib.hid he7
              clear hown7 h0 he7
              go_loopw [12, 13, 55] (fun _ _ i wr => ∃ q : Nat, q ≤ n ∧ i = .int .i64 q ∧ Hid (Own .i64 3 wr W5.heap.size (some ⟨W5.heap.size, 0, none⟩) n (vals.take q ++ List.replicate (n - q) 0)) ∧ Hid (Ext W5 wr)) (fun _ _ i _ => n - (intOf i).toNat)
              case atStart => exact ⟨0, Nat.zero_le _, rfl, H0.out, He7.out⟩
              case round =>
                clear H0 He7
                obtain ⟨q, hq, rfl, HNs, HE5⟩ := hrel
                by_cases hlt2 : q < n
                · obtain ⟨b, o, s, rfl, hf, hc, hs⟩ := (Hx.out.ext (HE.out.1.trans HE5.out)).at_ hlt2
                  have hbj := bodies_at hf
                  have hrd := hs.rd
                  have hln := hs.len
                  have hmem : s.body ∈ L := by rw [HLe.out]; exact dents_mem.2 (List.mem_of_getElem? hbj)
                  have hat0 := HMD.out.2.2 _ s.body (by rw [HN.out]; exact (List.getElem?_eq_some_iff.1 (skN_at HLa.out hmem)).1) (skN_at HLa.out hmem) (.lit (.int .i64 0))
                  have hvq : vals[q]? = some (skN s.body L) := by rw [Hvals.out, List.getElem?_map, hbj]; rfl
                  obtain ⟨f, hfv⟩ : ∃ f, f = skN s.body L := ⟨_, rfl⟩
                  rw [← hfv] at hat0 hvq
                  obtain ⟨sA, sc, body⟩ := s
                  simp only at hc hrd hln hat0
                  have kst := conv_str (c := sc) hrd
                  have Hk := Lib.hid (key_of body hln)
                  have Hat := Lib.hid hat0
                  have HMq := Lib.hid (HMD.out.1.kept HE5.out.grownBy' (by simp))
                  obtain ⟨bl, hbl⟩ : ∃ bl, bl = body.length := ⟨_, rfl⟩
                  rw [← hbl] at hc kst
                  have hlen7 : (vals.take q ++ List.replicate (n - q) 0).length = n := by rw [List.length_append, List.length_take, List.length_replicate, Hvl.out]; omega
                  obtain ⟨b2, hb2, hbase, hblt, hcell, hfro, hset⟩ := HNs.out.at_ (j := q) (by rw [hlen7]; exact hlt2)
                  injection hb2 with hb2
                  injection hb2 with hb2
                  subst hb2
                  obtain ⟨hs1, hs2⟩ := hset f
                  have hstep : (vals.take q ++ List.replicate (n - q) 0).set q f = vals.take (q + 1) ++ List.replicate (n - (q + 1)) 0 := by
                    have hlq : (vals.take q).length = q := by rw [List.length_take, Hvl.out]; omega
                    rw [take_nextG vals q hvq, List.set_append_right _ _ (by omega), hlq, Nat.sub_self, show n - q = (n - (q + 1)) + 1 by omega, List.replicate_succ, List.set_cons_zero, List.append_assoc]
                    rfl
                  rw [hstep] at hs1
                  have Hs1 := Lib.hid hs1
                  have HE6 := Lib.hid (HE5.out.setCell (p := ⟨W5.heap.size, q, none⟩) (Nat.le_refl _) (.int .i64 (f : Int)))
                  obtain ⟨old, hold⟩ : ∃ v, v = Value.int .i64 (((vals.take q ++ List.replicate (n - q) 0).getD q 0 : Nat) : Int) := ⟨_, rfl⟩
                  rw [← hold] at hcell
                  clear hold hs1 hs2 hset hstep hlen7 hf hbj hrd hln hs hmem hat0 hvq hfv hbl hbase
                  go_wp2_with (first
                    | (at_lookup; refine wpList_lookup_own_int _ rfl _ _ 55 rfl 9 3 .i64 lawK Try.underlying55 Try.underlying3 (zero_int _) g _ _ rfl HMq.out _ _ rfl Hk.out ?_; intro cc hat hwc; obtain rfl : cc = (f : Int) := (by have h9 := hat.symm.trans Hat.out; injection h9 with h9; injection h9); clear hat hwc)
                    | fail)
                  go_roundw
                  case rel => exact ⟨q + 1, by omega, by go_num, Hs1.out, HE6.out⟩
                  case measure => simp [intOf]; omega
                · obtain rfl : n = q := by omega
                  have hN2 := HNs.out
                  rw [Nat.sub_self, List.replicate_zero, List.append_nil, List.take_of_length_le (by rw [Hvl.out]; exact Nat.le_refl _)] at hN2
                  have HNf := Lib.hid hN2
                  clear hN2
                  go_wp2_with fail
                  go_ret3
                  exact IdxPost.good _ HR2.out HlU.out Hvl.out ((HO.out.1.mono hwg3).ext HE5.out) ((HO.out.2.mono hwg3).ext HE5.out) (HNf.out.mono HE.out.1.size) (HE.out.1.trans HE5.out)

end Go.Proofs.Ytpdppldkebfikaa
