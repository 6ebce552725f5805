import Derived.Test.YthibbgmicmfkfaaGreatGW11
import Derived.Deep.MidRow
namespace Go.Proofs.YthibbgmicmfkfaaGreat
open Go.RowKit
set_option maxRecDepth 100000
theorem ddec_by {bs : List Nat} {L : List (List Nat)} {a e : Int} (h : entR bs = (L, a, e)) : (e ≠ 0 → ddec bs = ([], e)) ∧ (e = 0 → ddec bs = ddec.ddecB bs L a) := by
 unfold entR at h
 rcases h1 : vget bs 0 with ⟨k, n, e1⟩
 by_cases he1 : e1 = 0
 · subst he1
   by_cases hk : 4096 < k
   · rw [cntR_long h1 hk] at h
     injection h with _ h
     injection h with _ h
     subst h
     exact ⟨fun _ => ddec_long h1 hk, fun q => absurd q (by decide)⟩
   · rw [cntR_yes h1 (by omega), if_neg (fun q => q rfl)] at h
     simp only at h
     exact ⟨fun q => ddec_e2 h1 (by omega) h q, fun q => by subst q; exact ddec_go h1 (by omega) h⟩
 · rw [cntR_err h1 he1] at h
   rw [if_pos he1] at h
   injection h with _ h
   injection h with _ h
   subst h
   exact ⟨fun _ => ddec_e1 h1 he1, fun q => absurd q he1⟩
theorem entR_ok {bs : List Nat} (hb : U8 bs) {L : List (List Nat)} {a : Int} (h : entR bs = (L, a, 0)) : 0 ≤ a ∧ a ≤ bs.length ∧ L.length ≤ 4096 ∧ Asc L ∧ ∀ s ∈ L, s.length ≤ 200 ∧ U8 s := by
 unfold entR at h
 rcases h1 : vget bs 0 with ⟨k, n, e1⟩
 by_cases he1 : e1 = 0
 · subst he1
   by_cases hk : 4096 < k
   · rw [cntR_long h1 hk] at h; injection h with _ h; injection h with _ h; exact absurd h (by decide)
   · rw [cntR_yes h1 (by omega), if_neg (fun q => q rfl)] at h
     simp only at h
     obtain ⟨a1, a2, a3, a4, a5⟩ := vget_at hb h1
     obtain ⟨T, r1, r2, r3, r4, r5, r6, r7, r8⟩ := dnA_ok hb k (acc := []) List.Pairwise.nil (by omega) a3 h
     rw [List.nil_append] at r1
     subst r1
     exact ⟨r3, r5, by omega, r7, r8⟩
 · rw [cntR_err h1 he1, if_pos he1] at h
   injection h with _ h; injection h with _ h; exact absurd h he1
theorem ddecB_by {bs : List Nat} {L : List (List Nat)} {a b e : Int} {k : Nat} (h : cntR bs a = (k, b, e)) : (e ≠ 0 → ddec.ddecB bs L a = ([], e)) ∧ (e = 0 → ddec.ddecB bs L a = ddec.ddecC L (bs.drop b.toNat) k ∧ vget bs a = (k, b, 0) ∧ k ≤ 4096) := by
 rcases h1 : vget bs a with ⟨k1, n1, e1⟩
 by_cases he1 : e1 = 0
 · subst he1
   by_cases hk : 4096 < k1
   · rw [cntR_long h1 hk] at h
     injection h with _ h
     injection h with _ h
     subst h
     exact ⟨fun _ => ddecB_long h1 hk, fun q => absurd q (by decide)⟩
   · rw [cntR_yes h1 (by omega)] at h
     injection h with q1 h
     injection h with q2 h
     subst q1 q2 h
     exact ⟨fun q => absurd rfl q, fun _ => ⟨ddecB_go h1 (by omega), rfl, by omega⟩⟩
 · rw [cntR_err h1 he1] at h
   injection h with _ h
   injection h with _ h
   subst h
   exact ⟨fun _ => ddecB_err h1 he1, fun q => absurd q he1⟩
theorem unpL_len10 {N len : Nat} {wd cnt : Int} (h : unpE N len wd cnt = 0) : (unpL N len wd cnt).length = cnt.toNat := by
 rw [unp_ok h, upk_len]
theorem unpL_u6410 {N len : Nat} {wd cnt : Int} (h : unpE N len wd cnt = 0) (hw : wd ≤ 64) : U64 (unpL N len wd cnt) := by
 intro v hv
 rw [unp_ok h] at hv
 have h1 : v < 2 ^ wd.toNat := upk_wd wd.toNat cnt.toNat N v hv
 exact Nat.lt_of_lt_of_le h1 (show 2 ^ wd.toNat ≤ 2 ^ 64 from Nat.pow_le_pow_right (by decide) (by omega))
theorem Txts.mono10 {w : World} {base base' : Nat} {ts : List Sl} (h : Txts w base ts) (hb : base' ≤ base) : Txts w base' ts := ⟨fun s hs => (h.own s hs).mono hb, h.apart⟩
structure DTd (w wr : World) (A : Option Addr) (c : Nat) (ts : List Sl) : Prop where
 row : OwnT wr w.heap.size A c ts
 txt : Txts wr w.heap.size ts
 ext : Ext w wr
theorem DTd.snoc {w wr w1 w2 : World} {A A1 : Option Addr} {c c1 : Nat} {ts : List Sl} {s : Sl} (h : DTd w wr A c ts) (hs : Own .u8 5 w1 wr.heap.size s.A s.c s.body) (he1 : Ext wr w1) (hrow : OwnT w2 w.heap.size A1 c1 (ts ++ [s]))
   (hg : (w1.alloc (.cells #[.slice s.A s.body.length s.c] 22)).grownBy w2 (Value.slice A ts.length c).ownBlock) (hb : Below w.heap.size w w2) : DTd w w2 A1 c1 (ts ++ [s]) := by
 have hX : Ext w1 (w1.alloc (.cells #[.slice s.A s.body.length s.c] 22)) := (Ext.refl _).alloc _
 have h2 : Txts w1 w.heap.size (ts ++ [s]) := (h.txt.ext he1).snoc hs h.ext.size (fun t ht p hp => h.txt.lt t ht p hp)
 exact ⟨hrow, (h2.ext hX).grown ((h.row.ext he1).ext hX) hg, hb⟩
theorem txtsOf_snoc (L : List (List Nat)) (us : List Nat) (u : Nat) : txtsOf L (us ++ [u]) = txtsOf L us ++ [L.getD u []] := by unfold txtsOf; rw [List.map_append]; rfl
set_option maxHeartbeats 3200000 in
set_option maxRecDepth 100000 in
theorem ddecode_any (A : Option Addr) (n c : Nat) (bs : List Nat) (w : World) (hx : Rd .u8 w A n bs) (hu : U8 bs) (hn : n ≤ 140737488351232) (hcap : n ≤ c) (hcm : c ≤ 9223372036854775807) :
   Calls Tryz.prog 158 #[.slice A n c] w (TxtsPost (ddec bs) w) := by
 have hbl := hx.len
 have G1 := getEntries_any A n c bs w hx hu (by omega) hcap hcm
 rcases g1 : entR bs with ⟨L, a, e1⟩
 rw [g1] at G1
 have HG1 := Lib.hid G1
 obtain ⟨k1, k2⟩ := ddec_by g1
 by_cases z1 : e1 = 0
 · subst z1
   have hdd := k2 rfl
   obtain ⟨a1, a2, hL4, _, hLs⟩ := entR_ok hu g1
   rw [hbl] at a2
   obtain ⟨m1, rfl⟩ := Int.eq_ofNat_of_zero_le a1
   have HG2 := Lib.hid (fun (W : World) (hW : Ext w W) => getCount_any A n c (m1 : Int) bs W (hx.ext hW) hu (by omega) hcap hcm)
   rcases g2 : cntR bs ((m1 : Nat) : Int) with ⟨k, b, e2⟩
   rw [g2] at HG2
   obtain ⟨k3, k4⟩ := ddecB_by (L := L) g2
   by_cases z2 : e2 = 0
   · subst z2
     obtain ⟨k5, k6, k7⟩ := k4 rfl
     obtain ⟨_, b1, b2, _, _⟩ := vget_at hu k6
     rw [hbl] at b2
     obtain ⟨m2, rfl⟩ := Int.eq_ofNat_of_zero_le (show 0 ≤ b by omega)
     rw [Int.toNat_natCast] at k5
     obtain ⟨m, hm⟩ : ∃ m, m = L.length := ⟨_, rfl⟩
     have hr := hx.offA (k := m2) (m := c) (by omega) hcap
     have sl := run_from A n c m2 (by omega)
     obtain ⟨A9, hA9⟩ : ∃ A9, A9 = offA A m2 c := ⟨_, rfl⟩
     rw [← hA9] at hr sl
     obtain ⟨r, hre⟩ : ∃ r, r = bs.drop m2 := ⟨_, rfl⟩
     rw [← hre] at hr k5
     have hrl : r.length = n - m2 := hr.len
     have hru : U8 r := by rw [hre]; exact u8_drop hu _
     have HU := Lib.hid (fun (W : World) (cc : Nat) (hW : Ext w W) => unpack_any A9 (n - m2) cc (wfor m : Int) (k : Int) r W (hr.ext hW) hru (by omega))
     have hCe : ∀ e3, unpE (pk 8 r) (n - m2) (wfor m : Int) (k : Int) = e3 → e3 ≠ 0 → ddec bs = ([], e3) := fun e3 h h0 => by
       rw [← hrl, hm] at h
       rw [hdd, k5, ddecC_err (by rw [h]; exact h0), h]
     have hCf : unpE (pk 8 r) (n - m2) (wfor m : Int) (k : Int) = 0 → ∀ us, unpL (pk 8 r) (n - m2) (wfor m : Int) (k : Int) = us → meant us m = false → ddec bs = ([], 5) := fun h us h2 h3 => by
       rw [← hrl, hm] at h h2
       rw [hm] at h3
       rw [hdd, k5, ddecC_form h h2 h3]
     have hCy : unpE (pk 8 r) (n - m2) (wfor m : Int) (k : Int) = 0 → ∀ us, unpL (pk 8 r) (n - m2) (wfor m : Int) (k : Int) = us → meant us m = true → ddec bs = (txtsOf L us, 0) := fun h us h2 h3 => by
       rw [← hrl, hm] at h h2
       rw [hm] at h3
       rw [hdd, k5, ddecC_yes h h2 h3]
     obtain ⟨R, hR⟩ : ∃ R, R = ddec bs := ⟨_, rfl⟩
     rw [← hR] at hCe hCf hCy ⊢
     obtain ⟨e3, hE3⟩ : ∃ e3, e3 = unpE (pk 8 r) (n - m2) (wfor m : Int) (k : Int) := ⟨_, rfl⟩
     obtain ⟨us, huse⟩ : ∃ us, us = unpL (pk 8 r) (n - m2) (wfor m : Int) (k : Int) := ⟨_, rfl⟩
     have hwf := wfor_le hL4
     rw [← hm] at hwf hL4
     have hul : e3 = 0 → us.length = k := fun h => by rw [huse, unpL_len10 (by rw [← hE3]; exact h), Int.toNat_natCast]
     have huu : e3 = 0 → U64 us := fun h => by rw [huse]; exact unpL_u6410 (by rw [← hE3]; exact h) (by omega)
     have hnil : e3 ≠ 0 → us = [] := fun h => by rw [huse]; exact unp_err hE3.symm h
     unfold UnpPost at HU
     rw [← hE3] at hCe hCf hCy HU
     rw [← huse] at hCf hCy HU
     have Hm := Lib.hid hm
     have HLs := Lib.hid hLs
     clear hx hu g1 hbl k1 k2 G1 hdd a1 a2 k3 k4 k5 k6 b1 b2 hr hA9 hre hrl hru hE3 huse hm hLs g2
     by_cases z3 : e3 = 0
     · subst z3
       have hul2 := hul rfl
       have huu2 := huu rfl
       clear hul huu hnil hCe
       rw [hul2] at HU
       by_cases hmn : meant us m = true
       · have HC := Lib.hid (hCy rfl us rfl hmn)
         have Hmn := Lib.hid hmn
         have HM := Lib.hid (fun (B : Option Addr) (cB : Nat) (W : World) (hB : Rd .u64 W B k us) => allMeant_any B k cB m us W hB (by omega) (by omega) huu2)
         rw [hmn] at HM
         have Hul := Lib.hid hul2
         have Huu := Lib.hid huu2
         clear hCf hCy hmn hul2 huu2
         go_enter Tryz.func158, Tryz.ntmps158
         go_wp2_with fail
         refine HG1.out.mono ?_
         rintro e w1 ⟨A1, c1, us1, rfl, hb1, hd⟩
         simp only at hb1 hd ⊢
         rw [show us1.length = m by rw [Hm.out, ← hb1, bodies_len]]
         have Hd := Lib.hid hd
         have Hb1 := Lib.hid hb1
         clear hd hb1
         go_wp2_with fail
         refine (HG2.out _ Hd.out.ext).mono ?_
         rintro e w2 ⟨rfl, rfl⟩
         simp only
         go_wp2_with fail
         go_region_held3 (fun _ => True) (exact trivial) (first
           | (go_at_call 178; refine (widthFor_any m _ (by omega)).mono ?_; rintro e w3 ⟨rfl, he3⟩)
           | (go_at_call 154; refine (HU.out _ _ (by focus ((repeat (first | exact Hd.out.ext | (with_reducible refine Ext.trans ?_ he3) | (with_reducible apply Ext.drew) | (with_reducible apply Ext.alloc) | fail)); done))).mono ?_; rintro e w4 ⟨A4, c4, rfl, hown4, he4⟩)
           | fail)
         have hE4 : Ext w2 w4 := by focus ((repeat (first | (with_reducible exact Ext.refl _) | (with_reducible refine Ext.trans ?_ he4) | (with_reducible refine Ext.trans ?_ he3) | (with_reducible apply Ext.drew) | (with_reducible apply Ext.alloc) | fail)); done)
         have hu4 := hown4.rd' Hul.out
         clear hown4 he4 he3
         have HE4 := Lib.hid hE4
         clear hE4
         go_wp2_with fail
         refine (HM.out A4 c4 _ hu4).mono ?_
         rintro e w5 ⟨rfl, he5⟩
         have HE5 := Lib.hid (HE4.out.trans he5)
         have Hu5 := Lib.hid (hu4.ext he5)
         clear he5 hu4 HE4 HM
         go_wp2_with fail
         have hrow5 := (Hd.out.row.ext HE5.out).rdL
         have Hrow5 := Lib.hid hrow5
         clear hrow5
         go_loopw [9, 11, 52] (fun v _ i wr => ∃ (j : Nat) (ts : List Sl) (A' : Option Addr) (c' : Nat), j ≤ k ∧ i = .int .i64 j ∧ v = .slice A' j c' ∧ Hid (ts.length = j) ∧ Hid (bodies ts = txtsOf L (us.take j)) ∧ Hid (DTd w5 wr A' c' ts)) (fun _ _ i _ => k - (intOf i).toNat)
         case atStart => exact ⟨0, [], none, 0, Nat.zero_le _, rfl, rfl, rfl, rfl, ⟨OwnG.nil .., Txts.nil .., Ext.refl _⟩⟩
         case round =>
           obtain ⟨j, ts, A', c', hj, rfl, rfl, Hl, Hbs, HD⟩ := hrel
           by_cases hlt : j < k
           · obtain ⟨b, o, rfl, hbb, hc⟩ := (Hu5.out.ext HD.out.ext).at_ hlt
             have hvs : us[j]? = some (us.getD j 0) := by simp [List.getD, show j < us.length by rw [Hul.out]; exact hlt]
             have hv := Huu.out _ (List.mem_of_getElem? hvs)
             have htk : us.take (j + 1) = us.take j ++ [us.getD j 0] := take_nextG us j hvs
             have hum := (meant_iff.1 Hmn.out).1 _ (List.mem_of_getElem? hvs)
             obtain ⟨u, hue⟩ : ∃ u, u = us.getD j 0 := ⟨_, rfl⟩
             rw [← hue] at hc hv htk hum
             have hu1l : us1.length = m := by rw [Hm.out, ← Hb1.out, bodies_len]
             obtain ⟨b', o', t, hA1, hf, hc'⟩ := (Hrow5.out.ext HD.out.ext).at_ (j := u) (by rw [hu1l]; exact hum)
             have hmt := List.mem_of_getElem? hf
             have hrt := ((Hd.out.rd t hmt).ext (Hd.out.ext.trans HE5.out)).ext HD.out.ext
             have hlt2 := Hd.out.len t hmt
             have htb : L.getD u [] = t.body := by rw [← Hb1.out, bodies_get hf]
             obtain ⟨tA, tc, tb⟩ := t
             simp only at hc' hrt htb hlt2
             subst hA1
             have HN := Lib.hid (show ∀ (A6 : Option Addr) (c6 : Nat), bodies (ts ++ [⟨A6, c6, tb⟩]) = txtsOf L (us.take (j + 1)) by
               intro A6 c6
               rw [htk, txtsOf_snoc, htb, ← Hbs.out]; unfold bodies; rw [List.map_append]; rfl)
             obtain ⟨tl, htl⟩ : ∃ tl, tl = tb.length := ⟨_, rfl⟩
             rw [← htl] at hc' hrt hlt2
             have Htl := Lib.hid htl
             have HC5 := Lib.hid (clone10_any tA tl tc tb wr hrt (by omega))
             clear htl hmt hf hvs hue htk htb hrt
             go_wp2_with fail
             refine HC5.out.mono ?_
             rintro e w6 ⟨A6, c6, rfl, hown6, he6⟩
             rw [Htl.out]
             go_wp2_with (at_builtin; refine wpList_pushT (w0 := w5) ⟨A6, c6, tb⟩ rfl _ _ rfl ((HD.out.row.ext he6).ext ((Ext.refl _).alloc _)) j Hl.out rfl rfl (heap_alloc_new _ _) (by omega) (Ext.trans (HD.out.ext.trans he6) ((Ext.refl _).alloc _)) (by have := (HD.out.ext.trans he6).size; simp; omega) ?_; intro A7 c7 w7 hown7 hg7 hb7 hz7)
             have HD7 := Lib.hid (HD.out.snoc (s := ⟨A6, c6, tb⟩) hown6 he6 hown7 (by rw [Hl.out]; exact hg7) hb7)
             clear hown6 hown7 hg7 hb7
             go_wp2_with fail
             go_roundw
             case rel => exact ⟨j + 1, _, A7, c7, by omega, by go_num, by go_num, by rw [List.length_append, Hl.out]; rfl, HN.out _ _, HD7.out⟩
             case measure => simp [intOf]; omega
           · obtain rfl : j = k := by omega
             have hR : R = (bodies ts, 0) := by rw [HC.out, Hbs.out, List.take_of_length_le (by rw [Hul.out]; exact Nat.le_refl _)]
             have HR := Lib.hid hR
             clear hR
             go_wp2_with fail
             go_ret2
             have h5 : w.heap.size ≤ w5.heap.size := (Hd.out.ext.trans HE5.out).size
             exact TxtsPost.good _ HR.out Hl.out (HD.out.row.mono h5) (HD.out.txt.mono10 h5) ((Hd.out.ext.trans HE5.out).trans HD.out.ext)
       · have hmn2 : meant us m = false := by
           cases q : meant us m with
           | true => exact absurd q hmn
           | false => rfl
         have HC := Lib.hid (hCf rfl us rfl hmn2)
         have HM := Lib.hid (fun (B : Option Addr) (cB : Nat) (W : World) (hB : Rd .u64 W B k us) => allMeant_any B k cB m us W hB (by omega) (by omega) huu2)
         rw [hmn2] at HM
         have Hul := Lib.hid hul2
         clear hCf hCy hmn hul2 huu2 hmn2
         go_enter Tryz.func158, Tryz.ntmps158
         go_wp2_with fail
         refine HG1.out.mono ?_
         rintro e w1 ⟨A1, c1, us1, rfl, hb1, hd⟩
         simp only at hb1 hd ⊢
         rw [show us1.length = m by rw [Hm.out, ← hb1, bodies_len]]
         have Hd := Lib.hid hd
         clear hd hb1
         go_wp2_with fail
         refine (HG2.out _ Hd.out.ext).mono ?_
         rintro e w2 ⟨rfl, rfl⟩
         simp only
         go_wp2_with fail
         go_region_held3 (fun _ => True) (exact trivial) (first
           | (go_at_call 178; refine (widthFor_any m _ (by omega)).mono ?_; rintro e w3 ⟨rfl, he3⟩)
           | (go_at_call 154; refine (HU.out _ _ (by focus ((repeat (first | exact Hd.out.ext | (with_reducible refine Ext.trans ?_ he3) | (with_reducible apply Ext.drew) | (with_reducible apply Ext.alloc) | fail)); done))).mono ?_; rintro e w4 ⟨A4, c4, rfl, hown4, he4⟩)
           | fail)
         have hE4 : Ext w2 w4 := by focus ((repeat (first | (with_reducible exact Ext.refl _) | (with_reducible refine Ext.trans ?_ he4) | (with_reducible refine Ext.trans ?_ he3) | (with_reducible apply Ext.drew) | (with_reducible apply Ext.alloc) | fail)); done)
         have hu4 := hown4.rd' Hul.out
         clear hown4 he4 he3
         have HE4 := Lib.hid hE4
         clear hE4
         go_wp2_with fail
         refine (HM.out A4 c4 _ hu4).mono ?_
         rintro e w5 ⟨rfl, he5⟩
         have HE5 := Lib.hid (Hd.out.ext.trans (HE4.out.trans he5))
         clear he5 hu4 HE4 HM
         go_wp2_with fail
         go_ret2
         exact TxtsPost.bad _ HC.out HE5.out
     · have HC := Lib.hid (hCe _ rfl z3)
       have hb3 : (e3 != 0) = true := by rw [bne_iff_ne]; exact z3
       rw [hnil z3] at HU
       clear hCf hCy hul huu hnil hCe
       go_enter Tryz.func158, Tryz.ntmps158
       go_wp2_with fail
       refine HG1.out.mono ?_
       rintro e w1 ⟨A1, c1, us1, rfl, hb1, hd⟩
       simp only at hb1 hd ⊢
       rw [show us1.length = m by rw [Hm.out, ← hb1, bodies_len]]
       have Hd := Lib.hid hd
       clear hd hb1
       go_wp2_with fail
       refine (HG2.out _ Hd.out.ext).mono ?_
       rintro e w2 ⟨rfl, rfl⟩
       simp only
       go_wp2_with fail
       go_region_held3 (fun _ => True) (exact trivial) (first
         | (go_at_call 178; refine (widthFor_any m _ (by omega)).mono ?_; rintro e w3 ⟨rfl, he3⟩)
         | (go_at_call 154; refine (HU.out _ _ (by focus ((repeat (first | exact Hd.out.ext | (with_reducible refine Ext.trans ?_ he3) | (with_reducible apply Ext.drew) | (with_reducible apply Ext.alloc) | fail)); done))).mono ?_; rintro e w4 ⟨A4, c4, rfl, hown4, he4⟩)
         | fail)
       have hE4 : Ext w2 w4 := by focus ((repeat (first | (with_reducible exact Ext.refl _) | (with_reducible refine Ext.trans ?_ he4) | (with_reducible refine Ext.trans ?_ he3) | (with_reducible apply Ext.drew) | (with_reducible apply Ext.alloc) | fail)); done)
       clear hown4 he4 he3
       have HE5 := Lib.hid (Hd.out.ext.trans hE4)
       clear hE4
       go_wp2_with fail
       go_ret2
       exact TxtsPost.bad _ HC.out HE5.out
   · have HE := Lib.hid (hdd.trans (k3 z2))
     have hb1 : (e2 != 0) = true := by rw [bne_iff_ne]; exact z2
     have Hm := Lib.hid hLs
     clear hx hu g1 hbl k1 k2 G1 hdd a1 a2 k3 k4 g2 hLs
     go_enter Tryz.func158, Tryz.ntmps158
     go_wp2_with fail
     refine HG1.out.mono ?_
     rintro e w1 ⟨A1, c1, us, rfl, _, hd⟩
     have He := Lib.hid hd.ext
     simp only
     clear hd
     go_wp2_with fail
     refine (HG2.out _ He.out).mono ?_
     rintro e w2 ⟨rfl, rfl⟩
     simp only
     go_wp2_with fail
     go_ret2
     exact TxtsPost.bad _ HE.out He.out
 · have HE := Lib.hid (k1 z1)
   have hb1 : (e1 != 0) = true := by rw [bne_iff_ne]; exact z1
   clear hx hu g1 hbl k1 k2 G1
   go_enter Tryz.func158, Tryz.ntmps158
   go_wp2_with fail
   refine HG1.out.mono ?_
   rintro e w1 ⟨A1, c1, us, rfl, _, hd⟩
   have He := Lib.hid hd.ext
   simp only
   clear hd
   go_wp2_with fail
   go_ret2
   exact TxtsPost.bad _ HE.out He.out
structure DTx (w wr : World) (A : Option Addr) (c : Nat) (ts : List Sl) : Prop where
 row : OwnT wr w.heap.size A c ts
 txt : Txts wr w.heap.size ts
 ext : Ext w wr
 len : ∀ t ∈ ts, t.body.length ≤ 200
 u8 : ∀ t ∈ ts, U8 t.body
theorem DTx.snoc {w wr w1 w2 : World} {A A1 : Option Addr} {c c1 : Nat} {ts : List Sl} {s : Sl} (h : DTx w wr A c ts) (hs : Own .u8 5 w1 wr.heap.size s.A s.c s.body) (he1 : Ext wr w1) (hrow : OwnT w2 w.heap.size A1 c1 (ts ++ [s]))
   (hg : (w1.alloc (.cells #[.slice s.A s.body.length s.c] 22)).grownBy w2 (Value.slice A ts.length c).ownBlock) (hb : Below w.heap.size w w2) (hl : s.body.length ≤ 200) (hu : U8 s.body) : DTx w w2 A1 c1 (ts ++ [s]) := by
 have hX : Ext w1 (w1.alloc (.cells #[.slice s.A s.body.length s.c] 22)) := (Ext.refl _).alloc _
 have h2 : Txts w1 w.heap.size (ts ++ [s]) := (h.txt.ext he1).snoc hs h.ext.size (fun t ht p hp => h.txt.lt t ht p hp)
 refine ⟨hrow, (h2.ext hX).grown ((h.row.ext he1).ext hX) hg, hb, ?_, ?_⟩
 · intro t ht
   rcases List.mem_append.1 ht with h1 | h1
   · exact h.len t h1
   · simp at h1; subst h1; exact hl
 · intro t ht
   rcases List.mem_append.1 ht with h1 | h1
   · exact h.u8 t h1
   · simp at h1; subst h1; exact hu
set_option maxHeartbeats 1600000 in
set_option maxRecDepth 100000 in
theorem pdecode11_any (A : Option Addr) (n c : Nat) (bs : List Nat) (w : World) (hx : Rd .u8 w A n bs) (hu : U8 bs) (hn : n ≤ 140737488355328) (hcap : n ≤ c) (hcm : c ≤ 9223372036854775807) :
   Calls Tryz.prog 159 #[.slice A n c] w (TxtsPost (pdec bs) w) := by
 have hbl := hx.len
 rcases g1 : vget bs 0 with ⟨k, n1, e1⟩
 have G1 := Lib.hid (get_is hx hu hn hcap hcm g1)
 by_cases z1 : e1 = 0
 · subst z1
   obtain ⟨a1, a2, a3, a4, _⟩ := vget_at hu g1
   rw [hbl] at a3
   obtain ⟨m1, rfl⟩ := Int.eq_ofNat_of_zero_le (show 0 ≤ n1 by omega)
   by_cases hk : 4096 < k
   · have HR := Lib.hid (pdec_long g1 hk)
     clear hx hu hbl g1 a1 a2 a3
     go_enter Tryz.func159, Tryz.ntmps159
     go_wp2_with fail
     refine G1.out.mono ?_
     rintro e w1 ⟨rfl, rfl⟩
     go_wp2_with fail
     go_ret2
     exact TxtsPost.bad _ HR.out (Ext.refl _)
   · have hk2 : k ≤ 4096 := by omega
     obtain ⟨R, hR⟩ : ∃ R, R = pdec bs := ⟨_, rfl⟩
     have HR := Lib.hid (show pdA bs (k - 0) (m1 : Int) (bodies []) = R by rw [hR, pdec_go g1 hk2]; rfl)
     rw [← hR]
     have Hbl := Lib.hid hbl
     have Hx := Lib.hid hx
     have Hu := Lib.hid hu
     clear hR g1 hbl hx hu a1 a2
     have hm1 : m1 ≤ n := by omega
     go_enter Tryz.func159, Tryz.ntmps159
     go_wp2_with fail
     refine G1.out.mono ?_
     rintro e w1 ⟨rfl, rfl⟩
     go_wp2_with fail
     go_loopw [5, 7, 8, 9, 10, 11, 12, 26] (fun at_ v _ _ _ _ _ i wr => ∃ (j a : Nat) (ts : List Sl) (A' : Option Addr) (c' : Nat), j ≤ k ∧ i = .int .i64 j ∧ a ≤ n ∧ at_ = .int .i64 a ∧ v = .slice A' j c' ∧ Hid (ts.length = j) ∧ Hid (pdA bs (k - j) a (bodies ts) = R) ∧ Hid (DTx w1 wr A' c' ts)) (fun _ _ _ _ _ _ _ i _ => k - (intOf i).toNat)
     case atStart => exact ⟨0, m1, [], none, 0, Nat.zero_le _, rfl, hm1, rfl, rfl, rfl, HR.out, ⟨OwnG.nil .., Txts.nil .., Ext.refl _, fun t ht => (by cases ht), fun t ht => (by cases ht)⟩⟩
     case round =>
       clear HR
       obtain ⟨j, a, ts, A', c', hj, rfl, ha, rfl, rfl, Hl, HR, HD⟩ := hrel
       by_cases hlt : j < k
       · obtain ⟨q, hq⟩ : ∃ q, k - j = q + 1 := ⟨k - j - 1, by omega⟩
         have Hq2 := Lib.hid (show k - (j + 1) = q by omega)
         have Hq := Lib.hid hq
         clear hq
         have hua : U8 (ahead (bodies ts)) := ahead_u8 (fun s hs => by
           obtain ⟨t, ht, rfl⟩ := List.mem_map.1 hs
           exact HD.out.u8 t ht)
         have Hua := Lib.hid hua
         have hbt : (bodies ts).length = j := by rw [bodies_len, Hl.out]
         rcases hg : ptx bs a (ahead (bodies ts)) with ⟨s, m, e⟩
         have Hg := Lib.hid hg
         clear hua
         by_cases hw16 : j % 16 = 0
         · have hd : decide (j % 16 = 0) = true := decide_eq_true hw16
           have hah : ahead (bodies ts) = [] := ahead_whole (by rw [hbt]; exact hw16)
           have HG := Lib.hid (fun W (hW : Ext wr W) => pgetText_any A n c a none 0 0 bs [] W ((Hx.out.ext HD.out.ext).ext hW) Hu.out hn hcap hcm (Rd.nil ..) (by omega) (by omega))
           rw [← hah, hg] at HG
           clear hg hah hbt
           go_wp2_with fail
           refine (isWhole_any j _ (by omega)).mono ?_
           rintro e' w2 ⟨rfl, rfl⟩
           rw [hd]
           go_wp2_with fail
           refine (HG.out _ (Ext.refl _)).mono ?_
           rintro e' w3 ⟨A3, c3, rfl, hown3, he3⟩
           by_cases he0 : e = 0
           · subst he0
             obtain ⟨b1, b2, b3, b4, b5, _⟩ := ptx_ok Hu.out Hua.out Hg.out
             rw [Hbl.out] at b3
             obtain ⟨m', rfl⟩ := Int.eq_ofNat_of_zero_le (show 0 ≤ m by omega)
             have HN := Lib.hid (show pdA bs (k - (j + 1)) (m' : Int) (bodies (ts ++ [⟨A3, c3, s⟩])) = R by
               rw [Hq2.out, ← HR.out, Hq.out, pdA_next Hg.out]; unfold bodies; rw [List.map_append]; rfl)
             have Hb4 := Lib.hid b4
             have Hb5 := Lib.hid b5
             have hm' : m' ≤ n := by omega
             clear b1 b2 b3 b4 b5
             go_wp2_with (at_builtin; refine wpList_pushT (w0 := w1) ⟨A3, c3, s⟩ rfl _ _ rfl ((HD.out.row.ext he3).ext ((Ext.refl _).alloc _)) (j) Hl.out rfl rfl (heap_alloc_new _ _) (by omega) (Ext.trans (HD.out.ext.trans he3) ((Ext.refl _).alloc _)) (by have := (HD.out.ext.trans he3).size; simp; omega) ?_; intro A4 c4 w4 hown4 hg4 hb4 hz4)
             rw [← Hl.out] at hg4
             have HD4 := Lib.hid (HD.out.snoc (s := ⟨A3, c3, s⟩) hown3 he3 hown4 hg4 hb4 Hb4.out Hb5.out)
             clear hg4 hown4
             go_wp2_with fail
             go_roundw
             case rel => exact ⟨j + 1, m', _, A4, c4, by omega, by go_num, hm', rfl, by go_num, by rw [List.length_append, Hl.out]; rfl, HN.out, HD4.out⟩
             case measure => simp [intOf]; omega
           · have hb1 : (e != 0) = true := by rw [bne_iff_ne]; exact he0
             have HE := Lib.hid (show R = ([], e) by rw [← HR.out, Hq.out, pdA_err Hg.out he0])
             have He := Lib.hid (HD.out.ext.trans he3)
             go_wp2_with fail
             go_ret2
             exact TxtsPost.bad _ HE.out He.out
         · have hd : decide (j % 16 = 0) = false := decide_eq_false hw16
           obtain ⟨p, rfl⟩ : ∃ p, j = p + 1 := ⟨j - 1, by omega⟩
           obtain ⟨b, o, t, rfl, hf, hc⟩ := HD.out.row.rdL.at_ (j := p) (by rw [Hl.out]; omega)
           have hmt := List.mem_of_getElem? hf
           have hah : ahead (bodies ts) = t.body := by rw [ahead_not (by rw [hbt]; exact hw16), hbt, Nat.add_sub_cancel, bodies_get hf]
           have HG := Lib.hid (fun W (hW : Ext wr W) => pgetText_any A n c a t.A t.body.length t.c bs t.body W ((Hx.out.ext HD.out.ext).ext hW) Hu.out hn hcap hcm ((HD.out.txt.rd t hmt).ext hW) (HD.out.len t hmt) (HD.out.txt.own t hmt).cap.1)
           rw [← hah, hg] at HG
           obtain ⟨tA, tc, tb⟩ := t
           simp only at hc HG hah
           rw [hah] at HG
           clear hg hah hbt hf hmt
           obtain ⟨tl, htl⟩ : ∃ tl, tl = tb.length := ⟨_, rfl⟩
           rw [← htl] at hc HG
           clear htl
           go_wp2_with fail
           refine (isWhole_any (p + 1) _ (by omega)).mono ?_
           rintro e' w2 ⟨rfl, rfl⟩
           rw [hd]
           go_wp2_with fail
           refine (HG.out _ (Ext.refl _)).mono ?_
           rintro e' w3 ⟨A3, c3, rfl, hown3, he3⟩
           by_cases he0 : e = 0
           · subst he0
             obtain ⟨b1, b2, b3, b4, b5, _⟩ := ptx_ok Hu.out Hua.out Hg.out
             rw [Hbl.out] at b3
             obtain ⟨m', rfl⟩ := Int.eq_ofNat_of_zero_le (show 0 ≤ m by omega)
             have HN := Lib.hid (show pdA bs (k - (p + 1 + 1)) (m' : Int) (bodies (ts ++ [⟨A3, c3, s⟩])) = R by
               rw [Hq2.out, ← HR.out, Hq.out, pdA_next Hg.out]; unfold bodies; rw [List.map_append]; rfl)
             have Hb4 := Lib.hid b4
             have Hb5 := Lib.hid b5
             have hm' : m' ≤ n := by omega
             clear b1 b2 b3 b4 b5
             go_wp2_with (at_builtin; refine wpList_pushT (w0 := w1) ⟨A3, c3, s⟩ rfl _ _ rfl ((HD.out.row.ext he3).ext ((Ext.refl _).alloc _)) (p + 1) Hl.out rfl rfl (heap_alloc_new _ _) (by omega) (Ext.trans (HD.out.ext.trans he3) ((Ext.refl _).alloc _)) (by have := (HD.out.ext.trans he3).size; simp; omega) ?_; intro A4 c4 w4 hown4 hg4 hb4 hz4)
             rw [← Hl.out] at hg4
             have HD4 := Lib.hid (HD.out.snoc (s := ⟨A3, c3, s⟩) hown3 he3 hown4 hg4 hb4 Hb4.out Hb5.out)
             clear hg4 hown4
             go_wp2_with fail
             go_roundw
             case rel => exact ⟨p + 1 + 1, m', _, A4, c4, by omega, by go_num, hm', rfl, by go_num, by rw [List.length_append, Hl.out]; rfl, HN.out, HD4.out⟩
             case measure => simp [intOf]; omega
           · have hb1 : (e != 0) = true := by rw [bne_iff_ne]; exact he0
             have HE := Lib.hid (show R = ([], e) by rw [← HR.out, Hq.out, pdA_err Hg.out he0])
             have He := Lib.hid (HD.out.ext.trans he3)
             go_wp2_with fail
             go_ret2
             exact TxtsPost.bad _ HE.out He.out
       · obtain rfl : j = k := by omega
         have hR := HR.out
         rw [Nat.sub_self] at hR
         by_cases hat : a < n
         · have HR := Lib.hid (show R = ([], 3) by rw [← hR, pdA_trail (by rw [Hbl.out]; omega)])
           have He := Lib.hid HD.out.ext
           clear hR
           go_wp2_with fail
           go_ret2
           exact TxtsPost.bad _ HR.out He.out
         · have HR := Lib.hid (show R = (bodies ts, 0) by rw [← hR, pdA_end (by rw [Hbl.out]; omega)])
           clear hR
           go_wp2_with fail
           go_ret2
           exact TxtsPost.good _ HR.out Hl.out HD.out.row HD.out.txt HD.out.ext
 · have HR := Lib.hid (pdec_err g1 z1)
   have hb1 : (e1 != 0) = true := by rw [bne_iff_ne]; exact z1
   clear hx hu hbl g1
   go_enter Tryz.func159, Tryz.ntmps159
   go_wp2_with fail
   refine G1.out.mono ?_
   rintro e w1 ⟨rfl, rfl⟩
   go_wp2_with fail
   go_ret2
   exact TxtsPost.bad _ HR.out (Ext.refl _)
theorem OwnX.mono {w : World} {base base' c : Nat} {A : Option Addr} {xs : List Ci} (h : OwnX w base A c xs) (hb : base' ≤ base) : OwnX w base' A c xs := by
 refine ⟨h.1, ?_⟩
 rcases h.2 with hn | ⟨g, cap, cur, hv, hg, r⟩
 · exact Or.inl hn
 · exact Or.inr ⟨g, cap, cur, hv, Nat.le_trans hb hg, r⟩
theorem TxtX.mono {w : World} {base base' : Nat} {xs : List Ci} (h : TxtX w base xs) (hb : base' ≤ base) : TxtX w base' xs := ⟨fun f hf => (h.1 f hf).mono hb, h.2⟩
def Ci.none : Ci := ⟨false, 0, Option.none, 0, []⟩
theorem xcells_cons (x : Ci) (r : List Ci) : xcells (x :: r) = x.cells ++ xcells r := by simp [xcells]
theorem xcells_set (x : Ci) : ∀ (xs : List Ci) (j : Nat), j < xs.length → xcells (xs.set j x) = (((xcells xs).set (j * 3) (.bool x.nul)).set (j * 3 + 1) (.int .i64 x.num)).set (j * 3 + 2) (.slice x.A x.txt.length x.c)
 | [], j, h => absurd h (by simp)
 | y :: r, 0, _ => by
   rw [List.set_cons_zero, xcells_cons, xcells_cons]
   simp [Ci.cells]
 | y :: r, j + 1, h => by
   rw [List.set_cons_succ, xcells_cons, xcells_cons, xcells_set x r j (by simpa using h)]
   have hl : y.cells.length = 3 := rfl
   rw [List.set_append_right _ _ (by omega), List.set_append_right _ _ (by omega), List.set_append_right _ _ (by omega), hl, show (j + 1) * 3 - 3 = j * 3 by omega, show (j + 1) * 3 + 1 - 3 = j * 3 + 1 by omega, show (j + 1) * 3 + 2 - 3 = j * 3 + 2 by omega]
theorem OwnX.store {w : World} {base c : Nat} {A : Option Addr} {xs : List Ci} (h : OwnX w base A c xs) {j : Nat} (hj : j < xs.length) :
   ∃ g, A = some ⟨g, 0, Option.none⟩ ∧ base ≤ g ∧ g < w.heap.size ∧ xs.length ≤ c ∧ c ≤ 9223372036854775807 ∧ w.there g (j * 3) 3 ∧ ∀ x : Ci, OwnX (w.setCells g (j * 3) x.cells) base A c (xs.set j x) ∧ w.grownBy (w.setCells g (j * 3) x.cells) (some g) := by
 have h0 := h
 unfold OwnX at h0
 rcases h.2 with ⟨_, hn⟩ | ⟨g, cap, cur, hv, hg, hh, hnc, hcm, _⟩
 · omega
 · injection hv with hA hl hc
   subst hA
   subst hc
   have hlt : g < w.heap.size := (Array.getElem?_eq_some_iff.1 hh).1
   refine ⟨g, rfl, hg, hlt, hnc, by simpa [maxLen] using hcm, fun i hi => ⟨?_, World.ownsRow.frozenAt h0 _⟩, fun x => ?_⟩
   · rw [World.ownsRow.cellAt h0 _ (by omega)]
     rw [List.getElem?_eq_getElem (by rw [xcells_len]; omega)]
     rfl
   · obtain ⟨a1, b1⟩ := World.ownsRow.stored h0 (j * 3) (.bool x.nul)
     obtain ⟨a2, b2⟩ := World.ownsRow.stored a1 (j * 3 + 1) (.int .i64 x.num)
     obtain ⟨a3, b3⟩ := World.ownsRow.stored a2 (j * 3 + 2) (.slice x.A x.txt.length x.c)
     refine ⟨?_, World.grownBy.trans (World.grownBy.trans b1 b2) b3⟩
     unfold OwnX
     rw [List.length_set, xcells_set x xs j hj]
     exact a3
theorem xcells_nones (n : Nat) : (madeCells (Value.agg #[.bool false, .int .i64 0, .slice Option.none 0 0]).cells (n * 3)).toList = xcells (List.replicate n Ci.none) := by
 apply List.ext_getElem?
 intro j
 by_cases hj : j < n * 3
 · have h2 := xcells_at (xs := List.replicate n Ci.none) (j := j / 3) (x := Ci.none) (by rw [List.getElem?_replicate, if_pos (by omega)]) (j % 3) (Nat.mod_lt _ (by decide))
   rw [show j / 3 * 3 + j % 3 = j by omega] at h2
   rw [h2]
   have h3 : j % 3 = 0 ∨ j % 3 = 1 ∨ j % 3 = 2 := by omega
   have h4 : (List.range (n * 3))[j]? = some j := by rw [List.getElem?_range hj]
   rcases h3 with e | e | e <;> simp [madeCells, Value.cells, e, Ci.none, Ci.cells, h4]
 · rw [List.getElem?_eq_none (by simp [madeCells]; omega), List.getElem?_eq_none (by rw [xcells_len]; simp; omega)]
theorem wpList_mkX {w : World} {ops : Array Oper} {rest : List Oper} {o : Oper} {a : Act} {Q : Exit → Act → World → Prop} (hgd : o.guard = Option.none) (l c : Operand)
   (hop : o.op = Op.makeSlice 25 l c) (kl kc : IntKind) {L C : Int} (n : Nat) (hl : a.eval l = .int kl L) (hc : a.eval c = .int kc C) (hL : L = (n : Int)) (hC : C = (n : Int)) (hb : n ≤ 4398046511104)
   (h : ∀ w', OwnX w' w.heap.size (some ⟨w.heap.size, 0, Option.none⟩) n (List.replicate n Ci.none) → Ext w w' → wpList Tryz.prog ops Q rest (a.put o.dst (.slice (some ⟨w.heap.size, 0, Option.none⟩) n n)) w') :
   wpList Tryz.prog ops Q (o :: rest) a w := by
 obtain ⟨i, hi0, hz, hsz, hbs⟩ := info_parts Tryz.infoCell
 refine wpList_make_full w hgd l c 25 hop w.heap.size 61 i _ 3 Tryz.underlying25 hi0 hz hsz kl kc L C n hl hc hL hC (by rw [hbs]; omega) (by unfold maxLen; omega) (Nat.le_refl _) ?_
 intro w' h1 h2
 refine h w' ?_ ⟨h2.os, h2.tape, h2.output, h2.size, fun j hj => h2.block j hj (by simp)⟩
 rw [xcells_nones] at h1
 unfold OwnX
 rw [List.length_replicate]
 exact h1
theorem OwnX.block {w : World} {base c : Nat} {A : Option Addr} {xs : List Ci} (h : OwnX w base A c xs) : ∀ a, A = some a → base ≤ a.block ∧ a.block < w.heap.size := by
 rintro a rfl
 exact World.ownsRow.lt h a.block rfl
def zR (R : List Int × Int) : List Cv × Int := if R.2 ≠ 0 then ([], R.2) else (R.1.map fun v => (false, v, []), 0)
def tR (R : List (List Nat) × Int) : List Cv × Int := if R.2 ≠ 0 then ([], R.2) else (R.1.map fun t => (false, 0, t), 0)
def codR (cd : Int) (bs : List Nat) : List Cv × Int :=
 if cd = 2 then zR (decode8 bs) else if cd = 3 then zR (decode9 bs) else if cd = 4 then tR (ddec bs) else tR (pdec bs)
def ciZ (v : Int) : Ci := ⟨false, v, none, 0, []⟩
def ciT (s : Sl) : Ci := ⟨false, 0, s.A, s.c, s.body⟩
theorem txtX_Z (w : World) (base : Nat) (vs : List Int) : TxtX w base (vs.map ciZ) := by
 refine ⟨fun x hx => ?_, ?_⟩
 · obtain ⟨v, _, rfl⟩ := List.mem_map.1 hx
   exact Own.nil ..
 · rw [List.pairwise_map]
   exact List.pairwise_of_forall fun a b p q h => by cases h
theorem txtX_T {w : World} {base : Nat} {ts : List Sl} (h : Txts w base ts) : TxtX w base (ts.map ciT) := by
 refine ⟨fun x hx => ?_, ?_⟩
 · obtain ⟨s, hs, rfl⟩ := List.mem_map.1 hx
   exact h.own s hs
 · rw [List.pairwise_map]
   exact h.apart
theorem val_Z (vs : List Int) : (vs.map ciZ).map Ci.val = vs.map fun v => (false, v, []) := by rw [List.map_map]; rfl
theorem val_T (ts : List Sl) : (ts.map ciT).map Ci.val = (bodies ts).map fun t => (false, 0, t) := by unfold bodies; rw [List.map_map, List.map_map]; rfl
theorem decode9_len12 (bs : List Nat) : (decode9 bs).1.length ≤ 4096 := by
 unfold decode9
 split
 · simp
 · split
   · simp
   · split
     · split <;> simp
     · unfold decSome
       split
       · simp
       · unfold decTail
         split
         · simp
         · split
           · simp
           · split
             · simp
             · split
               · rename_i h1 h2 _ _ _ h6 _
                 rw [above_len, secL_len (by simpa using h6)]
                 omega
               · simp
theorem decode8_len12 (bs : List Nat) : (decode8 bs).1.length ≤ 4096 := by
 have hR : ∀ m vs a, vs.length ≤ 4096 → (decR bs m vs a).1.length ≤ 4096 := by
   intro m
   induction m with
   | zero => intro vs a h; rw [decR]; split <;> simp [h]
   | succ m ih =>
     intro vs a h
     rw [decR]
     repeat' split
     all_goals first | (refine ih _ _ ?_; rw [List.length_append, List.length_replicate]; omega) | simp
 unfold decode8
 repeat' split
 all_goals first | exact hR _ _ _ (by simp) | simp
set_option maxHeartbeats 4000000 in
theorem getCoded2_any (A : Option Addr) (l c : Nat) (bs : List Nat) (w : World) (hx : Rd .u8 w A l bs) (hu : U8 bs) (hl : l ≤ 140737488351232) (hcap : l ≤ c) (hcm : c ≤ 9223372036854775807) :
   Calls Tryz.prog 120 #[.int .i64 2, .slice A l c] w (GcPost (zR (decode8 bs)) w) := by
 have HD := Lib.hid (decode_any A l c bs w hx hu (by omega) hcap hcm)
 have hlen := decode8_len12 bs
 have hR := zR.eq_1 (decode8 bs)
 obtain ⟨P, hP⟩ : ∃ P, P = decode8 bs := ⟨_, rfl⟩
 rw [← hP] at HD hlen hR
 obtain ⟨vs, er⟩ := P
 simp only at hlen hR
 obtain ⟨n, hn⟩ : ∃ n, n = vs.length := ⟨_, rfl⟩
 rw [← hn] at hlen
 have Hn := Lib.hid hn
 rw [← hP]
 clear hx hu hP hn
 by_cases he : er = 0
 · subst he
   have HR := Lib.hid (hR.trans (if_neg (fun h => h rfl)))
   clear hR
   go_enter Tryz.func120, Tryz.ntmps120
   go_wp2_with fail
   refine HD.out.mono ?_
   rintro e w1 ⟨A1, c1, rfl, ho, he1⟩
   simp only [← Hn.out]
   have Hr := Lib.hid (ho.rd' Hn.out.symm)
   have hz1 := he1.size
   go_wp2_with fail
   go_loopw [9, 48] (fun v i wr => ∃ (j : Nat) (A' : Option Addr) (c' : Nat), j ≤ n ∧ i = .int .i64 (j : Int) ∧ v = .slice A' j c' ∧ OwnX wr w1.heap.size A' c' ((vs.take j).map ciZ) ∧ Below w1.heap.size w1 wr) (fun _ i _ => n - (intOf i).toNat)
   case atStart => exact ⟨0, none, 0, Nat.zero_le _, rfl, rfl, OwnX.nil _ _, Ext.refl _⟩
   case round =>
     obtain ⟨j, A', c', hj, rfl, rfl, hown, hb⟩ := hrel
     have hz := hb.size
     by_cases hlt : j < n
     · obtain ⟨bb, o, rfl, hbb, hcell⟩ := (Hr.out.ext hb).atZ hlt
       have h2 : j < vs.length := by rw [← Hn.out]; exact hlt
       have ht : (vs.take (j + 1)).map ciZ = (vs.take j).map ciZ ++ [ciZ (vs.getD j 0)] := by rw [List.take_succ_eq_append_getElem h2, List.map_append]; simp [List.getD, h2]
       have hfl : ((vs.take j).map ciZ).length = j := by rw [List.length_map, List.length_take]; omega
       obtain ⟨x, hx⟩ : ∃ x, x = vs.getD j 0 := ⟨_, rfl⟩
       rw [← hx] at hcell ht
       have Ht := Lib.hid ht
       have Hfl := Lib.hid hfl
       clear hx ht hfl h2
       go_wp2_with (at_builtin; refine wpList_pushX (w0 := w1) (base := w1.heap.size) ⟨false, x, none, 0, []⟩ rfl _ _ rfl (hown.ext ((Ext.refl _).alloc _)) j Hfl.out rfl rfl ?_ (by omega) (Ext.trans hb ((Ext.refl _).alloc _)) (by simp; omega) ?_; (focus (show _ = some (Obj.cells #[.bool false, .int .i64 x, .slice none 0 0] 61 _); exact heap_at (by simp))); intro A3 c3 w3 hO3 _ hE3 hz3)
       go_roundw
       case rel => exact ⟨j + 1, A3, c3, hlt, by go_num, rfl, by rw [Ht.out]; exact hO3, hE3⟩
       case measure => simp [intOf]; omega
     · obtain rfl : j = n := by omega
       rw [List.take_of_length_le (Nat.le_of_eq Hn.out.symm)] at hown
       go_wp2_with fail
       go_loopw [9, 60] (fun v i wr' => v = .slice A' j c' ∧ i = .int .i64 0 ∧ wr' = wr) (fun _ _ _ => 0)
       case atStart => exact ⟨rfl, rfl, rfl⟩
       case round =>
         obtain ⟨rfl, rfl, rfl⟩ := hrel
         go_wp2
         go_ret2
         rw [HR.out]
         have hvl : (vs.map fun v => ((false, v, []) : Cv)).length = j := by rw [List.length_map, ← Hn.out]
         exact ⟨vs.map ciZ, A', c', by simp only; rw [hvl]; rfl, val_Z vs, hown.mono hz1, txtX_Z _ _ _, he1.trans hb⟩
 · have heb : (er == 0) = false := beq_eq_false_iff_ne.2 he
   have HR := Lib.hid (hR.trans (if_pos he))
   clear hR he
   go_enter Tryz.func120, Tryz.ntmps120
   go_wp2_with fail
   refine HD.out.mono ?_
   rintro e w1 ⟨A1, c1, rfl, ho, he1⟩
   simp only [← Hn.out]
   go_wp2_with fail
   go_ret2
   exact GcPost.bad _ HR.out he1
set_option maxHeartbeats 4000000 in
theorem getCoded3_any (A : Option Addr) (l c : Nat) (bs : List Nat) (w : World) (hx : Rd .u8 w A l bs) (hu : U8 bs) (hl : l ≤ 140737488351232) (hcap : l ≤ c) (hcm : c ≤ 9223372036854775807) :
   Calls Tryz.prog 120 #[.int .i64 3, .slice A l c] w (GcPost (zR (decode9 bs)) w) := by
 have HD := Lib.hid (pdecode_any A l c bs w hx hu (by omega) hcap hcm)
 have hlen := decode9_len12 bs
 have hR := zR.eq_1 (decode9 bs)
 obtain ⟨P, hP⟩ : ∃ P, P = decode9 bs := ⟨_, rfl⟩
 rw [← hP] at HD hlen hR
 obtain ⟨vs, er⟩ := P
 simp only at hlen hR
 obtain ⟨n, hn⟩ : ∃ n, n = vs.length := ⟨_, rfl⟩
 rw [← hn] at hlen
 have Hn := Lib.hid hn
 rw [← hP]
 clear hx hu hP hn
 by_cases he : er = 0
 · subst he
   have HR := Lib.hid (hR.trans (if_neg (fun h => h rfl)))
   clear hR
   go_enter Tryz.func120, Tryz.ntmps120
   go_wp2_with fail
   refine HD.out.mono ?_
   rintro e w1 ⟨A1, c1, rfl, ho, he1⟩
   simp only [← Hn.out]
   have Hr := Lib.hid (ho.rd' Hn.out.symm)
   have hz1 := he1.size
   go_wp2_with fail
   go_loopw [9, 48] (fun v i wr => ∃ (j : Nat) (A' : Option Addr) (c' : Nat), j ≤ n ∧ i = .int .i64 (j : Int) ∧ v = .slice A' j c' ∧ OwnX wr w1.heap.size A' c' ((vs.take j).map ciZ) ∧ Below w1.heap.size w1 wr) (fun _ i _ => n - (intOf i).toNat)
   case atStart => exact ⟨0, none, 0, Nat.zero_le _, rfl, rfl, OwnX.nil _ _, Ext.refl _⟩
   case round =>
     obtain ⟨j, A', c', hj, rfl, rfl, hown, hb⟩ := hrel
     have hz := hb.size
     by_cases hlt : j < n
     · obtain ⟨bb, o, rfl, hbb, hcell⟩ := (Hr.out.ext hb).atZ hlt
       have h2 : j < vs.length := by rw [← Hn.out]; exact hlt
       have ht : (vs.take (j + 1)).map ciZ = (vs.take j).map ciZ ++ [ciZ (vs.getD j 0)] := by rw [List.take_succ_eq_append_getElem h2, List.map_append]; simp [List.getD, h2]
       have hfl : ((vs.take j).map ciZ).length = j := by rw [List.length_map, List.length_take]; omega
       obtain ⟨x, hx⟩ : ∃ x, x = vs.getD j 0 := ⟨_, rfl⟩
       rw [← hx] at hcell ht
       have Ht := Lib.hid ht
       have Hfl := Lib.hid hfl
       clear hx ht hfl h2
       go_wp2_with (at_builtin; refine wpList_pushX (w0 := w1) (base := w1.heap.size) ⟨false, x, none, 0, []⟩ rfl _ _ rfl (hown.ext ((Ext.refl _).alloc _)) j Hfl.out rfl rfl ?_ (by omega) (Ext.trans hb ((Ext.refl _).alloc _)) (by simp; omega) ?_; (focus (show _ = some (Obj.cells #[.bool false, .int .i64 x, .slice none 0 0] 61 _); exact heap_at (by simp))); intro A3 c3 w3 hO3 _ hE3 hz3)
       go_roundw
       case rel => exact ⟨j + 1, A3, c3, hlt, by go_num, rfl, by rw [Ht.out]; exact hO3, hE3⟩
       case measure => simp [intOf]; omega
     · obtain rfl : j = n := by omega
       rw [List.take_of_length_le (Nat.le_of_eq Hn.out.symm)] at hown
       go_wp2_with fail
       go_loopw [9, 60] (fun v i wr' => v = .slice A' j c' ∧ i = .int .i64 0 ∧ wr' = wr) (fun _ _ _ => 0)
       case atStart => exact ⟨rfl, rfl, rfl⟩
       case round =>
         obtain ⟨rfl, rfl, rfl⟩ := hrel
         go_wp2
         go_ret2
         rw [HR.out]
         have hvl : (vs.map fun v => ((false, v, []) : Cv)).length = j := by rw [List.length_map, ← Hn.out]
         exact ⟨vs.map ciZ, A', c', by simp only; rw [hvl]; rfl, val_Z vs, hown.mono hz1, txtX_Z _ _ _, he1.trans hb⟩
 · have heb : (er == 0) = false := beq_eq_false_iff_ne.2 he
   have HR := Lib.hid (hR.trans (if_pos he))
   clear hR he
   go_enter Tryz.func120, Tryz.ntmps120
   go_wp2_with fail
   refine HD.out.mono ?_
   rintro e w1 ⟨A1, c1, rfl, ho, he1⟩
   simp only [← Hn.out]
   go_wp2_with fail
   go_ret2
   exact GcPost.bad _ HR.out he1
set_option maxHeartbeats 4000000 in
theorem getCoded4_any (A : Option Addr) (l c : Nat) (bs : List Nat) (w : World) (hx : Rd .u8 w A l bs) (hu : U8 bs) (hl : l ≤ 140737488351232) (hcap : l ≤ c) (hcm : c ≤ 9223372036854775807) (hlen : (ddec bs).2 = 0 → (ddec bs).1.length ≤ 4096) :
   Calls Tryz.prog 120 #[.int .i64 4, .slice A l c] w (GcPost (tR (ddec bs)) w) := by
 have HD := Lib.hid (ddecode_any A l c bs w hx hu (by omega) hcap hcm)
 have hR := tR.eq_1 (ddec bs)
 obtain ⟨P, hP⟩ : ∃ P, P = ddec bs := ⟨_, rfl⟩
 rw [← hP] at HD hlen hR
 obtain ⟨L, er⟩ := P
 simp only at hlen hR
 rw [← hP]
 clear hx hu hP
 by_cases he : er = 0
 · subst he
   replace hlen := hlen rfl
   have HR := Lib.hid (hR.trans (if_neg (fun h => h rfl)))
   clear hR
   go_enter Tryz.func120, Tryz.ntmps120
   go_wp2_with fail
   refine HD.out.mono ?_
   rintro e w1 ⟨A1, c1, ts, rfl, hbo, ho, htx, he1⟩
   simp only at hbo
   obtain ⟨n, hn⟩ : ∃ n, n = ts.length := ⟨_, rfl⟩
   have hr := OwnG.rdL ho
   rw [← hn] at hr
   have hn4 : n ≤ 4096 := by rw [hn, ← bodies_len, hbo]; exact hlen
   have Hr := Lib.hid hr
   have Hn := Lib.hid hn
   have Hbo := Lib.hid hbo
   have hz1 := he1.size
   simp only [← Hn.out]
   clear hr hn hbo ho
   go_wp2_with fail
   go_loopw [9, 48] (fun v i wr' => v = .slice none 0 0 ∧ i = .int .i64 0 ∧ w1 = wr') (fun _ _ _ => 0)
   case atStart => exact ⟨rfl, rfl, rfl⟩
   case round =>
     obtain ⟨rfl, rfl, rfl⟩ := hrel
     go_wp2_with fail
     go_loopw [9, 60] (fun v i wr' => ∃ (j : Nat) (A' : Option Addr) (c' : Nat), j ≤ n ∧ i = .int .i64 (j : Int) ∧ v = .slice A' j c' ∧ OwnX wr' w1.heap.size A' c' ((ts.take j).map ciT) ∧ Below w1.heap.size w1 wr') (fun _ i _ => n - (intOf i).toNat)
     case atStart => exact ⟨0, none, 0, Nat.zero_le _, rfl, rfl, OwnX.nil _ _, Ext.refl _⟩
     case round =>
       obtain ⟨j, A', c', hj, rfl, rfl, hown, hb⟩ := hrel
       have hz := hb.size
       by_cases hlt : j < n
       · have h2 : j < ts.length := by rw [← Hn.out]; exact hlt
         obtain ⟨bb, o, rfl, hbb, hcs⟩ := (Hr.out.ext hb).2 (by omega)
         have hcell := hcs j ts[j] (List.getElem?_eq_getElem h2)
         have ht : (ts.take (j + 1)).map ciT = (ts.take j).map ciT ++ [ciT ts[j]] := by rw [List.take_succ_eq_append_getElem h2, List.map_append]; rfl
         have hfl : ((ts.take j).map ciT).length = j := by rw [List.length_map, List.length_take]; omega
         obtain ⟨x, hx⟩ : ∃ x, x = ts[j] := ⟨_, rfl⟩
         rw [← hx] at hcell ht
         obtain ⟨xA, xc, xb⟩ := x
         obtain ⟨q, hq⟩ : ∃ q, q = xb.length := ⟨_, rfl⟩
         have hcell2 : wr.cell? ⟨bb, o + j, none⟩ = some (Value.slice xA q xc) := by rw [hq]; exact hcell
         have Ht := Lib.hid ht
         have Hfl := Lib.hid hfl
         have Hq := Lib.hid hq
         clear hx ht hfl h2 hcell hcs hq
         go_wp2_with (at_builtin; refine wpList_pushX (w0 := w1) (base := w1.heap.size) ⟨false, 0, xA, xc, xb⟩ rfl _ _ rfl (hown.ext ((Ext.refl _).alloc _)) j Hfl.out rfl rfl ?_ (by omega) (Ext.trans hb ((Ext.refl _).alloc _)) (by simp; omega) ?_; (focus (rw [← Hq.out]; exact heap_at (by simp))); intro A3 c3 w3 hO3 _ hE3 hz3)
         go_roundw
         case rel => exact ⟨j + 1, A3, c3, hlt, by go_num, rfl, by rw [Ht.out]; exact hO3, hE3⟩
         case measure => simp [intOf]; omega
       · obtain rfl : j = n := by omega
         rw [List.take_of_length_le (Nat.le_of_eq Hn.out.symm)] at hown
         go_wp2
         go_ret2
         rw [HR.out]
         have hvl : (L.map fun t => ((false, 0, t) : Cv)).length = j := by rw [List.length_map, ← Hbo.out, bodies_len, ← Hn.out]
         exact ⟨ts.map ciT, A', c', by simp only; rw [hvl]; rfl, by rw [← Hbo.out]; exact val_T ts, hown.mono hz1, (txtX_T htx).ext hb, he1.trans hb⟩
 · have heb : (er == 0) = false := beq_eq_false_iff_ne.2 he
   have HR := Lib.hid (hR.trans (if_pos he))
   clear hR he hlen
   go_enter Tryz.func120, Tryz.ntmps120
   go_wp2_with fail
   refine HD.out.mono ?_
   rintro e w1 ⟨A1, c1, ts, rfl, _, _, _, he1⟩
   go_wp2_with fail
   go_ret2
   exact GcPost.bad _ HR.out he1
set_option maxHeartbeats 4000000 in
theorem getCoded5_any (A : Option Addr) (l c : Nat) (bs : List Nat) (w : World) (hx : Rd .u8 w A l bs) (hu : U8 bs) (hl : l ≤ 140737488351232) (hcap : l ≤ c) (hcm : c ≤ 9223372036854775807) (hlen : (pdec bs).2 = 0 → (pdec bs).1.length ≤ 4096) :
   Calls Tryz.prog 120 #[.int .i64 5, .slice A l c] w (GcPost (tR (pdec bs)) w) := by
 have HD := Lib.hid (pdecode11_any A l c bs w hx hu (by omega) hcap hcm)
 have hR := tR.eq_1 (pdec bs)
 obtain ⟨P, hP⟩ : ∃ P, P = pdec bs := ⟨_, rfl⟩
 rw [← hP] at HD hlen hR
 obtain ⟨L, er⟩ := P
 simp only at hlen hR
 rw [← hP]
 clear hx hu hP
 by_cases he : er = 0
 · subst he
   replace hlen := hlen rfl
   have HR := Lib.hid (hR.trans (if_neg (fun h => h rfl)))
   clear hR
   go_enter Tryz.func120, Tryz.ntmps120
   go_wp2_with fail
   refine HD.out.mono ?_
   rintro e w1 ⟨A1, c1, ts, rfl, hbo, ho, htx, he1⟩
   simp only at hbo
   obtain ⟨n, hn⟩ : ∃ n, n = ts.length := ⟨_, rfl⟩
   have hr := OwnG.rdL ho
   rw [← hn] at hr
   have hn4 : n ≤ 4096 := by rw [hn, ← bodies_len, hbo]; exact hlen
   have Hr := Lib.hid hr
   have Hn := Lib.hid hn
   have Hbo := Lib.hid hbo
   have hz1 := he1.size
   simp only [← Hn.out]
   clear hr hn hbo ho
   go_wp2_with fail
   go_loopw [9, 48] (fun v i wr' => v = .slice none 0 0 ∧ i = .int .i64 0 ∧ w1 = wr') (fun _ _ _ => 0)
   case atStart => exact ⟨rfl, rfl, rfl⟩
   case round =>
     obtain ⟨rfl, rfl, rfl⟩ := hrel
     go_wp2_with fail
     go_loopw [9, 60] (fun v i wr' => ∃ (j : Nat) (A' : Option Addr) (c' : Nat), j ≤ n ∧ i = .int .i64 (j : Int) ∧ v = .slice A' j c' ∧ OwnX wr' w1.heap.size A' c' ((ts.take j).map ciT) ∧ Below w1.heap.size w1 wr') (fun _ i _ => n - (intOf i).toNat)
     case atStart => exact ⟨0, none, 0, Nat.zero_le _, rfl, rfl, OwnX.nil _ _, Ext.refl _⟩
     case round =>
       obtain ⟨j, A', c', hj, rfl, rfl, hown, hb⟩ := hrel
       have hz := hb.size
       by_cases hlt : j < n
       · have h2 : j < ts.length := by rw [← Hn.out]; exact hlt
         obtain ⟨bb, o, rfl, hbb, hcs⟩ := (Hr.out.ext hb).2 (by omega)
         have hcell := hcs j ts[j] (List.getElem?_eq_getElem h2)
         have ht : (ts.take (j + 1)).map ciT = (ts.take j).map ciT ++ [ciT ts[j]] := by rw [List.take_succ_eq_append_getElem h2, List.map_append]; rfl
         have hfl : ((ts.take j).map ciT).length = j := by rw [List.length_map, List.length_take]; omega
         obtain ⟨x, hx⟩ : ∃ x, x = ts[j] := ⟨_, rfl⟩
         rw [← hx] at hcell ht
         obtain ⟨xA, xc, xb⟩ := x
         obtain ⟨q, hq⟩ : ∃ q, q = xb.length := ⟨_, rfl⟩
         have hcell2 : wr.cell? ⟨bb, o + j, none⟩ = some (Value.slice xA q xc) := by rw [hq]; exact hcell
         have Ht := Lib.hid ht
         have Hfl := Lib.hid hfl
         have Hq := Lib.hid hq
         clear hx ht hfl h2 hcell hcs hq
         go_wp2_with (at_builtin; refine wpList_pushX (w0 := w1) (base := w1.heap.size) ⟨false, 0, xA, xc, xb⟩ rfl _ _ rfl (hown.ext ((Ext.refl _).alloc _)) j Hfl.out rfl rfl ?_ (by omega) (Ext.trans hb ((Ext.refl _).alloc _)) (by simp; omega) ?_; (focus (rw [← Hq.out]; exact heap_at (by simp))); intro A3 c3 w3 hO3 _ hE3 hz3)
         go_roundw
         case rel => exact ⟨j + 1, A3, c3, hlt, by go_num, rfl, by rw [Ht.out]; exact hO3, hE3⟩
         case measure => simp [intOf]; omega
       · obtain rfl : j = n := by omega
         rw [List.take_of_length_le (Nat.le_of_eq Hn.out.symm)] at hown
         go_wp2
         go_ret2
         rw [HR.out]
         have hvl : (L.map fun t => ((false, 0, t) : Cv)).length = j := by rw [List.length_map, ← Hbo.out, bodies_len, ← Hn.out]
         exact ⟨ts.map ciT, A', c', by simp only; rw [hvl]; rfl, by rw [← Hbo.out]; exact val_T ts, hown.mono hz1, (txtX_T htx).ext hb, he1.trans hb⟩
 · have heb : (er == 0) = false := beq_eq_false_iff_ne.2 he
   have HR := Lib.hid (hR.trans (if_pos he))
   clear hR he hlen
   go_enter Tryz.func120, Tryz.ntmps120
   go_wp2_with fail
   refine HD.out.mono ?_
   rintro e w1 ⟨A1, c1, ts, rfl, _, _, _, he1⟩
   go_wp2_with fail
   go_ret2
   exact GcPost.bad _ HR.out he1
theorem getCoded_any (cd : Int) (hcd : 2 ≤ cd ∧ cd ≤ 5) (A : Option Addr) (l c : Nat) (bs : List Nat) (w : World) (hx : Rd .u8 w A l bs) (hu : U8 bs) (hl : l ≤ 140737488351232) (hcap : l ≤ c) (hcm : c ≤ 9223372036854775807) :
   Calls Tryz.prog 120 #[.int .i64 cd, .slice A l c] w (GcPost (codR cd bs) w) := by
 rcases (show cd = 2 ∨ cd = 3 ∨ cd = 4 ∨ cd = 5 by omega) with rfl | rfl | rfl | rfl
 · exact getCoded2_any A l c bs w hx hu hl hcap hcm
 · exact getCoded3_any A l c bs w hx hu hl hcap hcm
 · exact getCoded4_any A l c bs w hx hu hl hcap hcm (fun h => (ddec_ok hu (ss := (ddec bs).1) (by rw [← h])).2.1)
 · exact getCoded5_any A l c bs w hx hu hl hcap hcm (fun h => (pdec_ok hu (ss := (pdec bs).1) (by rw [← h])).2.1)
def valuesR (k cd : Int) (bs : List Nat) (n : Nat) : List Cv × Int :=
 if cd = 1 then gplR k bs n else if (codR cd bs).2 ≠ 0 then ([], (codR cd bs).2) else if (codR cd bs).1.length ≠ n then ([], 5) else ((codR cd bs).1, 0)
set_option maxHeartbeats 2000000 in
theorem getValues_any (k cd : Int) (hcd : 1 ≤ cd ∧ cd ≤ 5) (A : Option Addr) (l c n : Nat) (bs : List Nat) (w : World) (hx : Rd .u8 w A l bs) (hu : U8 bs) (hl : l ≤ 140737488351232) (hn : n ≤ 4096) (hcap : l ≤ c) (hcm : c ≤ 9223372036854775807) :
   Calls Tryz.prog 79 #[.int .i64 k, .int .i64 cd, .slice A l c, .int .i64 (n : Int)] w (GcPost (valuesR k cd bs n) w) := by
 have hR := valuesR.eq_1 k cd bs n
 by_cases h1 : cd = 1
 · subst h1
   have HR := Lib.hid (hR.trans (if_pos rfl))
   have HP := Lib.hid (getPlain_any k A l c n bs w hx hu (by omega) hn hcap hcm)
   obtain ⟨R, hRR⟩ : ∃ R, R = gplR k bs n := ⟨_, rfl⟩
   rw [← hRR] at HP HR
   clear hR hx hu hRR
   go_enter Tryz.func79, Tryz.ntmps79
   go_wp2_with fail
   refine HP.out.mono ?_
   rintro e w1 ⟨fs, A1, c1, rfl, hv, ho, ht, he⟩
   go_wp2_with fail
   go_ret2
   rw [HR.out]
   exact ⟨fs, A1, c1, rfl, hv, ho, ht, he⟩
 · replace hR := hR.trans (if_neg h1)
   have h1b : (cd == 1) = false := beq_eq_false_iff_ne.2 h1
   have HC := Lib.hid (getCoded_any cd (by omega) A l c bs w hx hu hl hcap hcm)
   obtain ⟨R, hRR⟩ : ∃ R, R = codR cd bs := ⟨_, rfl⟩
   rw [← hRR] at HC hR
   obtain ⟨L, er⟩ := R
   simp only at hR
   clear hx hu hRR h1
   by_cases he : er = 0
   · subst he
     replace hR := hR.trans (if_neg (fun h => h rfl))
     obtain ⟨m, hm⟩ : ∃ m, m = L.length := ⟨_, rfl⟩
     rw [← hm] at hR
     have Hm := Lib.hid hm
     by_cases hmn : m = n
     · have HR := Lib.hid (hR.trans (if_neg (fun h => h hmn)))
       have hb : ((m : Int) != (n : Int)) = false := by rw [hmn]; simp
       clear hR hm
       go_enter Tryz.func79, Tryz.ntmps79
       go_wp2_with fail
       refine HC.out.mono ?_
       rintro e w1 ⟨fs, A1, c1, rfl, hv, ho, ht, he⟩
       simp only [← Hm.out]
       go_wp2_with fail
       go_ret2
       rw [HR.out]
       exact ⟨fs, A1, c1, by simp only; rw [← Hm.out, hmn]; rfl, hv, ho, ht, he⟩
     · have HR := Lib.hid (hR.trans (if_pos hmn))
       have hb : ((m : Int) == (n : Int)) = false := beq_eq_false_iff_ne.2 (by omega)
       clear hR hm hmn
       go_enter Tryz.func79, Tryz.ntmps79
       go_wp2_with fail
       refine HC.out.mono ?_
       rintro e w1 ⟨fs, A1, c1, rfl, hv, ho, ht, he⟩
       simp only [← Hm.out]
       go_wp2_with fail
       go_ret2
       exact GcPost.bad _ HR.out he
   · have heb : (er == 0) = false := beq_eq_false_iff_ne.2 he
     have HR := Lib.hid (hR.trans (if_pos he))
     clear hR he
     go_enter Tryz.func79, Tryz.ntmps79
     go_wp2_with fail
     refine HC.out.mono ?_
     rintro e w1 ⟨fs, A1, c1, rfl, hv, ho, ht, he⟩
     go_wp2_with fail
     go_ret2
     exact GcPost.bad _ HR.out he
theorem wp_storeX {w : World} {o : Oper} {a : Act} {K : Act → World → Prop} {Q : Exit → Act → World → Prop} (f : Ci) (x y : Operand) (ho : o.op = .store 61 x y)
   {base c : Nat} {A : Option Addr} {fs : List Ci} (hown : OwnX w base A c fs) {j : Nat} (hj : j < fs.length) {g o' : Nat} (hA : A = some ⟨g, 0, none⟩) (ho' : o' = j * 3)
   (hx : a.eval x = .pointer (some ⟨g, o', none⟩)) (hy : a.eval y = .agg #[.bool f.nul, .int .i64 f.num, .slice f.A f.txt.length f.c])
   (h : ∀ w', OwnX w' base A c (fs.set j f) → w.grownBy w' (some g) → K (a.put o.dst undef) w') : Oper.wp Tryz.prog o a w K Q := by
 obtain ⟨g', hA', _, _, _, _, ht, hs⟩ := hown.store hj
 rw [hA] at hA'
 injection hA' with hA'
 injection hA' with e1
 subst e1 ho'
 obtain ⟨h1, h2⟩ := hs f
 exact wp_store_mid 61 x y ho g (j * 3) #[.bool f.nul, .int .i64 f.num, .slice f.A f.txt.length f.c] hx hy ht (by kernel_rfl) (by simp [Value.oneCell']) (h _ h1 h2)
theorem wpList_storeX {w : World} {ops : Array Oper} {rest : List Oper} {o : Oper} {a : Act} {Q : Exit → Act → World → Prop} (f : Ci) (hgd : o.guard = none) (x y : Operand) (ho : o.op = .store 61 x y)
   {base c : Nat} {A : Option Addr} {fs : List Ci} (hown : OwnX w base A c fs) {j : Nat} (hj : j < fs.length) {g o' : Nat} (hA : A = some ⟨g, 0, none⟩) (ho' : o' = j * 3)
   (hx : a.eval x = .pointer (some ⟨g, o', none⟩)) (hy : a.eval y = .agg #[.bool f.nul, .int .i64 f.num, .slice f.A f.txt.length f.c])
   (h : ∀ w', OwnX w' base A c (fs.set j f) → w.grownBy w' (some g) → wpList Tryz.prog ops Q rest (a.put o.dst undef) w') : wpList Tryz.prog ops Q (o :: rest) a w :=
 wpList_plain hgd fun _ hK => wp_storeX f x y ho hown hj hA ho' hx hy fun w' h1 h2 => hK _ _ (h w' h1 h2)
def wN : List Nat → List Cv → List Cv
 | [], _ => []
 | u :: r, vs => if u = 1 then (true, 0, []) :: wN r vs else match vs with
   | [] => []
   | v :: s => v :: wN r s
def Ci.null : Ci := ⟨true, 0, Option.none, 0, []⟩
theorem Tryz.elemX : Tryz.prog.elem 25 = 61 := by kernel_rfl
theorem run_sizeX (w : World) : (sizeOf (Tryz.prog.elem 25)).run Tryz.prog w = .ok 3 w := by
 obtain ⟨i, hi0, hz, hsz, hbs⟩ := info_parts Tryz.infoCell
 rw [Tryz.elemX]
 simp [sizeOf, typeInfo, hi0, hsz]
theorem Tryz.underX : Tryz.prog.underlying 25 = some (.slice (Tryz.prog.elem 25)) := by kernel_rfl
def offX (A : Option Addr) (k m : Nat) : Option Addr := if m = k then A else A.map (·.add (k * 3))
theorem RdX.offX {w : World} {A : Option Addr} {n k m : Nat} {xs : List Ci} (h : RdX w A n xs) (hk : k ≤ n) (hm : n ≤ m) : RdX w (offX A k m) (n - k) (xs.drop k) := by
 refine ⟨by rw [List.length_drop, h.1], fun hn => ?_⟩
 obtain ⟨b, o, rfl, hb, hc⟩ := h.2 (by omega)
 refine ⟨b, o + k * 3, by unfold Go.Proofs.YthibbgmicmfkfaaGreat.offX; rw [if_neg (by omega)]; simp [Addr.add], hb, fun j x hj => ?_⟩
 rw [List.getElem?_drop] at hj
 have := hc (k + j) x hj
 rw [show o + k * 3 + j * 3 = o + (k + j) * 3 by omega]
 exact this
theorem run_fromX (A : Option Addr) (n c k : Nat) (hk : k ≤ n) : ∀ W : World, (Instr.slice 25 (.slice A n c) (some (.int .i64 (k : Int))) none none).run Tryz.prog W = .ok (.slice (offX A k c) (n - k : Nat) (c - k : Nat)) W := by
 intro W
 rw [run_slice_l W _ A n c Tryz.underX .i64 k (by omega) (by omega), run_sizeX]
 simp only [Result.andThen, sliced, Int.toNat_natCast]
 rfl
theorem xcells_set0 : ∀ (xs : List Ci) (j : Nat) (x : Ci) (b : Bool), xs[j]? = some x → (xcells xs).set (j * 3) (.bool b) = xcells (xs.set j ⟨b, x.num, x.A, x.c, x.txt⟩)
 | [], j, x, b, h => by simp at h
 | y :: r, 0, x, b, h => by
   simp at h
   subst h
   rfl
 | y :: r, j + 1, x, b, h => by
   have ih := xcells_set0 r j x b (by simpa using h)
   have hc : ∀ (z : Ci) (zs : List Ci), xcells (z :: zs) = z.cells ++ xcells zs := fun z zs => by simp [xcells]
   rw [List.set_cons_succ, hc, hc, ← ih, List.set_append_right _ _ (by show 3 ≤ _; omega)]
   congr 2
   show (j + 1) * 3 - 3 = j * 3
   omega
theorem OwnX.setNul {w : World} {base c : Nat} {xs : List Ci} {g : Nat} (h : OwnX w base (some ⟨g, 0, none⟩) c xs) {j : Nat} {x : Ci} (hj : xs[j]? = some x) (b : Bool) :
   w.cell? ⟨g, j * 3, none⟩ = some (.bool x.nul) ∧ w.frozen? ⟨g, j * 3, none⟩ = false ∧ OwnX (w.setCell ⟨g, j * 3, none⟩ (.bool b)) base (some ⟨g, 0, none⟩) c (xs.set j ⟨b, x.num, x.A, x.c, x.txt⟩) ∧ w.grownBy (w.setCell ⟨g, j * 3, none⟩ (.bool b)) (some g) := by
 have h0 := h
 unfold OwnX at h0
 have hjl : j < xs.length := (List.getElem?_eq_some_iff.1 hj).1
 obtain ⟨a1, b1⟩ := World.ownsRow.stored h0 (j * 3) (.bool b)
 refine ⟨?_, World.ownsRow.frozenAt h0 _, ?_, b1⟩
 · rw [World.ownsRow.cellAt h0 _ (by omega)]
   exact (xcells_at hj 0 (by omega)).trans rfl
 · unfold OwnX
   rw [List.length_set, ← xcells_set0 xs j x b hj]
   exact a1
theorem set_mid {T : Type} {don : List T} {j m : Nat} {z y : T} (h : don.length = j) : (don ++ List.replicate (m + 1) z).set j y = (don ++ [y]) ++ List.replicate m z := by
 rw [List.set_append_right _ _ (by omega), h, Nat.sub_self, List.replicate_succ, List.set_cons_zero, List.append_assoc]
 rfl
theorem TxtX.null {w : World} {base : Nat} {don ys : List Ci} (h : TxtX w base (don ++ ys)) : TxtX w base ((don ++ [Ci.null]) ++ ys) := by
 refine ⟨fun x hx => ?_, ?_⟩
 · rcases List.mem_append.1 hx with h1 | h1
   · rcases List.mem_append.1 h1 with h2 | h2
     · exact h.1 x (List.mem_append_left _ h2)
     · rw [List.mem_singleton.1 h2]
       exact Own.nil ..
   · exact h.1 x (List.mem_append_right _ h1)
 · have hp := h.2
   rw [List.pairwise_append] at hp ⊢
   refine ⟨?_, hp.2.1, fun x hx y hy => ?_⟩
   · rw [List.pairwise_append]
     refine ⟨hp.1, by simp, fun x hx y hy p q hp' hq => ?_⟩
     rw [List.mem_singleton.1 hy] at hq
     cases hq
   · rcases List.mem_append.1 hx with h2 | h2
     · exact hp.2.2 x h2 y hy
     · intro p q hp' hq
       rw [List.mem_singleton.1 h2] at hp'
       cases hp'
theorem wN_null {u : Nat} {r : List Nat} {vs : List Cv} (h : u = 1) : wN (u :: r) vs = (true, 0, []) :: wN r vs := by cases vs <;> simp [wN, h]
theorem wN_val {u : Nat} {r : List Nat} {v : Cv} {s : List Cv} (h : ¬ u = 1) : wN (u :: r) (v :: s) = v :: wN r s := by simp [wN, h]
set_option maxHeartbeats 3200000 in
theorem withNulls_any (A : Option Addr) (n c : Nat) (us : List Nat) (B : Option Addr) (m d base : Nat) (ys : List Ci) (w : World) (hx : Rd .u64 w A n us) (hu : ∀ u ∈ us, u < 2) (hy : RdX w B m ys) (ht : TxtX w base ys) (hb : base ≤ w.heap.size) (hcnt : us.count 0 = m) (hn : n ≤ 4096) (hd : m ≤ d) (hdm : d ≤ 9223372036854775807) :
   Calls Tryz.prog 81 #[.slice A n c, .slice B m d] w fun e w' => ∃ fs c', e = .returned (.slice (some ⟨w.heap.size, 0, none⟩) n c') ∧ fs.length = n ∧ fs.map Ci.val = wN us (ys.map Ci.val) ∧ OwnX w' w.heap.size (some ⟨w.heap.size, 0, none⟩) c' fs ∧ TxtX w' base fs ∧ Ext w w' := by
 have Hl := Lib.hid hx.len
 have Hx := Lib.hid hx
 have Hu := Lib.hid hu
 have H0 := Lib.hid (show ((us.drop 0).count 0 = m - 0) by simpa using hcnt)
 have HR0 := Lib.hid (show ([] : List Ci).map Ci.val ++ wN (us.drop 0) ((ys.drop 0).map Ci.val) = wN us (ys.map Ci.val) from by simp)
 have Hy := Lib.hid (show RdX w B (m - 0) (ys.drop 0) from by simpa using hy)
 have Ht := Lib.hid (show TxtX w base ([] ++ ys.drop 0) from by simpa using ht)
 obtain ⟨R, hR⟩ : ∃ R, R = wN us (ys.map Ci.val) := ⟨_, rfl⟩
 rw [← hR] at HR0 ⊢
 have Hb := Lib.hid hb
 clear hx hu hcnt hy ht hR hb
 go_enter Tryz.func81, Tryz.ntmps81
 go_wp2_with (refine wpList_mkX rfl (.tmp 8) (.tmp 8) rfl .i64 .i64 n rfl rfl rfl rfl (by omega) ?_; intro w2 hown2 he2)
 obtain ⟨g, hg⟩ : ∃ g, g = w.heap.size := ⟨_, rfl⟩
 rw [← hg] at hown2 ⊢
 have Hg := Lib.hid hg
 have H2 := Lib.hid (show OwnX w2 g (some ⟨g, 0, none⟩) n ([] ++ List.replicate (n - 0) Ci.none) from hown2)
 have HE2 := Lib.hid he2
 clear hg hown2 he2
 go_loopw [1, 6, 12] (fun vv _ i wr => ∃ (j k : Nat) (B' : Option Addr) (d' : Nat) (don : List Ci), j ≤ n ∧ k ≤ m ∧ i = .int .i64 j ∧ vv = .slice B' (m - k : Nat) d' ∧ m - k ≤ d' ∧ d' ≤ 9223372036854775807 ∧ Hid (RdX w B' (m - k) (ys.drop k)) ∧ Hid (don.length = j) ∧ Hid ((us.drop j).count 0 = m - k) ∧ Hid (don.map Ci.val ++ wN (us.drop j) ((ys.drop k).map Ci.val) = R) ∧ Hid (OwnX wr g (some ⟨g, 0, none⟩) n (don ++ List.replicate (n - j) Ci.none)) ∧ Hid (TxtX w base (don ++ ys.drop k)) ∧ Hid (Ext w wr)) (fun _ _ i _ => n - (intOf i).toNat)
 case atStart => exact ⟨0, 0, B, d, [], Nat.zero_le _, Nat.zero_le _, rfl, rfl, by omega, hdm, Hy.out, rfl, H0.out, HR0.out, H2.out, Ht.out, HE2.out⟩
 case round =>
   clear H0 HR0 Hy Ht H2 HE2
   obtain ⟨j, k, B', d', don, hj, hk, rfl, rfl, hd1, hd2, HY, HD, HC, HR, HO, HT, HE⟩ := hrel
   by_cases hlt : j < n
   · obtain ⟨b, o, hA, hbl, hc⟩ := (Hx.out.ext HE.out).at_ hlt
     subst hA
     have hjl : j < us.length := by rw [Hl.out]; exact hlt
     have hd0 : us.drop j = us[j] :: us.drop (j + 1) := List.drop_eq_getElem_cons hjl
     have hgd : us.getD j 0 = us[j] := by simp [List.getD_eq_getElem?_getD, List.getElem?_eq_getElem hjl]
     rw [hgd] at hc
     have hu2 : us[j] < 2 := Hu.out _ (List.getElem_mem hjl)
     obtain ⟨u, hue⟩ : ∃ u, u = us[j] := ⟨_, rfl⟩
     rw [← hue] at hc hd0 hu2
     have Hd0 := Lib.hid hd0
     have hrep : n - j = (n - (j + 1)) + 1 := by omega
     have hown := HO.out
     rw [hrep] at hown
     clear hd0 hgd hue hjl
     by_cases hu1 : u = 1
     · subst hu1
       have hnone : (don ++ List.replicate (n - (j + 1) + 1) Ci.none)[j]? = some Ci.none := by
         rw [List.getElem?_append_right (by rw [HD.out]; exact Nat.le_refl _), HD.out, Nat.sub_self]; rfl
       obtain ⟨q1, q2, q3, q4⟩ := hown.setNul hnone true
       have q5 := set_mid (m := n - (j + 1)) (z := Ci.none) (y := Ci.null) HD.out
       have HO2 : Hid (OwnX (wr.setCell ⟨g, j * 3, none⟩ (.bool true)) g (some ⟨g, 0, none⟩) n ((don ++ [Ci.null]) ++ List.replicate (n - (j + 1)) Ci.none)) := Lib.hid (by rw [← q5]; exact q3)
       have HE3 : Hid (Ext w (wr.setCell ⟨g, j * 3, none⟩ (.bool true))) := Lib.hid (Below.grown HE.out q4 HE.out.size (fun g' hg' => by injection hg' with hg'; have := Hg.out; omega))
       have HR3 : Hid ((don ++ [Ci.null]).map Ci.val ++ wN (us.drop (j + 1)) ((ys.drop k).map Ci.val) = R) := Lib.hid (by
         rw [← HR.out, Hd0.out, wN_null rfl, List.map_append, List.append_assoc]; rfl)
       have HC3 : Hid ((us.drop (j + 1)).count 0 = m - k) := Lib.hid (by rw [← HC.out, Hd0.out]; simp)
       have HT3 := Lib.hid HT.out.null
       have HD3 : Hid ((don ++ [Ci.null]).length = j + 1) := Lib.hid (by rw [List.length_append, HD.out]; rfl)
       clear hown hnone q3 q4 q5
       go_wp2_with fail
       go_roundw
       case rel => exact ⟨j + 1, k, B', d', don ++ [Ci.null], by omega, hk, by go_num, rfl, hd1, hd2, HY.out, HD3.out, HC3.out, HR3.out, HO2.out, HT3.out, HE3.out⟩
       case measure => simp [intOf]; omega
     · obtain rfl : u = 0 := by omega
       have hmk : 0 < m - k := by
         have := HC.out
         rw [Hd0.out, List.count_cons] at this
         simp at this
         omega
       obtain ⟨b2, o2, y, hB, hbl2, hyj, y0, y1, y2, yin⟩ := (HY.out.ext HE.out).at_ hmk
       have HYo := Lib.hid (HY.out.offX (k := 1) (m := d') (by omega) hd1)
       have hsl := run_fromX B' (m - k) d' 1 (by omega)
       rw [hB] at hsl HYo
       have hdk : ys.drop k = y :: ys.drop (k + 1) := by
         have h1 : (ys.drop k)[0]? = some y := hyj
         rw [List.getElem?_drop, Nat.add_zero] at h1
         obtain ⟨h2, h3⟩ := List.getElem?_eq_some_iff.1 h1
         rw [List.drop_eq_getElem_cons h2, h3]
       simp only [Nat.zero_mul, Nat.add_zero] at y0 y1 y2
       have Hdk := Lib.hid hdk
       have q5 := set_mid (m := n - (j + 1)) (z := Ci.none) (y := y) HD.out
       have HO4 := Lib.hid hown
       have hjf : j < (don ++ List.replicate (n - (j + 1) + 1) Ci.none).length := by rw [List.length_append, List.length_replicate, HD.out]; omega
       have HR3 : Hid ((don ++ [y]).map Ci.val ++ wN (us.drop (j + 1)) ((ys.drop (k + 1)).map Ci.val) = R) := Lib.hid (by
         rw [← HR.out, Hd0.out, hdk, List.map_cons, wN_val (by decide), List.map_append, List.append_assoc]; rfl)
       have HC3 : Hid ((us.drop (j + 1)).count 0 = m - (k + 1)) := Lib.hid (by
         have := HC.out
         rw [Hd0.out, List.count_cons] at this
         simp at this
         omega)
       have HT3 : Hid (TxtX w base ((don ++ [y]) ++ ys.drop (k + 1))) := Lib.hid (by
         have := HT.out
         rw [hdk] at this
         rw [List.append_assoc]
         exact this)
       have HD3 : Hid ((don ++ [y]).length = j + 1) := Lib.hid (by rw [List.length_append, HD.out]; rfl)
       have HY3 : Hid (RdX w (offX (some ⟨b2, o2, none⟩) 1 d') (m - (k + 1)) (ys.drop (k + 1))) := Lib.hid (by
         have := HYo.out
         rw [List.drop_drop] at this
         rw [show m - (k + 1) = m - k - 1 by omega]
         exact this)
       have Hq5 := Lib.hid q5
       have i1 : (0 : Int) < ((m - k : Nat) : Int) := by omega
       have Hmk := Lib.hid hmk
       subst hB
       clear hown hdk q5 HYo hyj yin hmk
       obtain ⟨yn, yi, yA, yc, yt⟩ := y
       simp only at y0 y1 y2
       go_wp2_with (refine wpList_storeX ⟨yn, yi, yA, yc, yt⟩ rfl (.tmp 29) (.tmp 28) rfl HO4.out hjf rfl (by first | rfl | omega) rfl rfl ?_; intro w5 hown5 hg5)
       have HE3 : Hid (Ext w w5) := Lib.hid (Below.grown HE.out hg5 HE.out.size (fun g' hg' => by injection hg' with hg'; have := Hg.out; omega))
       have HO3 : Hid (OwnX w5 g (some ⟨g, 0, none⟩) n ((don ++ [⟨yn, yi, yA, yc, yt⟩]) ++ List.replicate (n - (j + 1)) Ci.none)) := Lib.hid (by rw [← Hq5.out]; exact hown5)
       clear hown5 hg5
       go_roundw
       case rel => exact ⟨j + 1, k + 1, _, d' - 1, don ++ [(⟨yn, yi, yA, yc, yt⟩ : Ci)], by omega, by have := Hmk.out; omega, by go_num, by first | rfl | go_num | (congr 1; omega), by omega, by omega, HY3.out, HD3.out, HC3.out, HR3.out, HO3.out, HT3.out, HE3.out⟩
       case measure => simp [intOf]; omega
   · obtain rfl : j = n := by omega
     have hr := HR.out
     rw [List.drop_of_length_le (Nat.le_of_eq Hl.out)] at hr
     have hkm : m - k = 0 := by rw [← HC.out, List.drop_of_length_le (Nat.le_of_eq Hl.out)]; rfl
     have HRg := Lib.hid (show don.map Ci.val = R by rw [← hr]; simp [wN])
     have HO5 := Lib.hid (show OwnX wr g (some ⟨g, 0, none⟩) j don by have := HO.out; rw [Nat.sub_self, List.replicate_zero, List.append_nil] at this; exact this)
     have HT5 : Hid (TxtX w base don) := Lib.hid (by
       refine ⟨fun x hx => HT.out.1 x (List.mem_append_left _ hx), ?_⟩
       have := HT.out.2
       rw [List.pairwise_append] at this
       exact this.1)
     clear hr hkm
     go_wp2_with fail
     go_ret
     exact ⟨don, j, by rw [← Hg.out]; rfl, HD.out, HRg.out, by rw [← Hg.out]; exact HO5.out, HT5.out.ext HE.out, HE.out⟩
theorem flat_r64 {l : Option Int} {rs : List (Int × Int)} (h : GoodR l rs) : R64s (flat rs) := by
 intro v hv
 obtain ⟨q, hq, hv⟩ := List.mem_flatten.1 hv
 obtain ⟨r, hr, rfl⟩ := List.mem_map.1 hq
 obtain ⟨_, rfl⟩ := List.mem_replicate.1 hv
 exact (h.mem r hr).2
theorem back8 {bs : List Nat} (hb : U8 bs) (h : (decode8 bs).2 = 0) : encode8 (decode8 bs).1 = (bs, 0) ∧ R64s (decode8 bs).1 := by
 rcases hd : decode8 bs with ⟨zs, e⟩
 rw [hd] at h
 simp only at h
 subst h
 obtain ⟨rs, h1, h2, h3, h4, h5⟩ := decode8_only hb hd
 refine ⟨?_, by show R64s zs; rw [h2]; exact flat_r64 h1⟩
 show encode8 zs = (bs, 0)
 unfold encode8
 rw [if_neg (by omega), ← h5, h3]
end Go.Proofs.YthibbgmicmfkfaaGreat
