/-
  Layer 10: the program's Decode.
-/
import Derived.Test.YtpdppldkebfikaaD10i
import Derived.Test.YtpdppldkebfikaaD10j
import Derived.Test.YtpdppldkebfikaaD10g
namespace Go.Proofs.Ytpdppldkebfikaa
open Go.RowKit

theorem ddec_by {bs : List Nat} {L : List (List Nat)} {a e : Int} (h : entR bs = (L, a, e)) : (e ≠ 0 → ddec bs = ([], e)) ∧ (e = 0 → ddec bs = ddec.ddecB bs L a) := by
  unfold entR at h
  rcases h1 : vget bs 0 with ⟨k, n, e1⟩
  by_cases he1 : e1 = 0
  · subst he1
    by_cases hk : 4096 < k
    · rw [cntR_long h1 hk] at h
      injection h with _ h
      injection h with _ h
      subst h
      exact ⟨fun _ => ddec_long h1 hk, fun q => absurd q (by decide)⟩
    · rw [cntR_yes h1 (by omega), if_neg (fun q => q rfl)] at h
      simp only at h
      exact ⟨fun q => ddec_e2 h1 (by omega) h q, fun q => by subst q; exact ddec_go h1 (by omega) h⟩
  · rw [cntR_err h1 he1] at h
    rw [if_pos he1] at h
    injection h with _ h
    injection h with _ h
    subst h
    exact ⟨fun _ => ddec_e1 h1 he1, fun q => absurd q he1⟩
theorem entR_ok {bs : List Nat} (hb : U8 bs) {L : List (List Nat)} {a : Int} (h : entR bs = (L, a, 0)) : 0 ≤ a ∧ a ≤ bs.length ∧ L.length ≤ 4096 ∧ Asc L ∧ ∀ s ∈ L, s.length ≤ 200 ∧ U8 s := by
  unfold entR at h
  rcases h1 : vget bs 0 with ⟨k, n, e1⟩
  by_cases he1 : e1 = 0
  · subst he1
    by_cases hk : 4096 < k
    · rw [cntR_long h1 hk] at h; injection h with _ h; injection h with _ h; exact absurd h (by decide)
    · rw [cntR_yes h1 (by omega), if_neg (fun q => q rfl)] at h
      simp only at h
      obtain ⟨a1, a2, a3, a4, a5⟩ := vget_at hb h1
      obtain ⟨T, r1, r2, r3, r4, r5, r6, r7, r8⟩ := dnA_ok hb k (acc := []) List.Pairwise.nil (by omega) a3 h
      rw [List.nil_append] at r1
      subst r1
      exact ⟨r3, r5, by omega, r7, r8⟩
  · rw [cntR_err h1 he1, if_pos he1] at h
    injection h with _ h; injection h with _ h; exact absurd h he1
theorem ddecB_by {bs : List Nat} {L : List (List Nat)} {a b e : Int} {k : Nat} (h : cntR bs a = (k, b, e)) : (e ≠ 0 → ddec.ddecB bs L a = ([], e)) ∧ (e = 0 → ddec.ddecB bs L a = ddec.ddecC L (bs.drop b.toNat) k ∧ vget bs a = (k, b, 0) ∧ k ≤ 4096) := by
  rcases h1 : vget bs a with ⟨k1, n1, e1⟩
  by_cases he1 : e1 = 0
  · subst he1
    by_cases hk : 4096 < k1
    · rw [cntR_long h1 hk] at h
      injection h with _ h
      injection h with _ h
      subst h
      exact ⟨fun _ => ddecB_long h1 hk, fun q => absurd q (by decide)⟩
    · rw [cntR_yes h1 (by omega)] at h
      injection h with q1 h
      injection h with q2 h
      subst q1 q2 h
      exact ⟨fun q => absurd rfl q, fun _ => ⟨ddecB_go h1 (by omega), rfl, by omega⟩⟩
  · rw [cntR_err h1 he1] at h
    injection h with _ h
    injection h with _ h
    subst h
    exact ⟨fun _ => ddecB_err h1 he1, fun q => absurd q he1⟩

theorem unpL_len10 {N len : Nat} {wd cnt : Int} (h : unpE N len wd cnt = 0) : (unpL N len wd cnt).length = cnt.toNat := by
  rw [unp_ok h, upk_len]
theorem unpL_u6410 {N len : Nat} {wd cnt : Int} (h : unpE N len wd cnt = 0) (hw : wd ≤ 64) : U64 (unpL N len wd cnt) := by
  intro v hv
  rw [unp_ok h] at hv
  have h1 : v < 2 ^ wd.toNat := upk_wd wd.toNat cnt.toNat N v hv
  exact Nat.lt_of_lt_of_le h1 (show 2 ^ wd.toNat ≤ 2 ^ 64 from Nat.pow_le_pow_right (by decide) (by omega))

theorem Txts.mono10 {w : World} {base base' : Nat} {ts : List Sl} (h : Txts w base ts) (hb : base' ≤ base) : Txts w base' ts := ⟨fun s hs => (h.own s hs).mono hb, h.apart⟩
/-- Texts while they are decoded. -/
structure DTd (w wr : World) (A : Option Addr) (c : Nat) (ts : List Sl) : Prop where
  row : OwnT wr w.heap.size A c ts
  txt : Txts wr w.heap.size ts
  ext : Ext w wr
theorem DTd.snoc {w wr w1 w2 : World} {A A1 : Option Addr} {c c1 : Nat} {ts : List Sl} {s : Sl} (h : DTd w wr A c ts) (hs : Own .u8 5 w1 wr.heap.size s.A s.c s.body) (he1 : Ext wr w1) (hrow : OwnT w2 w.heap.size A1 c1 (ts ++ [s]))
    (hg : (w1.alloc (.cells #[.slice s.A s.body.length s.c] 34)).grownBy w2 (Value.slice A ts.length c).ownBlock) (hb : Below w.heap.size w w2) : DTd w w2 A1 c1 (ts ++ [s]) := by
  have hX : Ext w1 (w1.alloc (.cells #[.slice s.A s.body.length s.c] 34)) := (Ext.refl _).alloc _
  have h2 : Txts w1 w.heap.size (ts ++ [s]) := (h.txt.ext he1).snoc hs h.ext.size (fun t ht p hp => h.txt.lt t ht p hp)
  exact ⟨hrow, (h2.ext hX).grown ((h.row.ext he1).ext hX) hg, hb⟩
theorem txtsOf_len (L : List (List Nat)) (us : List Nat) : (txtsOf L us).length = us.length := List.length_map ..
theorem txtsOf_snoc (L : List (List Nat)) (us : List Nat) (u : Nat) : txtsOf L (us ++ [u]) = txtsOf L us ++ [L.getD u []] := by unfold txtsOf; rw [List.map_append]; rfl

set_option maxHeartbeats 3200000 in
set_option maxRecDepth 100000 in
theorem ddecode_any (A : Option Addr) (n c : Nat) (bs : List Nat) (w : World) (hx : Rd .u8 w A n bs) (hu : U8 bs) (hn : n ≤ 140737488351232) (hcap : n ≤ c) (hcm : c ≤ 9223372036854775807) :
    Calls Try.prog 22 #[.slice A n c] w (TxtsPost (ddec bs) w) := by
  have hbl := hx.len
  have G1 := getEntries_any A n c bs w hx hu (by omega) hcap hcm
  rcases g1 : entR bs with ⟨L, a, e1⟩
  rw [g1] at G1
  have HG1 := Lib.hid G1
  obtain ⟨k1, k2⟩ := ddec_by g1
  by_cases z1 : e1 = 0
  · subst z1
    have hdd := k2 rfl
    obtain ⟨a1, a2, hL4, _, hLs⟩ := entR_ok hu g1
    rw [hbl] at a2
    obtain ⟨m1, rfl⟩ := Int.eq_ofNat_of_zero_le a1
    have HG2 := Lib.hid (fun (W : World) (hW : Ext w W) => getCount_any A n c (m1 : Int) bs W (hx.ext hW) hu (by omega) hcap hcm)
    rcases g2 : cntR bs ((m1 : Nat) : Int) with ⟨k, b, e2⟩
    rw [g2] at HG2
    obtain ⟨k3, k4⟩ := ddecB_by (L := L) g2
    by_cases z2 : e2 = 0
    · subst z2
      obtain ⟨k5, k6, k7⟩ := k4 rfl
      obtain ⟨_, b1, b2, _, _⟩ := vget_at hu k6
      rw [hbl] at b2
      obtain ⟨m2, rfl⟩ := Int.eq_ofNat_of_zero_le (show 0 ≤ b by omega)
      rw [Int.toNat_natCast] at k5
      obtain ⟨m, hm⟩ : ∃ m, m = L.length := ⟨_, rfl⟩
      have hr := hx.offA (k := m2) (m := c) (by omega) hcap
      have sl := run_from A n c m2 (by omega)
      obtain ⟨A9, hA9⟩ : ∃ A9, A9 = offA A m2 c := ⟨_, rfl⟩
      rw [← hA9] at hr sl
      obtain ⟨r, hre⟩ : ∃ r, r = bs.drop m2 := ⟨_, rfl⟩
      rw [← hre] at hr k5
      have hrl : r.length = n - m2 := hr.len
      have hru : U8 r := by rw [hre]; exact u8_drop hu _
      have HU := Lib.hid (fun (W : World) (cc : Nat) (hW : Ext w W) => unpack_any A9 (n - m2) cc (wfor m : Int) (k : Int) r W (hr.ext hW) hru (by omega))
      have hCe : ∀ e3, unpE (pk 8 r) (n - m2) (wfor m : Int) (k : Int) = e3 → e3 ≠ 0 → ddec bs = ([], e3) := fun e3 h h0 => by
        rw [← hrl, hm] at h
        rw [hdd, k5, ddecC_err (by rw [h]; exact h0), h]
      have hCf : unpE (pk 8 r) (n - m2) (wfor m : Int) (k : Int) = 0 → ∀ us, unpL (pk 8 r) (n - m2) (wfor m : Int) (k : Int) = us → meant us m = false → ddec bs = ([], 5) := fun h us h2 h3 => by
        rw [← hrl, hm] at h h2
        rw [hm] at h3
        rw [hdd, k5, ddecC_form h h2 h3]
      have hCy : unpE (pk 8 r) (n - m2) (wfor m : Int) (k : Int) = 0 → ∀ us, unpL (pk 8 r) (n - m2) (wfor m : Int) (k : Int) = us → meant us m = true → ddec bs = (txtsOf L us, 0) := fun h us h2 h3 => by
        rw [← hrl, hm] at h h2
        rw [hm] at h3
        rw [hdd, k5, ddecC_yes h h2 h3]
      obtain ⟨R, hR⟩ : ∃ R, R = ddec bs := ⟨_, rfl⟩
      rw [← hR] at hCe hCf hCy ⊢
      obtain ⟨e3, hE3⟩ : ∃ e3, e3 = unpE (pk 8 r) (n - m2) (wfor m : Int) (k : Int) := ⟨_, rfl⟩
      obtain ⟨us, huse⟩ : ∃ us, us = unpL (pk 8 r) (n - m2) (wfor m : Int) (k : Int) := ⟨_, rfl⟩
      have hwf := wfor_le hL4
      rw [← hm] at hwf hL4
      have hul : e3 = 0 → us.length = k := fun h => by rw [huse, unpL_len10 (by rw [← hE3]; exact h), Int.toNat_natCast]
      have huu : e3 = 0 → U64 us := fun h => by rw [huse]; exact unpL_u6410 (by rw [← hE3]; exact h) (by omega)
      have hnil : e3 ≠ 0 → us = [] := fun h => by rw [huse]; exact unp_err hE3.symm h
      unfold UnpPost at HU
      rw [← hE3] at hCe hCf hCy HU
      rw [← huse] at hCf hCy HU
      have Hm := Lib.hid hm
      have HLs := Lib.hid hLs
      clear hx hu g1 hbl k1 k2 G1 hdd a1 a2 k3 k4 k5 k6 b1 b2 hr hA9 hre hrl hru hE3 huse hm hLs g2
      by_cases z3 : e3 = 0
      · subst z3
        have hul2 := hul rfl
        have huu2 := huu rfl
        clear hul huu hnil hCe
        rw [hul2] at HU
        by_cases hmn : meant us m = true
        · have HC := Lib.hid (hCy rfl us rfl hmn)
          have Hmn := Lib.hid hmn
          have HM := Lib.hid (fun (B : Option Addr) (cB : Nat) (W : World) (hB : Rd .u64 W B k us) => allMeant_any B k cB m us W hB (by omega) (by omega) huu2)
          rw [hmn] at HM
          have Hul := Lib.hid hul2
          have Huu := Lib.hid huu2
          clear hCf hCy hmn hul2 huu2
          go_enter Try.func22, Try.ntmps22
          go_wp2_with fail
          refine HG1.out.mono ?_
          rintro e w1 ⟨A1, c1, us1, rfl, hb1, hd⟩
          simp only at hb1 hd ⊢
          rw [show us1.length = m by rw [Hm.out, ← hb1, bodies_len]]
          have Hd := Lib.hid hd
          have Hb1 := Lib.hid hb1
          clear hd hb1
          go_wp2_with fail
          refine (HG2.out _ Hd.out.ext).mono ?_
          rintro e w2 ⟨rfl, rfl⟩
          simp only
          go_wp2_with fail
          go_region_held3 (fun _ => True) (exact trivial) (first
            | (go_at_call 45; refine (widthFor_any m _ (by omega)).mono ?_; rintro e w3 ⟨rfl, he3⟩)
            | (go_at_call 55; refine (HU.out _ _ (by focus ((repeat (first | exact Hd.out.ext | (with_reducible refine Ext.trans ?_ he3) | (with_reducible apply Ext.drew) | (with_reducible apply Ext.alloc) | fail)); done))).mono ?_; rintro e w4 ⟨A4, c4, rfl, hown4, he4⟩)
            | fail)
          have hE4 : Ext w2 w4 := by focus ((repeat (first | (with_reducible exact Ext.refl _) | (with_reducible refine Ext.trans ?_ he4) | (with_reducible refine Ext.trans ?_ he3) | (with_reducible apply Ext.drew) | (with_reducible apply Ext.alloc) | fail)); done)
          have hu4 := hown4.rd' Hul.out
          clear hown4 he4 he3
          have HE4 := Lib.hid hE4
          clear hE4
          go_wp2_with fail
          refine (HM.out A4 c4 _ hu4).mono ?_
          rintro e w5 ⟨rfl, he5⟩
          have HE5 := Lib.hid (HE4.out.trans he5)
          have Hu5 := Lib.hid (hu4.ext he5)
          clear he5 hu4 HE4 HM
          go_wp2_with fail
          have hrow5 := (Hd.out.row.ext HE5.out).rdL
          have Hrow5 := Lib.hid hrow5
          clear hrow5
          go_loopw [9, 11, 52] (fun v _ i wr => ∃ (j : Nat) (ts : List Sl) (A' : Option Addr) (c' : Nat), j ≤ k ∧ i = .int .i64 j ∧ v = .slice A' j c' ∧ Hid (ts.length = j) ∧ Hid (bodies ts = txtsOf L (us.take j)) ∧ Hid (DTd w5 wr A' c' ts)) (fun _ _ i _ => k - (intOf i).toNat)
          case atStart => exact ⟨0, [], none, 0, Nat.zero_le _, rfl, rfl, rfl, rfl, ⟨OwnG.nil .., Txts.nil .., Ext.refl _⟩⟩
          case round =>
            obtain ⟨j, ts, A', c', hj, rfl, rfl, Hl, Hbs, HD⟩ := hrel
            by_cases hlt : j < k
            · obtain ⟨b, o, rfl, hbb, hc⟩ := (Hu5.out.ext HD.out.ext).at_ hlt
              have hvs : us[j]? = some (us.getD j 0) := by simp [List.getD, show j < us.length by rw [Hul.out]; exact hlt]
              have hv := Huu.out _ (List.mem_of_getElem? hvs)
              have htk : us.take (j + 1) = us.take j ++ [us.getD j 0] := take_nextG us j hvs
              have hum := (meant_iff.1 Hmn.out).1 _ (List.mem_of_getElem? hvs)
              obtain ⟨u, hue⟩ : ∃ u, u = us.getD j 0 := ⟨_, rfl⟩
              rw [← hue] at hc hv htk hum
              have hu1l : us1.length = m := by rw [Hm.out, ← Hb1.out, bodies_len]
              obtain ⟨b', o', t, hA1, hf, hc'⟩ := (Hrow5.out.ext HD.out.ext).at_ (j := u) (by rw [hu1l]; exact hum)
              have hmt := List.mem_of_getElem? hf
              have hrt := ((Hd.out.rd t hmt).ext (Hd.out.ext.trans HE5.out)).ext HD.out.ext
              have hlt2 := Hd.out.len t hmt
              have htb : L.getD u [] = t.body := by rw [← Hb1.out, bodies_get hf]
              obtain ⟨tA, tc, tb⟩ := t
              simp only at hc' hrt htb hlt2
              subst hA1
              have HN := Lib.hid (show ∀ (A6 : Option Addr) (c6 : Nat), bodies (ts ++ [⟨A6, c6, tb⟩]) = txtsOf L (us.take (j + 1)) by
                intro A6 c6
                rw [htk, txtsOf_snoc, htb, ← Hbs.out]; unfold bodies; rw [List.map_append]; rfl)
              obtain ⟨tl, htl⟩ : ∃ tl, tl = tb.length := ⟨_, rfl⟩
              rw [← htl] at hc' hrt hlt2
              have Htl := Lib.hid htl
              have HC5 := Lib.hid (clone10_any tA tl tc tb wr hrt (by omega))
              clear htl hmt hf hvs hue htk htb hrt
              go_wp2_with fail
              refine HC5.out.mono ?_
              rintro e w6 ⟨A6, c6, rfl, hown6, he6⟩
              rw [Htl.out]
              go_wp2_with (at_builtin; refine wpList_pushT (w0 := w5) ⟨A6, c6, tb⟩ rfl _ _ rfl ((HD.out.row.ext he6).ext ((Ext.refl _).alloc _)) j Hl.out rfl rfl (heap_alloc_new _ _) (by omega) (Ext.trans (HD.out.ext.trans he6) ((Ext.refl _).alloc _)) (by have := (HD.out.ext.trans he6).size; simp; omega) ?_; intro A7 c7 w7 hown7 hg7 hb7 hz7)
              have HD7 := Lib.hid (HD.out.snoc (s := ⟨A6, c6, tb⟩) hown6 he6 hown7 (by rw [Hl.out]; exact hg7) hb7)
              clear hown6 hown7 hg7 hb7
              go_wp2_with fail
              go_roundw
              case rel => exact ⟨j + 1, _, A7, c7, by omega, by go_num, by go_num, by rw [List.length_append, Hl.out]; rfl, HN.out _ _, HD7.out⟩
              case measure => simp [intOf]; omega
            · obtain rfl : j = k := by omega
              have hR : R = (bodies ts, 0) := by rw [HC.out, Hbs.out, List.take_of_length_le (by rw [Hul.out]; exact Nat.le_refl _)]
              have HR := Lib.hid hR
              clear hR
              go_wp2_with fail
              go_ret2
              have h5 : w.heap.size ≤ w5.heap.size := (Hd.out.ext.trans HE5.out).size
              exact TxtsPost.good _ HR.out Hl.out (HD.out.row.mono h5) (HD.out.txt.mono10 h5) ((Hd.out.ext.trans HE5.out).trans HD.out.ext)
        · have hmn2 : meant us m = false := by
            cases q : meant us m with
            | true => exact absurd q hmn
            | false => rfl
          have HC := Lib.hid (hCf rfl us rfl hmn2)
          have HM := Lib.hid (fun (B : Option Addr) (cB : Nat) (W : World) (hB : Rd .u64 W B k us) => allMeant_any B k cB m us W hB (by omega) (by omega) huu2)
          rw [hmn2] at HM
          have Hul := Lib.hid hul2
          clear hCf hCy hmn hul2 huu2 hmn2
          go_enter Try.func22, Try.ntmps22
          go_wp2_with fail
          refine HG1.out.mono ?_
          rintro e w1 ⟨A1, c1, us1, rfl, hb1, hd⟩
          simp only at hb1 hd ⊢
          rw [show us1.length = m by rw [Hm.out, ← hb1, bodies_len]]
          have Hd := Lib.hid hd
          clear hd hb1
          go_wp2_with fail
          refine (HG2.out _ Hd.out.ext).mono ?_
          rintro e w2 ⟨rfl, rfl⟩
          simp only
          go_wp2_with fail
          go_region_held3 (fun _ => True) (exact trivial) (first
            | (go_at_call 45; refine (widthFor_any m _ (by omega)).mono ?_; rintro e w3 ⟨rfl, he3⟩)
            | (go_at_call 55; refine (HU.out _ _ (by focus ((repeat (first | exact Hd.out.ext | (with_reducible refine Ext.trans ?_ he3) | (with_reducible apply Ext.drew) | (with_reducible apply Ext.alloc) | fail)); done))).mono ?_; rintro e w4 ⟨A4, c4, rfl, hown4, he4⟩)
            | fail)
          have hE4 : Ext w2 w4 := by focus ((repeat (first | (with_reducible exact Ext.refl _) | (with_reducible refine Ext.trans ?_ he4) | (with_reducible refine Ext.trans ?_ he3) | (with_reducible apply Ext.drew) | (with_reducible apply Ext.alloc) | fail)); done)
          have hu4 := hown4.rd' Hul.out
          clear hown4 he4 he3
          have HE4 := Lib.hid hE4
          clear hE4
          go_wp2_with fail
          refine (HM.out A4 c4 _ hu4).mono ?_
          rintro e w5 ⟨rfl, he5⟩
          have HE5 := Lib.hid (Hd.out.ext.trans (HE4.out.trans he5))
          clear he5 hu4 HE4 HM
          go_wp2_with fail
          go_ret2
          exact TxtsPost.bad _ HC.out HE5.out
      · have HC := Lib.hid (hCe _ rfl z3)
        have hb3 : (e3 != 0) = true := by rw [bne_iff_ne]; exact z3
        rw [hnil z3] at HU
        clear hCf hCy hul huu hnil hCe
        go_enter Try.func22, Try.ntmps22
        go_wp2_with fail
        refine HG1.out.mono ?_
        rintro e w1 ⟨A1, c1, us1, rfl, hb1, hd⟩
        simp only at hb1 hd ⊢
        rw [show us1.length = m by rw [Hm.out, ← hb1, bodies_len]]
        have Hd := Lib.hid hd
        clear hd hb1
        go_wp2_with fail
        refine (HG2.out _ Hd.out.ext).mono ?_
        rintro e w2 ⟨rfl, rfl⟩
        simp only
        go_wp2_with fail
        go_region_held3 (fun _ => True) (exact trivial) (first
          | (go_at_call 45; refine (widthFor_any m _ (by omega)).mono ?_; rintro e w3 ⟨rfl, he3⟩)
          | (go_at_call 55; refine (HU.out _ _ (by focus ((repeat (first | exact Hd.out.ext | (with_reducible refine Ext.trans ?_ he3) | (with_reducible apply Ext.drew) | (with_reducible apply Ext.alloc) | fail)); done))).mono ?_; rintro e w4 ⟨A4, c4, rfl, hown4, he4⟩)
          | fail)
        have hE4 : Ext w2 w4 := by focus ((repeat (first | (with_reducible exact Ext.refl _) | (with_reducible refine Ext.trans ?_ he4) | (with_reducible refine Ext.trans ?_ he3) | (with_reducible apply Ext.drew) | (with_reducible apply Ext.alloc) | fail)); done)
        clear hown4 he4 he3
        have HE5 := Lib.hid (Hd.out.ext.trans hE4)
        clear hE4
        go_wp2_with fail
        go_ret2
        exact TxtsPost.bad _ HC.out HE5.out
    · have HE := Lib.hid (hdd.trans (k3 z2))
      have hb1 : (e2 != 0) = true := by rw [bne_iff_ne]; exact z2
      have Hm := Lib.hid hLs
      clear hx hu g1 hbl k1 k2 G1 hdd a1 a2 k3 k4 g2 hLs
      go_enter Try.func22, Try.ntmps22
      go_wp2_with fail
      refine HG1.out.mono ?_
      rintro e w1 ⟨A1, c1, us, rfl, _, hd⟩
      have He := Lib.hid hd.ext
      simp only
      clear hd
      go_wp2_with fail
      refine (HG2.out _ He.out).mono ?_
      rintro e w2 ⟨rfl, rfl⟩
      simp only
      go_wp2_with fail
      go_ret2
      exact TxtsPost.bad _ HE.out He.out
  · have HE := Lib.hid (k1 z1)
    have hb1 : (e1 != 0) = true := by rw [bne_iff_ne]; exact z1
    clear hx hu g1 hbl k1 k2 G1
    go_enter Try.func22, Try.ntmps22
    go_wp2_with fail
    refine HG1.out.mono ?_
    rintro e w1 ⟨A1, c1, us, rfl, _, hd⟩
    have He := Lib.hid hd.ext
    simp only
    clear hd
    go_wp2_with fail
    go_ret2
    exact TxtsPost.bad _ HE.out He.out

end Go.Proofs.Ytpdppldkebfikaa
