/-
  Layer 6: the statement SchemaApplies, walked.
-/
import Derived.Test.YtlagbgcolgbbhaaH43
namespace Go.Proofs.Ytlagbgcolgbbhaa
open Go.RowKit

theorem applyV_facts {keys : Int} {cs : List Col} {xs : List Ci} {ts : List Si} (hx : ∀ v ∈ xs.map Ci.val, CVok v) (ht : ∀ v ∈ ts.map Si.val, CVok v.2) : (applyV keys cs xs ts).length ≤ 12 ∧ ∀ v ∈ applyV keys cs xs ts, CVok v ∧ v.2.2.length ≤ 200 := by
  unfold applyV
  split
  · rename_i h
    obtain ⟨h1, h2⟩ := applyE_zero h
    obtain ⟨r1, r2, r3⟩ := rowS_zero h1
    obtain ⟨_, _, s3⟩ := setsS_zero h2
    have hi := schE_inv r1
    refine ⟨by rw [withV_len, List.length_map]; omega, ?_⟩
    have hlen : ∀ (c : Col) (v : CV), chkW c v = 0 → v.2.2.length ≤ 200 := fun c v hc => by
      unfold chkW at hc
      have hk := chk_kind hc
      cases hn : v.1 with
      | true => rw [hn] at hc; rw [(chk_nul0 hc).2.2]; simp
      | false =>
        rw [hn] at hc
        by_cases h6 : c.kind ≤ 6
        · rw [(chk_num0 ⟨hk.1, h6⟩ hc).1]; simp
        · exact (chk_txt0 (show c.kind = 7 ∨ c.kind = 8 by omega) hc).2.1
    have hv : ∀ v ∈ xs.map Ci.val, CVok v ∧ v.2.2.length ≤ 200 := fun v hv => by
      refine ⟨hx v hv, ?_⟩
      obtain ⟨j, hj⟩ := List.getElem?_of_mem hv
      have hjl := (List.getElem?_eq_some_iff.1 hj).1
      rw [List.length_map] at hjl
      exact hlen _ v (rowW_iff.1 r3 j _ v (List.getElem?_eq_getElem (by omega)) hj)
    have htv : ∀ t ∈ ts.map Si.val, CVok t.2 ∧ t.2.2.2.length ≤ 200 := fun t ht' => ⟨ht t ht', hlen _ t.2 (setW_all s3 t ht').2.2⟩
    have key : ∀ (us : List (Int × CV)) (vs : List CV), (∀ v ∈ vs, CVok v ∧ v.2.2.length ≤ 200) → (∀ u ∈ us, CVok u.2 ∧ u.2.2.2.length ≤ 200) → ∀ v ∈ withV vs us, CVok v ∧ v.2.2.length ≤ 200 := by
      intro us
      induction us with
      | nil => intro vs h _; exact h
      | cons u r ih =>
        intro vs h h2
        refine ih _ (fun v hv => ?_) (fun v hv => h2 v (List.mem_cons_of_mem _ hv))
        rcases List.mem_or_eq_of_mem_set hv with h3 | rfl
        · exact h v h3
        · exact h2 u List.mem_cons_self
    exact key _ _ hv htv
  · exact ⟨by simp, fun v hv => (by cases hv)⟩
theorem projV_facts {keys : Int} {cs : List Col} {xs : List Ci} {ps : List Int} (hx : ∀ v ∈ xs.map Ci.val, CVok v) : (projV keys cs xs ps).length ≤ ps.length ∧ ∀ v ∈ projV keys cs xs ps, CVok v ∧ v.2.2.length ≤ 200 := by
  unfold projV
  split
  · rename_i h
    have h1 : rowS keys cs xs = 0 := by
      unfold projE at h
      by_cases e0 : rowS keys cs xs = 0
      · exact e0
      · rw [if_pos e0] at h; exact absurd h e0
    obtain ⟨r1, r2, r3⟩ := rowS_zero h1
    refine ⟨by rw [List.length_map]; exact Nat.le_refl _, fun v hv => ?_⟩
    obtain ⟨p, _, rfl⟩ := List.mem_map.1 hv
    unfold pick
    rw [List.getD]
    cases hj : (xs.map Ci.val)[p.toNat]? with
    | none => exact ⟨⟨fun v hv => (by cases hv), (by show (-9223372036854775808 : Int) ≤ 0; decide), (by show (0 : Int) ≤ 9223372036854775807; decide)⟩, by simp⟩
    | some u =>
      refine ⟨hx u (List.mem_of_getElem? hj), ?_⟩
      have hjl := (List.getElem?_eq_some_iff.1 hj).1
      rw [List.length_map] at hjl
      have hc : chkW _ u = 0 := rowW_iff.1 r3 p.toNat _ u (List.getElem?_eq_getElem (by omega)) hj
      unfold chkW at hc
      have hk := chk_kind hc
      show u.2.2.length ≤ 200
      cases hn : u.1 with
      | true => rw [hn] at hc; rw [(chk_nul0 hc).2.2]; simp
      | false =>
        rw [hn] at hc
        by_cases h6 : (cs[p.toNat]'(by omega)).kind ≤ 6
        · rw [(chk_num0 ⟨hk.1, h6⟩ hc).1]; simp
        · exact (chk_txt0 (show (cs[p.toNat]'(by omega)).kind = 7 ∨ (cs[p.toNat]'(by omega)).kind = 8 by omega) hc).2.1
  · exact ⟨by simp, fun v hv => (by cases hv)⟩

set_option maxHeartbeats 12800000 in
set_option maxRecDepth 100000 in
theorem walk_SchemaApplies (A : Option Addr) (n c : Nat) (keys : Int) (cs : List Col) (A2 : Option Addr) (n2 c2 : Nat) (xs : List Ci) (A3 : Option Addr) (n3 c3 : Nat) (ts : List Si) (A4 : Option Addr) (n4 c4 : Nat) (ps : List Int) (w : World) (hs : SchIn w A n c cs) (hx : RdX w A2 n2 xs) (hz2 : n2 * 40 ≤ 140737488351232) (ht : RdT w A3 n3 ts) (hz3 : n3 * 48 ≤ 140737488351232) (hp : RdI w A4 n4 ps) (hn4 : n4 ≤ 1048576) :
    Calls Try.prog 4 #[.agg #[.slice A n c, .int .i64 keys], .slice A2 n2 c2, .slice A3 n3 c3, .slice A4 n4 c4] w fun e w' => e = .returned (.bool true) ∧ Ext w w' := by
  have hE : Ext w (w.alloc (.cells #[.slice A n c, .int .i64 keys] 24)) := (Ext.refl w).alloc _
  have sb := AtS.box w A n c keys
  have hvx := vals_full hx
  have hvt := tvals_full ht
  obtain ⟨hRl, hRa⟩ := applyV_facts (keys := keys) (cs := cs) (fun v hv => (hvx v hv).1) (fun v hv => (hvt v hv).1)
  obtain ⟨hTl, hTa⟩ := projV_facts (keys := keys) (cs := cs) (ps := ps) (fun v hv => (hvx v hv).1)
  rw [hp.1] at hTl
  have hav := fun (fs : List Ci) (gs : List Si) (h : fs.map Ci.val = xs.map Ci.val) (h2 : gs.map Si.val = ts.map Si.val) => applyE_val (keys := keys) (cs := cs) h h2
  have hpv := fun (fs : List Ci) (h : fs.map Ci.val = xs.map Ci.val) => projE_val (keys := keys) (cs := cs) (ps := ps) h
  obtain ⟨V, hV⟩ : ∃ V, V = applyV keys cs xs ts := ⟨_, rfl⟩
  obtain ⟨E, hEq⟩ : ∃ E, E = applyE keys cs xs ts := ⟨_, rfl⟩
  obtain ⟨V2, hV2⟩ : ∃ V2, V2 = projV keys cs xs ps := ⟨_, rfl⟩
  obtain ⟨E2, hEq2⟩ : ∃ E2, E2 = projE keys cs xs ps := ⟨_, rfl⟩
  rw [← hV] at hRl hRa
  rw [← hV2] at hTl hTa
  have G1 : ∀ W B m d fs C q e gs, SchIn W A n c cs → RdX W B m fs → RdT W C q gs → m ≤ 4398046511104 → q ≤ 140737488355328 → fs.map Ci.val = xs.map Ci.val → gs.map Si.val = ts.map Si.val → Calls Try.prog 26 #[.agg #[.slice A n c, .int .i64 keys], .slice B m d, .slice C q e] W (CellsPost V E W) := fun W B m d fs C q e gs h1 h2 h3 h4 h5 h6 h7 => by
    have h := sapply_any A n c keys cs B m d fs C q e gs W h1 h2 h3 h4 h5
    rw [(hav fs gs h6 h7).1, (hav fs gs h6 h7).2, ← hV, ← hEq] at h
    exact h
  have G2 : ∀ W, SchIn W A n c cs → RdX W A2 n2 xs → RdT W A3 n3 ts → Calls Try.prog 27 #[.agg #[.slice A n c, .int .i64 keys], .slice A2 n2 c2, .slice A3 n3 c3] W (CellsPost V E W) := fun W h1 h2 h3 => by
    rw [hV, hEq]; exact refApply_any A n c keys cs A2 n2 c2 xs A3 n3 c3 ts W h1 h2 h3 (by omega) (by omega)
  have G3 : ∀ W B m d fs, SchIn W A n c cs → RdX W B m fs → RdI W A4 n4 ps → m ≤ 4398046511104 → fs.map Ci.val = xs.map Ci.val → Calls Try.prog 32 #[.agg #[.slice A n c, .int .i64 keys], .slice B m d, .slice A4 n4 c4] W (CellsPost V2 E2 W) := fun W B m d fs h1 h2 h3 h4 h6 => by
    have h := sproject_any A n c keys cs B m d fs A4 n4 c4 ps W h1 h2 h3 h4 hn4
    rw [(hpv fs h6).1, (hpv fs h6).2, ← hV2, ← hEq2] at h
    exact h
  have G4 : ∀ W, SchIn W A n c cs → RdX W A2 n2 xs → RdI W A4 n4 ps → Calls Try.prog 33 #[.agg #[.slice A n c, .int .i64 keys], .slice A2 n2 c2, .slice A4 n4 c4] W (CellsPost V2 E2 W) := fun W h1 h2 h3 => by
    rw [hV2, hEq2]; exact refProject_any A n c keys cs A2 n2 c2 xs A4 n4 c4 ps W h1 h2 h3 (by omega) hn4
  obtain ⟨r, hr⟩ : ∃ r, V.length = r := ⟨_, rfl⟩
  obtain ⟨t, htl⟩ : ∃ t, V2.length = t := ⟨_, rfl⟩
  unfold CellsPost at G1 G2 G3 G4
  simp only [hr] at G1 G2
  simp only [htl] at G3 G4
  rw [hr] at hRl
  rw [htl] at hTl
  have HG1 := Lib.hid G1
  have HG2 := Lib.hid G2
  have HG3 := Lib.hid G3
  have HG4 := Lib.hid G4
  have Hr := Lib.hid hr
  have Ht := Lib.hid htl
  have HRa := Lib.hid hRa
  have HTa := Lib.hid hTa
  have HVx := Lib.hid hvx
  have HVt := Lib.hid hvt
  have HC1 := Lib.hid (rd_cap hx)
  have HC2 := Lib.hid (rdT_cap ht)
  have q1 : (E != E) = false := by simp
  have q2 : (E2 != E2) = false := by simp
  clear G1 G2 G3 G4 hr htl hRa hTa hvx hvt hav hpv hV hEq hV2 hEq2
  go_enter Try.func4, Try.ntmps4
  go_wp2_with fail
  refine (alive6 _).mono ?_
  rintro e w1 ⟨rfl, he1⟩
  have hE1 := hE.trans he1
  have s1 := sb.ext he1
  go_wp2_with fail
  refine (twinRow_any A2 n2 c2 xs _ (hx.ext hE1) (by omega)).mono ?_
  rintro e w2 ⟨fs, B2, d2, rfl, hv2, ho2, htx2, he2⟩
  have hE2 := hE1.trans he2
  go_wp2_with fail
  refine (twinSets_any A3 n3 c3 ts _ (ht.ext hE2) (by omega)).mono ?_
  rintro e w3 ⟨gs, B3, d3, rfl, hv3, ho3, htx3, he3⟩
  have hE3 := hE2.trans he3
  have hmine := (res_rd hv2 HC1.out HVx.out ho2 htx2.1).ext he3
  have hmy := res_rdT hv3 HC2.out HVt.out ho3 htx3.1
  have s3 := s1.ext (he2.trans he3)
  have Hv2 := Lib.hid hv2
  have Hv3 := Lib.hid hv3
  have K : Hid (∀ W, Ext w3 W → W.cell? ⟨w.heap.size, 0, none⟩ = some (.slice A n c) ∧ W.cell? ⟨w.heap.size, 1, none⟩ = some (.int .i64 keys)) := Lib.hid (fun W hW => ⟨(s3.ext hW).c0, (s3.ext hW).c1⟩)
  have HS := Lib.hid (hs.ext hE3)
  have HX := Lib.hid (hx.ext hE3)
  have HT := Lib.hid (ht.ext hE3)
  have HP := Lib.hid (hp.ext hE3)
  have HM := Lib.hid hmine
  have HMy := Lib.hid hmy
  have HE3 := Lib.hid hE3
  obtain ⟨k0, k1⟩ := K.out _ (Ext.refl w3)
  clear ho2 htx2 ho3 htx3 hv2 hv3 he1 he2 he3 hE1 hE2 hE3 s1 s3 sb hmine hmy hE
  go_wp2_with fail
  refine (HG1.out _ B2 n2 d2 fs B3 n3 d3 gs HS.out HM.out HMy.out (by omega) (by omega) Hv2.out Hv3.out).mono ?_
  rintro e w4 ⟨us, A5, c5, rfl, hv4, ho4, htx4, he4⟩
  obtain ⟨k0, k1⟩ := K.out _ he4
  go_wp2_with fail
  refine (HG2.out _ (HS.out.ext he4) (HX.out.ext he4) (HT.out.ext he4)).mono ?_
  rintro e w5 ⟨vs, A6, c6, rfl, hv5, ho5, htx5, he5⟩
  have hfl : us.length = r := by rw [← Hr.out, ← hv4, List.length_map]
  have hx4 := (res_rd hv4 Hr.out (fun v hv => ⟨(HRa.out v hv).1, by have := (HRa.out v hv).2; omega⟩) ho4 htx4.1).ext he5
  have hx5 := res_rd hv5 Hr.out (fun v hv => ⟨(HRa.out v hv).1, by have := (HRa.out v hv).2; omega⟩) ho5 htx5.1
  have hin := htx4.within
  have hv45 : us.map Ci.val = vs.map Ci.val := hv4.trans hv5.symm
  have Hv45 := Lib.hid hv45
  have Hfl := Lib.hid hfl
  have Hv4 := Lib.hid hv4
  have htu4 := htx4.ext he5
  have hE35 := he4.trans he5
  have z5 := he5.size
  clear ho4 ho5 htx4 hv45 hfl hv4 hv5
  go_wp2_with fail
  refine (alikeRow_any A5 r c5 us A6 r c6 vs _ hx4 hx5 (by omega) (by omega)).mono ?_
  rintro e w6 ⟨rfl, he6⟩
  rw [alkR_iff.2 Hv45.out]
  go_wp2_with fail
  refine (texts_any A5 r c5 us _ (hx4.ext he6) (by omega)).mono ?_
  rintro e w7 ⟨A7, c7, rfl, hs7, he7⟩
  go_wp2_with fail
  refine (texts_any A6 r c6 vs _ ((hx5.ext he6).ext he7) (by omega)).mono ?_
  rintro e w8 ⟨A8, c8, rfl, hs8, he8⟩
  have e58 := (he6.trans he7).trans he8
  have z6 := he6.size
  have z7 := he7.size
  go_wp2_with fail
  refine (apartRows A7 A8 r c7 c8 w3.heap.size w4.heap.size w6.heap.size w7.heap.size w3.heap.size w4.heap.size us vs w8 (hs7.ext he8) hs8 Hfl.out (by omega) Hv45.out (fun v hv => by rw [Hv4.out] at hv; have := HRa.out v hv; exact ⟨this.1, by omega⟩) (htu4.ext e58) (fun g hg => (htx5.1 g hg).ext e58) hin (by omega) (by omega) (Nat.le_refl _)).mono ?_
  rintro e w9 ⟨rfl, hK9⟩
  have hE39 : Ext w3 w9 := hK9.toExt (hE35.trans e58) (fun s hs p hp => (hin s hs p hp).1)
  clear hK9 hs7 hs8 he4 he5 he6 he7 he8 e58 hx4 hx5 htu4 htx5 hin z5 z6 z7 hE35
  go_wp2_with fail
  refine (alikeRow_any B2 n2 d2 fs A2 n2 c2 xs _ (HM.out.ext hE39) (HX.out.ext hE39) (by omega) (by omega)).mono ?_
  rintro e wa ⟨rfl, hea⟩
  rw [alkR_iff.2 Hv2.out]
  have hE3a := hE39.trans hea
  go_wp2_with fail
  refine (alikeSets_any B3 n3 d3 gs A3 n3 c3 ts _ (HMy.out.ext hE3a) (HT.out.ext hE3a) (by omega) (by omega)).mono ?_
  rintro e wb ⟨rfl, heb⟩
  rw [alkTs_iff.2 Hv3.out]
  have hE3b := hE3a.trans heb
  obtain ⟨k0, k1⟩ := K.out _ hE3b
  clear hea heb hE39 hE3a
  go_wp2_with fail
  refine (HG3.out _ B2 n2 d2 fs (HS.out.ext hE3b) (HM.out.ext hE3b) (HP.out.ext hE3b) (by omega) Hv2.out).mono ?_
  rintro e wc ⟨us2, Ac, cc, rfl, hvc, hoc, htc, hec⟩
  have hE3c := hE3b.trans hec
  obtain ⟨k0, k1⟩ := K.out _ hE3c
  go_wp2_with fail
  refine (HG4.out _ (HS.out.ext hE3c) (HX.out.ext hE3c) (HP.out.ext hE3c)).mono ?_
  rintro e wd ⟨vs2, Ad, cd, rfl, hvd, hod, htd, hed⟩
  have hfl2 : us2.length = t := by rw [← Ht.out, ← hvc, List.length_map]
  have hxc := (res_rd hvc Ht.out (fun v hv => ⟨(HTa.out v hv).1, by have := (HTa.out v hv).2; omega⟩) hoc htc.1).ext hed
  have hxd := res_rd hvd Ht.out (fun v hv => ⟨(HTa.out v hv).1, by have := (HTa.out v hv).2; omega⟩) hod htd.1
  have hin2 := htc.within
  have hvcd : us2.map Ci.val = vs2.map Ci.val := hvc.trans hvd.symm
  have Hvcd := Lib.hid hvcd
  have Hfl2 := Lib.hid hfl2
  have Hvc := Lib.hid hvc
  have htuc := htc.ext hed
  have hE3d := hE3c.trans hed
  have zd := hed.size
  have zc := hE3b.size
  clear hoc hod htc hvcd hfl2 hvc hvd
  go_wp2_with fail
  refine (alikeRow_any Ac t cc us2 Ad t cd vs2 _ hxc hxd (by omega) (by omega)).mono ?_
  rintro e we ⟨rfl, hee⟩
  rw [alkR_iff.2 Hvcd.out]
  go_wp2_with fail
  refine (texts_any Ac t cc us2 _ (hxc.ext hee) (by omega)).mono ?_
  rintro e wf ⟨Af, cf, rfl, hsf, hef⟩
  go_wp2_with fail
  refine (texts_any Ad t cd vs2 _ ((hxd.ext hee).ext hef) (by omega)).mono ?_
  rintro e wg ⟨Ag, cg, rfl, hsg, heg⟩
  have edg := (hee.trans hef).trans heg
  have ze := hee.size
  have zf := hef.size
  go_wp2_with fail
  refine (apartRows Af Ag t cf cg wb.heap.size wc.heap.size we.heap.size wf.heap.size wb.heap.size wc.heap.size us2 vs2 wg (hsf.ext heg) hsg Hfl2.out (by omega) Hvcd.out (fun v hv => by rw [Hvc.out] at hv; have := HTa.out v hv; exact ⟨this.1, by omega⟩) (htuc.ext edg) (fun g hg => (htd.1 g hg).ext edg) hin2 (by omega) (by omega) (Nat.le_refl _)).mono ?_
  rintro e wh ⟨rfl, hKh⟩
  have hE3h : Ext w3 wh := hKh.toExt (hE3d.trans edg) (fun s hs p hp => Nat.le_trans zc (hin2 s hs p hp).1)
  clear hKh hsf hsg hec hed hee hef heg edg hxc hxd htuc htd hin2 zd zc ze zf hE3c hE3d
  go_wp2_with fail
  refine (alikeRow_any B2 n2 d2 fs A2 n2 c2 xs _ (HM.out.ext hE3h) (HX.out.ext hE3h) (by omega) (by omega)).mono ?_
  rintro e wi ⟨rfl, hei⟩
  rw [alkR_iff.2 Hv2.out]
  go_wp2
  go_ret
  exact ⟨rfl, (HE3.out.trans hE3h).trans hei⟩

end Go.Proofs.Ytlagbgcolgbbhaa
