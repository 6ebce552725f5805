/-
  Layer 6: the statement SchemaBack, walked.
-/
import Derived.Test.YtlagbgcolgbbhaaH44
namespace Go.Proofs.Ytlagbgcolgbbhaa
open Go.RowKit

theorem back_row {keys : Int} {cs : List Col} {xs : List Ci} (ys : List Nat) (h : rowS keys cs xs = 0) (hok : ∀ v ∈ xs.map Ci.val, CVok v) : growS keys cs (prowL keys cs xs ++ ys) 0 = (xs.map Ci.val, ((prowL keys cs xs).length : Int), 0) := by
  obtain ⟨h1, h2, h3⟩ := rowS_zero h
  unfold growS prowL
  rw [if_neg (fun q => q h1), if_pos h]
  have := growA_put (cs := cs) (vs := xs.map Ci.val) [] ys (acc := []) (by rw [List.length_map]; exact h2) h3 hok
  simpa using this
theorem back_sets {keys : Int} {cs : List Col} {ts : List Si} (xs : List Nat) (h : setsS keys cs ts = 0) (hok : ∀ v ∈ ts.map Si.val, CVok v.2) : gsetsS keys cs (xs ++ psetsL keys cs ts) (xs.length : Int) = (ts.map Si.val, ((xs ++ psetsL keys cs ts).length : Int), 0) := by
  obtain ⟨h1, h2, h3⟩ := setsS_zero h
  obtain ⟨h4, _⟩ := sets_few h
  have hi := schE_inv h1
  unfold gsetsS psetsL setsB
  rw [if_neg (fun q => q h1), if_pos h]
  have e : xs ++ (vput (ts.map Si.val).length ++ setB cs (ts.map Si.val)) = (xs ++ vput (ts.map Si.val).length) ++ setB cs (ts.map Si.val) := by rw [List.append_assoc]
  have hl : (ts.map Si.val).length = ts.length := List.length_map ..
  have g1 := vget_put (u := (ts.map Si.val).length) (by omega) xs (setB cs (ts.map Si.val))
  rw [e, g1]
  simp only
  rw [if_neg (fun q => q rfl), if_neg (by omega)]
  have g2 := gsetsA_put cs hi.2.1 (ts := ts.map Si.val) (L := keys - 1) (xs ++ vput (ts.map Si.val).length) [] (acc := []) (by omega) h3 hok
  rw [List.append_nil, List.nil_append] at g2
  have e2 : ((xs ++ vput (ts.map Si.val).length).length : Int) = (xs.length : Int) + ((vput (ts.map Si.val).length).length : Int) := by rw [List.length_append]; omega
  rw [e2] at g2
  rw [g2]
  simp only [List.length_append, Prod.mk.injEq, true_and, and_true]
  omega

theorem setW_mono {cs : List Col} : ∀ {ts : List (Int × CV)} {L : Int}, setW cs L ts = 0 → ∀ (i j : Nat) (s t : Int × CV), ts[i]? = some s → ts[j]? = some t → i < j → s.1 < t.1
  | [], _, _, i, j, s, t, hi, _, _ => by simp at hi
  | u :: r, L, h, i, j, s, t, hi, hj, hlt => by
    obtain ⟨_, _, _, h4⟩ := setW_cons h
    match j, hj, hlt with
    | j + 1, hj, hlt =>
      have hj' : r[j]? = some t := by simpa using hj
      match i, hi with
      | 0, hi =>
        simp at hi
        subst hi
        exact (setW_all h4 t (List.mem_of_getElem? hj')).1
      | i + 1, hi => exact setW_mono h4 i j s t (by simpa using hi) hj' (by omega)
theorem withV_none : ∀ {ts : List (Int × CV)} {vs : List CV} {i : Nat}, (∀ t ∈ ts, 0 ≤ t.1 ∧ t.1 ≠ (i : Int)) → (withV vs ts)[i]? = vs[i]?
  | [], _, _, _ => rfl
  | t :: r, vs, i, h => by
    rw [withV, withV_none (fun u hu => h u (List.mem_cons_of_mem _ hu))]
    obtain ⟨h1, h2⟩ := h t List.mem_cons_self
    rw [List.getElem?_set_ne (by omega)]
theorem withV_some {cs : List Col} : ∀ {ts : List (Int × CV)} {L : Int} {vs : List CV} {k i : Nat} {v : CV}, -1 ≤ L → setW cs L ts = 0 → ts[k]? = some ((i : Int), v) → i < vs.length → (withV vs ts)[i]? = some v
  | [], _, _, _, _, _, _, _, hk, _ => by simp at hk
  | t :: r, L, vs, k, i, v, hL, h, hk, hi => by
    obtain ⟨h1, _, _, h4⟩ := setW_cons h
    match k, hk with
    | 0, hk =>
      simp at hk
      subst hk
      rw [withV, withV_none (fun u hu => by have := (setW_all h4 u hu).1; simp only at this h1; exact ⟨by omega, by omega⟩)]
      simp only [Int.toNat_natCast]
      exact List.getElem?_set_self hi
    | k + 1, hk =>
      rw [withV]
      exact withV_some (by omega) h4 (by simpa using hk) (by rw [List.length_set]; exact hi)

set_option maxHeartbeats 12800000 in
set_option maxRecDepth 100000 in
theorem walk_SchemaBack (A : Option Addr) (n c : Nat) (keys : Int) (cs : List Col) (A2 : Option Addr) (n2 c2 : Nat) (xs : List Ci) (A3 : Option Addr) (n3 c3 : Nat) (ts : List Si) (w : World) (hs : SchIn w A n c cs) (hx : RdX w A2 n2 xs) (hz2 : n2 * 40 ≤ 140737488351232) (ht : RdT w A3 n3 ts) (hz3 : n3 * 48 ≤ 140737488351232) :
    Calls Try.prog 7 #[.agg #[.slice A n c, .int .i64 keys], .slice A2 n2 c2, .slice A3 n3 c3] w fun e w' => e = .returned (.bool true) ∧ Ext w w' := by
  have hE : Ext w (w.alloc (.cells #[.slice A n c, .int .i64 keys] 24)) := (Ext.refl w).alloc _
  have sb := AtS.box w A n c keys
  obtain ⟨hLu, hLl⟩ := prowL_facts (keys := keys) (cs := cs) hx
  obtain ⟨hMu, hMl⟩ := psetsL_facts (keys := keys) (cs := cs) ht
  have hb1 := back_row (keys := keys) (cs := cs) (xs := xs) (psetsL keys cs ts)
  have hb2 := back_sets (keys := keys) (cs := cs) (ts := ts) (prowL keys cs xs)
  have hr0 := rowS_zero (keys := keys) (cs := cs) (xs := xs)
  have hs0 := setsS_zero (keys := keys) (cs := cs) (ts := ts)
  have hap : applyE keys cs xs ts = if rowS keys cs xs ≠ 0 then rowS keys cs xs else setsS keys cs ts := rfl
  obtain ⟨L, hL⟩ : ∃ L, L = prowL keys cs xs := ⟨_, rfl⟩
  obtain ⟨E, hE0⟩ : ∃ E, E = rowS keys cs xs := ⟨_, rfl⟩
  obtain ⟨M, hM⟩ : ∃ M, M = psetsL keys cs ts := ⟨_, rfl⟩
  obtain ⟨D, hD⟩ : ∃ D, D = setsS keys cs ts := ⟨_, rfl⟩
  rw [← hL] at hLu hLl hb1 hb2
  rw [← hM] at hMu hMl hb1 hb2
  rw [← hE0] at hb1 hr0 hap
  rw [← hD] at hb2 hs0 hap
  have P1 : ∀ W, SchIn W A n c cs → RdX W A2 n2 xs → Calls Try.prog 35 #[.agg #[.slice A n c, .int .i64 keys], .slice A2 n2 c2] W (CPutPost L E W) := fun W h1 h2 => by
    rw [hL, hE0]; exact sputRow_any A n c keys cs A2 n2 c2 xs W h1 h2 (by omega)
  have Q1 : ∀ W, SchIn W A n c cs → RdT W A3 n3 ts → Calls Try.prog 37 #[.agg #[.slice A n c, .int .i64 keys], .slice A3 n3 c3] W (CPutPost M D W) := fun W h1 h2 => by
    rw [hM, hD]; exact sputSets_any A n c keys cs A3 n3 c3 ts W h1 h2 (by omega)
  have R1 : ∀ W, SchIn W A n c cs → RdX W A2 n2 xs → Calls Try.prog 17 #[.agg #[.slice A n c, .int .i64 keys], .slice A2 n2 c2] W fun e w' => e = .returned (.int .i64 E) ∧ Ext W w' := fun W h1 h2 => by
    rw [hE0]; exact refSrow_any A n c keys cs A2 n2 c2 xs W h1 h2 (by omega)
  have S1 : ∀ W, SchIn W A n c cs → RdT W A3 n3 ts → Calls Try.prog 21 #[.agg #[.slice A n c, .int .i64 keys], .slice A3 n3 c3] W fun e w' => e = .returned (.int .i64 D) ∧ Ext W w' := fun W h1 h2 => by
    rw [hD]; exact refSsets_any A n c keys cs A3 n3 c3 ts W h1 h2 (by omega)
  obtain ⟨l, hl⟩ : ∃ l, L.length = l := ⟨_, rfl⟩
  obtain ⟨m, hm⟩ : ∃ m, M.length = m := ⟨_, rfl⟩
  rw [hl] at hLl hb1 hb2
  rw [hm] at hMl
  unfold CPutPost at P1 Q1
  simp only [hl] at P1
  simp only [hm] at Q1
  have HP1 := Lib.hid P1
  have HQ1 := Lib.hid Q1
  have HR1 := Lib.hid R1
  have HS1 := Lib.hid S1
  have Hl := Lib.hid hl
  have Hm := Lib.hid hm
  clear P1 Q1 R1 S1
  by_cases e0 : E = 0
  · by_cases d0 : D = 0
    · subst e0 d0
      have hvx := vals_full hx
      have hvt := tvals_full ht
      have g1 := hb1 rfl (fun v hv => (hvx v hv).1)
      have g2 := hb2 rfl (fun v hv => (hvt v hv).1)
      obtain ⟨r1, r2, r3⟩ := hr0 rfl
      obtain ⟨s1, s2, s3⟩ := hs0 rfl
      rw [if_neg (fun q => q rfl)] at hap
      have hkeys := (schE_inv r1).2.2.1
      have hmono := setW_mono s3
      have hall := setW_all s3
      have hlen : (L ++ M).length = l + m := by rw [List.length_append, hl, hm]
      have hcl : (xs.length : Int) = (cs.length : Int) := by rw [r2]
      rw [hx.1] at hcl
      rw [hlen] at g2
      have huLM : U8 (L ++ M) := fun v hv => by
        rcases List.mem_append.1 hv with h | h
        · exact hLu v h
        · exact hMu v h
      have GR : ∀ W (C : Option Addr) (cc : Nat), SchIn W A n c cs → Rd .u8 W C (l + m) (L ++ M) → l + m ≤ cc → cc ≤ 9223372036854775807 → Calls Try.prog 40 #[.agg #[.slice A n c, .int .i64 keys], .slice C (l + m : Nat) cc, .int .i64 0] W fun e w' => ∃ fs A' c', e = .returned (.tuple #[.slice A' n2 c', .int .i64 (l : Int), .int .i64 0]) ∧ fs.map Ci.val = xs.map Ci.val ∧ OwnX w' W.heap.size A' c' fs ∧ TxtU w' W.heap.size fs ∧ Ext W w' := fun W C cc h1 h2 h3 h4 => by
        have h := sgetRow_any A n c keys cs C (l + m) cc 0 (L ++ M) W h1 h2 huLM (by omega) h3 h4
        rw [g1] at h
        unfold GRowPost at h
        simp only [List.length_map, hx.1] at h
        exact h
      have GS : ∀ W (C : Option Addr) (cc : Nat), SchIn W A n c cs → Rd .u8 W C (l + m) (L ++ M) → l + m ≤ cc → cc ≤ 9223372036854775807 → Calls Try.prog 42 #[.agg #[.slice A n c, .int .i64 keys], .slice C (l + m : Nat) cc, .int .i64 (l : Int)] W fun e w' => ∃ fs A' c', e = .returned (.tuple #[.slice A' n3 c', .int .i64 ((l + m : Nat) : Int), .int .i64 0]) ∧ fs.map Si.val = ts.map Si.val ∧ OwnT w' W.heap.size A' c' fs ∧ TxtT w' W.heap.size fs ∧ Ext W w' := fun W C cc h1 h2 h3 h4 => by
        have h := sgetSets_any A n c keys cs C (l + m) cc (l : Int) (L ++ M) W h1 h2 huLM (by omega) h3 h4
        rw [g2] at h
        unfold GSetsPost at h
        simp only [List.length_map, ht.1] at h
        exact h
      have AP : ∀ W, SchIn W A n c cs → RdX W A2 n2 xs → RdT W A3 n3 ts → Calls Try.prog 26 #[.agg #[.slice A n c, .int .i64 keys], .slice A2 n2 c2, .slice A3 n3 c3] W fun e w' => ∃ fs A' c', e = .returned (.tuple #[.slice A' n2 c', .int .i64 0]) ∧ fs.map Ci.val = withV (xs.map Ci.val) (ts.map Si.val) ∧ OwnX w' W.heap.size A' c' fs ∧ TxtU w' W.heap.size fs ∧ Ext W w' := fun W h1 h2 h3 => by
        have h := sapply_any A n c keys cs A2 n2 c2 xs A3 n3 c3 ts W h1 h2 h3 (by omega) (by omega)
        have ev : applyV keys cs xs ts = withV (xs.map Ci.val) (ts.map Si.val) := by unfold applyV; rw [if_pos hap]
        rw [hap, ev] at h
        unfold CellsPost at h
        rw [withV_len, List.length_map, hx.1] at h
        exact h
      have hwok : ∀ v ∈ withV (xs.map Ci.val) (ts.map Si.val), CVok v ∧ v.2.2.length * 1 ≤ 140737488351232 := by
        have key : ∀ (us : List (Int × CV)) (vs : List CV), (∀ v ∈ vs, CVok v ∧ v.2.2.length * 1 ≤ 140737488351232) → (∀ u ∈ us, CVok u.2 ∧ u.2.2.2.length * 1 ≤ 140737488351232) → ∀ v ∈ withV vs us, CVok v ∧ v.2.2.length * 1 ≤ 140737488351232 := by
          intro us
          induction us with
          | nil => intro vs h _; exact h
          | cons u r ih =>
            intro vs h h2
            refine ih _ (fun v hv => ?_) (fun v hv => h2 v (List.mem_cons_of_mem _ hv))
            rcases List.mem_or_eq_of_mem_set hv with h3 | rfl
            · exact h v h3
            · exact h2 u List.mem_cons_self
        exact key _ _ hvx hvt
      have HGR := Lib.hid GR
      have HGS := Lib.hid GS
      have HAP := Lib.hid AP
      have HWok := Lib.hid hwok
      have HVx := Lib.hid hvx
      have HVt := Lib.hid hvt
      have Hmono := Lib.hid hmono
      have Hall := Lib.hid hall
      have Hcl := Lib.hid hcl
      have Hs3 := Lib.hid s3
      have HC1 := Lib.hid (rd_cap hx)
      have HC2 := Lib.hid (rdT_cap ht)
      have HWl : Hid ((withV (xs.map Ci.val) (ts.map Si.val)).length = n2) := Lib.hid (by rw [withV_len, List.length_map]; exact hx.1)
      clear GR GS AP hwok hvx hvt hmono hall hcl s3 s2 s1 r1 r2 r3 g1 g2 hb1 hb2 hr0 hs0 hap hE0 hD hL hM hlen huLM hl hm
      go_enter Try.func7, Try.ntmps7
      go_wp2_with fail
      refine (alive6 _).mono ?_
      rintro e w1 ⟨rfl, he1⟩
      have hE1 := hE.trans he1
      have s1 := sb.ext he1
      have K : Hid (∀ W, Ext w1 W → W.cell? ⟨w.heap.size, 0, none⟩ = some (.slice A n c) ∧ W.cell? ⟨w.heap.size, 1, none⟩ = some (.int .i64 keys)) := Lib.hid (fun W hW => ⟨(s1.ext hW).c0, (s1.ext hW).c1⟩)
      have HS := Lib.hid (hs.ext hE1)
      have HX := Lib.hid (hx.ext hE1)
      have HT := Lib.hid (ht.ext hE1)
      obtain ⟨k0, k1⟩ := K.out _ (Ext.refl w1)
      clear he1 s1 sb
      go_wp2_with fail
      refine (HP1.out _ HS.out HX.out).mono ?_
      rintro e w2 ⟨A4, c4, rfl, hown4, he2⟩
      obtain ⟨k0, k1⟩ := K.out _ he2
      have hE12 := he2
      go_wp2_with fail
      refine (HQ1.out _ (HS.out.ext hE12) (HT.out.ext hE12)).mono ?_
      rintro e w3 ⟨A5, c5, rfl, hown5, he3⟩
      have hE13 := hE12.trans he3
      obtain ⟨k0, k1⟩ := K.out _ hE13
      go_wp2_with fail
      refine (HR1.out _ (HS.out.ext hE13) (HX.out.ext hE13)).mono ?_
      rintro e w4 ⟨rfl, he4⟩
      have hE14 := hE13.trans he4
      obtain ⟨k0, k1⟩ := K.out _ hE14
      go_wp2_with fail
      refine (HS1.out _ (HS.out.ext hE14) (HT.out.ext hE14)).mono ?_
      rintro e w5 ⟨rfl, he5⟩
      have hE15 := hE14.trans he5
      obtain ⟨k0, k1⟩ := K.out _ hE15
      have hL5 := (((hown4.rd' Hl.out).ext he3).ext he4).ext he5
      have hM5 := ((hown5.rd' Hm.out).ext he4).ext he5
      go_wp2_with fail
      refine (cat_any _ _ _ _ _ _ L M _ hL5 hM5 (by omega)).mono ?_
      rintro e w6 ⟨A6, c6, rfl, hown6, he6⟩
      have hE16 := hE15.trans he6
      obtain ⟨k0, k1⟩ := K.out _ hE16
      have hr6 := hown6.rd' (n := l + m) (by rw [List.length_append, Hl.out, Hm.out])
      have hcap6 := hown6.cap
      rw [List.length_append, Hl.out, Hm.out] at hcap6
      clear hown4 hown5 hown6 hL5 hM5 he2 he3 he4 he5 he6 hE12 hE13 hE14 hE15
      go_wp2_with fail
      refine (HGR.out _ _ _ (HS.out.ext hE16) hr6 hcap6.1 hcap6.2).mono ?_
      rintro e w7 ⟨fs, A7, c7, rfl, hv7, ho7, ht7, he7⟩
      have hE17 := hE16.trans he7
      obtain ⟨k0, k1⟩ := K.out _ hE17
      have hx7 := res_rd hv7 HC1.out HVx.out ho7 ht7.1
      have Hv7 := Lib.hid hv7
      clear ho7 ht7 hv7
      go_wp2_with fail
      refine (HGS.out _ _ _ (HS.out.ext hE17) (hr6.ext he7) hcap6.1 hcap6.2).mono ?_
      rintro e w8 ⟨gs, A8, c8, rfl, hv8, ho8, ht8, he8⟩
      have hE18 := hE17.trans he8
      obtain ⟨k0, k1⟩ := K.out _ hE18
      have hx8 := res_rdT hv8 HC2.out HVt.out ho8 ht8.1
      have Hv8 := Lib.hid hv8
      clear ho8 ht8 hv8
      go_wp2_with fail
      refine (alikeRow_any A7 n2 c7 fs A2 n2 c2 xs _ (hx7.ext he8) (HX.out.ext hE18) (by omega) (by omega)).mono ?_
      rintro e w9 ⟨rfl, he9⟩
      rw [alkR_iff.2 Hv7.out]
      have hE19 := hE18.trans he9
      go_wp2_with fail
      refine (alikeSets_any A8 n3 c8 gs A3 n3 c3 ts _ (hx8.ext he9) (HT.out.ext hE19) (by omega) (by omega)).mono ?_
      rintro e wa ⟨rfl, hea⟩
      rw [alkTs_iff.2 Hv8.out]
      have hE1a := hE19.trans hea
      obtain ⟨k0, k1⟩ := K.out _ hE1a
      clear hx7 hx8 hr6 he7 he8 he9 hea hE16 hE17 hE18 hE19
      go_wp2_with fail
      refine (HAP.out _ (HS.out.ext hE1a) (HX.out.ext hE1a) (HT.out.ext hE1a)).mono ?_
      rintro e wz ⟨zs, Az, cz, rfl, hvz, hoz, htz, hez⟩
      have hE1z := hE1a.trans hez
      have HZ := Lib.hid (res_rd hvz HWl.out HWok.out hoz htz.1)
      have HXz := Lib.hid (HX.out.ext hE1z)
      have HTz := Lib.hid (HT.out.ext hE1z)
      have Hvz := Lib.hid hvz
      have HEz := Lib.hid (hE1.trans hE1z)
      clear hoz htz hvz hez hE1a hE1z hE1
      go_wp2_with fail
      go_loopw [20, 136] (fun v i wr => ∃ (j k : Nat), j ≤ n2 ∧ k ≤ n3 ∧ i = .int .i64 j ∧ v = .int .i64 k ∧ Ext wz wr ∧ Hid (∀ (q : Nat) (t : Si), ts[q]? = some t → (q < k ↔ t.col < (j : Int)))) (fun _ i _ => n2 - (intOf i).toNat)
      case atStart => exact ⟨0, 0, Nat.zero_le _, Nat.zero_le _, rfl, rfl, Ext.refl wz, fun q t hq => by
        obtain ⟨a1, _⟩ := Hall.out t.val (List.mem_map.2 ⟨t, List.mem_of_getElem? hq, rfl⟩)
        simp only [Si.val] at a1
        constructor
        · intro h; omega
        · intro h; omega⟩
      case round =>
        obtain ⟨j, k, hj, hk, rfl, rfl, hb, HI⟩ := hrel
        by_cases hlt : j < n2
        · obtain ⟨b, o, z, rfl, hbl, hzj, z0, z1, z2, hzin⟩ := (HZ.out.ext hb).at_ hlt
          have hzval : (withV (xs.map Ci.val) (ts.map Si.val))[j]? = some z.val := by rw [← Hvz.out, List.getElem?_map, hzj]; rfl
          have i0 : (0 : Int) ≤ (j : Int) := by omega
          have i1 : (j : Int) < (n2 : Int) := by omega
          have hmono : ∀ (q q' : Nat) (t t' : Si), ts[q]? = some t → ts[q']? = some t' → q < q' → t.col < t'.col := fun q q' t t' h1 h2 h3 => by
            have := Hmono.out q q' t.val t'.val (by rw [List.getElem?_map, h1]; rfl) (by rw [List.getElem?_map, h2]; rfl) h3
            simpa only [Si.val] using this
          obtain ⟨zn, zi, zA, zc, zt⟩ := z
          simp only at z0 z1 z2
          obtain ⟨zr, zu, zlo, zhi, zl⟩ := hzin
          simp only at zr zu zlo zhi zl
          obtain ⟨n5, hn5⟩ : ∃ n5, n5 = zt.length := ⟨_, rfl⟩
          rw [← hn5] at z2 zr zl
          by_cases hset : k < n3 ∧ ∃ t, ts[k]? = some t ∧ t.col = (j : Int)
          · obtain ⟨hk3, t, htk, htc⟩ := hset
            obtain ⟨b2, o2, t', rfl, hb2, ht', e9, e0, e1, e2, hin⟩ := (HTz.out.ext hb).at_ hk3
            rw [htk] at ht'
            injection ht' with ht'
            subst ht'
            have hval : (withV (xs.map Ci.val) (ts.map Si.val))[j]? = some t.cell.val := withV_some (by omega) Hs3.out (k := k) (by rw [List.getElem?_map, htk]; show some t.val = _; unfold Si.val; rw [htc]) (by rw [HC1.out]; exact hlt)
            rw [hval] at hzval
            injection hzval with hzval
            have HN : Hid (∀ (q : Nat) (s : Si), ts[q]? = some s → (q < k + 1 ↔ s.col < ((j + 1 : Nat) : Int))) := Lib.hid (fun q s hq => by
              rcases Nat.lt_trichotomy q k with h | h | h
              · have := (HI.out q s hq).1 h
                constructor <;> intro _ <;> omega
              · subst h
                rw [htk] at hq
                injection hq with hq
                subst hq
                constructor <;> intro _ <;> omega
              · have := hmono k q t s htk hq h
                constructor <;> intro _ <;> omega)
            obtain ⟨col, xn, xi, xA, xc, xt⟩ := t
            simp only at e9 e0 e1 e2 htc hzval
            obtain ⟨xr, xu, x0, x1, xl⟩ := hin
            simp only at xr xu x0 x1 xl
            obtain ⟨n6, hn6⟩ : ∃ n6, n6 = xt.length := ⟨_, rfl⟩
            rw [← hn6] at e2 xr xl
            subst htc
            have hq : alk zn zi zt xn xi xt = true := by
              rw [alk_iff]
              simp only [Ci.val, Prod.mk.injEq] at hzval
              exact ⟨hzval.1.symm, hzval.2.1.symm, hzval.2.2.symm⟩
            have HC : Hid (∀ W, Ext wr W → Calls Try.prog 47 #[.agg #[.bool zn, .int .i64 zi, .slice zA n5 zc], .agg #[.bool xn, .int .i64 xi, .slice xA n6 xc]] W fun e w' => e = .returned (.bool true) ∧ Ext W w') := Lib.hid (fun W hW => by
              have h := alike_any zn zi zA n5 zc zt xn xi xA n6 xc xt W (zr.ext hW) (xr.ext hW) (by omega) (by omega)
              rw [hq] at h
              exact h)
            have KK : Hid (∀ w', Ext wr w' → w'.cell? ⟨b, o + j * 3, none⟩ = some (.bool zn) ∧ w'.cell? ⟨b, o + j * 3 + 1, none⟩ = some (.int .i64 zi) ∧ w'.cell? ⟨b, o + j * 3 + 2, none⟩ = some (.slice zA n5 zc) ∧ w'.cell? ⟨b2, o2 + k * 4 + 1, none⟩ = some (.bool xn) ∧ w'.cell? ⟨b2, o2 + k * 4 + 2, none⟩ = some (.int .i64 xi) ∧ w'.cell? ⟨b2, o2 + k * 4 + 3, none⟩ = some (.slice xA n6 xc)) := Lib.hid (fun w' he =>
              ⟨(he.cells b _ hbl).trans z0, (he.cells b _ hbl).trans z1, (he.cells b _ hbl).trans z2, (he.cells b2 _ hb2).trans e0, (he.cells b2 _ hb2).trans e1, (he.cells b2 _ hb2).trans e2⟩)
            have g8 := KK.out _ (Ext.refl wr)
            have j0 : (0 : Int) ≤ (k : Int) := by omega
            have j1 : (k : Int) < (n3 : Int) := by omega
            clear hzval hval hn5 hn6 htk hzj hmono zr zu zlo zhi zl xr xu x0 x1 xl hq
            go_wp2_with fail
            go_region_held3 (fun w' => w'.cell? ⟨b, o + j * 3, none⟩ = some (.bool zn) ∧ w'.cell? ⟨b, o + j * 3 + 1, none⟩ = some (.int .i64 zi) ∧ w'.cell? ⟨b, o + j * 3 + 2, none⟩ = some (.slice zA n5 zc) ∧ w'.cell? ⟨b2, o2 + k * 4 + 1, none⟩ = some (.bool xn) ∧ w'.cell? ⟨b2, o2 + k * 4 + 2, none⟩ = some (.int .i64 xi) ∧ w'.cell? ⟨b2, o2 + k * 4 + 3, none⟩ = some (.slice xA n6 xc))
              (first | exact g8 | (refine KK.out _ ?_; (repeat (first | exact Ext.refl _ | (with_reducible refine Ext.trans ?_ he3) | apply Ext.drew | apply Ext.alloc | fail))) | fail)
              (first
                | (go_at_call 47; (with_reducible refine (HC.out _ ?_).mono ?_); (focus ((repeat (first | exact Ext.refl _ | (with_reducible refine Ext.trans ?_ he3) | apply Ext.drew | apply Ext.alloc | fail)); done)); rintro e w3 ⟨rfl, he3⟩)
                | fail)
            have hE3 : Ext wr w3 := by (repeat (first | exact Ext.refl _ | (with_reducible refine Ext.trans ?_ he3) | apply Ext.drew | apply Ext.alloc | fail))
            go_wp2
            go_roundw
            case rel => exact ⟨j + 1, k + 1, by omega, by omega, by go_num, by go_num, hb.trans hE3, HN.out⟩
            case measure => simp [intOf]; omega
          · obtain ⟨b2, o2, x, rfl, hb2, hx2, e0, e1, e2, hin⟩ := (HXz.out.ext hb).at_ hlt
            have hge : ∀ (q : Nat) (s : Si), ts[q]? = some s → k ≤ q → (j : Int) < s.col := fun q s hq hkq => by
              have hk3 : k < n3 := by have := (List.getElem?_eq_some_iff.1 hq).1; have := ht.1; omega
              have hkl : k < ts.length := by have := ht.1; omega
              have htk : ts[k]? = some ts[k] := List.getElem?_eq_getElem hkl
              have h1 : ¬ ts[k].col < (j : Int) := fun h => by have := (HI.out k _ htk).2 h; omega
              have h2 : ts[k].col ≠ (j : Int) := fun h => hset ⟨hk3, _, htk, h⟩
              rcases Nat.lt_or_ge k q with h | h
              · have := hmono k q _ s htk hq h
                omega
              · obtain rfl : q = k := by omega
                rw [htk] at hq
                injection hq with hq
                subst hq
                omega
            have hval : (withV (xs.map Ci.val) (ts.map Si.val))[j]? = some x.val := by
              rw [withV_none, List.getElem?_map, hx2]
              · rfl
              · intro t htm
                obtain ⟨s, hsm, rfl⟩ := List.mem_map.1 htm
                obtain ⟨a1, _⟩ := Hall.out s.val htm
                obtain ⟨q, hq⟩ := List.getElem?_of_mem hsm
                simp only [Si.val] at a1 ⊢
                refine ⟨by omega, ?_⟩
                rcases Nat.lt_or_ge q k with h | h
                · have := (HI.out q s hq).1 h
                  omega
                · have := hge q s hq h
                  omega
            rw [hval] at hzval
            injection hzval with hzval
            have HN : Hid (∀ (q : Nat) (s : Si), ts[q]? = some s → (q < k ↔ s.col < ((j + 1 : Nat) : Int))) := Lib.hid (fun q s hq => by
              rcases Nat.lt_or_ge q k with h | h
              · have := (HI.out q s hq).1 h
                constructor <;> intro _ <;> omega
              · have := hge q s hq h
                constructor <;> intro _ <;> omega)
            have hcond : (k < n3 ∧ ∃ (b3 o3 : Nat) (col : Int), A3 = some ⟨b3, o3, none⟩ ∧ wr.cell? ⟨b3, o3 + k * 4, none⟩ = some (.int .i64 col) ∧ (col == (j : Int)) = false) ∨ k = n3 := by
              rcases Nat.lt_or_ge k n3 with h | h
              · left
                obtain ⟨b3, o3, t, hA3, hb3, htk, e9, _⟩ := (HTz.out.ext hb).at_ h
                have := hge k t htk (Nat.le_refl _)
                exact ⟨h, b3, o3, t.col, hA3, e9, by rw [beq_eq_false_iff_ne]; omega⟩
              · right; omega
            obtain ⟨xn, xi, xA, xc, xt⟩ := x
            simp only at e0 e1 e2 hzval
            obtain ⟨xr, xu, x0, x1, xl⟩ := hin
            simp only at xr xu x0 x1 xl
            obtain ⟨n6, hn6⟩ : ∃ n6, n6 = xt.length := ⟨_, rfl⟩
            rw [← hn6] at e2 xr xl
            have hq : alk zn zi zt xn xi xt = true := by
              rw [alk_iff]
              simp only [Ci.val, Prod.mk.injEq] at hzval
              exact ⟨hzval.1.symm, hzval.2.1.symm, hzval.2.2.symm⟩
            have HC : Hid (∀ W, Ext wr W → Calls Try.prog 47 #[.agg #[.bool zn, .int .i64 zi, .slice zA n5 zc], .agg #[.bool xn, .int .i64 xi, .slice xA n6 xc]] W fun e w' => e = .returned (.bool true) ∧ Ext W w') := Lib.hid (fun W hW => by
              have h := alike_any zn zi zA n5 zc zt xn xi xA n6 xc xt W (zr.ext hW) (xr.ext hW) (by omega) (by omega)
              rw [hq] at h
              exact h)
            have KK : Hid (∀ w', Ext wr w' → w'.cell? ⟨b, o + j * 3, none⟩ = some (.bool zn) ∧ w'.cell? ⟨b, o + j * 3 + 1, none⟩ = some (.int .i64 zi) ∧ w'.cell? ⟨b, o + j * 3 + 2, none⟩ = some (.slice zA n5 zc) ∧ w'.cell? ⟨b2, o2 + j * 3, none⟩ = some (.bool xn) ∧ w'.cell? ⟨b2, o2 + j * 3 + 1, none⟩ = some (.int .i64 xi) ∧ w'.cell? ⟨b2, o2 + j * 3 + 2, none⟩ = some (.slice xA n6 xc)) := Lib.hid (fun w' he =>
              ⟨(he.cells b _ hbl).trans z0, (he.cells b _ hbl).trans z1, (he.cells b _ hbl).trans z2, (he.cells b2 _ hb2).trans e0, (he.cells b2 _ hb2).trans e1, (he.cells b2 _ hb2).trans e2⟩)
            have g8 := KK.out _ (Ext.refl wr)
            clear hzval hval hn5 hn6 hzj hmono zr zu zlo zhi zl xr xu x0 x1 xl hq hge hset hx2
            rcases hcond with ⟨hk3, b3, o3, col, rfl, e9, q9⟩ | rfl
            · have j0 : (0 : Int) ≤ (k : Int) := by omega
              have j1 : (k : Int) < (n3 : Int) := by omega
              go_wp2_with fail
              go_region_held3 (fun w' => w'.cell? ⟨b, o + j * 3, none⟩ = some (.bool zn) ∧ w'.cell? ⟨b, o + j * 3 + 1, none⟩ = some (.int .i64 zi) ∧ w'.cell? ⟨b, o + j * 3 + 2, none⟩ = some (.slice zA n5 zc) ∧ w'.cell? ⟨b2, o2 + j * 3, none⟩ = some (.bool xn) ∧ w'.cell? ⟨b2, o2 + j * 3 + 1, none⟩ = some (.int .i64 xi) ∧ w'.cell? ⟨b2, o2 + j * 3 + 2, none⟩ = some (.slice xA n6 xc))
                (first | exact g8 | (refine KK.out _ ?_; (repeat (first | exact Ext.refl _ | (with_reducible refine Ext.trans ?_ he3) | apply Ext.drew | apply Ext.alloc | fail))) | fail)
                (first
                  | (go_at_call 47; (with_reducible refine (HC.out _ ?_).mono ?_); (focus ((repeat (first | exact Ext.refl _ | (with_reducible refine Ext.trans ?_ he3) | apply Ext.drew | apply Ext.alloc | fail)); done)); rintro e w3 ⟨rfl, he3⟩)
                  | fail)
              have hE3 : Ext wr w3 := by (repeat (first | exact Ext.refl _ | (with_reducible refine Ext.trans ?_ he3) | apply Ext.drew | apply Ext.alloc | fail))
              go_wp2
              go_roundw
              case rel => exact ⟨j + 1, k, by omega, by omega, by go_num, rfl, hb.trans hE3, HN.out⟩
              case measure => simp [intOf]; omega
            · go_wp2_with fail
              go_region_held3 (fun w' => w'.cell? ⟨b, o + j * 3, none⟩ = some (.bool zn) ∧ w'.cell? ⟨b, o + j * 3 + 1, none⟩ = some (.int .i64 zi) ∧ w'.cell? ⟨b, o + j * 3 + 2, none⟩ = some (.slice zA n5 zc) ∧ w'.cell? ⟨b2, o2 + j * 3, none⟩ = some (.bool xn) ∧ w'.cell? ⟨b2, o2 + j * 3 + 1, none⟩ = some (.int .i64 xi) ∧ w'.cell? ⟨b2, o2 + j * 3 + 2, none⟩ = some (.slice xA n6 xc))
                (first | exact g8 | (refine KK.out _ ?_; (repeat (first | exact Ext.refl _ | (with_reducible refine Ext.trans ?_ he3) | apply Ext.drew | apply Ext.alloc | fail))) | fail)
                (first
                  | (go_at_call 47; (with_reducible refine (HC.out _ ?_).mono ?_); (focus ((repeat (first | exact Ext.refl _ | (with_reducible refine Ext.trans ?_ he3) | apply Ext.drew | apply Ext.alloc | fail)); done)); rintro e w3 ⟨rfl, he3⟩)
                  | fail)
              have hE3 : Ext wr w3 := by (repeat (first | exact Ext.refl _ | (with_reducible refine Ext.trans ?_ he3) | apply Ext.drew | apply Ext.alloc | fail))
              go_wp2
              go_roundw
              case rel => exact ⟨j + 1, k, by omega, by omega, by go_num, rfl, hb.trans hE3, HN.out⟩
              case measure => simp [intOf]; omega
        · obtain rfl : j = n2 := by omega
          have hkn : k = n3 := by
            rcases Nat.lt_or_ge k n3 with h | h
            · exfalso
              have hkl : k < ts.length := by have := ht.1; omega
              have htk : ts[k]? = some ts[k] := List.getElem?_eq_getElem hkl
              obtain ⟨_, a2, _⟩ := Hall.out ts[k].val (List.mem_map.2 ⟨_, List.getElem_mem hkl, rfl⟩)
              simp only [Si.val] at a2
              have := (HI.out k _ htk).2 (by have := Hcl.out; omega)
              omega
            · omega
          subst hkn
          go_wp2
          go_ret
          exact ⟨by simp, HEz.out.trans hb⟩
    · have b1 : (D != 0) = true := by simp [d0]
      have b2 : (D == 0) = false := by simp [d0]
      subst e0
      clear hb1 hb2 hr0 hs0 hap hE0 hD hL hM d0 hl hm
      go_enter Try.func7, Try.ntmps7
      go_wp2_with fail
      refine (alive6 _).mono ?_
      rintro e w1 ⟨rfl, he1⟩
      have hE1 := hE.trans he1
      have s1 := sb.ext he1
      have K : Hid (∀ W, Ext w1 W → W.cell? ⟨w.heap.size, 0, none⟩ = some (.slice A n c) ∧ W.cell? ⟨w.heap.size, 1, none⟩ = some (.int .i64 keys)) := Lib.hid (fun W hW => ⟨(s1.ext hW).c0, (s1.ext hW).c1⟩)
      have HS := Lib.hid (hs.ext hE1)
      have HX := Lib.hid (hx.ext hE1)
      have HT := Lib.hid (ht.ext hE1)
      obtain ⟨k0, k1⟩ := K.out _ (Ext.refl w1)
      clear he1 s1 sb
      go_wp2_with fail
      refine (HP1.out _ HS.out HX.out).mono ?_
      rintro e w2 ⟨A4, c4, rfl, _, he2⟩
      obtain ⟨k0, k1⟩ := K.out _ he2
      go_wp2_with fail
      refine (HQ1.out _ (HS.out.ext he2) (HT.out.ext he2)).mono ?_
      rintro e w3 ⟨A5, c5, rfl, _, he3⟩
      have hE13 := he2.trans he3
      obtain ⟨k0, k1⟩ := K.out _ hE13
      go_wp2_with fail
      refine (HR1.out _ (HS.out.ext hE13) (HX.out.ext hE13)).mono ?_
      rintro e w4 ⟨rfl, he4⟩
      have hE14 := hE13.trans he4
      obtain ⟨k0, k1⟩ := K.out _ hE14
      go_wp2_with fail
      refine (HS1.out _ (HS.out.ext hE14) (HT.out.ext hE14)).mono ?_
      rintro e w5 ⟨rfl, he5⟩
      have hE15 := hE14.trans he5
      obtain ⟨k0, k1⟩ := K.out _ hE15
      go_wp2_with fail
      refine (HR1.out _ (HS.out.ext hE15) (HX.out.ext hE15)).mono ?_
      rintro e w6 ⟨rfl, he6⟩
      have hE16 := hE15.trans he6
      obtain ⟨k0, k1⟩ := K.out _ hE16
      go_wp2_with fail
      refine (HS1.out _ (HS.out.ext hE16) (HT.out.ext hE16)).mono ?_
      rintro e w7 ⟨rfl, he7⟩
      go_wp2
      go_ret
      exact ⟨rfl, hE1.trans (hE16.trans he7)⟩
  · have b1 : (E != 0) = true := by simp [e0]
    have b2 : (E == 0) = false := by simp [e0]
    have key : (D == 0) = true ∨ (D == 0) = false := by cases (D == 0) <;> simp
    clear hb1 hb2 hr0 hs0 hap hE0 hD hL hM e0 hl hm
    rcases key with b3 | b3
    all_goals
      go_enter Try.func7, Try.ntmps7
      go_wp2_with fail
      refine (alive6 _).mono ?_
      rintro e w1 ⟨rfl, he1⟩
      have hE1 := hE.trans he1
      have s1 := sb.ext he1
      have K : Hid (∀ W, Ext w1 W → W.cell? ⟨w.heap.size, 0, none⟩ = some (.slice A n c) ∧ W.cell? ⟨w.heap.size, 1, none⟩ = some (.int .i64 keys)) := Lib.hid (fun W hW => ⟨(s1.ext hW).c0, (s1.ext hW).c1⟩)
      have HS := Lib.hid (hs.ext hE1)
      have HX := Lib.hid (hx.ext hE1)
      have HT := Lib.hid (ht.ext hE1)
      obtain ⟨k0, k1⟩ := K.out _ (Ext.refl w1)
      clear he1 s1 sb
      go_wp2_with fail
      refine (HP1.out _ HS.out HX.out).mono ?_
      rintro e w2 ⟨A4, c4, rfl, _, he2⟩
      obtain ⟨k0, k1⟩ := K.out _ he2
      go_wp2_with fail
      refine (HQ1.out _ (HS.out.ext he2) (HT.out.ext he2)).mono ?_
      rintro e w3 ⟨A5, c5, rfl, _, he3⟩
      have hE13 := he2.trans he3
      obtain ⟨k0, k1⟩ := K.out _ hE13
      go_wp2_with fail
      refine (HR1.out _ (HS.out.ext hE13) (HX.out.ext hE13)).mono ?_
      rintro e w4 ⟨rfl, he4⟩
      have hE14 := hE13.trans he4
      obtain ⟨k0, k1⟩ := K.out _ hE14
      go_wp2_with fail
      refine (HR1.out _ (HS.out.ext hE14) (HX.out.ext hE14)).mono ?_
      rintro e w6 ⟨rfl, he6⟩
      have hE16 := hE14.trans he6
      obtain ⟨k0, k1⟩ := K.out _ hE16
      go_wp2_with fail
      refine (HS1.out _ (HS.out.ext hE16) (HT.out.ext hE16)).mono ?_
      rintro e w7 ⟨rfl, he7⟩
      go_wp2
      go_ret
      exact ⟨rfl, hE1.trans (hE16.trans he7)⟩

end Go.Proofs.Ytlagbgcolgbbhaa
