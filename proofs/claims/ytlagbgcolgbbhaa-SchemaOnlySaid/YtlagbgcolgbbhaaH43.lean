/-
  Layer 6: rows got twice, told apart; the statement SchemaGets, walked.
-/
import Derived.Test.YtlagbgcolgbbhaaZ12
namespace Go.Proofs.Ytlagbgcolgbbhaa
open Go.RowKit

theorem val_bodies : ∀ {fs gs : List Ci}, fs.map Ci.val = gs.map Ci.val → (fs.map Ci.sl).map Sl.body = (gs.map Ci.sl).map Sl.body := by
  intro fs gs h
  have := congrArg (List.map fun v : CV => v.2.2) h
  simpa [Function.comp_def, Ci.val, Ci.sl] using this
theorem tval_vals {fs gs : List Si} (h : fs.map Si.val = gs.map Si.val) : (fs.map Si.cell).map Ci.val = (gs.map Si.cell).map Ci.val := by
  have := congrArg (List.map Prod.snd) h
  simpa [Function.comp_def, Si.val] using this

theorem apartRows (A1 A2 : Option Addr) (r c1 c2 lo hi b1 b2 base1 base2 : Nat) (fs gs : List Ci) (w : World) (h1 : OwnS w b1 A1 c1 (fs.map Ci.sl)) (h2 : OwnS w b2 A2 c2 (gs.map Ci.sl)) (hr : fs.length = r) (hr2 : r ≤ 1048576)
    (hv : fs.map Ci.val = gs.map Ci.val) (hok : ∀ v ∈ fs.map Ci.val, CVok v ∧ v.2.2.length ≤ 1048576) (ht1 : TxtU w base1 fs) (ht2 : ∀ g ∈ gs, Own .u8 5 w base2 g.A g.c g.txt)
    (hin : Within (fs.map Ci.sl) lo hi) (hb1 : hi ≤ b1) (hb2 : hi ≤ b2) (hbase2 : hi ≤ base2) :
    Calls Try.prog 29 #[.slice A1 r c1, .slice A2 r c2] w fun e w' => e = .returned (.bool true) ∧ Kept w w' (fs.map Ci.sl) := by
  have hgl : gs.length = r := by have := congrArg List.length hv; simp at this; omega
  have hl1 : (fs.map Ci.sl).length = r := by rw [List.length_map, hr]
  have hl2 : (gs.map Ci.sl).length = r := by rw [List.length_map, hgl]
  have hd : ∀ s ∈ fs.map Ci.sl, U8 s.body ∧ s.body.length ≤ 1048576 := fun s hs => by
    obtain ⟨f, hf, rfl⟩ := List.mem_map.1 hs
    obtain ⟨⟨a, _, _⟩, b⟩ := hok f.val (List.mem_map.2 ⟨f, hf, rfl⟩)
    exact ⟨a, b⟩
  refine apartAll_any A1 A2 r c1 c2 _ _ w (hl1 ▸ h1.rdL) (hl2 ▸ h2.rdL) (val_bodies hv) hr2 (fun s hs => ?_) (fun s hs => (hd s hs).1) (fun s hs => (hd s hs).2) (fun t ht => ?_) ht1.2
    (fun _ => hin.far_hi fun a ha => Nat.le_trans hb1 (h1.block a ha).1) (fun _ => hin.far_hi fun a ha => Nat.le_trans hb2 (h2.block a ha).1) (fun t ht _ => hin.far_hi fun a ha => ?_)
  · obtain ⟨f, hf, rfl⟩ := List.mem_map.1 hs
    exact (ht1.1 f hf).zero
  · obtain ⟨g, hg, rfl⟩ := List.mem_map.1 ht
    exact (ht2 g hg).rd
  · obtain ⟨g, hg, rfl⟩ := List.mem_map.1 ht
    exact Nat.le_trans hbase2 ((ht2 g hg).block a ha).1

theorem growS_facts {keys : Int} {cs : List Col} {bs : List Nat} {at_ : Int} (hu : U8 bs) : (growS keys cs bs at_).1.length ≤ 12 ∧ ∀ v ∈ (growS keys cs bs at_).1, CVok v ∧ v.2.2.length ≤ 200 := by
  unfold growS
  by_cases h : schE keys cs = 0
  · rw [if_neg (fun q => q h)]
    have h1 := growA_len (bs := bs) (cs := cs) (at_ := at_) (acc := [])
    have := (schE_inv h).2.1
    exact ⟨by simp at h1; omega, growA_all hu (fun v hv => by cases hv)⟩
  · rw [if_pos h]
    exact ⟨by simp, fun v hv => (by cases hv)⟩
theorem gsetsS_facts {keys : Int} {cs : List Col} {bs : List Nat} {at_ : Int} (hu : U8 bs) : (gsetsS keys cs bs at_).1.length ≤ 12 ∧ ∀ v ∈ (gsetsS keys cs bs at_).1, 0 ≤ v.1 ∧ v.1 ≤ 12 ∧ CVok v.2 ∧ v.2.2.2.length ≤ 200 := by
  unfold gsetsS
  by_cases h : schE keys cs = 0
  · rw [if_neg (fun q => q h)]
    split
    · exact ⟨by simp, fun v hv => (by cases hv)⟩
    · split
      · exact ⟨by simp, fun v hv => (by cases hv)⟩
      · rename_i h1 h2
        have h3 := gsetsA_len (cs := cs) (bs := bs) (k := (vget bs at_).1) (L := keys - 1) (at_ := (vget bs at_).2.1) (acc := [])
        exact ⟨by simp at h3; omega, gsetsA_all hu (schE_inv h).2.1 (fun v hv => by cases hv)⟩
  · rw [if_pos h]
    exact ⟨by simp, fun v hv => (by cases hv)⟩

set_option maxHeartbeats 12800000 in
set_option maxRecDepth 100000 in
theorem walk_SchemaGets (A : Option Addr) (n c : Nat) (keys : Int) (cs : List Col) (B : Option Addr) (m d : Nat) (bs : List Nat) (at_ : Int) (w : World) (hs : SchIn w A n c cs) (hx : Rd .u8 w B m bs) (hu : U8 bs) (hm : m * 1 ≤ 140737488351232) :
    Calls Try.prog 6 #[.agg #[.slice A n c, .int .i64 keys], .slice B m d, .int .i64 at_] w fun e w' => e = .returned (.bool true) ∧ Ext w w' := by
  have hE : Ext w (w.alloc (.cells #[.slice A n c, .int .i64 keys] 24)) := (Ext.refl w).alloc _
  have sb := AtS.box w A n c keys
  obtain ⟨hRl, hRa⟩ := growS_facts (keys := keys) (cs := cs) (at_ := at_) hu
  obtain ⟨hTl, hTa⟩ := gsetsS_facts (keys := keys) (cs := cs) (at_ := at_) hu
  obtain ⟨R, hR⟩ : ∃ R, R = growS keys cs bs at_ := ⟨_, rfl⟩
  obtain ⟨T, hT⟩ : ∃ T, T = gsetsS keys cs bs at_ := ⟨_, rfl⟩
  rw [← hR] at hRl hRa
  rw [← hT] at hTl hTa
  have G1 : ∀ W (C : Option Addr) (cc : Nat), SchIn W A n c cs → Rd .u8 W C m bs → m ≤ cc → cc ≤ 9223372036854775807 → Calls Try.prog 40 #[.agg #[.slice A n c, .int .i64 keys], .slice C m cc, .int .i64 at_] W (GRowPost R W) := fun W C cc h1 h2 h3 h4 => by
    rw [hR]; exact sgetRow_any A n c keys cs C m cc at_ bs W h1 h2 hu (by omega) h3 h4
  have G2 : ∀ W, SchIn W A n c cs → Rd .u8 W B m bs → Calls Try.prog 41 #[.agg #[.slice A n c, .int .i64 keys], .slice B m d, .int .i64 at_] W (GRowPost R W) := fun W h1 h2 => by
    rw [hR]; exact refGetRow_any A n c keys cs B m d at_ bs W h1 h2 hu (by omega)
  have G3 : ∀ W (C : Option Addr) (cc : Nat), SchIn W A n c cs → Rd .u8 W C m bs → m ≤ cc → cc ≤ 9223372036854775807 → Calls Try.prog 42 #[.agg #[.slice A n c, .int .i64 keys], .slice C m cc, .int .i64 at_] W (GSetsPost T W) := fun W C cc h1 h2 h3 h4 => by
    rw [hT]; exact sgetSets_any A n c keys cs C m cc at_ bs W h1 h2 hu (by omega) h3 h4
  have G4 : ∀ W, SchIn W A n c cs → Rd .u8 W B m bs → Calls Try.prog 43 #[.agg #[.slice A n c, .int .i64 keys], .slice B m d, .int .i64 at_] W (GSetsPost T W) := fun W h1 h2 => by
    rw [hT]; exact refGetSets_any A n c keys cs B m d at_ bs W h1 h2 hu (by omega)
  clear hR hT
  obtain ⟨V, nx, er⟩ := R
  obtain ⟨V2, nx2, er2⟩ := T
  simp only at hRl hRa hTl hTa
  obtain ⟨r, hr⟩ : ∃ r, V.length = r := ⟨_, rfl⟩
  obtain ⟨t, ht⟩ : ∃ t, V2.length = t := ⟨_, rfl⟩
  unfold GRowPost at G1 G2
  unfold GSetsPost at G3 G4
  simp only [hr] at G1 G2
  simp only [ht] at G3 G4
  rw [hr] at hRl
  rw [ht] at hTl
  have Hr := Lib.hid hr
  have Ht := Lib.hid ht
  have HG1 := Lib.hid G1
  have HG2 := Lib.hid G2
  have HG3 := Lib.hid G3
  have HG4 := Lib.hid G4
  have HRa := Lib.hid hRa
  have HTa := Lib.hid hTa
  have e1 : (nx != nx) = false := by simp
  have e2 : (er != er) = false := by simp
  have e3 : (nx2 != nx2) = false := by simp
  have e4 : (er2 != er2) = false := by simp
  have Hxl := Lib.hid hx.len
  clear hr ht G1 G2 G3 G4 hRa hTa
  go_enter Try.func6, Try.ntmps6
  go_wp2_with fail
  refine (alive6 _).mono ?_
  rintro e w1 ⟨rfl, he1⟩
  have hE1 := hE.trans he1
  go_wp2_with fail
  refine (wide_any _ _ _ _ _ (hx.ext hE1) (by omega)).mono ?_
  rintro e w2 ⟨A2, c2, rfl, hown2, he2⟩
  have hr2 := hown2.rd_take (n := m) (by rw [List.length_append, Hxl.out]; omega)
  rw [List.take_left' Hxl.out] at hr2
  have hri := hown2.rd' (n := m + 64) (by rw [List.length_append, Hxl.out]; rfl)
  obtain ⟨b, rfl, _, hb, hcap, hcm⟩ := hown2.form (by rw [List.length_append, marks_len]; omega)
  rw [List.length_append, Hxl.out, marks_len] at hcap
  have hE2 := hE1.trans he2
  have s2 := (sb.ext he1).ext he2
  have hcn : m ≤ c2 := by omega
  have hi1 : (m : Int) ≤ (c2 : Int) := by omega
  have hi0 : (0 : Int) ≤ (m : Int) := by omega
  have HS2 := Lib.hid (hs.ext hE2)
  have HX2 := Lib.hid (hx.ext hE2)
  have HR2 := Lib.hid hr2
  have K : Hid (∀ W, Ext w2 W → W.cell? ⟨w.heap.size, 0, none⟩ = some (.slice A n c) ∧ W.cell? ⟨w.heap.size, 1, none⟩ = some (.int .i64 keys)) := Lib.hid (fun W hW => ⟨(s2.ext hW).c0, (s2.ext hW).c1⟩)
  obtain ⟨k0, k1⟩ := K.out _ (Ext.refl w2)
  have g8 := K.out _ (Ext.refl w2)
  clear hown2 he1 he2 hr2 s2 sb
  go_wp2_with fail
  go_region_held3 (fun w' => w'.cell? ⟨w.heap.size, 0, none⟩ = some (.slice A n c) ∧ w'.cell? ⟨w.heap.size, 1, none⟩ = some (.int .i64 keys))
    (first | exact g8 | (refine K.out _ ?_; (repeat (first | exact Ext.refl _ | (with_reducible refine Ext.trans ?_ he3) | apply Ext.drew | apply Ext.alloc | fail))) | fail)
    (first
      | (go_at_call 40; (with_reducible refine (HG1.out _ _ _ (HS2.out.ext ?_) (HR2.out.ext ?_) hcn hcm).mono ?_); (focus ((repeat (first | exact Ext.refl _ | (with_reducible refine Ext.trans ?_ he3) | apply Ext.drew | apply Ext.alloc | fail)); done)); (focus ((repeat (first | exact Ext.refl _ | (with_reducible refine Ext.trans ?_ he3) | apply Ext.drew | apply Ext.alloc | fail)); done)); rintro e w3 ⟨fs, A3, c3, rfl, hv3, ho3, ht3, he3⟩)
      | fail)
  have hE23 : Ext w2 w3 := by (repeat (first | exact Ext.refl _ | (with_reducible refine Ext.trans ?_ he3) | apply Ext.drew | apply Ext.alloc | fail))
  have ho3' : OwnX w3 w2.heap.size A3 c3 fs := ho3
  have ht3' : TxtU w3 w2.heap.size fs := ht3
  obtain ⟨k0, k1⟩ := K.out _ hE23
  clear ho3 ht3 he3 g8
  go_wp2_with fail
  refine (HG2.out _ (HS2.out.ext hE23) (HX2.out.ext hE23)).mono ?_
  rintro e w4 ⟨gs, A4, c4, rfl, hv4, ho4, ht4, he4⟩
  have hfl : fs.length = r := by rw [← Hr.out, ← hv3, List.length_map]
  have hx3 := (res_rd hv3 Hr.out (fun v hv => ⟨(HRa.out v hv).1, by have := (HRa.out v hv).2; omega⟩) ho3' ht3'.1).ext he4
  have hx4 := res_rd hv4 Hr.out (fun v hv => ⟨(HRa.out v hv).1, by have := (HRa.out v hv).2; omega⟩) ho4 ht4.1
  have hin := ht3'.within
  have hv34 : fs.map Ci.val = gs.map Ci.val := hv3.trans hv4.symm
  have Hv34 := Lib.hid hv34
  have Hfl := Lib.hid hfl
  have Hv3 := Lib.hid hv3
  have htu3 := ht3'.ext he4
  have hE24 := hE23.trans he4
  have z4 := he4.size
  clear ho3' ho4 ht3' hv34 hfl hv3 hv4
  go_wp2_with fail
  refine (alikeRow_any A3 r c3 fs A4 r c4 gs _ hx3 hx4 (by omega) (by omega)).mono ?_
  rintro e w5 ⟨rfl, he5⟩
  rw [alkR_iff.2 Hv34.out]
  go_wp2_with fail
  refine (texts_any A3 r c3 fs _ (hx3.ext he5) (by omega)).mono ?_
  rintro e w6 ⟨A6, c6, rfl, hs6, he6⟩
  go_wp2_with fail
  refine (texts_any A4 r c4 gs _ ((hx4.ext he5).ext he6) (by omega)).mono ?_
  rintro e w7 ⟨A7, c7, rfl, hs7, he7⟩
  have e47 := (he5.trans he6).trans he7
  have z5 := he5.size
  have z6 := he6.size
  go_wp2_with fail
  refine (apartRows A6 A7 r c6 c7 w2.heap.size w3.heap.size w5.heap.size w6.heap.size w2.heap.size w3.heap.size fs gs w7 (hs6.ext he7) hs7 Hfl.out (by omega) Hv34.out (fun v hv => by rw [Hv3.out] at hv; have := HRa.out v hv; exact ⟨this.1, by omega⟩) (htu3.ext e47) (fun g hg => (ht4.1 g hg).ext e47) hin (by omega) (by omega) (Nat.le_refl _)).mono ?_
  rintro e w8 ⟨rfl, hK8⟩
  have hE28 : Ext w2 w8 := hK8.toExt (hE24.trans e47) (fun s hs p hp => (hin s hs p hp).1)
  obtain ⟨k0, k1⟩ := K.out _ hE28
  have g8 := K.out _ hE28
  have K8 : Hid (∀ W, Ext w8 W → W.cell? ⟨w.heap.size, 0, none⟩ = some (.slice A n c) ∧ W.cell? ⟨w.heap.size, 1, none⟩ = some (.int .i64 keys)) := Lib.hid (fun W hW => K.out W (hE28.trans hW))
  have HS8 := Lib.hid (HS2.out.ext hE28)
  have HX8 := Lib.hid (HX2.out.ext hE28)
  have HR8 := Lib.hid (HR2.out.ext hE28)
  clear hK8 hs6 hs7 he4 he5 he6 he7 e47 hx3 hx4 htu3 ht4 hin z4 z5 z6 hE23 hE24
  go_wp2_with fail
  go_region_held3 (fun w' => w'.cell? ⟨w.heap.size, 0, none⟩ = some (.slice A n c) ∧ w'.cell? ⟨w.heap.size, 1, none⟩ = some (.int .i64 keys))
    (first | exact g8 | (refine K8.out _ ?_; (repeat (first | exact Ext.refl _ | (with_reducible refine Ext.trans ?_ he9) | apply Ext.drew | apply Ext.alloc | fail))) | fail)
    (first
      | (go_at_call 42; (with_reducible refine (HG3.out _ _ _ (HS8.out.ext ?_) (HR8.out.ext ?_) hcn hcm).mono ?_); (focus ((repeat (first | exact Ext.refl _ | (with_reducible refine Ext.trans ?_ he9) | apply Ext.drew | apply Ext.alloc | fail)); done)); (focus ((repeat (first | exact Ext.refl _ | (with_reducible refine Ext.trans ?_ he9) | apply Ext.drew | apply Ext.alloc | fail)); done)); rintro e w9 ⟨hs9, A9, c9, rfl, hv9, ho9, ht9, he9⟩)
      | fail)
  have hE89 : Ext w8 w9 := by (repeat (first | exact Ext.refl _ | (with_reducible refine Ext.trans ?_ he9) | apply Ext.drew | apply Ext.alloc | fail))
  have ho9' : OwnT w9 w8.heap.size A9 c9 hs9 := ho9
  have ht9' : TxtT w9 w8.heap.size hs9 := ht9
  obtain ⟨k0, k1⟩ := K8.out _ hE89
  clear ho9 ht9 he9 g8
  go_wp2_with fail
  refine (HG4.out _ (HS8.out.ext hE89) (HX8.out.ext hE89)).mono ?_
  rintro e wa ⟨is, Aa, ca, rfl, hva, hoa, hta, hea⟩
  have hfl2 : hs9.length = t := by rw [← Ht.out, ← hv9, List.length_map]
  have hx9 := (res_rdT hv9 Ht.out (fun v hv => ⟨(HTa.out v hv).2.2.1, by have := (HTa.out v hv).2.2.2; omega⟩) ho9' ht9'.1).ext hea
  have hxa := res_rdT hva Ht.out (fun v hv => ⟨(HTa.out v hv).2.2.1, by have := (HTa.out v hv).2.2.2; omega⟩) hoa hta.1
  have hU9 := ht9'.toX.toU
  have hin2 := hU9.within
  have hv9a : hs9.map Si.val = is.map Si.val := hv9.trans hva.symm
  have Hv9a := Lib.hid hv9a
  have Hfl2 := Lib.hid (show (hs9.map Si.cell).length = t by rw [List.length_map]; exact hfl2)
  have Hv9 := Lib.hid hv9
  have htu9 := hU9.ext hea
  have hUa := hta.toX.toU
  have hE8a := hE89.trans hea
  have za := hea.size
  clear ho9' hoa ht9' hv9a hfl2 hv9 hva hU9 hta
  go_wp2_with fail
  refine (alikeSets_any A9 t c9 hs9 Aa t ca is _ hx9 hxa (by omega) (by omega)).mono ?_
  rintro e wb ⟨rfl, heb⟩
  rw [alkTs_iff.2 Hv9a.out]
  go_wp2_with fail
  refine (setTexts_any A9 t c9 hs9 _ (hx9.ext heb) (by omega)).mono ?_
  rintro e wc ⟨Ac, cc, rfl, hsc, hec⟩
  go_wp2_with fail
  refine (setTexts_any Aa t ca is _ ((hxa.ext heb).ext hec) (by omega)).mono ?_
  rintro e wd ⟨Ad, cd, rfl, hsd, hed⟩
  have ead := (heb.trans hec).trans hed
  have zb := heb.size
  have zc := hec.size
  go_wp2_with fail
  refine (apartRows Ac Ad t cc cd w8.heap.size w9.heap.size wb.heap.size wc.heap.size w8.heap.size w9.heap.size (hs9.map Si.cell) (is.map Si.cell) wd (hsc.ext hed) hsd Hfl2.out (by omega) (tval_vals Hv9a.out) (fun v hv => by
    rw [List.map_map] at hv
    obtain ⟨x, hx', rfl⟩ := List.mem_map.1 hv
    have := HTa.out x.val (by rw [← Hv9.out]; exact List.mem_map.2 ⟨x, hx', rfl⟩)
    exact ⟨this.2.2.1, Nat.le_trans this.2.2.2 (by omega)⟩) (htu9.ext ead) (fun g hg => (hUa.1 g hg).ext ead) hin2 (by omega) (by omega) (Nat.le_refl _)).mono ?_
  rintro e we ⟨rfl, hKe⟩
  have hE8e : Ext w8 we := hKe.toExt (hE8a.trans ead) (fun s hs p hp => (hin2 s hs p hp).1)
  clear hKe hsc hsd hea heb hec hed ead hx9 hxa htu9 hUa hin2 za zb zc hE89 hE8a
  go_wp2_with fail
  refine (intact_yes (hri.ext (hE28.trans hE8e)) (HX8.out.ext hE8e) (by omega) (by omega)).mono ?_
  rintro e wf ⟨rfl, q, rfl⟩
  go_wp2
  go_ret
  exact ⟨rfl, ((hE2.trans hE28).trans hE8e).drewN q⟩

end Go.Proofs.Ytlagbgcolgbbhaa
