import Derived.Test.YtnkggopkcjffoaaDoorG8
import Derived.Test.YtnkggopkcjffoaaDoorYK8g
import Derived.Test.YtnkggopkcjffoaaDoorG7
import Derived.Deep.RegionHeld3

/-
  Layer 7: the statement KeysDecodes, walked.
-/
namespace Go.Proofs.YtnkggopkcjffoaaDoor
open Go.RowKit

theorem val_bodiesK : ∀ {fs gs : List Ci}, fs.map Ci.val = gs.map Ci.val → (fs.map Ci.sl).map Sl.body = (gs.map Ci.sl).map Sl.body := by
  intro fs gs h
  have := congrArg (List.map fun v : CV => v.2.2) h
  simpa [Function.comp_def, Ci.val, Ci.sl] using this

theorem apartRowsK (A1 A2 : Option Addr) (r c1 c2 lo hi b1 b2 base1 base2 : Nat) (fs gs : List Ci) (w : World) (h1 : OwnS w b1 A1 c1 (fs.map Ci.sl)) (h2 : OwnS w b2 A2 c2 (gs.map Ci.sl)) (hr : fs.length = r) (hr2 : r ≤ 1048576)
    (hv : fs.map Ci.val = gs.map Ci.val) (hok : ∀ v ∈ fs.map Ci.val, U8 v.2.2 ∧ v.2.2.length ≤ 1048576) (ht1 : TxtU w base1 fs) (ht2 : ∀ g ∈ gs, Own .u8 5 w base2 g.A g.c g.txt)
    (hin : Within (fs.map Ci.sl) lo hi) (hb1 : hi ≤ b1) (hb2 : hi ≤ b2) (hbase2 : hi ≤ base2) :
    Calls Tryd.prog 19 #[.slice A1 r c1, .slice A2 r c2] w fun e w' => e = .returned (.bool true) ∧ Kept w w' (fs.map Ci.sl) := by
  have hgl : gs.length = r := by have := congrArg List.length hv; simp at this; omega
  have hl1 : (fs.map Ci.sl).length = r := by rw [List.length_map, hr]
  have hl2 : (gs.map Ci.sl).length = r := by rw [List.length_map, hgl]
  have hd : ∀ s ∈ fs.map Ci.sl, U8 s.body ∧ s.body.length ≤ 1048576 := fun s hs => by
    obtain ⟨f, hf, rfl⟩ := List.mem_map.1 hs
    exact hok f.val (List.mem_map.2 ⟨f, hf, rfl⟩)
  refine apartAll_any A1 A2 r c1 c2 _ _ w (hl1 ▸ h1.rdL) (hl2 ▸ h2.rdL) (val_bodiesK hv) hr2 (fun s hs => ?_) (fun s hs => (hd s hs).1) (fun s hs => (hd s hs).2) (fun t ht => ?_) ht1.2
    (fun _ => hin.far_hi fun a ha => Nat.le_trans hb1 (h1.block a ha).1) (fun _ => hin.far_hi fun a ha => Nat.le_trans hb2 (h2.block a ha).1) (fun t ht _ => hin.far_hi fun a ha => ?_)
  · obtain ⟨f, hf, rfl⟩ := List.mem_map.1 hs
    exact (ht1.1 f hf).zero
  · obtain ⟨g, hg, rfl⟩ := List.mem_map.1 ht
    exact (ht2 g hg).rd
  · obtain ⟨g, hg, rfl⟩ := List.mem_map.1 ht
    exact Nat.le_trans hbase2 ((ht2 g hg).block a ha).1

theorem kdecE_facts {keys : Int} {cs : List Col} {bs : List Nat} (hu : U8 bs) : (kdecE keys cs bs).1.length ≤ 3 ∧ ∀ v ∈ (kdecE keys cs bs).1, U8 v.2.2 ∧ -9223372036854775808 ≤ v.2.1 ∧ v.2.1 ≤ 9223372036854775807 ∧ v.2.2.length ≤ 200 := by
  by_cases h : (kdecE keys cs bs).2 = 0
  · obtain ⟨h1, h2, h3, h4, h5⟩ := kdecE_ok hu h
    obtain ⟨i1, i2, i3, i4, i5⟩ := schE_inv h1
    refine ⟨by omega, fun v hv => ?_⟩
    obtain ⟨j, hj, rfl⟩ := List.mem_iff_getElem.1 hv
    have hc : cs[j]? = some cs[j] := List.getElem?_eq_getElem (by omega)
    obtain ⟨r1, r2, r3⟩ := kok_range (h3 j _ _ hc (List.getElem?_eq_getElem hj))
    exact ⟨h5 _ hv, r1, r2, r3⟩
  · rw [kdecE_bad h]
    exact ⟨by simp, fun v hv => (by cases hv)⟩

theorem dec_rdX {W : World} {base c n : Nat} {A : Option Addr} {fs : List Ci} {R : List CV} (hv : fs.map Ci.val = R) (hn : R.length = n) (hok : ∀ v ∈ R, U8 v.2.2 ∧ -9223372036854775808 ≤ v.2.1 ∧ v.2.1 ≤ 9223372036854775807 ∧ v.2.2.length ≤ 200) (ho : OwnX W base A c fs) (ht : TxtU W base fs) : RdX W A n fs := by
  have hl : fs.length = n := by rw [← hn, ← hv, List.length_map]
  rw [← hl]
  refine ho.rdX (fun f hf => ?_)
  obtain ⟨h1, h2, h3, h4⟩ := hok f.val (by rw [← hv]; exact List.mem_map.2 ⟨f, hf, rfl⟩)
  have h4' : f.txt.length ≤ 200 := h4
  exact ⟨(ht.1 f hf).rd, h1, h2, h3, by omega⟩

set_option maxHeartbeats 6400000 in
set_option maxRecDepth 100000 in
theorem walk_KeysDecodes (A : Option Addr) (n c : Nat) (keys : Int) (cs : List Col) (A2 : Option Addr) (n2 c2 : Nat) (bs : List Nat) (w : World) (hs : SchIn w A n c cs) (hb2 : Rd .u8 w A2 n2 bs) (hu2 : U8 bs) (hz2 : n2 ≤ 140737488351232) :
    Calls Tryd.prog 4 #[.agg #[.slice A n c, .int .i64 keys], .slice A2 n2 c2] w fun e w' => e = .returned (.bool true) ∧ Ext w w' := by
  go_enter Tryd.func4, Tryd.ntmps4
  go_wp2_with fail
  refine (alive7 _).mono ?_
  rintro e w1 ⟨rfl, he1⟩
  have ha := (AtS.box w A n c keys).ext he1
  have HW1 : Hid (Ext w w1) := Lib.hid (((Ext.refl w).alloc _).trans he1)
  have KS := Lib.hid (fun W (hW : Ext w1 W) => (show W.cell? ⟨w.heap.size, 0, none⟩ = some (.slice A n c) ∧ W.cell? ⟨w.heap.size, 1, none⟩ = some (.int .i64 keys) from ⟨(ha.ext hW).c0, (ha.ext hW).c1⟩))
  replace hs := hs.ext HW1.out
  replace hb2 := hb2.ext HW1.out
  have Hbl := Lib.hid hb2.len
  obtain ⟨hRl, hRa⟩ := kdecE_facts (keys := keys) (cs := cs) hu2
  have HD := Lib.hid (fun W (hW : Ext w1 W) A' c' (hr : Rd .u8 W A' n2 bs) (hc : n2 ≤ c') => kdecode_any A n c keys cs A' n2 c' bs W (hs.ext hW) hr hu2 hz2 hc)
  have HF := Lib.hid (fun W (hW : Ext w1 W) => refKDecode_any A n c keys cs A2 n2 c2 bs W (hs.ext hW) (hb2.ext hW) hu2 hz2)
  unfold KDecPost at HD HF
  obtain ⟨R, hR⟩ : ∃ R, R = kdecE keys cs bs := ⟨_, rfl⟩
  rw [← hR] at HD HF hRl hRa
  clear hR hs
  obtain ⟨V, E⟩ := R
  simp only at HD HF hRl hRa
  obtain ⟨r, hr⟩ : ∃ r, V.length = r := ⟨_, rfl⟩
  rw [hr] at hRl
  have Hr := Lib.hid hr
  have HRa := Lib.hid hRa
  have b1 : (E != E) = false := by simp
  have Hb2 := Lib.hid hb2
  have Hu2 := Lib.hid hu2
  have HWd := Lib.hid (fun W (hW : Ext w1 W) => wide_any A2 n2 c2 bs W (hb2.ext hW) (by omega))
  have HCt := Lib.hid (fun W (hW : Ext w1 W) g (h0 : Rd .u8 W (some ⟨g, 0, none⟩) 1 [0]) => cat_any A2 (some ⟨g, 0, none⟩) n2 c2 1 1 bs [0] W (hb2.ext hW) h0 (by omega))
  clear hr hRa hb2 hu2 ha he1
  have hk1 := KS.out _ (Ext.refl w1)
  obtain ⟨k10, k11⟩ := hk1
  go_wp2_with fail
  refine (HWd.out _ (Ext.refl w1)).mono ?_
  rintro e w2 ⟨A3, c3, rfl, hown2, he2⟩
  have hr2 := hown2.rd_take (n := n2) (by rw [List.length_append, Hbl.out]; omega)
  rw [List.take_left' Hbl.out] at hr2
  have hri := hown2.rd' (n := n2 + 64) (by rw [List.length_append, Hbl.out]; rfl)
  obtain ⟨b, rfl, _, hb, hcap, hcm⟩ := hown2.form (by rw [List.length_append, marks_len]; omega)
  rw [List.length_append, Hbl.out, marks_len] at hcap
  have hcn : n2 ≤ c3 := by omega
  have hi1 : (n2 : Int) ≤ (c3 : Int) := by omega
  have hi0 : (0 : Int) ≤ (n2 : Int) := by omega
  have HT2 := Lib.hid he2
  have HR2 := Lib.hid hr2
  have HRi := Lib.hid hri
  have K2 := Lib.hid (fun W (hW : Ext w2 W) => KS.out W (HT2.out.trans hW))
  have g9 := K2.out _ (Ext.refl w2)
  obtain ⟨k20, k21⟩ := K2.out _ (Ext.refl w2)
  clear hown2 he2 hr2 hri k10 k11
  go_wp2_with fail
  go_region_held3 (fun w' => w'.cell? ⟨w.heap.size, 0, none⟩ = some (.slice A n c) ∧ w'.cell? ⟨w.heap.size, 1, none⟩ = some (.int .i64 keys))
    (first | exact g9 | (refine K2.out _ ?_; (repeat (first | exact Ext.refl _ | (with_reducible refine Ext.trans ?_ he3) |  apply Ext.drew | apply Ext.alloc | fail))) | fail)
    (first
      | (go_at_call 17; (with_reducible refine (HD.out _ ?_ _ _ ?_ hcn).mono ?_); (focus ((refine HT2.out.trans ?_); (repeat (first | exact Ext.refl _ |  apply Ext.drew | apply Ext.alloc | fail)); done)); (focus ((refine Rd.ext HR2.out ?_); (repeat (first | exact Ext.refl _ |  apply Ext.drew | apply Ext.alloc | fail)); done)); rintro e w3 ⟨A4, c4, fs, rfl, hv3, ho3, ht3, he3⟩)
      | fail)
  have hT23 : Ext w2 w3 := by (repeat (first | exact Ext.refl _ | (with_reducible refine Ext.trans ?_ he3) |  apply Ext.drew | apply Ext.alloc | fail))
  have ho3' : OwnX w3 w2.heap.size A4 c4 fs := ho3
  have ht3' : TxtU w3 w2.heap.size fs := ht3
  have hfl : fs.length = r := by rw [← Hr.out, ← hv3, List.length_map]
  rw [hfl]
  have HT23 := Lib.hid hT23
  obtain ⟨k30, k31⟩ := K2.out _ hT23
  clear ho3 ht3 he3 g9 k20 k21 hT23
  go_wp2_with fail
  refine (HF.out _ (HT2.out.trans HT23.out)).mono ?_
  rintro e w4 ⟨A5, c5, gs, rfl, hv4, ho4, ht4, he4⟩
  have hgl : gs.length = r := by rw [← Hr.out, ← hv4, List.length_map]
  rw [hgl]
  have hx3 := (dec_rdX hv3 Hr.out HRa.out ho3' ht3').ext he4
  have hx4 := dec_rdX hv4 Hr.out HRa.out ho4 ht4
  have hin := ht3'.within
  have hv34 : fs.map Ci.val = gs.map Ci.val := hv3.trans hv4.symm
  have Hv34 := Lib.hid hv34
  have Hfl := Lib.hid hfl
  have Hv3 := Lib.hid hv3
  have htu3 := ht3'.ext he4
  have hE24 := HT23.out.trans he4
  have z4 := he4.size
  clear ho3' ho4 ht3' hv34 hfl hgl hv3 hv4
  go_wp2_with fail
  refine (alikeRow_any A4 r c4 fs A5 r c5 gs _ hx3 hx4 (by omega) (by omega)).mono ?_
  rintro e w5 ⟨rfl, he5⟩
  rw [alkR_iff.2 Hv34.out]
  go_wp2_with fail
  refine (texts_any A4 r c4 fs _ (hx3.ext he5) (by omega)).mono ?_
  rintro e w6 ⟨A6, c6, rfl, hs6, he6⟩
  go_wp2_with fail
  refine (texts_any A5 r c5 gs _ ((hx4.ext he5).ext he6) (by omega)).mono ?_
  rintro e w7 ⟨A7, c7, rfl, hs7, he7⟩
  have e47 := (he5.trans he6).trans he7
  have z5 := he5.size
  have z6 := he6.size
  go_wp2_with fail
  refine (apartRowsK A6 A7 r c6 c7 w2.heap.size w3.heap.size w5.heap.size w6.heap.size w2.heap.size w3.heap.size fs gs w7 (hs6.ext he7) hs7 Hfl.out (by omega) Hv34.out (fun v hv => by rw [Hv3.out] at hv; have := HRa.out v hv; exact ⟨this.1, by omega⟩) (htu3.ext e47) (fun g hg => (ht4.1 g hg).ext e47) hin (by omega) (by omega) (Nat.le_refl _)).mono ?_
  rintro e w8 ⟨rfl, hK8⟩
  have hE28 : Ext w2 w8 := hK8.toExt (hE24.trans e47) (fun s hs p hp => (hin s hs p hp).1)
  have HE28 := Lib.hid hE28
  clear hK8 hs6 hs7 he4 he5 he6 he7 e47 hx3 hx4 htu3 ht4 hin z4 z5 z6 hE24 hE28 k30 k31
  go_wp2_with fail
  refine (HCt.out _ ((HT2.out.trans HE28.out).alloc _) _ (rd_one 0 (heap_alloc_new _ _))).mono ?_
  rintro e w9 ⟨A9, c9, rfl, hown9, he9⟩
  have hE9 : Ext w2 w9 := HE28.out.trans (((Ext.refl w8).alloc _).trans he9)
  have Hxl := Lib.hid (show (bs ++ [0]).length = n2 + 1 by rw [List.length_append, Hbl.out]; rfl)
  have Hu0 : Hid (U8 (bs ++ [0])) := Lib.hid (by
    intro v hv
    rcases List.mem_append.1 hv with h | h
    · exact Hu2.out v h
    · rw [List.mem_singleton.1 h]; decide)
  have HR9 := Lib.hid (hown9.rd' Hxl.out)
  have HR2' := Lib.hid (HR2.out.ext hE9)
  have HRi' := Lib.hid (HRi.out.ext hE9)
  have HB9 := Lib.hid (Hb2.out.ext (HT2.out.trans hE9))
  have HL9 := Lib.hid (show ∀ a, A9 = some a → a.block < w9.heap.size from fun a h => (hown9.block a h).2)
  have HE9 := Lib.hid hE9
  have HNx := Lib.hid (fun W (hW : Ext w9 W) => next_any (some ⟨b, 0, none⟩) n2 c3 bs W (HR2'.out.ext hW) (by omega))
  have HIn := Lib.hid (fun W (hW : Ext w9 W) => intact_yes (c := c3) (c' := c2) (HRi'.out.ext hW) (HB9.out.ext hW) (by omega) (by omega))
  have HAp := Lib.hid (fun W (hW : Ext w9 W) A' A'' d d' base (h1 : Own .u8 5 W base A' d (bs ++ [0])) (h2 : Rd .u8 W A'' (n2 + 1) (bs ++ [0])) (hne : ∀ a a2, A' = some a → A'' = some a2 → a2.block ≠ a.block) (hbs : w9.heap.size ≤ base) (hbw : base ≤ W.heap.size) =>
    apart_any A' A'' A9 (n2 + 1) d d' c9 base (bs ++ [0]) w9 W h1 Hxl.out Hu0.out h2 (HR9.out.ext hW) hne (fun a a3 h3 h4 e => by have q1 := (h1.block a h3).1; have q2 := HL9.out a3 h4; omega) hW hbs hbw (by omega))
  clear hown9 he9 hE9 hcap
  go_wp2_with fail
  go_region_held3 (fun _ => True) (exact trivial)
    (first
      | (go_at_call 14; (with_reducible refine (HAp.out _ ?_ _ _ _ _ _ (hown11.ext ?_) (Rd.ext (hown12.rd' Hxl.out) ?_) ?_ ?_ ?_).mono ?_); (focus ((repeat (first | exact Ext.refl _ | (with_reducible refine Ext.trans ?_ he12) | (with_reducible refine Ext.trans ?_ he11) |  apply Ext.drew | apply Ext.alloc | fail)); done)); (focus ((repeat (first | exact Ext.refl _ | (with_reducible refine Ext.trans ?_ he12) |  apply Ext.drew | apply Ext.alloc | fail)); done)); (focus ((repeat (first | exact Ext.refl _ |  apply Ext.drew | apply Ext.alloc | fail)); done)); (focus (intro a a2 h1 h2 e; have q1 := (hown11.block a h1).2; have q2 := (hown12.block a2 h2).1; have q3 : w11.heap.size ≤ _ := q2; omega)); (focus ((refine Ext.size ?_); (repeat (first | exact Ext.refl _ |  apply Ext.drew | apply Ext.alloc | fail)); done)); (focus ((refine Ext.size ?_); (repeat (first | exact Ext.refl _ | (with_reducible refine Ext.trans ?_ he12) | (with_reducible refine Ext.trans ?_ he11) |  apply Ext.drew | apply Ext.alloc | fail)); done)); rintro e w13 ⟨rfl, he13⟩)
      | (have _ := he11; go_at_call 22; (with_reducible refine (HNx.out _ ?_).mono ?_); (focus ((repeat (first | exact Ext.refl _ | (with_reducible refine Ext.trans ?_ he11) |  apply Ext.drew | apply Ext.alloc | fail)); done)); rintro e w12 ⟨A12, c12, rfl, hown12, he12⟩)
      | (go_at_call 22; (with_reducible refine (HNx.out _ ?_).mono ?_); (focus ((repeat (first | exact Ext.refl _ |  apply Ext.drew | apply Ext.alloc | fail)); done)); rintro e w11 ⟨A11, c11, rfl, hown11, he11⟩)
      | (go_at_call 23; (with_reducible refine (HIn.out _ ?_).mono ?_); (focus ((refine Ext.trans he13 ?_); (repeat (first | exact Ext.refl _ |  apply Ext.drew | apply Ext.alloc | fail)); done)); rintro e w14 ⟨rfl, q14, rfl⟩)
      | fail)
  go_wp2_with fail
  go_ret
  exact ⟨rfl, (HW1.out.trans (HT2.out.trans HE9.out)).trans (he13.drewN _)⟩

end Go.Proofs.YtnkggopkcjffoaaDoor
