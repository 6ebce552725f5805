/-
  Layer 6: the statement SchemaOnly, walked.
-/
import Derived.Test.YtlagbgcolgbbhaaH44
namespace Go.Proofs.Ytlagbgcolgbbhaa
open Go.RowKit

set_option maxHeartbeats 12800000 in
set_option maxRecDepth 100000 in
theorem walk_SchemaOnly (A : Option Addr) (n c : Nat) (keys : Int) (cs : List Col) (B : Option Addr) (m d : Nat) (bs : List Nat) (at_ : Int) (w : World) (hs : SchIn w A n c cs) (hx : Rd .u8 w B m bs) (hu : U8 bs) (hm : m * 1 ≤ 140737488351232) (hat1 : at_ ≤ 9223372036854775807) :
    Calls Try.prog 8 #[.agg #[.slice A n c, .int .i64 keys], .slice B m d, .int .i64 at_] w fun e w' => e = .returned (.bool true) ∧ Ext w w' := by
  have hE : Ext w (w.alloc (.cells #[.slice A n c, .int .i64 keys] 24)) := (Ext.refl w).alloc _
  have sb := AtS.box w A n c keys
  have hxl := hx.len
  obtain ⟨hRl, hRa⟩ := growS_facts (keys := keys) (cs := cs) (at_ := at_) hu
  obtain ⟨hTl, hTa⟩ := gsetsS_facts (keys := keys) (cs := cs) (at_ := at_) hu
  have hRp := growS_put (keys := keys) (cs := cs) (at_ := at_) hu
  have hRb := growS_bad (keys := keys) (cs := cs) (bs := bs) (at_ := at_)
  have hTp := gsetsS_put (keys := keys) (cs := cs) (at_ := at_) hu
  have hTb := gsetsS_bad (keys := keys) (cs := cs) (bs := bs) (at_ := at_)
  obtain ⟨R, hR⟩ : ∃ R, R = growS keys cs bs at_ := ⟨_, rfl⟩
  obtain ⟨T, hT⟩ : ∃ T, T = gsetsS keys cs bs at_ := ⟨_, rfl⟩
  rw [← hR] at hRl hRa hRp hRb
  rw [← hT] at hTl hTa hTp hTb
  have G1 : ∀ W (C : Option Addr) (cc : Nat), SchIn W A n c cs → Rd .u8 W C m bs → m ≤ cc → cc ≤ 9223372036854775807 → Calls Try.prog 40 #[.agg #[.slice A n c, .int .i64 keys], .slice C m cc, .int .i64 at_] W (GRowPost R W) := fun W C cc h1 h2 h3 h4 => by
    rw [hR]; exact sgetRow_any A n c keys cs C m cc at_ bs W h1 h2 hu (by omega) h3 h4
  have G3 : ∀ W (C : Option Addr) (cc : Nat), SchIn W A n c cs → Rd .u8 W C m bs → m ≤ cc → cc ≤ 9223372036854775807 → Calls Try.prog 42 #[.agg #[.slice A n c, .int .i64 keys], .slice C m cc, .int .i64 at_] W (GSetsPost T W) := fun W C cc h1 h2 h3 h4 => by
    rw [hT]; exact sgetSets_any A n c keys cs C m cc at_ bs W h1 h2 hu (by omega) h3 h4
  clear hR hT
  obtain ⟨V, nx, er⟩ := R
  obtain ⟨V2, nx2, er2⟩ := T
  simp only at hRl hRa hTl hTa hRp hRb hTp hTb
  obtain ⟨r, hr⟩ : ∃ r, V.length = r := ⟨_, rfl⟩
  obtain ⟨t, ht⟩ : ∃ t, V2.length = t := ⟨_, rfl⟩
  unfold GRowPost at G1
  unfold GSetsPost at G3
  simp only [hr] at G1
  simp only [ht] at G3
  rw [hr] at hRl
  rw [ht] at hTl
  have Hr := Lib.hid hr
  have Ht := Lib.hid ht
  have HRa := Lib.hid hRa
  have HTa := Lib.hid hTa
  have Hxl := Lib.hid hxl
  clear hRa hTa hxl
  by_cases er0 : er = 0
  · obtain ⟨a, q, rfl, rfl, haq, hqb, hput⟩ := hRp er0
    subst er0
    have hq : q ≤ m := by rw [← Hxl.out]; exact hqb
    obtain ⟨P, hP⟩ : ∃ P, P = piece bs (a : Int) (q : Int) := ⟨_, rfl⟩
    have hP2 : P = (bs.drop a).take (q - a) := by rw [hP, piece_of]; simp
    obtain ⟨pl, hpl⟩ : ∃ pl, P.length = pl := ⟨_, rfl⟩
    have hpl2 : pl ≤ m := by rw [← hpl, hP2, List.length_take, List.length_drop, Hxl.out]; omega
    have HPut : Hid (∀ W C cc fs, SchIn W A n c cs → RdX W C r fs → fs.map Ci.val = V → Calls Try.prog 35 #[.agg #[.slice A n c, .int .i64 keys], .slice C r cc] W fun e w' => ∃ A' c', e = .returned (.tuple #[.slice A' pl c', .int .i64 0]) ∧ Own .u8 5 w' W.heap.size A' c' P ∧ Ext W w') := Lib.hid (fun W C cc fs h1 h2 h3 => by
      have h := sputRow_any A n c keys cs C r cc fs W h1 h2 (by omega)
      rw [(hput fs h3).1, (hput fs h3).2, ← hP2] at h
      unfold CPutPost at h
      rw [hpl] at h
      exact h)
    have HP := Lib.hid hP
    have Hpl := Lib.hid hpl
    have v1 : decide ((m : Int) < (q : Int)) = false := decide_eq_false (by omega)
    have v1' : decide (m < q) = false := decide_eq_false (by omega)
    clear hput hP hP2 hpl hRb hqb
    by_cases er20 : er2 = 0
    · obtain ⟨a2, q2, hae, rfl, haq2, hqb2, hput2⟩ := hTp er20
      subst er20
      obtain rfl : a2 = a := by omega
      have hq2 : q2 ≤ m := by rw [← Hxl.out]; exact hqb2
      obtain ⟨P2, hP2⟩ : ∃ P2, P2 = piece bs (a2 : Int) (q2 : Int) := ⟨_, rfl⟩
      have hP22 : P2 = (bs.drop a2).take (q2 - a2) := by rw [hP2, piece_of]; simp
      obtain ⟨pl2, hpl3⟩ : ∃ pl2, P2.length = pl2 := ⟨_, rfl⟩
      have hpl4 : pl2 ≤ m := by rw [← hpl3, hP22, List.length_take, List.length_drop, Hxl.out]; omega
      have HPut2 : Hid (∀ W C cc fs, SchIn W A n c cs → RdT W C t fs → fs.map Si.val = V2 → Calls Try.prog 37 #[.agg #[.slice A n c, .int .i64 keys], .slice C t cc] W fun e w' => ∃ A' c', e = .returned (.tuple #[.slice A' pl2 c', .int .i64 0]) ∧ Own .u8 5 w' W.heap.size A' c' P2 ∧ Ext W w') := Lib.hid (fun W C cc fs h1 h2 h3 => by
        have h := sputSets_any A n c keys cs C t cc fs W h1 h2 (by omega)
        rw [(hput2 fs h3).1, (hput2 fs h3).2, ← hP22] at h
        unfold CPutPost at h
        rw [hpl3] at h
        exact h)
      have HP2 := Lib.hid hP2
      have Hpl2 := Lib.hid hpl3
      have v2 : decide ((q2 : Int) ≤ (m : Int)) = true := decide_eq_true (by omega)
      have v2' : decide (q2 ≤ m) = true := decide_eq_true (by omega)
      clear hput2 hP2 hP22 hpl3 hTb hqb2
      have HG1 := Lib.hid G1
      have HG3 := Lib.hid G3
      clear G1 G3 hr ht
      go_enter Try.func8, Try.ntmps8
      go_wp2_with fail
      refine (alive6 _).mono ?_
      rintro e w1 ⟨rfl, he1⟩
      have hE1 := hE.trans he1
      have s1 := sb.ext he1
      have HS1 := Lib.hid (hs.ext hE1)
      have HX1 := Lib.hid (hx.ext hE1)
      have K : Hid (∀ W, Ext w1 W → W.cell? ⟨w.heap.size, 0, none⟩ = some (.slice A n c) ∧ W.cell? ⟨w.heap.size, 1, none⟩ = some (.int .i64 keys)) := Lib.hid (fun W hW => ⟨(s1.ext hW).c0, (s1.ext hW).c1⟩)
      obtain ⟨k0, k1⟩ := K.out _ (Ext.refl w1)
      have g8 := K.out _ (Ext.refl w1)
      clear he1 s1 sb
      go_wp2_with fail
      go_region_held3 (fun w' => w'.cell? ⟨w.heap.size, 0, none⟩ = some (.slice A n c) ∧ w'.cell? ⟨w.heap.size, 1, none⟩ = some (.int .i64 keys))
        (first | exact g8 | (refine K.out _ ?_; (repeat (first | exact Ext.refl _ | (with_reducible refine Ext.trans ?_ he3) | (with_reducible refine Ext.trans ?_ hec) | apply Ext.drew | apply Ext.alloc | fail))) | fail)
        (first
          | (go_at_call 48; (with_reducible refine (copy_any B m d bs _ (HX1.out.ext ?_) (by omega)).mono ?_); (focus ((repeat (first | exact Ext.refl _ | (with_reducible refine Ext.trans ?_ he3) | (with_reducible refine Ext.trans ?_ hec) | apply Ext.drew | apply Ext.alloc | fail)); done)); rintro e w2 ⟨Ac, cc, rfl, hownc, hec⟩; have hcap := hownc.cap; rw [Hxl.out] at hcap)
          | (go_at_call 40; (with_reducible refine (HG1.out _ _ _ (HS1.out.ext ?_) ((hownc.rd' Hxl.out).ext ?_) hcap.1 hcap.2).mono ?_); (focus ((repeat (first | exact Ext.refl _ | (with_reducible refine Ext.trans ?_ he3) | (with_reducible refine Ext.trans ?_ hec) | apply Ext.drew | apply Ext.alloc | fail)); done)); (focus ((repeat (first | exact Ext.refl _ | (with_reducible refine Ext.trans ?_ he3) | (with_reducible refine Ext.trans ?_ hec) | apply Ext.drew | apply Ext.alloc | fail)); done)); rintro e w3 ⟨fs, A3, c3, rfl, hv3, ho3, ht3, he3⟩)
          | fail)
      have hE13 : Ext w1 w3 := by (repeat (first | exact Ext.refl _ | (with_reducible refine Ext.trans ?_ he3) | (with_reducible refine Ext.trans ?_ hec) | apply Ext.drew | apply Ext.alloc | fail))
      have hx3 := res_rd hv3 Hr.out (fun v hv => ⟨(HRa.out v hv).1, by have := (HRa.out v hv).2; omega⟩) ho3 ht3.1
      have Hv3 := Lib.hid hv3
      obtain ⟨k0, k1⟩ := K.out _ hE13
      clear ho3 ht3 he3 hec hownc hcap g8 hv3
      go_wp2_with fail
      refine (HPut.out _ _ _ fs (HS1.out.ext hE13) hx3 Hv3.out).mono ?_
      rintro e w4 ⟨A4, c4, rfl, hown4, he4⟩
      obtain ⟨k0, k1⟩ := K.out _ (hE13.trans he4)
      go_wp2_with fail
      refine (piece_any B m d _ (q : Int) bs _ ((HX1.out.ext hE13).ext he4) (by omega) hat1).mono ?_
      rintro e w5 ⟨A5, c5, rfl, hown5, he5⟩
      rw [← HP.out] at hown5 ⊢
      rw [Hpl.out]
      obtain ⟨k0, k1⟩ := K.out _ ((hE13.trans he4).trans he5)
      go_wp2_with fail
      refine (same_yes ((hown4.rd' Hpl.out).ext he5) (hown5.rd' Hpl.out) (by omega)).mono ?_
      rintro e w6 ⟨rfl, q6, rfl⟩
      have hE16 : Ext w1 (w5.drewN q6) := ((hE13.trans he4).trans he5).drewN q6
      clear hown4 hown5 he4 he5 hx3 hE13
      obtain ⟨k0, k1⟩ := K.out _ hE16
      have g8 := K.out _ hE16
      obtain ⟨W6, hW6⟩ : ∃ W6, W6 = w5.drewN q6 := ⟨_, rfl⟩
      rw [← hW6] at k0 k1 hE16 g8
      have K6 : Hid (∀ W, Ext W6 W → W.cell? ⟨w.heap.size, 0, none⟩ = some (.slice A n c) ∧ W.cell? ⟨w.heap.size, 1, none⟩ = some (.int .i64 keys)) := Lib.hid (fun W hW => K.out W (hE16.trans hW))
      have HS6 := Lib.hid (HS1.out.ext hE16)
      have HX6 := Lib.hid (HX1.out.ext hE16)
      rw [hW6] at k0 k1
      go_wp2_with fail
      rw [← hW6]
      rw [← hW6] at k0 k1
      clear hW6
      go_region_held3 (fun w' => w'.cell? ⟨w.heap.size, 0, none⟩ = some (.slice A n c) ∧ w'.cell? ⟨w.heap.size, 1, none⟩ = some (.int .i64 keys))
        (first | exact g8 | (refine K6.out _ ?_; (repeat (first | exact Ext.refl _ | (with_reducible refine Ext.trans ?_ he9) | (with_reducible refine Ext.trans ?_ hec) | apply Ext.drew | apply Ext.alloc | fail))) | fail)
        (first
          | (go_at_call 48; (with_reducible refine (copy_any B m d bs _ (HX6.out.ext ?_) (by omega)).mono ?_); (focus ((repeat (first | exact Ext.refl _ | (with_reducible refine Ext.trans ?_ he9) | (with_reducible refine Ext.trans ?_ hec) | apply Ext.drew | apply Ext.alloc | fail)); done)); rintro e w7 ⟨Ac, cc, rfl, hownc, hec⟩; have hcap := hownc.cap; rw [Hxl.out] at hcap)
          | (go_at_call 42; (with_reducible refine (HG3.out _ _ _ (HS6.out.ext ?_) ((hownc.rd' Hxl.out).ext ?_) hcap.1 hcap.2).mono ?_); (focus ((repeat (first | exact Ext.refl _ | (with_reducible refine Ext.trans ?_ he9) | (with_reducible refine Ext.trans ?_ hec) | apply Ext.drew | apply Ext.alloc | fail)); done)); (focus ((repeat (first | exact Ext.refl _ | (with_reducible refine Ext.trans ?_ he9) | (with_reducible refine Ext.trans ?_ hec) | apply Ext.drew | apply Ext.alloc | fail)); done)); rintro e w9 ⟨gs, A9, c9, rfl, hv9, ho9, ht9, he9⟩)
          | fail)
      have hE69 : Ext W6 w9 := by (repeat (first | exact Ext.refl _ | (with_reducible refine Ext.trans ?_ he9) | (with_reducible refine Ext.trans ?_ hec) | apply Ext.drew | apply Ext.alloc | fail))
      have hx9 := res_rdT hv9 Ht.out (fun v hv => ⟨(HTa.out v hv).2.2.1, by have := (HTa.out v hv).2.2.2; omega⟩) ho9 ht9.1
      have Hv9 := Lib.hid hv9
      obtain ⟨k0, k1⟩ := K6.out _ hE69
      clear ho9 ht9 he9 hec hownc hcap g8 hv9
      go_wp2_with fail
      refine (HPut2.out _ _ _ gs (HS6.out.ext hE69) hx9 Hv9.out).mono ?_
      rintro e wa ⟨Aa, ca, rfl, howna, hea⟩
      go_wp2_with fail
      refine (piece_any B m d _ (q2 : Int) bs _ ((HX6.out.ext hE69).ext hea) (by omega) hat1).mono ?_
      rintro e wb ⟨Ab, cb, rfl, hownb, heb⟩
      rw [← HP2.out] at hownb ⊢
      rw [Hpl2.out]
      go_wp2_with fail
      refine (same_yes ((howna.rd' Hpl2.out).ext heb) (hownb.rd' Hpl2.out) (by omega)).mono ?_
      rintro e wc ⟨rfl, qc, rfl⟩
      go_wp2
      go_ret
      exact ⟨rfl, ((((hE1.trans hE16).trans hE69).trans hea).trans heb).drewN qc⟩
    · have hb := hTb er20
      injection hb with hb1 hb2
      injection hb2 with hb2 hb3
      subst hb1 hb2
      have ht0 : t = 0 := by rw [← ht]; rfl
      subst ht0
      have v2 : (er2 == 0) = false := by simp [er20]
      have v2' : (er2 != 0) = true := by simp [er20]
      clear hb3 hTp hTb er20
      have HG1 := Lib.hid G1
      have HG3 := Lib.hid G3
      clear G1 G3 hr ht
      go_enter Try.func8, Try.ntmps8
      go_wp2_with fail
      refine (alive6 _).mono ?_
      rintro e w1 ⟨rfl, he1⟩
      have hE1 := hE.trans he1
      have s1 := sb.ext he1
      have HS1 := Lib.hid (hs.ext hE1)
      have HX1 := Lib.hid (hx.ext hE1)
      have K : Hid (∀ W, Ext w1 W → W.cell? ⟨w.heap.size, 0, none⟩ = some (.slice A n c) ∧ W.cell? ⟨w.heap.size, 1, none⟩ = some (.int .i64 keys)) := Lib.hid (fun W hW => ⟨(s1.ext hW).c0, (s1.ext hW).c1⟩)
      obtain ⟨k0, k1⟩ := K.out _ (Ext.refl w1)
      have g8 := K.out _ (Ext.refl w1)
      clear he1 s1 sb
      go_wp2_with fail
      go_region_held3 (fun w' => w'.cell? ⟨w.heap.size, 0, none⟩ = some (.slice A n c) ∧ w'.cell? ⟨w.heap.size, 1, none⟩ = some (.int .i64 keys))
        (first | exact g8 | (refine K.out _ ?_; (repeat (first | exact Ext.refl _ | (with_reducible refine Ext.trans ?_ he3) | (with_reducible refine Ext.trans ?_ hec) | apply Ext.drew | apply Ext.alloc | fail))) | fail)
        (first
          | (go_at_call 48; (with_reducible refine (copy_any B m d bs _ (HX1.out.ext ?_) (by omega)).mono ?_); (focus ((repeat (first | exact Ext.refl _ | (with_reducible refine Ext.trans ?_ he3) | (with_reducible refine Ext.trans ?_ hec) | apply Ext.drew | apply Ext.alloc | fail)); done)); rintro e w2 ⟨Ac, cc, rfl, hownc, hec⟩; have hcap := hownc.cap; rw [Hxl.out] at hcap)
          | (go_at_call 40; (with_reducible refine (HG1.out _ _ _ (HS1.out.ext ?_) ((hownc.rd' Hxl.out).ext ?_) hcap.1 hcap.2).mono ?_); (focus ((repeat (first | exact Ext.refl _ | (with_reducible refine Ext.trans ?_ he3) | (with_reducible refine Ext.trans ?_ hec) | apply Ext.drew | apply Ext.alloc | fail)); done)); (focus ((repeat (first | exact Ext.refl _ | (with_reducible refine Ext.trans ?_ he3) | (with_reducible refine Ext.trans ?_ hec) | apply Ext.drew | apply Ext.alloc | fail)); done)); rintro e w3 ⟨fs, A3, c3, rfl, hv3, ho3, ht3, he3⟩)
          | fail)
      have hE13 : Ext w1 w3 := by (repeat (first | exact Ext.refl _ | (with_reducible refine Ext.trans ?_ he3) | (with_reducible refine Ext.trans ?_ hec) | apply Ext.drew | apply Ext.alloc | fail))
      have hx3 := res_rd hv3 Hr.out (fun v hv => ⟨(HRa.out v hv).1, by have := (HRa.out v hv).2; omega⟩) ho3 ht3.1
      have Hv3 := Lib.hid hv3
      obtain ⟨k0, k1⟩ := K.out _ hE13
      clear ho3 ht3 he3 hec hownc hcap g8 hv3
      go_wp2_with fail
      refine (HPut.out _ _ _ fs (HS1.out.ext hE13) hx3 Hv3.out).mono ?_
      rintro e w4 ⟨A4, c4, rfl, hown4, he4⟩
      obtain ⟨k0, k1⟩ := K.out _ (hE13.trans he4)
      go_wp2_with fail
      refine (piece_any B m d _ (q : Int) bs _ ((HX1.out.ext hE13).ext he4) (by omega) hat1).mono ?_
      rintro e w5 ⟨A5, c5, rfl, hown5, he5⟩
      rw [← HP.out] at hown5 ⊢
      rw [Hpl.out]
      obtain ⟨k0, k1⟩ := K.out _ ((hE13.trans he4).trans he5)
      go_wp2_with fail
      refine (same_yes ((hown4.rd' Hpl.out).ext he5) (hown5.rd' Hpl.out) (by omega)).mono ?_
      rintro e w6 ⟨rfl, q6, rfl⟩
      have hE16 : Ext w1 (w5.drewN q6) := ((hE13.trans he4).trans he5).drewN q6
      clear hown4 hown5 he4 he5 hx3 hE13
      obtain ⟨k0, k1⟩ := K.out _ hE16
      have g8 := K.out _ hE16
      obtain ⟨W6, hW6⟩ : ∃ W6, W6 = w5.drewN q6 := ⟨_, rfl⟩
      rw [← hW6] at k0 k1 hE16 g8
      have K6 : Hid (∀ W, Ext W6 W → W.cell? ⟨w.heap.size, 0, none⟩ = some (.slice A n c) ∧ W.cell? ⟨w.heap.size, 1, none⟩ = some (.int .i64 keys)) := Lib.hid (fun W hW => K.out W (hE16.trans hW))
      have HS6 := Lib.hid (HS1.out.ext hE16)
      have HX6 := Lib.hid (HX1.out.ext hE16)
      rw [hW6] at k0 k1
      go_wp2_with fail
      rw [← hW6]
      rw [← hW6] at k0 k1
      clear hW6
      go_region_held3 (fun w' => w'.cell? ⟨w.heap.size, 0, none⟩ = some (.slice A n c) ∧ w'.cell? ⟨w.heap.size, 1, none⟩ = some (.int .i64 keys))
        (first | exact g8 | (refine K6.out _ ?_; (repeat (first | exact Ext.refl _ | (with_reducible refine Ext.trans ?_ he9) | (with_reducible refine Ext.trans ?_ hec) | apply Ext.drew | apply Ext.alloc | fail))) | fail)
        (first
          | (go_at_call 48; (with_reducible refine (copy_any B m d bs _ (HX6.out.ext ?_) (by omega)).mono ?_); (focus ((repeat (first | exact Ext.refl _ | (with_reducible refine Ext.trans ?_ he9) | (with_reducible refine Ext.trans ?_ hec) | apply Ext.drew | apply Ext.alloc | fail)); done)); rintro e w7 ⟨Ac, cc, rfl, hownc, hec⟩; have hcap := hownc.cap; rw [Hxl.out] at hcap)
          | (go_at_call 42; (with_reducible refine (HG3.out _ _ _ (HS6.out.ext ?_) ((hownc.rd' Hxl.out).ext ?_) hcap.1 hcap.2).mono ?_); (focus ((repeat (first | exact Ext.refl _ | (with_reducible refine Ext.trans ?_ he9) | (with_reducible refine Ext.trans ?_ hec) | apply Ext.drew | apply Ext.alloc | fail)); done)); (focus ((repeat (first | exact Ext.refl _ | (with_reducible refine Ext.trans ?_ he9) | (with_reducible refine Ext.trans ?_ hec) | apply Ext.drew | apply Ext.alloc | fail)); done)); rintro e w9 ⟨gs, A9, c9, rfl, hv9, ho9, ht9, he9⟩)
          | fail)
      have hE69 : Ext W6 w9 := by (repeat (first | exact Ext.refl _ | (with_reducible refine Ext.trans ?_ he9) | (with_reducible refine Ext.trans ?_ hec) | apply Ext.drew | apply Ext.alloc | fail))
      have hx9 := res_rdT hv9 Ht.out (fun v hv => ⟨(HTa.out v hv).2.2.1, by have := (HTa.out v hv).2.2.2; omega⟩) ho9 ht9.1
      have Hv9 := Lib.hid hv9
      obtain ⟨k0, k1⟩ := K6.out _ hE69
      clear ho9 ht9 he9 hec hownc hcap g8 hv9
      go_wp2
      go_ret
      exact ⟨rfl, (hE1.trans hE16).trans hE69⟩
  · have hb := hRb er0
    injection hb with hb1 hb2
    injection hb2 with hb2 hb3
    subst hb1 hb2
    have hr0 : r = 0 := by rw [← hr]; rfl
    subst hr0
    have v1 : (er == 0) = false := by simp [er0]
    have v1' : (er != 0) = true := by simp [er0]
    clear hb3 hRp hRb er0
    by_cases er20 : er2 = 0
    · obtain ⟨a2, q2, rfl, rfl, haq2, hqb2, hput2⟩ := hTp er20
      subst er20
      have hq2 : q2 ≤ m := by rw [← Hxl.out]; exact hqb2
      obtain ⟨P2, hP2⟩ : ∃ P2, P2 = piece bs (a2 : Int) (q2 : Int) := ⟨_, rfl⟩
      have hP22 : P2 = (bs.drop a2).take (q2 - a2) := by rw [hP2, piece_of]; simp
      obtain ⟨pl2, hpl3⟩ : ∃ pl2, P2.length = pl2 := ⟨_, rfl⟩
      have hpl4 : pl2 ≤ m := by rw [← hpl3, hP22, List.length_take, List.length_drop, Hxl.out]; omega
      have HPut2 : Hid (∀ W C cc fs, SchIn W A n c cs → RdT W C t fs → fs.map Si.val = V2 → Calls Try.prog 37 #[.agg #[.slice A n c, .int .i64 keys], .slice C t cc] W fun e w' => ∃ A' c', e = .returned (.tuple #[.slice A' pl2 c', .int .i64 0]) ∧ Own .u8 5 w' W.heap.size A' c' P2 ∧ Ext W w') := Lib.hid (fun W C cc fs h1 h2 h3 => by
        have h := sputSets_any A n c keys cs C t cc fs W h1 h2 (by omega)
        rw [(hput2 fs h3).1, (hput2 fs h3).2, ← hP22] at h
        unfold CPutPost at h
        rw [hpl3] at h
        exact h)
      have HP2 := Lib.hid hP2
      have Hpl2 := Lib.hid hpl3
      have v2 : decide ((q2 : Int) ≤ (m : Int)) = true := decide_eq_true (by omega)
      have v2' : decide (q2 ≤ m) = true := decide_eq_true (by omega)
      clear hput2 hP2 hP22 hpl3 hTb hqb2
      have HG1 := Lib.hid G1
      have HG3 := Lib.hid G3
      clear G1 G3 hr ht
      go_enter Try.func8, Try.ntmps8
      go_wp2_with fail
      refine (alive6 _).mono ?_
      rintro e w1 ⟨rfl, he1⟩
      have hE1 := hE.trans he1
      have s1 := sb.ext he1
      have HS1 := Lib.hid (hs.ext hE1)
      have HX1 := Lib.hid (hx.ext hE1)
      have K : Hid (∀ W, Ext w1 W → W.cell? ⟨w.heap.size, 0, none⟩ = some (.slice A n c) ∧ W.cell? ⟨w.heap.size, 1, none⟩ = some (.int .i64 keys)) := Lib.hid (fun W hW => ⟨(s1.ext hW).c0, (s1.ext hW).c1⟩)
      obtain ⟨k0, k1⟩ := K.out _ (Ext.refl w1)
      have g8 := K.out _ (Ext.refl w1)
      clear he1 s1 sb
      go_wp2_with fail
      go_region_held3 (fun w' => w'.cell? ⟨w.heap.size, 0, none⟩ = some (.slice A n c) ∧ w'.cell? ⟨w.heap.size, 1, none⟩ = some (.int .i64 keys))
        (first | exact g8 | (refine K.out _ ?_; (repeat (first | exact Ext.refl _ | (with_reducible refine Ext.trans ?_ he3) | (with_reducible refine Ext.trans ?_ hec) | apply Ext.drew | apply Ext.alloc | fail))) | fail)
        (first
          | (go_at_call 48; (with_reducible refine (copy_any B m d bs _ (HX1.out.ext ?_) (by omega)).mono ?_); (focus ((repeat (first | exact Ext.refl _ | (with_reducible refine Ext.trans ?_ he3) | (with_reducible refine Ext.trans ?_ hec) | apply Ext.drew | apply Ext.alloc | fail)); done)); rintro e w2 ⟨Ac, cc, rfl, hownc, hec⟩; have hcap := hownc.cap; rw [Hxl.out] at hcap)
          | (go_at_call 40; (with_reducible refine (HG1.out _ _ _ (HS1.out.ext ?_) ((hownc.rd' Hxl.out).ext ?_) hcap.1 hcap.2).mono ?_); (focus ((repeat (first | exact Ext.refl _ | (with_reducible refine Ext.trans ?_ he3) | (with_reducible refine Ext.trans ?_ hec) | apply Ext.drew | apply Ext.alloc | fail)); done)); (focus ((repeat (first | exact Ext.refl _ | (with_reducible refine Ext.trans ?_ he3) | (with_reducible refine Ext.trans ?_ hec) | apply Ext.drew | apply Ext.alloc | fail)); done)); rintro e w3 ⟨fs, A3, c3, rfl, hv3, ho3, ht3, he3⟩)
          | fail)
      have hE13 : Ext w1 w3 := by (repeat (first | exact Ext.refl _ | (with_reducible refine Ext.trans ?_ he3) | (with_reducible refine Ext.trans ?_ hec) | apply Ext.drew | apply Ext.alloc | fail))
      have hx3 := res_rd hv3 Hr.out (fun v hv => ⟨(HRa.out v hv).1, by have := (HRa.out v hv).2; omega⟩) ho3 ht3.1
      have Hv3 := Lib.hid hv3
      obtain ⟨k0, k1⟩ := K.out _ hE13
      clear ho3 ht3 he3 hec hownc hcap g8 hv3
      have hE16 : Ext w1 w3 := hE13
      clear hx3 hE13
      obtain ⟨k0, k1⟩ := K.out _ hE16
      have g8 := K.out _ hE16
      obtain ⟨W6, hW6⟩ : ∃ W6, W6 = w3 := ⟨_, rfl⟩
      rw [← hW6] at k0 k1 hE16 g8
      have K6 : Hid (∀ W, Ext W6 W → W.cell? ⟨w.heap.size, 0, none⟩ = some (.slice A n c) ∧ W.cell? ⟨w.heap.size, 1, none⟩ = some (.int .i64 keys)) := Lib.hid (fun W hW => K.out W (hE16.trans hW))
      have HS6 := Lib.hid (HS1.out.ext hE16)
      have HX6 := Lib.hid (HX1.out.ext hE16)
      rw [hW6] at k0 k1
      go_wp2_with fail
      rw [← hW6]
      rw [← hW6] at k0 k1
      clear hW6
      go_region_held3 (fun w' => w'.cell? ⟨w.heap.size, 0, none⟩ = some (.slice A n c) ∧ w'.cell? ⟨w.heap.size, 1, none⟩ = some (.int .i64 keys))
        (first | exact g8 | (refine K6.out _ ?_; (repeat (first | exact Ext.refl _ | (with_reducible refine Ext.trans ?_ he9) | (with_reducible refine Ext.trans ?_ hec) | apply Ext.drew | apply Ext.alloc | fail))) | fail)
        (first
          | (go_at_call 48; (with_reducible refine (copy_any B m d bs _ (HX6.out.ext ?_) (by omega)).mono ?_); (focus ((repeat (first | exact Ext.refl _ | (with_reducible refine Ext.trans ?_ he9) | (with_reducible refine Ext.trans ?_ hec) | apply Ext.drew | apply Ext.alloc | fail)); done)); rintro e w7 ⟨Ac, cc, rfl, hownc, hec⟩; have hcap := hownc.cap; rw [Hxl.out] at hcap)
          | (go_at_call 42; (with_reducible refine (HG3.out _ _ _ (HS6.out.ext ?_) ((hownc.rd' Hxl.out).ext ?_) hcap.1 hcap.2).mono ?_); (focus ((repeat (first | exact Ext.refl _ | (with_reducible refine Ext.trans ?_ he9) | (with_reducible refine Ext.trans ?_ hec) | apply Ext.drew | apply Ext.alloc | fail)); done)); (focus ((repeat (first | exact Ext.refl _ | (with_reducible refine Ext.trans ?_ he9) | (with_reducible refine Ext.trans ?_ hec) | apply Ext.drew | apply Ext.alloc | fail)); done)); rintro e w9 ⟨gs, A9, c9, rfl, hv9, ho9, ht9, he9⟩)
          | fail)
      have hE69 : Ext W6 w9 := by (repeat (first | exact Ext.refl _ | (with_reducible refine Ext.trans ?_ he9) | (with_reducible refine Ext.trans ?_ hec) | apply Ext.drew | apply Ext.alloc | fail))
      have hx9 := res_rdT hv9 Ht.out (fun v hv => ⟨(HTa.out v hv).2.2.1, by have := (HTa.out v hv).2.2.2; omega⟩) ho9 ht9.1
      have Hv9 := Lib.hid hv9
      obtain ⟨k0, k1⟩ := K6.out _ hE69
      clear ho9 ht9 he9 hec hownc hcap g8 hv9
      go_wp2_with fail
      refine (HPut2.out _ _ _ gs (HS6.out.ext hE69) hx9 Hv9.out).mono ?_
      rintro e wa ⟨Aa, ca, rfl, howna, hea⟩
      go_wp2_with fail
      refine (piece_any B m d _ (q2 : Int) bs _ ((HX6.out.ext hE69).ext hea) (by omega) hat1).mono ?_
      rintro e wb ⟨Ab, cb, rfl, hownb, heb⟩
      rw [← HP2.out] at hownb ⊢
      rw [Hpl2.out]
      go_wp2_with fail
      refine (same_yes ((howna.rd' Hpl2.out).ext heb) (hownb.rd' Hpl2.out) (by omega)).mono ?_
      rintro e wc ⟨rfl, qc, rfl⟩
      go_wp2
      go_ret
      exact ⟨rfl, ((((hE1.trans hE16).trans hE69).trans hea).trans heb).drewN qc⟩
    · have hb := hTb er20
      injection hb with hb1 hb2
      injection hb2 with hb2 hb3
      subst hb1 hb2
      have ht0 : t = 0 := by rw [← ht]; rfl
      subst ht0
      have v2 : (er2 == 0) = false := by simp [er20]
      have v2' : (er2 != 0) = true := by simp [er20]
      clear hb3 hTp hTb er20
      have HG1 := Lib.hid G1
      have HG3 := Lib.hid G3
      clear G1 G3 hr ht
      go_enter Try.func8, Try.ntmps8
      go_wp2_with fail
      refine (alive6 _).mono ?_
      rintro e w1 ⟨rfl, he1⟩
      have hE1 := hE.trans he1
      have s1 := sb.ext he1
      have HS1 := Lib.hid (hs.ext hE1)
      have HX1 := Lib.hid (hx.ext hE1)
      have K : Hid (∀ W, Ext w1 W → W.cell? ⟨w.heap.size, 0, none⟩ = some (.slice A n c) ∧ W.cell? ⟨w.heap.size, 1, none⟩ = some (.int .i64 keys)) := Lib.hid (fun W hW => ⟨(s1.ext hW).c0, (s1.ext hW).c1⟩)
      obtain ⟨k0, k1⟩ := K.out _ (Ext.refl w1)
      have g8 := K.out _ (Ext.refl w1)
      clear he1 s1 sb
      go_wp2_with fail
      go_region_held3 (fun w' => w'.cell? ⟨w.heap.size, 0, none⟩ = some (.slice A n c) ∧ w'.cell? ⟨w.heap.size, 1, none⟩ = some (.int .i64 keys))
        (first | exact g8 | (refine K.out _ ?_; (repeat (first | exact Ext.refl _ | (with_reducible refine Ext.trans ?_ he3) | (with_reducible refine Ext.trans ?_ hec) | apply Ext.drew | apply Ext.alloc | fail))) | fail)
        (first
          | (go_at_call 48; (with_reducible refine (copy_any B m d bs _ (HX1.out.ext ?_) (by omega)).mono ?_); (focus ((repeat (first | exact Ext.refl _ | (with_reducible refine Ext.trans ?_ he3) | (with_reducible refine Ext.trans ?_ hec) | apply Ext.drew | apply Ext.alloc | fail)); done)); rintro e w2 ⟨Ac, cc, rfl, hownc, hec⟩; have hcap := hownc.cap; rw [Hxl.out] at hcap)
          | (go_at_call 40; (with_reducible refine (HG1.out _ _ _ (HS1.out.ext ?_) ((hownc.rd' Hxl.out).ext ?_) hcap.1 hcap.2).mono ?_); (focus ((repeat (first | exact Ext.refl _ | (with_reducible refine Ext.trans ?_ he3) | (with_reducible refine Ext.trans ?_ hec) | apply Ext.drew | apply Ext.alloc | fail)); done)); (focus ((repeat (first | exact Ext.refl _ | (with_reducible refine Ext.trans ?_ he3) | (with_reducible refine Ext.trans ?_ hec) | apply Ext.drew | apply Ext.alloc | fail)); done)); rintro e w3 ⟨fs, A3, c3, rfl, hv3, ho3, ht3, he3⟩)
          | fail)
      have hE13 : Ext w1 w3 := by (repeat (first | exact Ext.refl _ | (with_reducible refine Ext.trans ?_ he3) | (with_reducible refine Ext.trans ?_ hec) | apply Ext.drew | apply Ext.alloc | fail))
      have hx3 := res_rd hv3 Hr.out (fun v hv => ⟨(HRa.out v hv).1, by have := (HRa.out v hv).2; omega⟩) ho3 ht3.1
      have Hv3 := Lib.hid hv3
      obtain ⟨k0, k1⟩ := K.out _ hE13
      clear ho3 ht3 he3 hec hownc hcap g8 hv3
      have hE16 : Ext w1 w3 := hE13
      clear hx3 hE13
      obtain ⟨k0, k1⟩ := K.out _ hE16
      have g8 := K.out _ hE16
      obtain ⟨W6, hW6⟩ : ∃ W6, W6 = w3 := ⟨_, rfl⟩
      rw [← hW6] at k0 k1 hE16 g8
      have K6 : Hid (∀ W, Ext W6 W → W.cell? ⟨w.heap.size, 0, none⟩ = some (.slice A n c) ∧ W.cell? ⟨w.heap.size, 1, none⟩ = some (.int .i64 keys)) := Lib.hid (fun W hW => K.out W (hE16.trans hW))
      have HS6 := Lib.hid (HS1.out.ext hE16)
      have HX6 := Lib.hid (HX1.out.ext hE16)
      rw [hW6] at k0 k1
      go_wp2_with fail
      rw [← hW6]
      rw [← hW6] at k0 k1
      clear hW6
      go_region_held3 (fun w' => w'.cell? ⟨w.heap.size, 0, none⟩ = some (.slice A n c) ∧ w'.cell? ⟨w.heap.size, 1, none⟩ = some (.int .i64 keys))
        (first | exact g8 | (refine K6.out _ ?_; (repeat (first | exact Ext.refl _ | (with_reducible refine Ext.trans ?_ he9) | (with_reducible refine Ext.trans ?_ hec) | apply Ext.drew | apply Ext.alloc | fail))) | fail)
        (first
          | (go_at_call 48; (with_reducible refine (copy_any B m d bs _ (HX6.out.ext ?_) (by omega)).mono ?_); (focus ((repeat (first | exact Ext.refl _ | (with_reducible refine Ext.trans ?_ he9) | (with_reducible refine Ext.trans ?_ hec) | apply Ext.drew | apply Ext.alloc | fail)); done)); rintro e w7 ⟨Ac, cc, rfl, hownc, hec⟩; have hcap := hownc.cap; rw [Hxl.out] at hcap)
          | (go_at_call 42; (with_reducible refine (HG3.out _ _ _ (HS6.out.ext ?_) ((hownc.rd' Hxl.out).ext ?_) hcap.1 hcap.2).mono ?_); (focus ((repeat (first | exact Ext.refl _ | (with_reducible refine Ext.trans ?_ he9) | (with_reducible refine Ext.trans ?_ hec) | apply Ext.drew | apply Ext.alloc | fail)); done)); (focus ((repeat (first | exact Ext.refl _ | (with_reducible refine Ext.trans ?_ he9) | (with_reducible refine Ext.trans ?_ hec) | apply Ext.drew | apply Ext.alloc | fail)); done)); rintro e w9 ⟨gs, A9, c9, rfl, hv9, ho9, ht9, he9⟩)
          | fail)
      have hE69 : Ext W6 w9 := by (repeat (first | exact Ext.refl _ | (with_reducible refine Ext.trans ?_ he9) | (with_reducible refine Ext.trans ?_ hec) | apply Ext.drew | apply Ext.alloc | fail))
      have hx9 := res_rdT hv9 Ht.out (fun v hv => ⟨(HTa.out v hv).2.2.1, by have := (HTa.out v hv).2.2.2; omega⟩) ho9 ht9.1
      have Hv9 := Lib.hid hv9
      obtain ⟨k0, k1⟩ := K6.out _ hE69
      clear ho9 ht9 he9 hec hownc hcap g8 hv9
      go_wp2
      go_ret
      exact ⟨rfl, (hE1.trans hE16).trans hE69⟩

end Go.Proofs.Ytlagbgcolgbbhaa
