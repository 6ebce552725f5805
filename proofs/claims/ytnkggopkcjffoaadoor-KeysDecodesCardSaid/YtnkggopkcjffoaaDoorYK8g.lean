import Derived.Test.YtnkggopkcjffoaaDoorYK8f
import Derived.Test.YtnkggopkcjffoaaDoorG4
import Derived.Test.YtnkggopkcjffoaaDoorG7

/-
  Layer 7: the document's Decode.
-/
namespace Go.Proofs.YtnkggopkcjffoaaDoor
open Go.RowKit

theorem kread_range {k : Int} {l : List Nat} {p : Int × List Nat × List Nat} (hk : 1 ≤ k ∧ k ≤ 8) (hu : U8 l) (h : kread k l = some p) : -9223372036854775808 ≤ p.1 ∧ p.1 ≤ 9223372036854775807 ∧ p.2.1.length ≤ l.length ∧ p.2.2.length ≤ l.length ∧ U8 p.2.1 := by
  obtain ⟨num, t, rest⟩ := p
  have hok := kread_ok hu h
  have hrest : rest.length ≤ l.length := by rw [← hok, List.length_append]; omega
  unfold kread at h
  by_cases h6 : k ≤ 6
  · rw [if_pos h6] at h
    by_cases hs : l.length < ksize k
    · rw [if_pos hs] at h; cases h
    · rw [if_neg hs] at h
      injection h with h
      injection h with h1 h2
      injection h2 with h2 h3
      have hb := bval_lt (l.take (ksize k)) 0 (fun v hv => hu v (List.mem_of_mem_take hv))
      rw [List.length_take, Nat.min_eq_left (by omega)] at hb
      subst h2
      refine ⟨?_, ?_, by simp, hrest, by intro v hv; cases hv⟩
      all_goals
        rw [← h1]
        dsimp only
        obtain rfl | rfl | rfl | rfl | rfl | rfl : k = 1 ∨ k = 2 ∨ k = 3 ∨ k = 4 ∨ k = 5 ∨ k = 6 := by omega
        all_goals
          simp [ksize, least] at hb ⊢ <;> omega
  · rw [if_neg h6] at h
    have hn : num = 0 := by
      split at h
      all_goals
        first
          | (cases hq : readT l with
             | none => rw [hq] at h; cases h
             | some q => rw [hq] at h; injection h with h; injection h with h1 _; exact h1.symm)
          | (cases hq : readB l with
             | none => rw [hq] at h; cases h
             | some q => rw [hq] at h; injection h with h; injection h with h1 _; exact h1.symm)
    subst hn
    have hsub : t.length ≤ l.length ∧ U8 t := by
      by_cases h7 : k = 7
      · rw [if_pos h7] at h
        cases hq : readT l with
        | none => rw [hq] at h; cases h
        | some q =>
          rw [hq] at h
          injection h with h
          injection h with _ h2
          injection h2 with h2 h3
          subst h2 h3
          obtain ⟨e, _⟩ := readT_ok (show readT l = some (q.1, q.2) from hq)
          rw [← e]
          exact ⟨by simp, fun v hv => hu v (by rw [← e]; exact List.mem_append_left _ hv)⟩
      · rw [if_neg h7] at h
        cases hq : readB l with
        | none => rw [hq] at h; cases h
        | some q =>
          rw [hq] at h
          injection h with h
          injection h with _ h2
          injection h2 with h2 h3
          subst h2 h3
          have e := readB_ok _ (Nat.le_refl _) (show readB l = some (q.1, q.2) from hq)
          have hmem : ∀ v ∈ q.1, v ∈ esc q.1 := by
            intro v hv
            generalize q.1 = t at hv
            induction t with
            | nil => cases hv
            | cons y s ih =>
              by_cases hy : y = 0
              · subst hy
                rw [esc_zero]
                rcases List.mem_cons.1 hv with rfl | hv
                · exact List.mem_cons_self
                · exact List.mem_cons_of_mem _ (List.mem_cons_of_mem _ (ih hv))
              · rw [esc_pos _ hy]
                rcases List.mem_cons.1 hv with rfl | hv
                · exact List.mem_cons_self
                · exact List.mem_cons_of_mem _ (ih hv)
          have hle : q.1.length ≤ (esc q.1).length := by
            generalize q.1 = t
            induction t with
            | nil => exact Nat.le_refl _
            | cons y s ih =>
              by_cases hy : y = 0
              · subst hy; rw [esc_zero]; simp only [List.length_cons]; omega
              · rw [esc_pos _ hy]; simp only [List.length_cons]; omega
          refine ⟨?_, fun v hv => hu v (by rw [← e]; exact List.mem_append_left _ (hmem v hv))⟩
          rw [← e, List.length_append]
          omega
    exact ⟨(show (-9223372036854775808 : Int) ≤ 0 by decide), (show (0 : Int) ≤ 9223372036854775807 by decide), hsub.1, hrest, hsub.2⟩

/-- A key read on, by the document's way. -/
theorem kdecA_read {L : List Col} {j : Nat} {d : Col} {l : List Nat} {acc : List CV} (h : L[j]? = some d) :
    kdecA (L.drop j) l acc = match kread d.kind l with | none => none | some p => if chk d.kind false false p.1 p.2.1 ≠ 0 then none else kdecA (L.drop (j + 1)) p.2.2 (acc ++ [(false, p.1, p.2.1)]) := by
  obtain ⟨h1, rfl⟩ := List.getElem?_eq_some_iff.1 h
  rw [List.drop_eq_getElem_cons h1]
  rfl

set_option maxHeartbeats 3200000 in
set_option maxRecDepth 100000 in
theorem refKDecode_any (A : Option Addr) (n c : Nat) (keys : Int) (cs : List Col) (A2 : Option Addr) (n2 c2 : Nat) (bs : List Nat) (w : World) (hs : SchIn w A n c cs) (hx : Rd .u8 w A2 n2 bs) (hu : U8 bs) (hn2 : n2 ≤ 140737488351232) :
    Calls Tryd.prog 18 #[.agg #[.slice A n c, .int .i64 keys], .slice A2 n2 c2] w (KDecPost (kdecE keys cs bs) w) := by
  have HS := Lib.hid (fun (W : World) (hW : Ext w W) => refScheck_any A n c keys cs W (hs.rd.ext hW) hs.nm hs.le)
  by_cases z1 : schE keys cs = 0
  · obtain ⟨i1, i2, i3, i4, i5⟩ := schE_inv z1
    rw [z1] at HS
    obtain ⟨m, rfl⟩ := Int.eq_ofNat_of_zero_le (show 0 ≤ keys by omega)
    have hcn := hs.rd.1
    obtain ⟨R, hR⟩ : ∃ R, R = kdecE (m : Int) cs bs := ⟨_, rfl⟩
    rw [← hR]
    obtain ⟨D, hD⟩ : ∃ D, D = kdecA (cs.take m) bs [] := ⟨_, rfl⟩
    have hR2 : R = decR D := by rw [hR, hD]; unfold kdecE; rw [if_neg (by simp [z1]), Int.toNat_natCast]
    have Hkind : Hid (∀ (j : Nat) (d : Col), (cs.take m)[j]? = some d → 1 ≤ d.kind ∧ d.kind ≤ 8) := Lib.hid (by
      intro j d hj
      have hj2 : cs[j]? = some d := by
        rw [List.getElem?_take] at hj
        split at hj
        · exact hj
        · cases hj
      have hB : schB (m : Int) cs = true := by
        unfold schE at z1
        by_cases q : schB (m : Int) cs = true
        · exact q
        · rw [if_neg q] at z1; omega
      unfold schB at hB
      simp only [Bool.and_eq_true] at hB
      have := colsB_iff.1 hB.1.2 j d hj2
      unfold colB at this
      simp only [Bool.and_eq_true] at this
      exact of_decide_eq_true this.1.2)
    have HRn := Lib.hid (fun (h : D = none) => (show R = ([], 70) by rw [hR2, h]; rfl))
    have HRy := Lib.hid (fun (vs : List CV) (h : D = some vs) => (show R = (vs, 0) by rw [hR2, h]; rfl))
    have HD0 := Lib.hid (show kdecA ((cs.take m).drop 0) (bs.drop 0) [] = D from by rw [hD]; rfl)
    have hcl : (cs.take m).length = m := by rw [List.length_take]; omega
    have hmn : m ≤ n := by omega
    have hmp : 1 ≤ m := by omega
    have hm3 : m ≤ 3 := by omega
    have hn12 : n ≤ 12 := by omega
    have Hs := Lib.hid hs
    have Hx := Lib.hid hx
    have Hu := Lib.hid hu
    have Hcl := Lib.hid hcl
    have Hbl := Lib.hid hx.len
    clear hR hR2 hD z1 hs hx hu hcl i1 i2 i3 i4 i5 hcn
    go_enter Tryd.func18, Tryd.ntmps18
    go_wp2_with fail
    refine (HS.out _ ((Ext.refl w).alloc _)).mono ?_
    rintro e w1 ⟨rfl, he1⟩
    have ha := (AtS.box w A n c (m : Int)).ext he1
    have hc1 := ha.c1
    have Ha := Lib.hid ha
    have HE1 : Hid (Ext w w1) := Lib.hid (((Ext.refl w).alloc _).trans he1)
    have H0 := Lib.hid (OwnX.made (base := w1.heap.size) w1 (Nat.le_refl _))
    clear ha he1
    go_wp2_with fail
    obtain ⟨gs, hgs⟩ : ∃ gs, gs = w.heap.size := ⟨_, rfl⟩
    rw [← hgs] at Ha hc1 ⊢
    have Hgs := Lib.hid hgs
    clear hgs hc1
    go_loopw [7, 8, 9] (fun v a i wr => ∃ (j p : Nat) (A' : Option Addr) (c' : Nat) (fs : List Ci), j ≤ m ∧ p ≤ n2 ∧ i = .int .i64 j ∧ a = .int .i64 p ∧ v = .slice A' j c' ∧ Hid (fs.length = j) ∧ Hid (kdecA ((cs.take m).drop j) (bs.drop p) (fs.map Ci.val) = D) ∧ Hid (OwnX wr w1.heap.size A' c' fs) ∧ Hid (TxtX wr w1.heap.size fs) ∧ Hid (Ext w1 wr)) (fun _ _ i _ => m - (intOf i).toNat)
    case atStart => exact ⟨0, 0, _, _, [], Nat.zero_le _, Nat.zero_le _, rfl, rfl, rfl, rfl, HD0.out, H0.out, TxtX.nil .., (Ext.refl w1).alloc _⟩
    case round =>
      clear HD0 H0
      obtain ⟨j, p, A', c', fs, hj, hp, rfl, rfl, rfl, HF, HD, HX, HT, HE⟩ := hrel
      have ha2 := Ha.out.ext HE.out
      have a1 := ha2.c1
      by_cases hlt : j < m
      · obtain ⟨bc, oc, d, hA, hbl2, hdj, y0, y1, y2⟩ := (Hs.out.rd.ext (HE1.out.trans HE.out)).at_ (show j < n by omega)
        subst hA
        have hdj2 : (cs.take m)[j]? = some d := by rw [List.getElem?_take, if_pos hlt]; exact hdj
        have hst := kdecA_read (l := bs.drop p) (acc := fs.map Ci.val) hdj2
        rw [HD.out] at hst
        have hk := Hkind.out j d hdj2
        have a0 := ha2.c0
        have hglt := ha2.lt
        obtain ⟨dn, dk, du⟩ := d
        simp only at y0 y1 y2 hst hk
        have HGt := refRead_any dk A2 n2 c2 p bs wr (Hx.out.ext (HE1.out.trans HE.out)) Hu.out (by omega) hp hk
        unfold RReadPost at HGt
        have i6 : (j : Int) < (n : Int) := by omega
        have hur : U8 (bs.drop p) := fun v hv => Hu.out v (List.mem_of_mem_drop hv)
        rcases hkg : kread dk (bs.drop p) with _ | ⟨num, t, rest⟩
        · rw [hkg] at HGt hst
          simp only at HGt hst
          have HGh := Lib.hid HGt
          have HRb := Lib.hid (HRn.out hst)
          clear hst hkg HGt hdj hdj2 hk ha2 hur
          go_wp2_with fail
          refine HGh.out.mono ?_
          rintro e w3 ⟨he3, rfl⟩
          go_wp2_with fail
          go_quiet (fail)
          go_wp2_with fail
          go_ret2
          exact KDecPost.bad _ HRb.out ((((HE1.out.trans HE.out).trans he3).alloc _).drewN _)
        · rw [hkg] at HGt hst
          simp only at HGt hst
          obtain ⟨r0, r1, r2, r3, r4⟩ := kread_range hk hur hkg
          simp only at r0 r1 r2 r3 r4
          have hrl : rest.length ≤ n2 - p := by rw [List.length_drop, Hbl.out] at r3; exact r3
          have hrest : rest = bs.drop (n2 - rest.length) := by
            have hk2 := kread_ok hur hkg
            have e1 : bs = (bs.take p ++ kput dk num t) ++ rest := by rw [List.append_assoc, hk2, List.take_append_drop]
            have e2 : (bs.take p ++ kput dk num t).length = n2 - rest.length := by
              have := congrArg List.length e1
              rw [List.length_append, Hbl.out] at this
              omega
            have e3 := congrArg (List.drop (n2 - rest.length)) e1
            rw [← e2, List.drop_left, e2] at e3
            exact e3.symm
          obtain ⟨q, hq⟩ : ∃ q, q = n2 - rest.length := ⟨_, rfl⟩
          have hqn : q ≤ n2 := by omega
          have hpq : p ≤ q := by omega
          rw [← hq] at HGt hrest
          obtain ⟨tl, htl⟩ : ∃ tl, tl = t.length := ⟨_, rfl⟩
          have htl2 : tl ≤ n2 := by rw [htl]; rw [List.length_drop, Hbl.out] at r2; omega
          rw [← htl] at HGt
          have HGh := Lib.hid HGt
          have Htl := Lib.hid htl
          have Hrest := Lib.hid hrest
          obtain ⟨E, hE⟩ : ∃ E, E = chk dk false false num t := ⟨_, rfl⟩
          rw [← hE] at hst
          have HEe := Lib.hid hE
          have Hst := Lib.hid hst
          have Hr4 := Lib.hid r4
          have K : Hid (∀ w', Ext wr w' → w'.cell? ⟨gs, 0, none⟩ = some (.slice (some ⟨bc, oc, none⟩) n c) ∧ w'.cell? ⟨bc, oc + j * 3 + 1, none⟩ = some (.int .i64 dk)) := Lib.hid (fun w' he =>
            ⟨(he.cells gs 0 hglt).trans a0, (he.cells bc _ hbl2).trans y1⟩)
          clear hst hkg HGt hdj hdj2 ha2 hur hq htl hE hrest r2 r3 r4 hrl
          go_wp2_with fail
          refine HGh.out.mono ?_
          rintro e w3 ⟨he3, A3, c3, rfl, ho3⟩
          obtain ⟨w4, hw4⟩ : ∃ w4, w4 = w3.alloc (.cells #[.bool false, .int .i64 num, .slice A3 tl c3] 63) := ⟨_, rfl⟩
          have hX4 : Ext wr w4 := by rw [hw4]; exact he3.alloc _
          have hX34 : Ext w3 w4 := by rw [hw4]; exact (Ext.refl w3).alloc _
          have hg4 : w4.heap[w3.heap.size]? = some (.cells #[.bool false, .int .i64 num, .slice A3 tl c3] 63) := by rw [hw4]; exact heap_alloc_new w3 _
          have hl4 : w3.heap.size < w4.heap.size := by rw [hw4]; simp
          have HW4 := Lib.hid hw4
          have HX4 := Lib.hid hX4
          have HX34 := Lib.hid hX34
          have HG4 := Lib.hid hg4
          have Ho3 := Lib.hid ho3
          have Hn3 := Lib.hid he3.size
          clear hw4 hX4 hX34 hg4 he3 ho3
          have HC := Lib.hid (fun (W : World) (hW : Ext w4 W) => refCheck_any dk false false num A3 tl c3 t W (((Ho3.out.rd' Htl.out.symm).ext HX34.out).ext hW) r0 r1 (by omega))
          rw [← HEe.out] at HC
          have K4 : Hid (∀ w', Ext w4 w' → w'.cell? ⟨gs, 0, none⟩ = some (.slice (some ⟨bc, oc, none⟩) n c) ∧ w'.cell? ⟨bc, oc + j * 3 + 1, none⟩ = some (.int .i64 dk) ∧ w'.cell? ⟨w3.heap.size, 0, none⟩ = some (.bool false) ∧ w'.cell? ⟨w3.heap.size, 1, none⟩ = some (.int .i64 num) ∧ w'.cell? ⟨w3.heap.size, 2, none⟩ = some (.slice A3 tl c3)) := Lib.hid (fun w' he => by
            have hk := K.out w' (HX4.out.trans he)
            have hg := (he.block w3.heap.size hl4).trans HG4.out
            exact ⟨hk.1, hk.2, cell_of_row w' w3.heap.size 0 _ _ (0, 0) hg, cell_of_row w' w3.heap.size 1 _ _ (0, 0) hg, cell_of_row w' w3.heap.size 2 _ _ (0, 0) hg⟩)
          have g9 := K4.out _ (Ext.refl w4)
          have d0 : ¬ (q : Int) < 0 := by omega
          have d1 : decide ((q : Int) < 0) = false := decide_eq_false d0
          clear hl4
          go_wp2_with fail
          rw [← HW4.out]
          go_region_held3 (fun w' => w'.cell? ⟨gs, 0, none⟩ = some (.slice (some ⟨bc, oc, none⟩) n c) ∧ w'.cell? ⟨bc, oc + j * 3 + 1, none⟩ = some (.int .i64 dk) ∧ w'.cell? ⟨w3.heap.size, 0, none⟩ = some (.bool false) ∧ w'.cell? ⟨w3.heap.size, 1, none⟩ = some (.int .i64 num) ∧ w'.cell? ⟨w3.heap.size, 2, none⟩ = some (.slice A3 tl c3))
            (first | exact g9 | (refine K4.out _ ?_; (repeat (first | exact Ext.refl _ | (with_reducible refine Ext.trans ?_ he5) | apply Ext.drew | apply Ext.alloc | fail))) | fail)
            (first
              | (go_at_call 37; (with_reducible refine (HC.out _ ?_).mono ?_); (focus ((repeat (first | exact Ext.refl _ | (with_reducible refine Ext.trans ?_ he5) | apply Ext.drew | apply Ext.alloc | fail)); done)); rintro e w5 ⟨rfl, he5⟩)
              | fail)
          have hE5 : Ext w4 w5 := by (repeat (first | exact Ext.refl _ | (with_reducible refine Ext.trans ?_ he5) | apply Ext.drew | apply Ext.alloc | fail))
          have HE5 := Lib.hid hE5
          have HX5 : Hid (Ext wr w5) := Lib.hid (HX4.out.trans hE5)
          clear he5 hE5
          by_cases hz : E = 0
          · have hst := Hst.out
            rw [if_neg (fun q => q hz)] at hst
            have hst2 : kdecA ((cs.take m).drop (j + 1)) (bs.drop q) ((fs ++ [⟨false, num, A3, c3, t⟩] : List Ci).map Ci.val) = D := by
              rw [List.map_append, ← Hrest.out]
              exact hst.symm
            have HD2 := Lib.hid hst2
            have hk5 := K4.out _ HE5.out
            have k50 := hk5.2.2.1
            have k51 := hk5.2.2.2.1
            have k52 := hk5.2.2.2.2
            have HT5 := Lib.hid (TxtX.snoc (base' := wr.heap.size) (f := ⟨false, num, A3, c3, t⟩) (HT.out.ext HX5.out) ((Ho3.out.ext HX34.out).ext HE5.out) HE.out.size (fun g hg p hp => ((HT.out.1 g hg).block p hp).2))
            have HFl := HF.out
            have h5z : w1.heap.size ≤ w5.heap.size := (HE.out.trans HX5.out).size
            subst hz
            clear hst hst2 hk5
            go_wp2_with (at_builtin; refine wpList_pushX (w0 := w1) (base := w1.heap.size) ⟨false, num, A3, c3, t⟩ rfl _ _ rfl (((HX.out.ext HX5.out)).ext ((Ext.refl _).alloc _)) j HF.out rfl rfl ?_ (by omega) (Ext.trans (HE.out.trans HX5.out) ((Ext.refl _).alloc _)) (by simp; omega) ?_; (focus (dsimp only; rw [← Htl.out]; exact heap_alloc_new w5 _)); intro A7 c7 w7 hown7 hgr7 hb7 hz7)
            have HT7 := Lib.hid (TxtX.grown (base' := w1.heap.size) (HT5.out.ext ((Ext.refl w5).alloc (.cells #[.bool false, .int .i64 num, .slice A3 tl c3] 63))) (((HX.out.ext HX5.out)).ext ((Ext.refl _).alloc _)) hgr7)
            have HX7 := Lib.hid hown7
            have HE7 : Hid (Ext w1 w7) := Lib.hid hb7
            clear hown7 hgr7 hb7
            go_roundw
            case rel => exact ⟨j + 1, q, A7, c7, _, by omega, hqn, by go_num, by go_num, by go_num, by rw [List.length_append, HF.out]; rfl, HD2.out, HX7.out, HT7.out, HE7.out⟩
            case measure => simp [intOf]; omega
          · have hst := Hst.out
            rw [if_pos hz] at hst
            have HRb := Lib.hid (HRn.out hst)
            have hb1 : (E != 0) = true := by rw [bne_iff_ne]; exact hz
            clear hst
            go_wp2_with fail
            go_ret2
            exact KDecPost.bad _ HRb.out ((HE1.out.trans HE.out).trans HX5.out)
      · obtain rfl : j = m := by omega
        have hD := HD.out
        rw [List.drop_of_length_le (by rw [Hcl.out]; exact Nat.le_refl _)] at hD
        unfold kdecA at hD
        have hdl : (bs.drop p = []) ↔ ¬ (p < n2) := by rw [List.drop_eq_nil_iff, Hbl.out]; omega
        by_cases hpl : p < n2
        · rw [if_neg (fun q => hdl.1 q hpl)] at hD
          have HRb := Lib.hid (HRn.out hD.symm)
          clear hD hdl
          go_wp2_with fail
          go_ret2
          exact KDecPost.bad _ HRb.out (HE1.out.trans HE.out)
        · rw [if_pos (hdl.2 hpl)] at hD
          have HRg := Lib.hid (HRy.out _ hD.symm)
          clear hD hdl
          go_wp2_with fail
          go_ret2
          exact KDecPost.good _ HRg.out HF.out (HX.out.mono HE1.out.size) (HT.out.toU.mono HE1.out.size) (HE1.out.trans HE.out)
  · have HR := Lib.hid (show kdecE keys cs bs = ([], schE keys cs) from if_pos z1)
    obtain ⟨E, hE⟩ : ∃ E, E = schE keys cs := ⟨_, rfl⟩
    rw [← hE] at HS HR z1
    have hb1 : (E != 0) = true := by rw [bne_iff_ne]; exact z1
    clear hs hx hu hE
    go_enter Tryd.func18, Tryd.ntmps18
    go_wp2_with fail
    refine (HS.out _ ((Ext.refl w).alloc _)).mono ?_
    rintro e w1 ⟨rfl, he1⟩
    go_wp2_with fail
    go_ret2
    exact KDecPost.bad _ HR.out (((Ext.refl w).alloc _).trans he1)

end Go.Proofs.YtnkggopkcjffoaaDoor
