import Derived.Test.YthibbgmicmfkfaaGreatGY13
namespace Go.Proofs.YthibbgmicmfkfaaGreat
open Go.RowKit
set_option maxRecDepth 100000
theorem plainL_app (k : Int) (a b : List Ci) : plainL k (a ++ b) = plainL k a ++ plainL k b := by unfold plainL; rw [List.map_append, List.flatten_append]
set_option maxHeartbeats 6400000 in
theorem refBody_any (k cd : Int) (A : Option Addr) (n c : Nat) (xs : List Ci) (w : World) (hx : RdX w A n xs) (hc : CapX xs) (hk : 1 ≤ k ∧ k ≤ 8) (hn : n ≤ 4096) (h200 : ∀ x ∈ xs, x.txt.length ≤ 200) :
    Calls Tryz.prog 166 #[.int .i64 k, .int .i64 cd, .slice A n c] w fun e w' => ∃ A' c', e = .returned (.slice A' (valR k cd (nn xs)).1.length c') ∧ Own .u8 5 w' w.heap.size A' c' (valR k cd (nn xs)).1 ∧ Ext w w' := by
  have Hx := Lib.hid hx
  have Hl := Lib.hid hx.1
  have Hc := Lib.hid hc
  have H2 := Lib.hid h200
  have Hnum := Lib.hid hx.nums
  obtain ⟨w0, hw0⟩ : ∃ w0, w0 = ((w.alloc (.cells #[] 2)).alloc (.cells #[] 22)).alloc (.cells #[] 5) := ⟨_, rfl⟩
  have H0 : Hid (Rows3 w w0 w.heap.size (some ⟨w.heap.size, 0, none⟩) (some ⟨w.heap.size + 1, 0, none⟩) (some ⟨w.heap.size + 2, 0, none⟩) 0 0 0 ((nn (xs.take 0)).map Ci.num) ((nn (xs.take 0)).map Ci.sb) (plainL k (nn (xs.take 0)))) := Lib.hid (by
    rw [hw0]
    refine ⟨OwnG.ext (OwnG.ext (OwnG.made shZ 2 w (Nat.le_refl _)) ((Ext.refl _).alloc _)) ((Ext.refl _).alloc _), ?_, ?_, (((Ext.refl w).alloc _).alloc _).alloc _⟩
    · have := OwnG.made (base := w.heap.size) shS 22 (w.alloc (.cells #[] 2)) (by simp)
      simp only [World.size_alloc] at this
      exact OwnG.ext this ((Ext.refl _).alloc _)
    · have := Own.made (base := w.heap.size) .u8 5 ((w.alloc (.cells #[] 2)).alloc (.cells #[] 22)) (by simp; omega)
      simp only [World.size_alloc] at this
      exact this)
  have HW0 := Lib.hid hw0
  have hk6 : (k ≤ 6) = (numK k = true) := by
    unfold numK
    rw [decide_eq_true_eq]
    exact propext ⟨fun h => ⟨hk.1, h⟩, fun h => h.2⟩
  have Hk6 := Lib.hid hk6
  clear hx hc h200 hw0 hk6
  go_enter Tryz.func166, Tryz.ntmps166
  go_wp2_with fail
  rw [← HW0.out]
  go_loopw [7, 8, 9, 10] (fun v s o i wr => ∃ (j m L : Nat) (Av As Ao : Option Addr) (cv cs co : Nat), j ≤ n ∧ m ≤ j ∧ i = .int .i64 j ∧ v = .slice Av m cv ∧ s = .slice As m cs ∧ o = .slice Ao L co ∧ Hid ((nn (xs.take j)).length = m) ∧ Hid ((plainL k (nn (xs.take j))).length = L ∧ L ≤ 210 * j) ∧ Hid (Rows3 w wr w.heap.size Av As Ao cv cs co ((nn (xs.take j)).map Ci.num) ((nn (xs.take j)).map Ci.sb) (plainL k (nn (xs.take j))))) (fun _ _ _ i _ => n - (intOf i).toNat)
  case atStart => exact ⟨0, 0, 0, _, _, _, 0, 0, 0, Nat.zero_le _, Nat.le_refl _, rfl, rfl, rfl, rfl, rfl, ⟨rfl, Nat.le_refl _⟩, H0.out⟩
  case round =>
    clear H0 HW0
    obtain ⟨j, m, L, Av, As, Ao, cv, cs, co, hj, hmj, rfl, rfl, rfl, rfl, HM, HL, HR⟩ := hrel
    by_cases hlt : j < n
    · obtain ⟨b, o, x, hA, hbl0, hxj, x0, x1, x2, xin⟩ := Hx.out.at_ hlt
      have hnt := nn_take hxj
      have hxm : x ∈ xs := List.mem_of_getElem? hxj
      have hx2 := H2.out x hxm
      subst hA
      obtain ⟨xn, xi, xA, xc, xt⟩ := x
      simp only at x0 x1 x2 hnt hx2
      have HX : Hid (∀ W, Ext w W → W.cell? ⟨b, o + j * 3, none⟩ = some (.bool xn) ∧ W.cell? ⟨b, o + j * 3 + 1, none⟩ = some (.int .i64 xi) ∧ W.cell? ⟨b, o + j * 3 + 2, none⟩ = some (.slice xA xt.length xc)) := Lib.hid (fun W hW => ⟨(hW.cells b _ hbl0).trans x0, (hW.cells b _ hbl0).trans x1, (hW.cells b _ hbl0).trans x2⟩)
      have Hxin := Lib.hid xin
      have Hnt := Lib.hid hnt
      have hE := HR.out.e
      obtain ⟨y0, y1, y2⟩ := HX.out wr hE
      clear x0 x1 x2 hnt hxj hxm xin
      cases xn with
      | true =>
        have HM1 : Hid ((nn (xs.take (j + 1))).length = m) := Lib.hid (by rw [Hnt.out]; simpa using HM.out)
        have e1 : nn (xs.take (j + 1)) = nn (xs.take j) := by rw [Hnt.out]; simp
        have HL1 : Hid ((plainL k (nn (xs.take (j + 1)))).length = L ∧ L ≤ 210 * (j + 1)) := Lib.hid (by rw [e1]; exact ⟨HL.out.1, by have := HL.out.2; omega⟩)
        have HR1 : Hid (Rows3 w wr w.heap.size Av As Ao cv cs co ((nn (xs.take (j + 1))).map Ci.num) ((nn (xs.take (j + 1))).map Ci.sb) (plainL k (nn (xs.take (j + 1))))) := Lib.hid (by rw [e1]; exact HR.out)
        clear e1
        go_wp2_with fail
        go_roundw
        case rel => exact ⟨j + 1, m, L, Av, As, Ao, cv, cs, co, by omega, by omega, by go_num, rfl, rfl, rfl, HM1.out, HL1.out, HR1.out⟩
        case measure => simp [intOf]; omega
      | false =>
        have e1 : nn (xs.take (j + 1)) = nn (xs.take j) ++ [⟨false, xi, xA, xc, xt⟩] := Hnt.out
        have He1 := Lib.hid e1
        have HMv : Hid (((nn (xs.take j)).map Ci.num).length = m) := Lib.hid (by rw [List.length_map]; exact HM.out)
        have HMs : Hid (((nn (xs.take j)).map Ci.sb).length = m) := Lib.hid (by rw [List.length_map]; exact HM.out)
        have HM1 : Hid ((nn (xs.take (j + 1))).length = m + 1) := Lib.hid (by rw [e1, List.length_append, HM.out]; rfl)
        have hsz := hE.size
        obtain ⟨xl, hxl⟩ : ∃ xl, xl = xt.length := ⟨_, rfl⟩
        rw [← hxl] at y2 hx2 HX
        have Hxl := Lib.hid hxl
        have hlo := Hxin.out.lo
        have hhi := Hxin.out.hi
        simp only at hlo hhi
        clear e1 hxl
        obtain ⟨P, hP⟩ : ∃ P, P = plain1 k ⟨false, xi, xA, xc, xt⟩ := ⟨_, rfl⟩
        obtain ⟨p, hp⟩ : ∃ p, p = P.length := ⟨_, rfl⟩
        have hp1 : p ≤ 210 := by rw [hp, hP]; exact plain1_le (k := k) hlo hhi (by rw [← Hxl.out]; exact hx2)
        have HL1 : Hid ((plainL k (nn (xs.take (j + 1)))).length = L + p ∧ L + p ≤ 210 * (j + 1)) := Lib.hid (by rw [He1.out, plainL_app, plain1_nul, ← hP, List.length_append, HL.out.1, ← hp]; exact ⟨rfl, by have := HL.out.2; omega⟩)
        have HPl : Hid (plainL k (nn (xs.take (j + 1))) = plainL k (nn (xs.take j)) ++ P) := Lib.hid (by rw [He1.out, plainL_app, plain1_nul, ← hP])
        have HVl : Hid ((nn (xs.take (j + 1))).map Ci.num = (nn (xs.take j)).map Ci.num ++ [xi]) := Lib.hid (by rw [He1.out, List.map_append]; rfl)
        have HSl : Hid ((nn (xs.take (j + 1))).map Ci.sb = (nn (xs.take j)).map Ci.sb ++ [⟨xA, xc, xt⟩]) := Lib.hid (by rw [He1.out, List.map_append]; rfl)
        have HP := Lib.hid hp
        have hL1 : L ≤ 1000000 := by have := HL.out.2; omega
        by_cases h6 : k ≤ 6
        · have hN : numK k = true := by rw [← Hk6.out]; exact h6
          have hr := fold_range (v := xi) ⟨hlo, hhi⟩
          obtain ⟨u, hu⟩ : ∃ u : Nat, (u : Int) = foldS xi := ⟨(foldS xi).toNat, by omega⟩
          have hP2 : P = vput u := by rw [hP]; unfold plain1; rw [if_pos hN]; simp only; rw [← hu, Int.toNat_natCast]
          have hFo : Hid (∀ W, Calls Tryz.prog 196 #[.int .i64 xi] W fun e w' => e = .returned (.int .u64 (u : Int)) ∧ W = w') := Lib.hid (fun W => by rw [hu]; exact refFold_any xi W hlo hhi)
          have hPu : Hid (∀ W, Calls Tryz.prog 94 #[.int .u64 (u : Int)] W fun e w' => ∃ A' c', e = .returned (.slice A' p c') ∧ Own .u8 5 w' W.heap.size A' c' P ∧ Ext W w') := Lib.hid (fun W => by
            have := refPut_any u W (by omega)
            rw [← hP2, ← HP.out] at this
            exact this)
          clear hP2 hu hr hP hp hN
          go_wp2_with (first
            | (at_builtin; refine wpList_pushG (w0 := w) shZ xi 2 rfl _ _ 115 rfl (.int .i64 0) 8 Tryz.underlying115 Tryz.infoZ12 rfl (by decide) (OwnG.ext HR.out.v ((Ext.refl _).alloc _)) m HMv.out rfl rfl (heap_alloc_new wr _) (by omega) (by omega) (hE.alloc _) (by simp; omega) ?_; intro A1 c1 w1 ho1 hg1 he1 hz1; have HR1 := Lib.hid ((HR.out.ext ((Ext.refl _).alloc (.cells #[.int .i64 xi] 2))).pushV ho1 (by rw [← slice_block Av m cv]; exact hg1) he1); obtain ⟨u0, u1, u2⟩ := HX.out w1 he1)
            | (at_builtin; refine wpList_pushT (w0 := w) ⟨xA, xc, xt⟩ rfl _ _ rfl (OwnG.ext HR1.out.s ((Ext.refl _).alloc _)) m HMs.out rfl rfl ((heap_alloc_new w1 _).trans (by rw [Hxl.out])) (by omega) (HR1.out.e.alloc _) (by have := HR1.out.e.size; simp; omega) ?_; intro A2 c2 w2 ho2 hg2 he2 hz2; have HR2 := Lib.hid ((HR1.out.ext ((Ext.refl _).alloc (.cells #[.slice xA xl xc] 22))).pushS ho2 (by rw [← slice_block As m cs]; exact hg2) he2); obtain ⟨t0, t1, t2⟩ := HX.out w2 he2)
            | fail)
          refine (hFo.out _).mono ?_
          rintro e w3 ⟨rfl, rfl⟩
          go_wp2_with fail
          refine (hPu.out _).mono ?_
          rintro e w3 ⟨A3, c3, rfl, ho3, he3⟩
          have HR3 := Lib.hid (HR2.out.ext he3)
          have Hne : Hid (∀ p q, Ao = some p → A3 = some q → p.block ≠ q.block) := Lib.hid (fun p q hp hq => by
            have a1 := (HR2.out.o.block p hp).2
            have a2 := (ho3.block q hq).1
            omega)
          go_wp2_with fail
          refine (add12_any Ao A3 L co p c3 w.heap.size _ _ _ HR3.out.o HL.out.1 (ho3.rd' HP.out.symm) (fun _ => Hne.out) HR3.out.e.size (by omega)).mono ?_
          rintro e w4 ⟨A4, c4, rfl, ho4, hg4⟩
          have HR4 := Lib.hid (HR3.out.pushO ho4 hg4 (HR3.out.added (Nat.le_refl _) hg4))
          go_wp2_with fail
          go_roundw
          case rel => exact ⟨j + 1, m + 1, L + p, A1, A2, A4, c1, c2, c4, by omega, by omega, by go_num, by go_num, by go_num, by go_num, HM1.out, HL1.out, by rw [HVl.out, HSl.out, HPl.out]; exact HR4.out⟩
          case measure => simp [intOf]; omega
        · have hN : numK k = false := by
            have : ¬ (numK k = true) := by rw [← Hk6.out]; exact h6
            exact Bool.eq_false_iff.2 this
          have h7 : 6 < k := by omega
          obtain ⟨V, hV⟩ : ∃ V, V = vput xl := ⟨_, rfl⟩
          obtain ⟨v, hv⟩ : ∃ v, v = V.length := ⟨_, rfl⟩
          have HP2 : Hid (P = V ++ xt) := Lib.hid (by rw [hP]; unfold plain1; rw [hN, if_neg (by decide)]; simp only; rw [hV, Hxl.out])
          have hpv : p = v + xl := by rw [HP.out, HP2.out, List.length_append, ← hv, ← Hxl.out]
          have hPu : Hid (∀ W, Calls Tryz.prog 94 #[.int .u64 (xl : Int)] W fun e w' => ∃ A' c', e = .returned (.slice A' v c') ∧ Own .u8 5 w' W.heap.size A' c' V ∧ Ext W w') := Lib.hid (fun W => by
            have := refPut_any xl W (by omega)
            rw [← hV, ← hv] at this
            exact this)
          have hw64 : IntKind.u64.wrap (xl : Int) = (xl : Int) := IntWalk.u64_in _ (by omega)
          have Hv := Lib.hid hv
          have Hpv := Lib.hid hpv
          have hvp : v ≤ 210 := by omega
          clear hV hv hpv hP hp hN h6
          go_wp2_with (first
            | (at_builtin; refine wpList_pushG (w0 := w) shZ xi 2 rfl _ _ 115 rfl (.int .i64 0) 8 Tryz.underlying115 Tryz.infoZ12 rfl (by decide) (OwnG.ext HR.out.v ((Ext.refl _).alloc _)) m HMv.out rfl rfl (heap_alloc_new wr _) (by omega) (by omega) (hE.alloc _) (by simp; omega) ?_; intro A1 c1 w1 ho1 hg1 he1 hz1; have HR1 := Lib.hid ((HR.out.ext ((Ext.refl _).alloc (.cells #[.int .i64 xi] 2))).pushV ho1 (by rw [← slice_block Av m cv]; exact hg1) he1); obtain ⟨u0, u1, u2⟩ := HX.out w1 he1)
            | (at_builtin; refine wpList_pushT (w0 := w) ⟨xA, xc, xt⟩ rfl _ _ rfl (OwnG.ext HR1.out.s ((Ext.refl _).alloc _)) m HMs.out rfl rfl ((heap_alloc_new w1 _).trans (by rw [Hxl.out])) (by omega) (HR1.out.e.alloc _) (by have := HR1.out.e.size; simp; omega) ?_; intro A2 c2 w2 ho2 hg2 he2 hz2; have HR2 := Lib.hid ((HR1.out.ext ((Ext.refl _).alloc (.cells #[.slice xA xl xc] 22))).pushS ho2 (by rw [← slice_block As m cs]; exact hg2) he2); obtain ⟨t0, t1, t2⟩ := HX.out w2 he2)
            | fail)
          refine (hPu.out _).mono ?_
          rintro e w3 ⟨A3, c3, rfl, ho3, he3⟩
          have HR3 := Lib.hid (HR2.out.ext he3)
          have Hne : Hid (∀ p q, Ao = some p → A3 = some q → p.block ≠ q.block) := Lib.hid (fun p q hp hq => by
            have a1 := (HR2.out.o.block p hp).2
            have a2 := (ho3.block q hq).1
            omega)
          obtain ⟨s0, s1, s2⟩ := HX.out w3 HR3.out.e
          go_wp2_with fail
          refine (add12_any Ao A3 L co v c3 w.heap.size _ _ _ HR3.out.o HL.out.1 (ho3.rd' Hv.out.symm) (fun _ => Hne.out) HR3.out.e.size (by omega)).mono ?_
          rintro e w4 ⟨A4, c4, rfl, ho4, hg4⟩
          have HR4 := Lib.hid (HR3.out.pushO ho4 hg4 (HR3.out.added (Nat.le_refl _) hg4))
          have Hxr : Hid (Rd .u8 w4 xA xl xt) := Lib.hid (by rw [Hxl.out]; exact Hxin.out.rd.ext HR4.out.e)
          have Hl4 : Hid ((plainL k (nn (xs.take j)) ++ V).length = L + v) := Lib.hid (by rw [List.length_append, HL.out.1, ← Hv.out])
          have Hn4 : Hid (0 < xl → ∀ p q, A4 = some p → xA = some q → p.block ≠ q.block) := Lib.hid (fun h0 p q hp hq => by
            have a1 := (HR4.out.o.block p hp).1
            obtain ⟨b', o', e', hb', _⟩ := Hxin.out.rd.at_ (j := 0) (by rw [← Hxl.out]; exact h0)
            simp only at e'
            rw [hq] at e'
            injection e' with e'
            rw [e']
            simp only
            omega)
          obtain ⟨r0, r1, r2⟩ := HX.out w4 HR4.out.e
          go_wp2_with fail
          refine (add12_any A4 xA (L + v) c4 xl xc w.heap.size _ _ _ HR4.out.o Hl4.out Hxr.out Hn4.out HR4.out.e.size (by omega)).mono ?_
          rintro e w5 ⟨A5, c5, rfl, ho5, hg5⟩
          have HR5 := Lib.hid (HR4.out.pushO ho5 hg5 (HR4.out.added (Nat.le_refl _) hg5))
          go_wp2_with fail
          go_roundw
          case rel => exact ⟨j + 1, m + 1, L + v + xl, A1, A2, A5, c1, c2, c5, by omega, by omega, by go_num, by go_num, by go_num, by go_num, HM1.out, (by rw [Nat.add_assoc, ← Hpv.out]; exact HL1.out), by rw [HVl.out, HSl.out, HPl.out, HP2.out, ← List.append_assoc]; exact HR5.out⟩
          case measure => simp [intOf]; omega
    · obtain rfl : j = n := by omega
      have ht : xs.take j = xs := List.take_of_length_le (Nat.le_of_eq Hl.out)
      rw [ht] at HM HL HR
      have HVr : Hid (RdG shZ wr Av m ((nn xs).map Ci.num)) := Lib.hid (HR.out.v.rd' (by rw [List.length_map]; exact HM.out))
      have H64 : Hid (R64s ((nn xs).map Ci.num)) := Lib.hid (fun v hv => by
        obtain ⟨x, hx, rfl⟩ := List.mem_map.1 hv
        exact Hnum.out _ (List.mem_map_of_mem (nn_mem hx)))
      have HTx : Hid (TxL wr As m ((nn xs).map Ci.sb)) := Lib.hid (by
        have hr := OwnG.rdL HR.out.s
        rw [List.length_map, HM.out] at hr
        refine ⟨hr, fun s hs => ?_⟩
        obtain ⟨x, hxm, rfl⟩ := List.mem_map.1 hs
        have hxm := nn_mem hxm
        obtain ⟨j', hj', e⟩ := List.getElem_of_mem hxm
        obtain ⟨b, o, y, _, _, hy, _, _, _, hin⟩ := Hx.out.at_ (j := j') (by rw [← Hl.out]; exact hj')
        rw [List.getElem?_eq_getElem hj', e] at hy
        have hy2 := Option.some.inj hy
        subst hy2
        exact ⟨hin.rd.ext HR.out.e, hin.u8, (Hc.out x hxm).1, (Hc.out x hxm).2, by have := hin.len; show x.txt.length ≤ _; omega⟩)
      have hE := HR.out.e
      clear ht hlt
      by_cases h2 : cd = 2
      · subst h2
        have HV := Lib.hid (show valR k 2 (nn xs) = encode8 ((nn xs).map Ci.num) from rfl)
        go_wp2_with fail
        refine (refEncode_any Av m cv _ wr HVr.out H64.out).mono ?_
        rintro e w2 ⟨A2, c2, rfl, ho2, he2⟩
        go_wp2_with fail
        go_ret
        rw [HV.out]
        exact ⟨A2, c2, rfl, ho2.mono hE.size, hE.trans he2⟩
      by_cases h3 : cd = 3
      · subst h3
        have HV := Lib.hid (show valR k 3 (nn xs) = encode9 ((nn xs).map Ci.num) from rfl)
        go_wp2_with fail
        refine (refPencode_any Av m cv _ wr HVr.out H64.out).mono ?_
        rintro e w2 ⟨A2, c2, rfl, ho2, he2⟩
        go_wp2_with fail
        go_ret
        rw [HV.out]
        exact ⟨A2, c2, rfl, ho2.mono hE.size, hE.trans he2⟩
      by_cases h4 : cd = 4
      · subst h4
        have HV := Lib.hid (show valR k 4 (nn xs) = dencR ((nn xs).map Ci.txt) from rfl)
        go_wp2_with fail
        refine (refDencode_any As m cs _ wr HTx.out (by omega)).mono ?_
        rintro e w2 ⟨A2, c2, rfl, ho2, he2⟩
        go_wp2_with fail
        go_ret
        rw [HV.out, ← bodies_sl]
        exact ⟨A2, c2, rfl, ho2.mono hE.size, hE.trans he2⟩
      by_cases h5 : cd = 5
      · subst h5
        have HV := Lib.hid (show valR k 5 (nn xs) = pencR ((nn xs).map Ci.txt) from rfl)
        go_wp2_with fail
        refine (refEncode11_any As m cs _ wr HTx.out (by omega)).mono ?_
        rintro e w2 ⟨A2, c2, rfl, ho2, he2⟩
        go_wp2_with fail
        go_ret
        rw [HV.out, ← bodies_sl]
        exact ⟨A2, c2, rfl, ho2.mono hE.size, hE.trans he2⟩
      have HV := Lib.hid (show valR k cd (nn xs) = (plainL k (nn xs), 0) by unfold valR; rw [if_neg h2, if_neg h3, if_neg h4, if_neg h5])
      have b2 : (cd == 2) = false := beq_eq_false_iff_ne.2 h2
      have b3 : (cd == 3) = false := beq_eq_false_iff_ne.2 h3
      have b4 : (cd == 4) = false := beq_eq_false_iff_ne.2 h4
      have b5 : (cd == 5) = false := beq_eq_false_iff_ne.2 h5
      clear h2 h3 h4 h5
      go_wp2_with fail
      go_ret
      rw [HV.out]
      exact ⟨Ao, co, by rw [HL.out.1]; rfl, HR.out.o, hE⟩
def outW (k cd : Int) (xs : List Ci) : List Nat := [cd.toNat] ++ (vput xs.length ++ (nullsL xs ++ (valR k cd (nn xs)).1))
theorem outW_u8 (k cd : Int) (hcd : 1 ≤ cd ∧ cd ≤ 5) {xs : List Ci} (h : R64s (xs.map Ci.num)) (h2 : ∀ x ∈ xs, U8 x.txt) : U8 (outW k cd xs) := by
  unfold outW
  refine u8_append ?_ (u8_append (vput_u8 _) (u8_append (nullsL_u8 xs) (valR_u8 k cd ?_ (fun x hx => h2 x (nn_mem hx)))))
  · intro v hv
    simp at hv; omega
  · intro v hv
    obtain ⟨x, hx, rfl⟩ := List.mem_map.1 hv
    exact h _ (List.mem_map.2 ⟨x, nn_mem hx, rfl⟩)
def smL (us : List Nat) : Nat := if 1 ∈ us then 1 else 0
theorem smL_one (us : List Nat) : smL (us ++ [1]) = 1 := if_pos (by simp)
theorem smL_nul (us : List Nat) : smL (us ++ [0]) = smL us := by unfold smL; simp
theorem push2_grown {w w' : World} {A A' : Option Addr} (h : A' = A ∧ w.grownBy w' (A.map (·.block)) ∨ Ext w w' ∧ ∀ q, A' = some q → w.heap.size ≤ q.block) : w.grownBy w' (A.map (·.block)) := by
  rcases h with ⟨_, h⟩ | ⟨h, _⟩
  · exact h
  · exact ⟨h.os, h.tape, h.output, h.size, fun b hb _ => h.block b hb⟩
set_option maxHeartbeats 6400000 in
theorem refWrite_any (k cd : Int) (A : Option Addr) (n c : Nat) (xs : List Ci) (w : World) (hx : RdX w A n xs) (hc : CapX xs) (hk : 1 ≤ k ∧ k ≤ 8) (hcd : 1 ≤ cd ∧ cd ≤ 5) (hn : n ≤ 4096) (h200 : ∀ x ∈ xs, x.txt.length ≤ 200) :
    Calls Tryz.prog 136 #[.int .i64 k, .int .i64 cd, .slice A n c] w (PEncPost (sealL (outW k cd xs), sealE (outW k cd xs)) w) := by
  obtain ⟨d, rfl⟩ : ∃ d : Nat, cd = d := ⟨cd.toNat, by omega⟩
  have Hx := Lib.hid hx
  have Hl := Lib.hid hx.1
  have Hc := Lib.hid hc
  have H2 := Lib.hid h200
  have HU := Lib.hid (outW_u8 k d hcd hx.nums (fun x h => (hx.all x h).u8))
  have Hnb := Lib.hid (show (nb xs).length = n by rw [nb_len]; exact hx.1)
  have hvl0 := valR_len k d (xs := nn xs) (fun v hv => by
    obtain ⟨x, h, rfl⟩ := List.mem_map.1 hv
    exact hx.nums _ (List.mem_map_of_mem (nn_mem h))) (fun x h => h200 x (nn_mem h)) (by have := nn_le xs; have := hx.1; omega)
  obtain ⟨V, hV⟩ : ∃ V, V = (valR k d (nn xs)).1 := ⟨_, rfl⟩
  obtain ⟨O, hO⟩ : ∃ O, O = outW k d xs := ⟨_, rfl⟩
  have HOv : Hid (O = ([d] ++ vput n) ++ (nullsL xs ++ V)) := Lib.hid (by rw [hO, hV]; unfold outW; rw [hx.1, Int.toNat_natCast, List.append_assoc])
  rw [← hO] at HU ⊢
  rw [← hV] at hvl0
  have HV := Lib.hid hV
  obtain ⟨vl, hvl⟩ : ∃ vl, vl = V.length := ⟨_, rfl⟩
  rw [← hvl] at hvl0
  have Hvl := Lib.hid hvl
  obtain ⟨lo, hlo⟩ : ∃ lo, lo = O.length := ⟨_, rfl⟩
  have Hlo := Lib.hid hlo
  obtain ⟨pn, hpn⟩ : ∃ pn, pn = vput n := ⟨_, rfl⟩
  have hpn1 : pn.length ≤ 10 := by rw [hpn, vput_len]; exact vsize_le (by omega)
  obtain ⟨p, hp⟩ : ∃ p, p = pn.length := ⟨_, rfl⟩
  have Hp := Lib.hid hp
  rw [← hp] at hpn1
  rw [← hpn] at HOv
  have hlob : lo ≤ 1002000 := by rw [hlo, HOv.out, List.length_append, List.length_append, List.length_append, ← hp, ← hvl]; have := nullsL_len (xs := xs) (by rw [hx.1]; exact hn); simp only [List.length_singleton]; omega
  have hPu : Hid (∀ W, Calls Tryz.prog 94 #[.int .u64 (n : Int)] W fun e w' => ∃ A' c', e = .returned (.slice A' p c') ∧ Own .u8 5 w' W.heap.size A' c' pn ∧ Ext W w') := Lib.hid (fun W => by
    have := refPut_any n W (by omega)
    rw [← hpn, ← hp] at this
    exact this)
  have hw8 : IntKind.u8.wrap (d : Int) = (d : Int) := IntWalk.u8_in _ (by omega)
  have hw64 : IntKind.u64.wrap (n : Int) = (n : Int) := IntWalk.u64_in _ (by omega)
  have H0 : Hid (Own .u8 5 (w.alloc (.cells #[.int .u8 (d : Int)] 5)) w.heap.size (some ⟨w.heap.size, 0, none⟩) 1 [d]) := Lib.hid (ownLit w [d] (by simp))
  clear hx hc h200 hV hO hvl hlo hpn hp
  go_enter Tryz.func136, Tryz.ntmps136
  go_wp2_with fail
  refine (hPu.out _).mono ?_
  rintro e w1 ⟨A1, c1, rfl, ho1, he1⟩
  have HE1 : Hid (Ext w w1) := Lib.hid (((Ext.refl w).alloc _).trans he1)
  have HO1 := Lib.hid (H0.out.ext he1)
  have Hne1 : Hid (∀ p q, some (⟨w.heap.size, 0, none⟩ : Addr) = some p → A1 = some q → p.block ≠ q.block) := Lib.hid (fun p q hp hq => by
    injection hp with hp
    have a2 := (ho1.block q hq).1
    rw [← hp]
    simp only [World.size_alloc] at a2 ⊢
    omega)
  have HA1 := Lib.hid (add12_any (some ⟨w.heap.size, 0, none⟩) A1 1 1 p c1 w.heap.size [d] pn w1 HO1.out rfl (ho1.rd' Hp.out.symm) (fun _ => Hne1.out) HE1.out.size (by omega))
  obtain ⟨q, hq⟩ : ∃ q, q = 1 + p := ⟨_, rfl⟩
  rw [← hq] at HA1
  have hqb : q ≤ 11 := by omega
  have Hq := Lib.hid hq
  clear hq
  go_wp2_with fail
  refine HA1.out.mono ?_
  rintro e w2 ⟨A2, c2, rfl, ho2, hg2⟩
  have HE2 := Lib.hid (Own.grown_ext HO1.out HE1.out (Nat.le_refl _) hg2)
  have HO2 := Lib.hid (ho2.ext ((Ext.refl w2).alloc (.cells #[] 69)))
  have HS2 : Hid (Own .u64 69 (w2.alloc (.cells #[] 69)) w.heap.size (some ⟨w2.heap.size, 0, none⟩) 0 ((nb xs).take 0)) := Lib.hid ((Own.made .u64 69 w2 (Nat.le_refl _)).mono HE2.out.size)
  have HL2 : Hid (([d] ++ pn).length = q) := Lib.hid (by rw [Hq.out, List.length_append, ← Hp.out]; rfl)
  clear ho2 hg2
  go_wp2_with fail
  go_loopw [9, 10, 11] (fun us sm i wr => ∃ (j S : Nat) (Au : Option Addr) (cu : Nat), j ≤ n ∧ i = .int .i64 j ∧ us = .slice Au j cu ∧ sm = .int .u8 S ∧ Hid (S = smL ((nb xs).take j)) ∧ Hid (Own .u64 69 wr w.heap.size Au cu ((nb xs).take j)) ∧ Hid (Own .u8 5 wr w.heap.size A2 c2 ([d] ++ pn)) ∧ Hid (Ext w wr)) (fun _ _ i _ => n - (intOf i).toNat)
  case atStart => exact ⟨0, 0, _, _, Nat.zero_le _, rfl, rfl, rfl, rfl, HS2.out, HO2.out, HE2.out.alloc _⟩
  case round =>
    clear HO2 HS2
    obtain ⟨j, S, Au, cu, hj, rfl, rfl, rfl, HS, HUs, HOs, HE⟩ := hrel
    by_cases hlt : j < n
    · obtain ⟨b, o, x, rfl, hbl0, hxj, x0, x1, x2, xin⟩ := (Hx.out.ext HE.out).at_ hlt
      have hat := nb_at hxj
      have Htl := Lib.hid (show ((nb xs).take j).length = j by rw [List.length_take, Hnb.out]; omega)
      have hz := HE.out.size
      obtain ⟨xn, xi, xA, xc, xt⟩ := x
      simp only at x0 x1 x2 hat
      clear xin hxj
      cases xn with
      | true =>
        have Hnx : Hid ((nb xs).take (j + 1) = (nb xs).take j ++ [1]) := Lib.hid (by rw [List.take_add_one, hat]; rfl)
        clear hat
        go_wp2_with (at_builtin; refine wpList_push2 .u64 1 69 rfl _ _ 72 rfl _ 8 Tryz.underlying72 Tryz.infoU64 rfl HUs.out j Htl.out rfl rfl rfl (by omega) (by omega) hz ?_; intro A3 c3 w3 ho3 hw3 hz3)
        have hg3 := push2_grown hw3
        have HO3 := Lib.hid (HOs.out.grown hg3 (off12 (rows_ne (by decide) HUs.out HOs.out)))
        have HE3 := Lib.hid (Own.grown_ext HUs.out HE.out (Nat.le_refl _) hg3)
        go_roundw
        case rel => exact ⟨j + 1, 1, A3, c3, hlt, by go_num, by go_num, rfl, Lib.hid (by rw [Hnx.out, smL_one]), (by rw [Hnx.out]; exact ho3), HO3.out, HE3.out⟩
        case measure => simp [intOf]; omega
      | false =>
        have Hnx : Hid ((nb xs).take (j + 1) = (nb xs).take j ++ [0]) := Lib.hid (by rw [List.take_add_one, hat]; rfl)
        clear hat
        go_wp2_with (at_builtin; refine wpList_push2 .u64 0 69 rfl _ _ 72 rfl _ 8 Tryz.underlying72 Tryz.infoU64 rfl HUs.out j Htl.out rfl rfl rfl (by omega) (by omega) hz ?_; intro A3 c3 w3 ho3 hw3 hz3)
        have hg3 := push2_grown hw3
        have HO3 := Lib.hid (HOs.out.grown hg3 (off12 (rows_ne (by decide) HUs.out HOs.out)))
        have HE3 := Lib.hid (Own.grown_ext HUs.out HE.out (Nat.le_refl _) hg3)
        go_roundw
        case rel => exact ⟨j + 1, S, A3, c3, hlt, by go_num, by go_num, rfl, (by rw [Hnx.out, smL_nul]; exact HS.out), (by rw [Hnx.out]; exact ho3), HO3.out, HE3.out⟩
        case measure => simp [intOf]; omega
    · obtain rfl : j = n := by omega
      rw [List.take_of_length_le (Nat.le_of_eq Hnb.out)] at HS HUs
      have hz := HE.out.size
      have hpk := nb_pack (xs := xs) (by rw [Hl.out]; exact hn)
      have hpb : packL 1 (nb xs) = packB 1 (nb xs) := by unfold packL; rw [hpk, if_pos rfl]; rfl
      have Hpk := Lib.hid hpk
      have Hpb := Lib.hid hpb
      clear hpk hpb hlt
      by_cases h1 : 1 ∈ nb xs
      · have hN : nullsL xs = 1 :: packB 1 (nb xs) := if_pos h1
        have hS1 : S = 1 := HS.out.trans (if_pos h1)
        subst hS1
        obtain ⟨R, hR⟩ : ∃ R, R = packB 1 (nb xs) := ⟨_, rfl⟩
        rw [← hR] at hN
        have hRl : R.length ≤ 512 := by rw [hR]; unfold packB; rw [upk_len, Hnb.out]; omega
        obtain ⟨r, hr⟩ : ∃ r, r = R.length := ⟨_, rfl⟩
        rw [← hr] at hRl
        have HPk : Hid (∀ W, Rd .u64 W Au j (nb xs) → Calls Tryz.prog 165 #[.int .i64 1, .slice Au j cu] W fun e w' => ∃ A' c', e = .returned (.tuple #[.slice A' r c', .int .i64 0]) ∧ Own .u8 5 w' W.heap.size A' c' R ∧ Ext W w') := Lib.hid (fun W hW => by
          have := refPack_any Au j cu 1 (nb xs) W hW (nb_u64 xs) (by omega)
          unfold PackPost at this
          rw [Hpk.out, Hpb.out, ← hR, ← hr] at this
          exact this)
        have Hr := Lib.hid hr
        have HN := Lib.hid hN
        clear hR hr hN h1 HS
        go_wp2_with (at_builtin; refine wpList_push2 .u8 1 5 rfl _ _ 22 rfl _ 1 Tryz.underlying22 Tryz.infoU8 rfl HOs.out q HL2.out rfl rfl rfl (by omega) (by omega) hz ?_; intro A3 c3 w3 ho3 hw3 hz3)
        have hg3 := push2_grown hw3
        have HS3 := Lib.hid (HUs.out.grown hg3 (off12 (rows_ne (by decide) HOs.out HUs.out)))
        have HE3 := Lib.hid (Own.grown_ext HOs.out HE.out (Nat.le_refl _) hg3)
        have HP3 := Lib.hid (HPk.out w3 (HS3.out.rd' Hnb.out))
        have HO3 := Lib.hid ho3
        clear hw3 hg3
        go_wp2_with fail
        refine HP3.out.mono ?_
        rintro e w4 ⟨A4, c4, rfl, ho4, he4⟩
        have HO4 := Lib.hid (HO3.out.ext he4)
        have HE4 := Lib.hid (HE3.out.trans he4)
        have HL4 : Hid ((([d] ++ pn) ++ [1]).length = q + 1) := Lib.hid (by rw [List.length_append, HL2.out]; rfl)
        have Hne4 : Hid (∀ p q, A3 = some p → A4 = some q → p.block ≠ q.block) := Lib.hid (fun p q hp hq => by
          have a1 := (HO3.out.block p hp).2
          have a2 := (ho4.block q hq).1
          omega)
        go_wp2_with fail
        refine (add12_any A3 A4 (q + 1) c3 r c4 w.heap.size _ _ w4 HO4.out HL4.out (ho4.rd' Hr.out.symm) (fun _ => Hne4.out) HE4.out.size (by omega)).mono ?_
        rintro e w5 ⟨A5, c5, rfl, ho5, hg5⟩
        have HE5 := Lib.hid (Own.grown_ext HO4.out HE4.out (Nat.le_refl _) hg5)
        have HO5 := Lib.hid ho5
        have HL5 : Hid ((([d] ++ pn) ++ [1] ++ R).length = q + 1 + r) := Lib.hid (by rw [List.length_append, HL4.out, ← Hr.out])
        have HOO5 : Hid (O = (([d] ++ pn) ++ [1] ++ R) ++ V) := Lib.hid (by rw [HOv.out, HN.out]; simp)
        clear ho5 hg5 ho4 he4
        have HB5 := Lib.hid (refBody_any k d A j c xs w5 (Hx.out.ext HE5.out) Hc.out hk hn H2.out)
        rw [← HV.out] at HB5
        simp only [← Hvl.out] at HB5
        go_wp2_with fail
        refine HB5.out.mono ?_
        rintro e w7 ⟨A7, c7, rfl, ho7, he7⟩
        have HO7 := Lib.hid (HO5.out.ext he7)
        have Hne7 : Hid (∀ p q, A5 = some p → A7 = some q → p.block ≠ q.block) := Lib.hid (fun p q hp hq => by
          have a1 := (HO5.out.block p hp).2
          have a2 := (ho7.block q hq).1
          omega)
        have HE7 := Lib.hid (HE5.out.trans he7)
        have HA7 := Lib.hid (add12_any A5 A7 (q + 1 + r) c5 vl c7 w.heap.size _ _ w7 HO7.out HL5.out (ho7.rd' Hvl.out.symm) (fun _ => Hne7.out) HE7.out.size (by omega))
        have hLO : q + 1 + r + vl = lo := by rw [Hlo.out, HOO5.out, List.length_append, HL5.out, ← Hvl.out]
        rw [hLO] at HA7
        clear hLO
        go_wp2_with fail
        refine HA7.out.mono ?_
        rintro e w8 ⟨A8, c8, rfl, ho8, hg8⟩
        have HE8 := Lib.hid (Own.grown_ext HO7.out HE7.out (Nat.le_refl _) hg8)
        have HO8 : Hid (Own .u8 5 w8 w.heap.size A8 c8 O) := Lib.hid (by rw [HOO5.out]; exact ho8)
        clear ho7 ho8 hg8 he7
        by_cases hbig : 65000 < lo + 4
        · have hbi : (65000 : Int) < (lo : Int) + 4 := by omega
          have HR2 : Hid (sealL O = [] ∧ sealE O = 4) := Lib.hid (by unfold sealL sealE; rw [← Hlo.out, if_pos hbig, if_pos hbig]; exact ⟨rfl, rfl⟩)
          clear hbig
          go_wp2_with fail
          go_ret2
          exact PEncPost.bad _ (by rw [HR2.out.1, HR2.out.2]) HE8.out
        · have hbi : ¬ (65000 : Int) < (lo : Int) + 4 := by omega
          have HSe := Lib.hid (refSeal_any A8 lo c8 O w8 (HO8.out.rd' Hlo.out.symm) HU.out (by omega))
          clear hlob hvl0
          have HR2 : Hid (sealL O = sl O ∧ sealE O = 0) := Lib.hid (by unfold sealL sealE; rw [← Hlo.out, if_neg hbig, if_neg hbig]; exact ⟨rfl, rfl⟩)
          clear hbig
          have hwr : IntKind.i64.wrap ((lo : Int) + 4) = (lo : Int) + 4 := IntWalk.i64_in _ (by omega)
          have hbd : decide ((65000 : Int) < (lo : Int) + 4) = false := decide_eq_false hbi
          clear hbi hqb hpn1 hcd hw8
          go_wp2_with fail
          refine HSe.out.mono ?_
          rintro e w9 ⟨A9, c9, rfl, ho9, he9⟩
          go_wp2_with fail
          go_ret2
          exact PEncPost.good _ (by rw [HR2.out.1, HR2.out.2]) (by rw [sl_len, ← Hlo.out]) (ho9.mono HE8.out.size) (HE8.out.trans he9)
      · have hN : nullsL xs = [0] := if_neg h1
        have hS1 : S = 0 := HS.out.trans (if_neg h1)
        subst hS1
        have HN := Lib.hid hN
        clear hN h1 HS
        go_wp2_with (at_builtin; refine wpList_push2 .u8 0 5 rfl _ _ 22 rfl _ 1 Tryz.underlying22 Tryz.infoU8 rfl HOs.out q HL2.out rfl rfl rfl (by omega) (by omega) hz ?_; intro A3 c3 w3 ho3 hw3 hz3)
        have hg3 := push2_grown hw3
        have HE3 := Lib.hid (Own.grown_ext HOs.out HE.out (Nat.le_refl _) hg3)
        have HO3 := Lib.hid ho3
        have HL3 : Hid ((([d] ++ pn) ++ [0]).length = q + 1) := Lib.hid (by rw [List.length_append, HL2.out]; rfl)
        have HOO3 : Hid (O = (([d] ++ pn) ++ [0]) ++ V) := Lib.hid (by rw [HOv.out, HN.out]; simp)
        clear ho3 hw3 hg3
        have HB3 := Lib.hid (refBody_any k d A j c xs w3 (Hx.out.ext HE3.out) Hc.out hk hn H2.out)
        rw [← HV.out] at HB3
        simp only [← Hvl.out] at HB3
        go_wp2_with fail
        refine HB3.out.mono ?_
        rintro e w7 ⟨A7, c7, rfl, ho7, he7⟩
        have HO7 := Lib.hid (HO3.out.ext he7)
        have Hne7 : Hid (∀ p q, A3 = some p → A7 = some q → p.block ≠ q.block) := Lib.hid (fun p q hp hq => by
          have a1 := (HO3.out.block p hp).2
          have a2 := (ho7.block q hq).1
          omega)
        have HE7 := Lib.hid (HE3.out.trans he7)
        have HA7 := Lib.hid (add12_any A3 A7 (q + 1) c3 vl c7 w.heap.size _ _ w7 HO7.out HL3.out (ho7.rd' Hvl.out.symm) (fun _ => Hne7.out) HE7.out.size (by omega))
        have hLO : q + 1 + vl = lo := by rw [Hlo.out, HOO3.out, List.length_append, HL3.out, ← Hvl.out]
        rw [hLO] at HA7
        clear hLO
        go_wp2_with fail
        refine HA7.out.mono ?_
        rintro e w8 ⟨A8, c8, rfl, ho8, hg8⟩
        have HE8 := Lib.hid (Own.grown_ext HO7.out HE7.out (Nat.le_refl _) hg8)
        have HO8 : Hid (Own .u8 5 w8 w.heap.size A8 c8 O) := Lib.hid (by rw [HOO3.out]; exact ho8)
        clear ho7 ho8 hg8 he7
        by_cases hbig : 65000 < lo + 4
        · have hbi : (65000 : Int) < (lo : Int) + 4 := by omega
          have HR2 : Hid (sealL O = [] ∧ sealE O = 4) := Lib.hid (by unfold sealL sealE; rw [← Hlo.out, if_pos hbig, if_pos hbig]; exact ⟨rfl, rfl⟩)
          clear hbig
          go_wp2_with fail
          go_ret2
          exact PEncPost.bad _ (by rw [HR2.out.1, HR2.out.2]) HE8.out
        · have hbi : ¬ (65000 : Int) < (lo : Int) + 4 := by omega
          have HSe := Lib.hid (refSeal_any A8 lo c8 O w8 (HO8.out.rd' Hlo.out.symm) HU.out (by omega))
          clear hlob hvl0
          have HR2 : Hid (sealL O = sl O ∧ sealE O = 0) := Lib.hid (by unfold sealL sealE; rw [← Hlo.out, if_neg hbig, if_neg hbig]; exact ⟨rfl, rfl⟩)
          clear hbig
          have hwr : IntKind.i64.wrap ((lo : Int) + 4) = (lo : Int) + 4 := IntWalk.i64_in _ (by omega)
          have hbd : decide ((65000 : Int) < (lo : Int) + 4) = false := decide_eq_false hbi
          clear hbi hqb hpn1 hcd hw8
          go_wp2_with fail
          refine HSe.out.mono ?_
          rintro e w9 ⟨A9, c9, rfl, ho9, he9⟩
          go_wp2_with fail
          go_ret2
          exact PEncPost.good _ (by rw [HR2.out.1, HR2.out.2]) (by rw [sl_len, ← Hlo.out]) (ho9.mono HE8.out.size) (HE8.out.trans he9)
theorem noLong12 : ∀ {ss : List (List Nat)}, (∀ s ∈ ss, s.length ≤ 200) → anyLong ss = false := by
  intro ss h
  cases q : anyLong ss with
  | false => rfl
  | true =>
    unfold anyLong at q
    obtain ⟨s, hs, hl⟩ := List.any_eq_true.1 q
    have h2 := h s hs
    have h3 := of_decide_eq_true hl
    omega
theorem valR_ok (k cd : Int) {xs : List Ci} (h2 : ∀ x ∈ xs, x.txt.length ≤ 200) (hn : xs.length ≤ 4096) : (valR k cd xs).2 = 0 := by
  have h3 : ∀ s ∈ xs.map Ci.txt, s.length ≤ 200 := fun s hs => by
    obtain ⟨x, hx, rfl⟩ := List.mem_map.1 hs
    exact h2 x hx
  unfold valR
  split
  · unfold encode8; rw [if_neg (by rw [List.length_map]; omega)]
  · split
    · unfold encode9; rw [if_neg (by rw [List.length_map]; omega)]
    · split
      · rw [dencR_good (by rw [List.length_map]; exact hn) (noLong12 h3)]
      · split
        · rw [pencR_good (by rw [List.length_map]; exact hn) (noLong12 h3)]
        · rfl
theorem putR_outW (k cd : Int) {xs : List Ci} (h : chkB k xs = 0) : putR k cd xs = (outW k cd xs, 0) := by
  obtain ⟨g1, _, g3⟩ := chkB_good h
  unfold putR
  rw [if_neg (fun q => q (valR_ok k cd (fun x hx => g3 x (nn_mem hx)) (by have := nn_le xs; omega)))]
  rfl
section
variable {fs xs : List Ci} (h : fs.map Ci.val = xs.map Ci.val)
include h
theorem val_len12 : fs.length = xs.length := by simpa using congrArg List.length h
theorem val_num12 : fs.map Ci.num = xs.map Ci.num := by
  have := congrArg (List.map fun v => v.2.1) h
  rw [List.map_map, List.map_map] at this
  exact this
theorem val_txt12 : fs.map Ci.txt = xs.map Ci.txt := by
  have := congrArg (List.map fun v => v.2.2) h
  rw [List.map_map, List.map_map] at this
  exact this
theorem val_nb12 : nb fs = nb xs := by
  have := congrArg (List.map fun v => if v.1 then 1 else 0) h
  rw [List.map_map, List.map_map] at this
  exact this
theorem val_plain12 (k : Int) : plainL k fs = plainL k xs := by
  have := congrArg (fun l => (List.map (fun v => if numK k then vput (foldS v.2.1).toNat else vput v.2.2.length ++ v.2.2) l).flatten) h
  simp only [List.map_map] at this
  exact this
theorem valR_val12 (k cd : Int) : valR k cd fs = valR k cd xs := by
  unfold valR
  rw [val_num12 h, val_txt12 h, val_plain12 h]
end
theorem nn_val12 : ∀ {fs xs : List Ci}, fs.map Ci.val = xs.map Ci.val → (nn fs).map Ci.val = (nn xs).map Ci.val
  | [], [], _ => rfl
  | [], _ :: _, h => by cases h
  | _ :: _, [], h => by cases h
  | f :: fs, x :: xs, h => by
    rw [List.map_cons, List.map_cons] at h
    injection h with h1 h2
    have ih := nn_val12 h2
    have h3 : f.nul = x.nul := congrArg Prod.fst h1
    unfold nn at ih ⊢
    rw [List.filter_cons, List.filter_cons, h3]
    split
    · rw [List.map_cons, List.map_cons, h1, ih]
    · exact ih
theorem putR_val12 {fs xs : List Ci} (h : fs.map Ci.val = xs.map Ci.val) (k cd : Int) : putR k cd fs = putR k cd xs := by
  unfold putR nullsL
  rw [valR_val12 (nn_val12 h), val_len12 h, val_nb12 h]
theorem sealL_len (b : List Nat) : (sealL b).length ≤ 65000 := by
  unfold sealL
  split
  · simp
  · rw [sl_len]; omega
theorem wN_fwd : ∀ (xs : List Ci), (∀ x ∈ xs, x.nul = true → x.num = 0 ∧ x.txt = []) → wN (nb xs) ((nn xs).map Ci.val) = xs.map Ci.val
  | [], _ => rfl
  | x :: r, h => by
    have ih := wN_fwd r (fun y hy => h y (List.mem_cons_of_mem _ hy))
    have hx := h x (List.mem_cons_self ..)
    obtain ⟨nu, num, A, c, t⟩ := x
    cases nu with
    | true =>
      obtain ⟨h1, h2⟩ := hx rfl
      simp only at h1 h2
      subst h1 h2
      show wN (1 :: nb r) ((nn r).map Ci.val) = _
      rw [wN_null rfl, ih]
      rfl
    | false =>
      show wN (0 :: nb r) (Ci.val ⟨false, num, A, c, t⟩ :: (nn r).map Ci.val) = _
      rw [wN_val (by decide), ih]
      rfl
theorem nb_count : ∀ (xs : List Ci), (nb xs).count 0 = (nn xs).length
  | [] => rfl
  | x :: r => by
    have ih := nb_count r
    obtain ⟨nu, num, A, c, t⟩ := x
    cases nu with
    | true =>
      show (1 :: nb r).count 0 = (nn r).length
      rw [List.count_cons_of_ne (by decide), ih]
    | false =>
      show (0 :: nb r).count 0 = (nn r).length + 1
      rw [List.count_cons_self, ih]
theorem nullR_fwd (pre rest : List Nat) {xs : List Ci} (hn : xs.length ≤ 4096) :
    nullR (pre ++ (nullsL xs ++ rest)) pre.length xs.length = ((nb xs, ((pre.length + (nullsL xs).length : Nat) : Int)), 0) := by
  by_cases h1 : 1 ∈ nb xs
  · have hN : nullsL xs = 1 :: packB 1 (nb xs) := if_pos h1
    obtain ⟨R, hR⟩ : ∃ R, R = packB 1 (nb xs) := ⟨_, rfl⟩
    obtain ⟨u1, u2, _⟩ := unp_pack (wd := 1) (vs := nb xs) (by decide) (by rw [nb_len]; exact hn) (nb_wd xs)
    rw [← hR, nb_len] at u1 u2
    have hRl : R.length = (xs.length + 7) / 8 := by rw [hR]; unfold packB; rw [upk_len, nb_len, Nat.one_mul]
    rw [← hR] at hN
    rw [hN]
    unfold nullR
    rw [if_neg (by simp)]
    have hg : (pre ++ (1 :: R ++ rest)).getD pre.length 0 = 1 := by simp
    rw [hg, if_neg (by decide), if_pos rfl]
    have hd : ((pre ++ (1 :: R ++ rest)).drop (pre.length + 1)).take ((xs.length + 7) / 8) = R := by
      rw [← List.drop_drop, List.drop_left, List.cons_append, List.drop_succ_cons, List.drop_zero, ← hRl, List.take_left]
    unfold rowR
    rw [hd, ← hRl, if_neg (by simp; omega)]
    have u1' : unpE (pk 8 R) R.length 1 (xs.length : Int) = 0 := u1
    have u2' : unpL (pk 8 R) R.length 1 (xs.length : Int) = nb xs := u2
    rw [u1', u2', if_neg (fun q => q rfl), if_neg (by have := List.count_pos_iff.2 h1; omega), List.length_cons]
    congr 3
    omega
  · have hN : nullsL xs = [0] := if_neg h1
    rw [hN]
    unfold nullR
    rw [if_neg (by simp)]
    have hg : (pre ++ ([0] ++ rest)).getD pre.length 0 = 0 := by simp
    rw [hg, if_pos rfl]
    have hb : nb xs = List.replicate xs.length 0 := by
      rw [← nb_len xs]
      exact List.eq_replicate_of_mem fun v hv => by
        have h2 := nb_wd xs v hv
        have h3 : v ≠ 1 := fun e => h1 (e ▸ hv)
        omega
    rw [← hb]
    rfl
def Canon (k : Int) (ys : List Ci) : Prop := ∀ y ∈ ys, y.nul = false ∧ (numK k = true → y.txt = []) ∧ (numK k = false → y.num = 0) ∧ R64 y.num ∧ y.txt.length ≤ 200
theorem pcR_fwd {k : Int} {y : Ci} (pre rest : List Nat) (h1 : numK k = true → y.txt = []) (h2 : numK k = false → y.num = 0) (h3 : R64 y.num) (h4 : y.txt.length ≤ 200) :
    pcR k (pre ++ (plain1 k y ++ rest)) (pre.length : Int) = ((y.num, y.txt), ((pre.length + (plain1 k y).length : Nat) : Int), 0) := by
  unfold pcR plain1
  cases hk : numK k with
  | true =>
    rw [if_pos rfl, if_pos rfl]
    have hr := fold_range h3
    obtain ⟨g, _, _⟩ := vget_put (bs := pre ++ (vput (foldS y.num).toNat ++ rest)) (rest := rest) (a := pre.length) (u := (foldS y.num).toNat) (by omega) (by simp) (by rw [List.drop_left])
    rw [g, if_neg (fun q => q rfl), h1 hk]
    simp only
    rw [Int.toNat_of_nonneg hr.1, unf_fold]
    congr 2
  | false =>
    rw [if_neg (by decide), if_neg (by decide), List.append_assoc, dtx_put pre y.txt rest h4, h2 hk]
    congr 2
theorem plA_fwd {k : Int} : ∀ (ys : List Ci) (pre : List Nat) (acc : List Cv), Canon k ys → plA k (pre ++ plainL k ys) ys.length (pre.length : Int) acc = (acc ++ ys.map Ci.val, ((pre ++ plainL k ys).length : Int), 0)
  | [], pre, acc, _ => by simp [plA, plainL]
  | y :: r, pre, acc, h => by
    obtain ⟨y0, y1, y2, y3, y4⟩ := h y (List.mem_cons_self ..)
    have e : plainL k (y :: r) = plain1 k y ++ plainL k r := by simp [plainL]
    have ih := plA_fwd r (pre ++ plain1 k y) (acc ++ [(false, y.num, y.txt)]) (fun z hz => h z (List.mem_cons_of_mem _ hz))
    rw [List.length_cons]
    unfold plA
    rw [e, pcR_fwd pre (plainL k r) y1 y2 y3 y4, if_neg (fun q => q rfl)]
    simp only
    rw [List.append_assoc, List.length_append] at ih
    rw [ih, List.map_cons, List.append_assoc]
    have hv : y.val = (false, y.num, y.txt) := by unfold Ci.val; rw [y0]
    rw [hv]
    rfl
theorem valuesR_fwd (k cd : Int) (hm : cd ∈ codecs k) {ys : List Ci} (hc : Canon k ys) (hl : ys.length ≤ 4096) : valuesR k cd (valR k cd ys).1 ys.length = (ys.map Ci.val, 0) := by
  have h64 : R64s (ys.map Ci.num) := fun v hv => by
    obtain ⟨y, hy, rfl⟩ := List.mem_map.1 hv
    exact (hc y hy).2.2.2.1
  have h200 : ∀ s ∈ ys.map Ci.txt, s.length ≤ 200 := fun s hs => by
    obtain ⟨y, hy, rfl⟩ := List.mem_map.1 hs
    exact (hc y hy).2.2.2.2
  have hz : numK k = true → (ys.map Ci.num).map (fun v => (false, v, ([] : List Nat))) = ys.map Ci.val := fun hk => by
    rw [List.map_map]
    refine List.map_congr_left fun y hy => ?_
    obtain ⟨y0, y1, _⟩ := hc y hy
    show (false, y.num, []) = (y.nul, y.num, y.txt)
    rw [y0, y1 hk]
  have ht : numK k = false → (ys.map Ci.txt).map (fun t => (false, (0 : Int), t)) = ys.map Ci.val := fun hk => by
    rw [List.map_map]
    refine List.map_congr_left fun y hy => ?_
    obtain ⟨y0, _, y2, _⟩ := hc y hy
    show (false, 0, y.txt) = (y.nul, y.num, y.txt)
    rw [y0, y2 hk]
  have hln : (ys.map Ci.num).length = ys.length := List.length_map ..
  have hlt : (ys.map Ci.txt).length = ys.length := List.length_map ..
  unfold valuesR
  by_cases c1 : cd = 1
  · subst c1
    rw [if_pos rfl]
    have hv : valR k 1 ys = (plainL k ys, 0) := rfl
    rw [hv]
    have h := plA_fwd ys [] [] hc
    rw [List.nil_append, List.nil_append] at h
    unfold gplR
    have h' : plA k (plainL k ys) ys.length 0 [] = (ys.map Ci.val, ((plainL k ys).length : Int), 0) := h
    rw [h', if_neg (fun q => q rfl), if_neg (Int.lt_irrefl _)]
  rw [if_neg c1]
  have done : ∀ b, codR cd b = (ys.map Ci.val, 0) → (if (codR cd b).2 ≠ 0 then (([] : List Cv), (codR cd b).2) else if (codR cd b).1.length ≠ ys.length then ([], 5) else ((codR cd b).1, 0)) = (ys.map Ci.val, 0) := fun b hb => by
    rw [hb, if_neg (fun q => q rfl), if_neg (fun q => q (List.length_map ..))]
  refine done _ ?_
  unfold codR valR
  unfold codecs at hm
  cases hk : numK k with
  | true =>
    rw [hk, if_pos rfl] at hm
    by_cases c2 : cd = 2
    · subst c2
      rw [if_pos rfl, if_pos rfl]
      have hs : encode8 (ys.map Ci.num) = (encR (rsp (ys.map Ci.num)), 0) := by unfold encode8; rw [if_neg (by omega)]
      have hd : decode8 (encR (rsp (ys.map Ci.num))) = (ys.map Ci.num, 0) := by
        have := decode8_enc (rs := rsp (ys.map Ci.num)) [] (rsp_good h64) (by rw [rsp_flat h64]; omega)
        rw [List.append_nil, if_pos rfl, rsp_flat h64] at this
        exact this
      rw [hs, hd]
      unfold zR
      rw [if_neg (fun q => q rfl), hz hk]
    · have c3 : cd = 3 := by simp at hm; omega
      subst c3
      rw [if_neg (by decide), if_pos rfl, if_neg (by decide), if_pos rfl]
      have hs : encode9 (ys.map Ci.num) = (encP (ys.map Ci.num), 0) := by unfold encode9; rw [if_neg (by omega)]
      rw [hs, (back9 h64 (by omega)).1]
      unfold zR
      rw [if_neg (fun q => q rfl), hz hk]
  | false =>
    rw [hk, if_neg (by decide)] at hm
    by_cases c4 : cd = 4
    · subst c4
      rw [if_neg (by decide), if_neg (by decide), if_pos rfl, if_neg (by decide), if_neg (by decide), if_pos rfl, dencR_good (by omega) (noLong12 h200), ddec_put (by omega) (noLong12 h200)]
      unfold tR
      rw [if_neg (fun q => q rfl), ht hk]
    · have c5 : cd = 5 := by simp at hm; omega
      subst c5
      rw [if_neg (by decide), if_neg (by decide), if_neg (by decide), if_neg (by decide), if_neg (by decide), if_neg (by decide), if_pos rfl, pencR_good (by omega) (noLong12 h200)]
      have hp := pdec_put (ys.map Ci.txt) [] (by omega) h200
      rw [List.append_nil] at hp
      have hp2 : pdec (penc (ys.map Ci.txt)) = (ys.map Ci.txt, 0) := hp
      show tR (pdec (penc (ys.map Ci.txt))) = _
      rw [hp2]
      unfold tR
      rw [if_neg (fun q => q rfl), ht hk]
theorem chk_canon {k : Int} {nul : Bool} {num : Int} {txt : List Nat} (hk : 1 ≤ k ∧ k ≤ 8) (h : chk k true nul num txt = 0) :
    (nul = true → num = 0 ∧ txt = []) ∧ (nul = false → (numK k = true → txt = []) ∧ (numK k = false → num = 0)) := by
  constructor
  · rintro rfl
    rw [chk_null hk, if_pos rfl] at h
    by_cases q : num ≠ 0 ∨ 0 < txt.length
    · rw [if_pos q] at h; exact absurd h (by decide)
    · exact ⟨Decidable.not_not.1 (fun e => q (.inl e)), List.eq_nil_of_length_eq_zero (by have : ¬ 0 < txt.length := fun e => q (.inr e); omega)⟩
  · rintro rfl
    constructor
    · intro h6
      have h6' := of_decide_eq_true h6
      rw [chk_num h6'] at h
      by_cases q : 0 < txt.length
      · rw [if_pos q] at h; exact absurd h (by decide)
      · exact List.eq_nil_of_length_eq_zero (by omega)
    · intro h6
      have h6' := of_decide_eq_false h6
      rw [chk_txt (by omega)] at h
      by_cases q : num ≠ 0
      · rw [if_pos q] at h; exact absurd h (by decide)
      · exact Decidable.not_not.1 q
theorem canon_of {k : Int} {xs : List Ci} (hk : 1 ≤ k ∧ k ≤ 8) (h : chkB k xs = 0) (h64 : R64s (xs.map Ci.num)) : Canon k (nn xs) ∧ ∀ x ∈ xs, x.nul = true → x.num = 0 ∧ x.txt = [] := by
  obtain ⟨_, g2, g3⟩ := chkB_good h
  refine ⟨fun y hy => ?_, fun x hx hn => (chk_canon hk (g2 x hx)).1 hn⟩
  have hyx := nn_mem hy
  have hn : y.nul = false := by
    have := (List.mem_filter.1 hy).2
    simpa using this
  obtain ⟨c1, c2⟩ := (chk_canon hk (g2 y hyx)).2 hn
  exact ⟨hn, c1, c2, h64 _ (List.mem_map_of_mem hyx), g3 y hyx⟩
theorem getB_fwd (k cd : Int) (hm : cd ∈ codecs k) (hk : 1 ≤ k ∧ k ≤ 8) {xs : List Ci} (h : chkB k xs = 0) (h64 : R64s (xs.map Ci.num)) : getB k (outW k cd xs) = (xs.map Ci.val, 0) := by
  obtain ⟨hc, hnul⟩ := canon_of hk h h64
  obtain ⟨g1, _, _⟩ := chkB_good h
  have hcd := codecs_mem hm
  obtain ⟨d, rfl⟩ : ∃ d : Nat, cd = d := ⟨cd.toNat, by omega⟩
  have hv := valuesR_fwd k d hm hc (by have := nn_le xs; omega)
  have hbs : outW k d xs = ([d] ++ vput xs.length) ++ (nullsL xs ++ (valR k d (nn xs)).1) := by unfold outW; rw [Int.toNat_natCast, List.append_assoc]
  obtain ⟨V, hV⟩ : ∃ V, V = (valR k d (nn xs)).1 := ⟨_, rfl⟩
  rw [← hV] at hv hbs
  have hN := nullR_fwd ([d] ++ vput xs.length) V g1
  rw [← hbs] at hN
  obtain ⟨bs, hb⟩ : ∃ bs, bs = outW k d xs := ⟨_, rfl⟩
  rw [← hb] at hN hbs ⊢
  have hlen : bs.length ≠ 0 := by rw [hbs]; simp
  have hd0 : bs.getD 0 0 = d := by rw [hbs]; rfl
  obtain ⟨q, _, _⟩ := vget_put (bs := bs) (rest := nullsL xs ++ V) (a := 1) (u := xs.length) (by omega) (by omega) (by rw [hbs]; rfl)
  have q' : vget bs 1 = (xs.length, ((([d] ++ vput xs.length).length : Nat) : Int), 0) := by
    have q1 : vget bs 1 = (xs.length, 1 + ((vput xs.length).length : Int), 0) := q
    rw [q1, List.length_append, List.length_singleton]
    congr 2
  have hdrop : bs.drop (([d] ++ vput xs.length).length + (nullsL xs).length) = V := by
    rw [hbs, ← List.drop_drop, List.drop_left, List.drop_left]
  unfold getB
  rw [if_neg hlen, hd0, if_neg (fun e => e hm), q']
  simp only [Int.toNat_natCast]
  rw [hN]
  simp only [Int.toNat_natCast]
  rw [hdrop, nb_count, hv]
  simp only [ne_eq, not_true_eq_false, if_false]
  rw [if_neg (by omega), wN_fwd xs hnul]
theorem bencR_ok {k cd : Int} {xs : List Ci} (h : (bencR k cd xs).2 = 0) : (1 ≤ k ∧ k ≤ 8) ∧ cd ∈ codecs k ∧ chkB k xs = 0 ∧ (outW k cd xs).length + 4 ≤ 65000 ∧ bencR k cd xs = (sl (outW k cd xs), 0) := by
  unfold bencR at h ⊢
  by_cases h1 : kindK k = false
  · rw [if_pos h1] at h; exact absurd h (by decide)
  rw [if_neg h1] at h ⊢
  by_cases h2 : cd ∈ codecs k
  · rw [if_neg (fun q => q h2)] at h ⊢
    by_cases h3 : chkB k xs = 0
    · rw [if_neg (fun q => q h3), putR_outW k cd h3, if_neg (fun q => q rfl)] at h ⊢
      have h4 : sealE (outW k cd xs) = 0 := h
      have h5 : (outW k cd xs).length + 4 ≤ 65000 := by
        unfold sealE at h4
        by_cases q : 65000 < (outW k cd xs).length + 4
        · rw [if_pos q] at h4; exact absurd h4 (by decide)
        · omega
      refine ⟨?_, h2, h3, h5, ?_⟩
      · exact Decidable.byContradiction fun q => h1 (decide_eq_false q)
      · simp only
        rw [h4]
        unfold sealL
        rw [if_neg (by omega)]
    · rw [if_pos h3] at h; exact absurd h h3
  · rw [if_pos h2] at h; exact absurd h (by decide)
theorem bdec_fwd {k cd : Int} {xs : List Ci} (h64 : R64s (xs.map Ci.num)) (hu : ∀ x ∈ xs, U8 x.txt) (h : (bencR k cd xs).2 = 0) : bdecR k (bencR k cd xs).1 = (xs.map Ci.val, 0) := by
  obtain ⟨hk, hm, hc, hl, he⟩ := bencR_ok h
  rw [he]
  have hU := outW_u8 k cd (codecs_mem hm) h64 hu
  have hG := getB_fwd k cd hm hk hc h64
  obtain ⟨O, hO⟩ : ∃ O, O = outW k cd xs := ⟨_, rfl⟩
  rw [← hO] at hU hG hl ⊢
  show bdecR k (sl O) = _
  have ht : (sl O).take ((sl O).length - 4) = O := by
    rw [sl_len, Nat.add_sub_cancel]
    unfold sl
    rw [List.take_left]
  unfold bdecR
  rw [if_neg (by unfold kindK; rw [decide_eq_true hk]; decide), if_neg (by rw [sl_len]; omega), if_neg (fun q => q (sld_seal hU)), ht, hG, if_neg (fun q => q rfl)]
  simp only
  rw [← chkB_val, hc, if_neg (fun q => q rfl)]
theorem bestF_spec {k : Int} {xs : List Ci} (hc : chkB k xs = 0) : ∀ (L : List Int) (s : Int × List Nat), (∀ cd ∈ L, cd ∈ codecs k) → (s.1 ≠ 0 → s.2 = outW k s.1 xs ∧ s.1 ∈ codecs k) →
    ∃ r, bestF k xs L s = (r, 0) ∧ (r.1 ≠ 0 → r.2 = outW k r.1 xs ∧ r.1 ∈ codecs k) ∧ (∀ cd ∈ L, r.1 ≠ 0 ∧ r.2.length ≤ (outW k cd xs).length) ∧ (s.1 ≠ 0 → r.1 ≠ 0 ∧ r.2.length ≤ s.2.length)
  | [], s, _, hs => ⟨s, rfl, hs, fun cd h => (by cases h), fun h => ⟨h, Nat.le_refl _⟩⟩
  | cd :: cs, s, hL, hs => by
    have hcd := hL cd (List.mem_cons_self ..)
    have hne : cd ≠ 0 := by have := codecs_mem hcd; omega
    unfold bestF
    rw [putR_outW k cd hc, if_neg (fun q => q rfl)]
    simp only
    by_cases q : s.1 = 0 ∨ (outW k cd xs).length < s.2.length
    · rw [if_pos q]
      obtain ⟨r, r1, r2, r3, r4⟩ := bestF_spec hc cs (cd, outW k cd xs) (fun c h => hL c (List.mem_cons_of_mem _ h)) (fun _ => ⟨rfl, hcd⟩)
      obtain ⟨r5, r6⟩ := r4 hne
      refine ⟨r, r1, r2, fun c h => ?_, fun h => ⟨r5, ?_⟩⟩
      · rcases List.mem_cons.1 h with rfl | h
        · exact ⟨r5, r6⟩
        · exact r3 c h
      · have r6' : r.2.length ≤ (outW k cd xs).length := r6
        rcases q with q | q
        · exact absurd q h
        · omega
    · rw [if_neg q]
      have hs1 : s.1 ≠ 0 := fun e => q (.inl e)
      have hs2 : ¬ (outW k cd xs).length < s.2.length := fun e => q (.inr e)
      obtain ⟨r, r1, r2, r3, r4⟩ := bestF_spec hc cs s (fun c h => hL c (List.mem_cons_of_mem _ h)) hs
      obtain ⟨r5, r6⟩ := r4 hs1
      refine ⟨r, r1, r2, fun c h => ?_, r4⟩
      rcases List.mem_cons.1 h with rfl | h
      · exact ⟨r5, by omega⟩
      · exact r3 c h
def stepR (k : Int) (xs : List Ci) (c : Int) (t : Int × List Nat) : Int × List Nat :=
  if sealE (outW k c xs) = 0 ∧ (t.1 = 0 ∨ (sealL (outW k c xs)).length < t.2.length) then (c, sealL (outW k c xs)) else t
def rbN (k : Int) (xs : List Ci) : Nat → Int → Int × List Nat → Int × List Nat
  | 0, _, t => t
  | m + 1, c, t => rbN k xs m (c + 1) (if c ∈ codecs k then stepR k xs c t else t)
def foldR (k : Int) (xs : List Ci) : List Int → Int × List Nat → Int × List Nat
  | [], t => t
  | c :: cs, t => foldR k xs cs (stepR k xs c t)
theorem rbN_fold (k : Int) (xs : List Ci) (t : Int × List Nat) : rbN k xs 5 1 t = foldR k xs (codecs k) t := by
  have h1 : (1 : Int) ∈ codecs k := by unfold codecs; split <;> simp
  cases hk : numK k with
  | true =>
    have e : codecs k = [1, 2, 3] := by unfold codecs; rw [hk]; rfl
    simp only [rbN, e]
    rw [if_neg (by decide), if_neg (by decide), if_pos (by decide), if_pos (by decide), if_pos (by decide)]
    rfl
  | false =>
    have e : codecs k = [1, 4, 5] := by unfold codecs; rw [hk]; rfl
    simp only [rbN, e]
    rw [if_pos (by decide), if_pos (by decide), if_neg (by decide), if_neg (by decide), if_pos (by decide)]
    rfl
theorem sealE_iff (b : List Nat) : sealE b = 0 ↔ ¬ 65000 < b.length + 4 := by
  unfold sealE
  split
  · rename_i h; exact ⟨fun e => absurd e (by decide), fun e => absurd h e⟩
  · rename_i h; exact ⟨fun _ => h, fun _ => rfl⟩
theorem sealL_ok {b : List Nat} (h : sealE b = 0) : sealL b = sl b := if_neg ((sealE_iff b).1 h)
def held12 (s : Int × List Nat) : Int × List Nat := if s.1 = 0 then (0, []) else if sealE s.2 = 0 then (s.1, sl s.2) else (0, [])
theorem held_step {k c : Int} {xs : List Ci} (hc : c ≠ 0) (s : Int × List Nat) : stepR k xs c (held12 s) = held12 (if s.1 = 0 ∨ (outW k c xs).length < s.2.length then (c, outW k c xs) else s) := by
  unfold stepR
  obtain ⟨o, ho⟩ : ∃ o, o = outW k c xs := ⟨_, rfl⟩
  rw [← ho]
  have ho4 : (sl o).length = o.length + 4 := sl_len o
  have hs4 : (sl s.2).length = s.2.length + 4 := sl_len s.2
  have hnew : held12 (c, o) = if sealE o = 0 then (c, sl o) else (0, []) := by unfold held12; rw [if_neg hc]
  by_cases q0 : s.1 = 0
  · have hh : held12 s = (0, []) := if_pos q0
    rw [if_pos (Or.inl q0), hh, hnew]
    by_cases e : sealE o = 0
    · rw [if_pos ⟨e, Or.inl rfl⟩, if_pos e, sealL_ok e]
    · rw [if_neg (fun q => e q.1), if_neg e]
  · by_cases f : sealE s.2 = 0
    · have hh : held12 s = (s.1, sl s.2) := by unfold held12; rw [if_neg q0, if_pos f]
      have f' := (sealE_iff _).1 f
      by_cases l : o.length < s.2.length
      · have e : sealE o = 0 := (sealE_iff _).2 (by omega)
        rw [if_pos (Or.inr l), hnew, if_pos e, hh, sealL_ok e, if_pos ⟨e, Or.inr (by simp only; omega)⟩]
      · rw [if_neg (show ¬ (s.1 = 0 ∨ o.length < s.2.length) from fun q => q.elim q0 l), hh]
        rw [if_neg]
        rintro ⟨e, q⟩
        rw [sealL_ok e] at q
        rcases q with q | q
        · exact q0 q
        · simp only at q; omega
    · have hh : held12 s = (0, []) := by unfold held12; rw [if_neg q0, if_neg f]
      have f' : 65000 < s.2.length + 4 := Decidable.byContradiction fun q => f ((sealE_iff _).2 q)
      by_cases l : o.length < s.2.length
      · rw [if_pos (Or.inr l), hnew, hh]
        by_cases e : sealE o = 0
        · rw [if_pos ⟨e, Or.inl rfl⟩, if_pos e, sealL_ok e]
        · rw [if_neg (fun q => e q.1), if_neg e]
      · have e : ¬ sealE o = 0 := fun e => (sealE_iff _).1 e (by omega)
        rw [if_neg (show ¬ (s.1 = 0 ∨ o.length < s.2.length) from fun q => q.elim q0 l), hh, if_neg (fun q => e q.1)]
theorem held_fold {k : Int} {xs : List Ci} (hc : chkB k xs = 0) : ∀ (L : List Int) (s : Int × List Nat), (∀ c ∈ L, c ≠ 0) → ∃ r, bestF k xs L s = (r, 0) ∧ foldR k xs L (held12 s) = held12 r
  | [], s, _ => ⟨s, rfl, rfl⟩
  | c :: cs, s, h => by
    unfold bestF foldR
    rw [putR_outW k c hc, if_neg (fun q => q rfl), held_step (h c (List.mem_cons_self ..))]
    exact held_fold hc cs _ (fun d q => h d (List.mem_cons_of_mem _ q))
theorem bbest_held {k : Int} {xs : List Ci} (hk : 1 ≤ k ∧ k ≤ 8) (hc : chkB k xs = 0) : bbestR k xs = if (rbN k xs 5 1 (0, [])).1 = 0 then ((0, []), 4) else (rbN k xs 5 1 (0, []), 0) := by
  obtain ⟨r, r1, r2⟩ := held_fold hc (codecs k) (0, []) (fun c h => by have := codecs_mem h; omega)
  obtain ⟨r', s1, s2, s3, _⟩ := bestF_spec hc (codecs k) (0, []) (fun c q => q) (fun q => absurd rfl q)
  have e0 : held12 (0, []) = (0, []) := if_pos rfl
  rw [rbN_fold, ← e0, r2, e0]
  have hr : r = r' := by
    rw [r1] at s1
    exact congrArg Prod.fst s1
  subst hr
  have hne := (s3 1 (by unfold codecs; split <;> simp)).1
  have hK : ¬ kindK k = false := by unfold kindK; rw [decide_eq_true hk]; decide
  unfold bbestR
  rw [if_neg hK, if_neg (fun q => q hc), r1, if_neg (fun q => q rfl)]
  simp only
  by_cases e : sealE r.2 = 0
  · have hh : held12 r = (r.1, sl r.2) := by unfold held12; rw [if_neg hne, if_pos e]
    rw [if_neg (fun q => q e), hh, if_neg hne, sealL_ok e]
  · have hh : held12 r = (0, []) := by unfold held12; rw [if_neg hne, if_neg e]
    rw [if_pos e, hh, if_pos rfl]
    have : sealE r.2 = 4 := by
      unfold sealE at e ⊢
      split
      · rfl
      · rename_i q; rw [if_neg q] at e; exact absurd rfl e
    rw [this]
set_option maxHeartbeats 6400000 in
theorem refBest_any (k : Int) (A : Option Addr) (n c : Nat) (xs : List Ci) (w : World) (hx : RdX w A n xs) (hc : CapX xs) (hn : n ≤ 281474976710656) :
    Calls Tryz.prog 95 #[.int .i64 k, .slice A n c] w (BestPost (bbestR k xs) w) := by
  have HC := Lib.hid (fun W (hW : Ext w W) => refCheckB_any k A n c xs W (hx.ext hW) hn)
  by_cases hk : 1 ≤ k ∧ k ≤ 8
  · have HF := Lib.hid (fun v W => refFits_any k v W hk)
    have hk0 := hk.1
    have hk8 := hk.2
    by_cases hz : chkB k xs = 0
    · have HR := Lib.hid (bbest_held hk hz)
      obtain ⟨g1, g2, g3⟩ := chkB_good hz
      have HW := Lib.hid (fun cd (hcd : 1 ≤ cd ∧ cd ≤ 5) W (hW : Ext w W) => refWrite_any k cd A n c xs W (hx.ext hW) hc hk hcd (by rw [← hx.1]; exact g1) g3)
      unfold PEncPost at HW
      obtain ⟨R, hR⟩ : ∃ R, R = rbN k xs 5 1 (0, []) := ⟨_, rfl⟩
      rw [← hR] at HR
      have HS0 : Hid (rbN k xs (6 - 1) ((1 : Nat) : Int) (0, []) = R) := Lib.hid hR.symm
      rw [hz] at HC
      have HO0 : Hid (Own .u8 5 w w.heap.size none 0 []) := Lib.hid (Own.nil ..)
      clear g1 g2 g3 hz hx hc hR hk
      go_enter Tryz.func95, Tryz.ntmps95
      go_wp2_with fail
      refine (HC.out _ (Ext.refl _)).mono ?_
      rintro e w1 ⟨rfl, he1⟩
      have HO1 := Lib.hid ((Own.made .u8 5 w1 (Nat.le_refl _)).mono he1.size)
      have HE1 := Lib.hid (he1.alloc (.cells #[] 5))
      go_wp2_with fail
      go_loopw [8, 9, 10] (fun cc v i wr => ∃ (j L : Nat) (cv : Int) (bst : List Nat) (Ab : Option Addr) (cb : Nat), 1 ≤ j ∧ j ≤ 6 ∧ i = .int .i64 (j : Int) ∧ cc = .int .i64 cv ∧ v = .slice Ab L cb ∧ Hid (bst.length = L) ∧ L ≤ 65000 ∧ Hid (rbN k xs (6 - j) (j : Int) (cv, bst) = R) ∧ Hid (Own .u8 5 wr w.heap.size Ab cb bst) ∧ Hid (Ext w wr)) (fun _ _ i _ => 6 - (intOf i).toNat)
      case atStart => exact ⟨1, 0, 0, [], _, _, Nat.le_refl _, by decide, rfl, rfl, rfl, rfl, by decide, HS0.out, HO1.out, HE1.out⟩
      case round =>
        clear HO1 HE1 HS0 HO0
        obtain ⟨j, L, cv, bst, Ab, cb, hj1, hj6, rfl, rfl, rfl, HL, hL, HS, HO, HE⟩ := hrel
        by_cases hlt : j < 6
        · have hst : rbN k xs (6 - (j + 1)) ((j : Int) + 1) (if (j : Int) ∈ codecs k then stepR k xs j (cv, bst) else (cv, bst)) = R := by
            have h := HS.out
            rw [show 6 - j = (6 - (j + 1)) + 1 by omega] at h
            exact h
          have hj1' : ((j + 1 : Nat) : Int) = (j : Int) + 1 := by omega
          rw [← hj1'] at hst
          by_cases hm : (j : Int) ∈ codecs k
          · have hFj := HF.out (j : Int)
            rw [decide_eq_true hm] at hFj
            rw [if_pos hm] at hst
            have hcd := codecs_mem hm
            have HWj := Lib.hid (HW.out (j : Int) hcd)
            have HFj := Lib.hid hFj
            unfold stepR at hst
            by_cases he : sealE (outW k j xs) = 0
            · rw [he] at HWj
              have hpl := sealL_len (outW k j xs)
              obtain ⟨P, hP⟩ : ∃ P, P = sealL (outW k j xs) := ⟨_, rfl⟩
              rw [← hP] at HWj hst hpl
              obtain ⟨p, hp⟩ : ∃ p, p = P.length := ⟨_, rfl⟩
              rw [← hp] at HWj hpl
              have Hp := Lib.hid hp.symm
              by_cases ht : cv = 0 ∨ P.length < bst.length
              · rw [if_pos ⟨he, ht⟩] at hst
                have HS2 := Lib.hid hst
                by_cases hc0 : cv = 0
                · clear hst hm he hP hp ht hFj hcd
                  subst hc0
                  go_wp2_with fail
                  refine (HFj.out _).mono ?_
                  rintro e w2 ⟨rfl, rfl⟩
                  go_wp2_with fail
                  refine (HWj.out _ HE.out).mono ?_
                  rintro e w3 ⟨A3, c3, rfl, ho3, he3⟩
                  have HO3 := Lib.hid (ho3.mono HE.out.size)
                  have HE3 := Lib.hid (HE.out.trans he3)
                  go_wp2_with fail
                  go_roundw
                  case rel => exact ⟨j + 1, p, (j : Int), P, A3, c3, by omega, by omega, by go_num, rfl, rfl, Hp.out, hpl, HS2.out, HO3.out, HE3.out⟩
                  case measure => simp [intOf]; omega
                · have hlt2 : (p : Int) < (L : Int) := by
                    have h1 := HL.out
                    rcases ht with q | q
                    · exact absurd q hc0
                    · omega
                  have hcb : (cv == 0) = false := beq_eq_false_iff_ne.2 hc0
                  clear hst hm he hP hp ht hFj hcd hc0
                  go_wp2_with fail
                  refine (HFj.out _).mono ?_
                  rintro e w2 ⟨rfl, rfl⟩
                  go_wp2_with fail
                  refine (HWj.out _ HE.out).mono ?_
                  rintro e w3 ⟨A3, c3, rfl, ho3, he3⟩
                  have HO3 := Lib.hid (ho3.mono HE.out.size)
                  have HE3 := Lib.hid (HE.out.trans he3)
                  go_wp2_with fail
                  go_roundw
                  case rel => exact ⟨j + 1, p, (j : Int), P, A3, c3, by omega, by omega, by go_num, rfl, rfl, Hp.out, hpl, HS2.out, HO3.out, HE3.out⟩
                  case measure => simp [intOf]; omega
              · rw [if_neg (fun q => ht q.2)] at hst
                have HS2 := Lib.hid hst
                have hcb : (cv == 0) = false := beq_eq_false_iff_ne.2 (fun q => ht (.inl q))
                have hlt2 : ¬ (p : Int) < (L : Int) := by
                  have h1 := HL.out
                  have : ¬ P.length < bst.length := fun q => ht (.inr q)
                  omega
                clear hst hm he hP hp ht hFj hcd
                go_wp2_with fail
                refine (HFj.out _).mono ?_
                rintro e w2 ⟨rfl, rfl⟩
                go_wp2_with fail
                refine (HWj.out _ HE.out).mono ?_
                rintro e w3 ⟨A3, c3, rfl, ho3, he3⟩
                have HO3 := Lib.hid (HO.out.ext he3)
                have HE3 := Lib.hid (HE.out.trans he3)
                go_wp2_with fail
                go_roundw
                case rel => exact ⟨j + 1, L, cv, bst, Ab, cb, by omega, by omega, by go_num, rfl, rfl, HL.out, hL, HS2.out, HO3.out, HE3.out⟩
                case measure => simp [intOf]; omega
            · rw [if_neg (fun q => he q.1)] at hst
              have HS2 := Lib.hid hst
              obtain ⟨E, hE⟩ : ∃ E, E = sealE (outW k j xs) := ⟨_, rfl⟩
              obtain ⟨P, hP⟩ : ∃ P, P = sealL (outW k j xs) := ⟨_, rfl⟩
              rw [← hE, ← hP] at HWj
              rw [← hE] at he
              have heb : (E == 0) = false := beq_eq_false_iff_ne.2 he
              clear hst hm he hE hP hFj hcd
              go_wp2_with fail
              refine (HFj.out _).mono ?_
              rintro e w2 ⟨rfl, rfl⟩
              go_wp2_with fail
              refine (HWj.out _ HE.out).mono ?_
              rintro e w3 ⟨A3, c3, rfl, ho3, he3⟩
              have HO3 := Lib.hid (HO.out.ext he3)
              have HE3 := Lib.hid (HE.out.trans he3)
              go_wp2_with fail
              go_roundw
              case rel => exact ⟨j + 1, L, cv, bst, Ab, cb, by omega, by omega, by go_num, rfl, rfl, HL.out, hL, HS2.out, HO3.out, HE3.out⟩
              case measure => simp [intOf]; omega
          · have hFj := HF.out (j : Int)
            rw [decide_eq_false hm] at hFj
            rw [if_neg hm] at hst
            have HS2 := Lib.hid hst
            have HFj := Lib.hid hFj
            clear hst hm hFj
            go_wp2_with fail
            refine (HFj.out _).mono ?_
            rintro e w2 ⟨rfl, rfl⟩
            go_wp2_with fail
            go_roundw
            case rel => exact ⟨j + 1, L, cv, bst, Ab, cb, by omega, by omega, by go_num, rfl, rfl, HL.out, hL, HS2.out, HO.out, HE.out⟩
            case measure => simp [intOf]; omega
        · obtain rfl : j = 6 := by omega
          have hS : (cv, bst) = R := HS.out
          subst hS
          have hR := HR.out
          simp only at hR
          by_cases hc0 : cv = 0
          · subst hc0
            rw [if_pos rfl] at hR
            have HR2 := Lib.hid hR
            clear hR
            go_wp2_with fail
            go_ret3
            exact BestPost.bad _ HR2.out HE.out
          · have hcb : (cv == 0) = false := beq_eq_false_iff_ne.2 hc0
            rw [if_neg hc0] at hR
            have HR2 := Lib.hid hR
            clear hR hc0
            go_wp2_with fail
            go_ret3
            rw [HR2.out]
            exact ⟨Ab, cb, by simp only; rw [HL.out]; rfl, HO.out, HE.out⟩
    · obtain ⟨E, hE⟩ : ∃ E, E = chkB k xs := ⟨_, rfl⟩
      have hK : ¬ kindK k = false := by unfold kindK; rw [decide_eq_true hk]; decide
      have HR : Hid (bbestR k xs = ((0, []), E)) := Lib.hid (by unfold bbestR; rw [if_neg hK, if_pos hz, hE])
      rw [← hE] at HC hz
      have hzb : (E == 0) = false := beq_eq_false_iff_ne.2 hz
      clear hz hx hc hE hK HF hk
      go_enter Tryz.func95, Tryz.ntmps95
      go_wp2_with fail
      refine (HC.out _ (Ext.refl _)).mono ?_
      rintro e w1 ⟨rfl, he1⟩
      go_wp2_with fail
      go_ret3
      exact BestPost.bad _ HR.out he1
  · have HR : Hid (bbestR k xs = ((0, []), 1)) := Lib.hid (by unfold bbestR; rw [if_pos (by unfold kindK; rw [decide_eq_false hk])])
    clear hx hc HC
    by_cases h1 : k < 1
    · clear hk
      go_enter Tryz.func95, Tryz.ntmps95
      go_wp2_with fail
      go_ret3
      exact BestPost.bad _ HR.out (Ext.refl _)
    · have h8 : 8 < k := by omega
      clear hk
      go_enter Tryz.func95, Tryz.ntmps95
      go_wp2_with fail
      go_ret3
      exact BestPost.bad _ HR.out (Ext.refl _)
theorem bestF_val12 {k : Int} {fs xs : List Ci} (h : fs.map Ci.val = xs.map Ci.val) : ∀ (L : List Int) (s : Int × List Nat), bestF k fs L s = bestF k xs L s
  | [], _ => rfl
  | c :: cs, s => by
    unfold bestF
    rw [putR_val12 h]
    split
    · rfl
    · exact bestF_val12 h cs _
theorem bbestR_val12 {k : Int} {fs xs : List Ci} (h : fs.map Ci.val = xs.map Ci.val) : bbestR k fs = bbestR k xs := by
  unfold bbestR
  rw [chkB_val, chkB_val, h, bestF_val12 h]
def shB : Shape Bool := ⟨fun b => [.bool b], 1, fun _ => rfl, by intro x u hu; simp at hu; subst hu; rfl⟩
theorem own_neGU {T : Type} {s : Shape T} {e : TypeId} {w : World} {base base' c c' : Nat} {A A' : Option Addr} {ts : List T} {xs : List Nat} (hne : e ≠ 5) (h : OwnG s e w base A c ts) (k : Own .u8 5 w base' A' c' xs) : ∀ a, A' = some a → some a.block ≠ (Value.slice A ts.length c).ownBlock := by
  rintro a rfl e
  rcases h.2 with ⟨hv, _⟩ | ⟨g, cap, cur, hv, hg, hh, _⟩
  · rw [hv] at e; simp [Value.ownBlock] at e
  · rw [hv] at e
    simp [Value.ownBlock] at e
    rcases k.2 with ⟨hv', _⟩ | ⟨g', cap', cur', hv', _, hh', _⟩
    · cases hv'
    · injection hv' with hA
      injection hA with hA
      subst hA
      simp at e
      subst e
      rw [hh] at hh'
      injection hh' with hh'
      injection hh' with h1 h2 h3
      exact absurd h2 hne
theorem DTd.store {w wr : World} {A A7 : Option Addr} {c c7 b p : Nat} {ts : List Sl} {us : List Bool} {v : Value} (h : DTd w wr A c ts) (k : OwnG shB 4 wr w.heap.size A7 c7 us) (hA : A7 = some ⟨b, 0, none⟩) (hp : 0 < us.length) (hb : w.heap.size ≤ b) (hg : wr.grownBy (wr.setCell ⟨b, p, none⟩ v) (some b)) : DTd w (wr.setCell ⟨b, p, none⟩ v) A c ts := by
  have hob : (Value.slice A7 us.length c7).ownBlock = some b := by
    rcases k.2 with ⟨_, h0⟩ | ⟨g, cap, cur, hv, _⟩
    · omega
    · rw [hv]
      injection hv with hv1
      rw [hA] at hv1
      injection hv1 with hv1
      injection hv1 with hv1
      subst hv1
      rfl
  refine ⟨h.row.grown hg ?_, ⟨fun s hs => (h.txt.own s hs).grown hg ?_, h.txt.apart⟩, h.ext.setCell (p := ⟨b, p, none⟩) hb v⟩
  · rw [← hob]; exact own_neG (by decide) k h.row
  · rw [← hob]; exact own_neGU (by decide) k (h.txt.own s hs)
end Go.Proofs.YthibbgmicmfkfaaGreat
