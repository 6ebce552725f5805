/-
  Layer 17: every call, in every order: walked.
-/
import Derived.Test.YtkmnhapeohlooaaMR5
namespace Go.Proofs.Ytkmnhapeohlooaa
open Go.RowKit Go.Maps
set_option maxRecDepth 100000

/-- The document's clock lies in a variable of the call's own. -/
structure Var (w : World) (g : Nat) (now last mark : Int) (fl pn : Value) : Prop where
  blk : w.heap[g]? = some (.cells (ccs now last mark fl pn) 28 (0, 0))
theorem Var.lt {w : World} {g : Nat} {now last mark : Int} {fl pn : Value} (h : Var w g now last mark fl pn) : g < w.heap.size := (Array.getElem?_eq_some_iff.1 h.blk).1
theorem Var.ext {w w' : World} {g : Nat} {now last mark : Int} {fl pn : Value} (h : Var w g now last mark fl pn) (he : Ext w w') : Var w' g now last mark fl pn := ⟨(he.block g h.lt).trans h.blk⟩
theorem Var.fr {w w' : World} {b0 base g : Nat} {now last mark : Int} {fl pn : Value} (h : Var w g now last mark fl pn) (hf : Fr b0 base w w') (hg : base ≤ g) : Var w' g now last mark fl pn := ⟨(hf.block g h.lt (.inr hg)).trans h.blk⟩
theorem Var.c {w : World} {g : Nat} {now last mark : Int} {fl pn : Value} (h : Var w g now last mark fl pn) :
    w.cell? ⟨g, 0, none⟩ = some (.int .i64 now) ∧ w.cell? ⟨g, 1, none⟩ = some (.int .i64 last) ∧ w.cell? ⟨g, 2, none⟩ = some (.int .i64 mark) ∧ w.cell? ⟨g, 3, none⟩ = some fl ∧ w.cell? ⟨g, 4, none⟩ = some pn := by
  refine ⟨?_, ?_, ?_, ?_, ?_⟩ <;> (rw [cell_of_row w g _ _ _ (0, 0) h.blk]; rfl)

set_option maxHeartbeats 6400000 in
theorem walk_MvccPlays (A : Option Addr) (n c : Nat) (ops : List (Int × Int)) (w : World) (hx : RdG shR w A n ops) (hr : ∀ o ∈ ops, R64 o.2) (hn : n ≤ 8796093022208) :
    Calls Try.prog 3 #[.slice A n c] w fun e w' => e = .returned (.bool true) ∧ Ext w w' := by
  have Hr := Lib.hid hr
  clear hr
  go_enter Try.func3, Try.ntmps3
  go_wp2_with fail
  refine (mnew_any _).mono ?_
  rintro e w0 ⟨sb, bf, bp, rfl, k0, he0⟩
  obtain ⟨B, hB⟩ : ∃ B, B = w0.heap.size := ⟨_, rfl⟩
  have hz0 : B ≤ w0.heap.size := Nat.le_of_eq hB
  have hwB : w.heap.size ≤ B := by rw [hB]; exact he0.size
  rw [← hB] at k0
  clear hB
  go_wp2_with fail
  refine (alive17_any _).mono ?_
  rintro e w1 ⟨rfl, he1⟩
  have k1 := k0.ext he1
  have hE1 := he0.trans he1
  have hz1 := Nat.le_trans hz0 he1.size
  clear k0 he0 he1 hz0
  go_wp2_with fail
  refine (rnew_any _).mono ?_
  rintro e w2 ⟨rfl, he2⟩
  obtain ⟨G, hG⟩ : ∃ G, G = w2.heap.size := ⟨_, rfl⟩
  have hBG : B ≤ G := by rw [hG]; exact Nat.le_trans hz1 he2.size
  have hA2 : Ext w2 (w2.alloc (.cells (ccs 0 (-1) 0 (.slice none 0 0) (.slice none 0 0)) 28)) := (Ext.refl w2).alloc _
  have k2 := (k1.ext he2).ext hA2
  have hE2 := (hE1.trans he2).trans hA2
  have hV2 : Var (w2.alloc (.cells (ccs 0 (-1) 0 (.slice none 0 0) (.slice none 0 0)) 28)) G 0 (-1) 0 (.slice none 0 0) (.slice none 0 0) := ⟨by rw [hG]; exact heap_alloc_new w2 _⟩
  have hCV2 : CV (w2.alloc (.cells (ccs 0 (-1) 0 (.slice none 0 0) (.slice none 0 0)) 28)) B (cval 0 (-1) 0 (.slice none 0 0) (.slice none 0 0)) CkS.new := ⟨none, 0, none, 0, rfl, OwnG.nil _ _ _ _, OwnG.nil _ _ _ _⟩
  clear k1 hE1 he2 hA2 hz1
  have HwB := Lib.hid hwB
  have HBG := Lib.hid hBG
  clear hwB hBG
  go_wp2_with fail
  rw [← hG]
  clear hG
  go_loopw [23] (fun i wr => ∃ (j : Nat) (s : CkS) (x0 x1 x2 : Int) (A3 : Option Addr) (L3 c3 : Nat) (A4 : Option Addr) (L4 c4 : Nat), j ≤ n ∧ i = .int .i64 j ∧ Hid (Ck wr w.heap.size B sb bf bp j s) ∧ Hid (s.Ok j) ∧ Var wr G x0 x1 x2 (.slice A3 L3 c3) (.slice A4 L4 c4) ∧ Hid (CV wr B (cval x0 x1 x2 (.slice A3 L3 c3) (.slice A4 L4 c4)) s) ∧ Ext w wr) (fun i _ => n - (intOf i).toNat)
  case atStart => exact ⟨0, CkS.new, 0, -1, 0, none, 0, 0, none, 0, 0, Nat.zero_le _, rfl, Lib.hid k2, Lib.hid CkS.Ok.new, hV2, Lib.hid hCV2, hE2⟩
  case round =>
    clear k2 hE2 hV2 hCV2
    obtain ⟨j, s, x0, x1, x2, A3, L3, c3, A4, L4, c4, hj, rfl, Hk, Ho, hV, HC, hE⟩ := hrel
    by_cases hlt : j < n
    · have HE := Lib.hid hE
      obtain ⟨b, o, k, t, rfl, hb, hxj, hc0, hc1⟩ := (hx.ext hE).shR_at hlt
      have ht : R64 t := Hr.out _ (List.mem_of_getElem? hxj)
      have hX : Ext wr (wr.alloc (.cells #[.int .i64 k, .int .i64 t] 31)) := (Ext.refl wr).alloc _
      obtain ⟨v0, v1, v2, v3, v4⟩ := (hV.ext hX).c
      have CA := Lib.hid (asks_any (Hk.out.ext hX) (HC.out.ext hX) Ho.out (by omega) k t ht)
      have HV1 := Lib.hid (hV.ext hX)
      have HX := Lib.hid hX
      clear hV hxj ht hX hE
      go_wp2_with fail
      refine CA.out.mono ?_
      rintro e w2 ⟨v', S, rfl, hA, hOK⟩
      obtain ⟨A5, c5, A6, c6, hv5, _, _⟩ := hA.cv.ex
      subst hv5
      have HOK := Lib.hid hOK
      obtain ⟨y0, hy0⟩ : ∃ x, x = S.now := ⟨_, rfl⟩
      obtain ⟨y1, hy1⟩ : ∃ x, x = S.last := ⟨_, rfl⟩
      obtain ⟨y2, hy2⟩ : ∃ x, x = S.mark := ⟨_, rfl⟩
      obtain ⟨L5, hL5⟩ : ∃ x, x = S.fl.length := ⟨_, rfl⟩
      obtain ⟨L6, hL6⟩ : ∃ x, x = S.pn.length := ⟨_, rfl⟩
      have Hy0 := Lib.hid hy0
      have Hy1 := Lib.hid hy1
      have Hy2 := Lib.hid hy2
      have HL5 := Lib.hid hL5
      have HL6 := Lib.hid hL6
      rw [← hy0, ← hy1, ← hy2, ← hL5, ← hL6] at hA
      simp only [← hy0, ← hy1, ← hy2, ← hL5, ← hL6]
      clear hy0 hy1 hy2 hL5 hL6 hOK
      have hV2 := (HV1.out.fr hA.fr HBG.out).ext ((Ext.refl w2).alloc (.cells (ccs y0 y1 y2 (.slice A5 L5 c5) (.slice A6 L6 c6)) 28))
      have HV2 := Lib.hid hV2
      have hGl := hV2.lt
      have hfr2 : Fr w.heap.size B wr (w2.alloc (.cells (ccs y0 y1 y2 (.slice A5 L5 c5) (.slice A6 L6 c6)) 28)) := ((HX.out.fr _ _).trans hA.fr).trans (((Ext.refl w2).alloc _).fr _ _)
      have hck5 := ((hA.ck.ext ((Ext.refl w2).alloc (.cells (ccs y0 y1 y2 (.slice A5 L5 c5) (.slice A6 L6 c6)) 28))).far (grown_setRow _ G (ccs y0 y1 y2 (.slice A5 L5 c5) (.slice A6 L6 c6))) (fun q hq => by injection hq with hq; have := HBG.out; omega))
      have hcv5 := ((hA.cv.ext ((Ext.refl w2).alloc (.cells (ccs y0 y1 y2 (.slice A5 L5 c5) (.slice A6 L6 c6)) 28))).type HV2.out.blk (by decide) (grown_setRow _ G (ccs y0 y1 y2 (.slice A5 L5 c5) (.slice A6 L6 c6))))
      have hE5 : Ext w ((w2.alloc (.cells (ccs y0 y1 y2 (.slice A5 L5 c5) (.slice A6 L6 c6)) 28)).setRow G (ccs y0 y1 y2 (.slice A5 L5 c5) (.slice A6 L6 c6))) := (Fr.ext HE.out hfr2 (Nat.le_refl _)).setRow (by have := HBG.out; have := HwB.out; omega) _
      have hV5 : Var ((w2.alloc (.cells (ccs y0 y1 y2 (.slice A5 L5 c5) (.slice A6 L6 c6)) 28)).setRow G (ccs y0 y1 y2 (.slice A5 L5 c5) (.slice A6 L6 c6))) G y0 y1 y2 (.slice A5 L5 c5) (.slice A6 L6 c6) := ⟨setRow_heap _ G _ _ 28 (0, 0) HV2.out.blk⟩
      clear hV2 hfr2 hA hGl
      have Hck5 := Lib.hid hck5
      have Hcv5 := Lib.hid hcv5
      have HE5 := Lib.hid hE5
      have HV5 := Lib.hid hV5
      clear hck5 hcv5 hE5 hV5 v0 v1 v2 v3 v4 hc0 hc1
      go_wp2_with (refine wpList_store_clk rfl _ _ rfl G y0 y1 y2 A5 L5 c5 A6 L6 c6 rfl rfl rfl HV2.out.blk ?_)
      obtain ⟨W5, hW5⟩ : ∃ W5, W5 = (w2.alloc (.cells (ccs y0 y1 y2 (.slice A5 L5 c5) (.slice A6 L6 c6)) 28)).setRow G (ccs y0 y1 y2 (.slice A5 L5 c5) (.slice A6 L6 c6)) := ⟨_, rfl⟩
      rw [← hW5] at Hck5 Hcv5 HE5 HV5 ⊢
      clear hW5
      obtain ⟨A8, c8, A9, c9, hq, h8, h9⟩ := Hcv5.out.ex
      injection hq with hq
      simp only [Array.mk.injEq, List.cons.injEq, Value.slice.injEq, Value.int.injEq, true_and, and_true] at hq
      obtain ⟨-, -, -, ⟨rfl, q2, rfl⟩, rfl, q4, rfl⟩ := hq
      have H8 := Lib.hid h8
      have H9 := Lib.hid h9
      have hb1 := HOK.out.fl
      have hb2 := HOK.out.pn
      rw [← q2] at hb1
      rw [← q4] at hb2
      have C1 := Lib.hid (fun W (hW : Ext W5 W) => mnow_any (Hck5.out.ext hW))
      have C2 := Lib.hid (fun W (hW : Ext W5 W) => mlast_any (Hck5.out.ext hW))
      have C3 := Lib.hid (fun W (hW : Ext W5 W) => mmark_any (Hck5.out.ext hW))
      have C4 := Lib.hid (fun W (hW : Ext W5 W) => mclean_any (Hck5.out.ext hW) HOK.out)
      have C5 := Lib.hid (fun W (hW : Ext W5 W) => rclean_any (Hcv5.out.ext hW) HOK.out (by omega))
      have C6 := Lib.hid (fun W (hW : Ext W5 W) => mfloor_any (Hck5.out.ext hW))
      have C7 := Lib.hid (fun W (hW : Ext W5 W) => rfloor_any (Hcv5.out.ext hW) HOK.out (by omega))
      have HF := Lib.hid (fun W (hW : Ext W5 W) => mflight_any (Hck5.out.ext hW) HOK.out (by omega))
      have HP := Lib.hid (fun W (hW : Ext W5 W) => mpins_any (Hck5.out.ext hW) HOK.out (by omega))
      obtain ⟨cl, hcl⟩ : ∃ x, x = S.clean := ⟨_, rfl⟩
      obtain ⟨fo, hfo⟩ : ∃ x, x = S.floor := ⟨_, rfl⟩
      rw [← Hy0.out] at C1
      rw [← Hy1.out] at C2
      rw [← Hy2.out] at C3
      rw [← hcl] at C4 C5
      rw [← hfo] at C6 C7
      rw [← q2] at HF
      rw [← q4] at HP
      have S1 := Lib.hid (fun W (hW : Ext W5 W) (A : Option Addr) (c : Nat) (h : RdG shZ W A L5 (sortZ S.fl)) => rsorted_any A L5 c A5 c5 S.fl W h ((H8.out.ext hW).rd' q2.symm) (by omega))
      have S2 := Lib.hid (fun W (hW : Ext W5 W) (A : Option Addr) (c : Nat) (h : RdG shZ W A L6 (sortZ S.pn)) => rsorted_any A L6 c A6 c6 S.pn W h ((H9.out.ext hW).rd' q4.symm) (by omega))
      have hl1 : (sortZ S.fl).length = L5 := by rw [sortZ_len, q2]
      have hl2 : (sortZ S.pn).length = L6 := by rw [sortZ_len, q4]
      have Hl1 := Lib.hid hl1
      have Hl2 := Lib.hid hl2
      have HSt := Lib.hid (fun W (hW : Ext W5 W) => (HV5.out.ext hW).c)
      have hS0 := HSt.out W5 (Ext.refl _)
      have Hb1 := Lib.hid hb1
      have Hb2 := Lib.hid hb2
      clear hl1 hl2 q2 q4 h8 h9 hcl hfo hb1 hb2
      go_wp2_with fail
      go_region_held3 (fun w' => w'.cell? ⟨G, 0, none⟩ = some (.int .i64 y0) ∧ w'.cell? ⟨G, 1, none⟩ = some (.int .i64 y1) ∧ w'.cell? ⟨G, 2, none⟩ = some (.int .i64 y2) ∧ w'.cell? ⟨G, 3, none⟩ = some (.slice A5 L5 c5) ∧ w'.cell? ⟨G, 4, none⟩ = some (.slice A6 L6 c6))
        (first | exact hS0 | exact HSt.out _ hx4 | exact HSt.out _ hx3 | exact HSt.out _ hx2 | exact HSt.out _ hx1 | fail)
        (first
          | (go_at_call 15; refine (C1.out _ ?_).mono ?_; (first | exact Ext.refl _ | exact (Ext.refl _).drew | exact Ext.of_drewN _ _ | fail); rintro e w7 ⟨rfl, rfl⟩)
          | (go_at_call 16; refine (C2.out _ ?_).mono ?_; (first | exact Ext.refl _ | exact (Ext.refl _).drew | exact Ext.of_drewN _ _ | fail); rintro e w7 ⟨rfl, rfl⟩)
          | (go_at_call 17; refine (C3.out _ ?_).mono ?_; (first | exact Ext.refl _ | exact (Ext.refl _).drew | exact Ext.of_drewN _ _ | fail); rintro e w7 ⟨rfl, rfl⟩)
          | (go_at_call 18; refine (C4.out _ ?_).mono ?_; (first | exact Ext.refl _ | exact (Ext.refl _).drew | exact Ext.of_drewN _ _ | fail); rintro e w7 ⟨rfl, he7⟩; have hx1 : Ext W5 w7 := ⟨he7.os, he7.tape, he7.output, he7.size, he7.block⟩)
          | (go_at_call 19; refine (C5.out _ ?_).mono ?_; (first | exact hx1 | exact hx1.drew | exact hx1.drewN _ | fail); rintro e w8 ⟨rfl, he8⟩; have hx2 : Ext W5 w8 := hx1.trans ⟨he8.os, he8.tape, he8.output, he8.size, he8.block⟩)
          | (go_at_call 20; refine (C6.out _ ?_).mono ?_; (first | exact hx2 | exact hx2.drew | exact hx2.drewN _ | fail); rintro e w9 ⟨rfl, he9⟩; have hx3 : Ext W5 w9 := hx2.trans ⟨he9.os, he9.tape, he9.output, he9.size, he9.block⟩)
          | (go_at_call 21; refine (C7.out _ ?_).mono ?_; (first | exact hx3 | exact hx3.drew | exact hx3.drewN _ | fail); rintro e w10 ⟨rfl, he10⟩; have hx4 : Ext W5 w10 := hx3.trans ⟨he10.os, he10.tape, he10.output, he10.size, he10.block⟩)
          | fail)
      have Hx4 := Lib.hid hx4
      clear hx1 hx2 hx3 C1 C2 C3 C4 C5 C6 C7
      go_wp2_with fail
      refine (HF.out _ hx4).mono ?_
      rintro e w11 ⟨A12, c12, rfl, hown12, he12⟩
      have hx5 := hx4.trans he12
      have Hle11 := Lib.hid he12.size
      go_wp2_with fail
      refine (HP.out _ hx5).mono ?_
      rintro e w12 ⟨A13, c13, rfl, hown13, he13⟩
      have hx6 := hx5.trans he13
      obtain ⟨g0, g1, g2, g3, g4⟩ := HSt.out _ hx6
      have hr12 := (hown12.ext he13).rd' Hl1.out
      have hr13 := hown13.rd' Hl2.out
      go_wp2_with fail
      refine (S1.out _ hx6 _ _ hr12).mono ?_
      rintro e w13 ⟨rfl, he14⟩
      obtain ⟨g0', g1', g2', g3', g4'⟩ := HSt.out _ (hx6.trans he14)
      go_wp2_with fail
      refine (S2.out _ (hx6.trans he14) _ _ (hr13.ext he14)).mono ?_
      rintro e w14 ⟨rfl, he15⟩
      have hE6 := ((he12.trans he13).trans he14).trans he15
      have hlt12 : Hid (∀ a, A12 = some a → a.block < w11.heap.size) := Lib.hid fun a ha => (hown12.block a ha).2
      have h12 := hown12.ext ((he13.trans he14).trans he15)
      have h13 := Lib.hid (hown13.ext (he14.trans he15))
      have hb1 := Hb1.out
      have hb2 := Hb2.out
      clear hown12 hown13 he12 he13 he14 he15 hx4 hx5 hx6 g0 g1 g2 g3 g4 g0' g1' g2' g3' g4' hr12 hr13 S1 S2 HF HP
      obtain ⟨B10, hB10⟩ : ∃ B10, B10 = w10.heap.size := ⟨_, rfl⟩
      obtain ⟨B11, hB11⟩ : ∃ B11, B11 = w11.heap.size := ⟨_, rfl⟩
      rw [← hB10] at h12
      rw [← hB11] at h13 hlt12
      have HB10 := Lib.hid hB10
      have hle11 : Hid (B10 ≤ B11) := Lib.hid (by rw [hB10, hB11]; exact Hle11.out)
      clear hB10 hB11
      go_wp2_with fail
      go_loopw [90] (fun i ws => ∃ (m : Nat) (xs : List Int), m ≤ L5 ∧ i = .int .i64 m ∧ xs.length = L5 ∧ OwnG shZ 2 ws B10 A12 c12 xs ∧ Hid (OwnG shZ 2 ws B11 A13 c13 (sortZ S.pn)) ∧ Ext w10 ws) (fun i _ => L5 - (intOf i).toNat)
      case atStart => exact ⟨0, _, Nat.zero_le _, rfl, Hl1.out, h12, h13, hE6⟩
      case round =>
        clear h12 h13 hE6
        obtain ⟨m, xs, hm, rfl, hxl, hown, Hown13, hE7⟩ := hrel
        by_cases hlm : m < L5
        · obtain ⟨b3, x3, hA3, hbb3, hbl3, hxj3, hc3, hfr3, hst3⟩ := hown.at_ (j := m) (by omega)
          subst hA3
          have hc4 := hc3 0 _ rfl
          have hf4 := hfr3 m
          rw [show m * shZ.sz + 0 = m from by show m * 1 + 0 = m; omega] at hc4
          obtain ⟨p1, p2⟩ := hst3 0 (-7) (.int .i64 (-7)) (by decide) rfl
          rw [show m * shZ.sz + 0 = m from by show m * 1 + 0 = m; omega] at p1 p2
          have hX8 := grownBy_ext hE7 p2 (by intro g hg; injection hg with hg; subst hg; rw [← HB10.out]; exact hbb3)
          have h138 := Lib.hid (Hown13.out.grown p2 (fun a ha e => by
            have q1 := (Hown13.out.block a ha).1
            have q3 := hlt12.out _ rfl
            injection e with e
            simp only at q3
            omega))
          have Hxl := Lib.hid hxl
          clear hst3 hc3 hfr3 hown hE7 p2 hxl
          go_wp2_with fail
          go_roundw
          case rel => exact ⟨m + 1, _, by omega, by go_num, (by rw [List.length_set]; exact Hxl.out), p1, h138, hX8⟩
          case measure => simp [intOf]; omega
        · obtain rfl : m = L5 := by omega
          have h13 := Hown13.out
          clear hown hxl
          go_wp2_with fail
          go_loopw [99] (fun i ws => ∃ (m : Nat) (xs : List Int), m ≤ L6 ∧ i = .int .i64 m ∧ xs.length = L6 ∧ OwnG shZ 2 ws B11 A13 c13 xs ∧ Ext w10 ws) (fun i _ => L6 - (intOf i).toNat)
          case atStart => exact ⟨0, _, Nat.zero_le _, rfl, Hl2.out, h13, hE7⟩
          case round =>
            clear h13 hE7 Hown13
            obtain ⟨m2, xs2, hm2, rfl, hxl2, hown2, hE8⟩ := hrel
            by_cases hlm2 : m2 < L6
            · obtain ⟨b3, x3, hA3, hbb3, hbl3, hxj3, hc3, hfr3, hst3⟩ := hown2.at_ (j := m2) (by omega)
              subst hA3
              have hc4 := hc3 0 _ rfl
              have hf4 := hfr3 m2
              rw [show m2 * shZ.sz + 0 = m2 from by show m2 * 1 + 0 = m2; omega] at hc4
              obtain ⟨p1, p2⟩ := hst3 0 (-7) (.int .i64 (-7)) (by decide) rfl
              rw [show m2 * shZ.sz + 0 = m2 from by show m2 * 1 + 0 = m2; omega] at p1 p2
              have hX8 := grownBy_ext hE8 p2 (by intro g hg; injection hg with hg; subst hg; rw [← HB10.out]; have := hle11.out; omega)
              have Hxl := Lib.hid hxl2
              clear hst3 hc3 hfr3 hown2 hE8 p2 hxl2
              go_wp2_with fail
              go_roundw
              case rel => exact ⟨m2 + 1, _, by omega, by go_num, (by rw [List.length_set]; exact Hxl.out), p1, hX8⟩
              case measure => simp [intOf]; omega
            · obtain rfl : m2 = L6 := by omega
              have hfin := Hx4.out.trans hE8
              go_wp2_with fail
              go_roundw
              case rel => exact ⟨j + 1, S, y0, y1, y2, A5, _, c5, A6, _, c6, by omega, by go_num, Lib.hid (Hck5.out.ext hfin), HOK, HV5.out.ext hfin, Lib.hid (Hcv5.out.ext hfin), HE5.out.trans hfin⟩
              case measure => simp [intOf]; omega
    · obtain rfl : j = n := by omega
      have HV := Lib.hid hV
      have HE := Lib.hid hE
      obtain ⟨v0, v1, v2, v3, v4⟩ := hV.c
      obtain ⟨A8, c8, A9, c9, hq, h8, h9⟩ := HC.out.ex
      injection hq with hq
      simp only [Array.mk.injEq, List.cons.injEq, Value.slice.injEq, Value.int.injEq, true_and, and_true] at hq
      obtain ⟨-, -, -, ⟨rfl, q2, rfl⟩, rfl, q4, rfl⟩ := hq
      have hb1 := Ho.out.fl
      have hb2 := Ho.out.pn
      have HF := Lib.hid (fun W (hW : Ext wr W) => mflight_any (Hk.out.ext hW) Ho.out (by omega))
      have HP := Lib.hid (fun W (hW : Ext wr W) => mpins_any (Hk.out.ext hW) Ho.out (by omega))
      rw [← q2] at HF hb1
      rw [← q4] at HP hb2
      have S1 := Lib.hid (fun W (hW : Ext wr W) (A : Option Addr) (c : Nat) (h : RdG shZ W A L3 (sortZ s.fl)) => rsorted_any A L3 c A3 c3 s.fl W h ((h8.ext hW).rd' q2.symm) (by omega))
      have S2 := Lib.hid (fun W (hW : Ext wr W) (A : Option Addr) (c : Nat) (h : RdG shZ W A L4 (sortZ s.pn)) => rsorted_any A L4 c A4 c4 s.pn W h ((h9.ext hW).rd' q4.symm) (by omega))
      have hl1 : (sortZ s.fl).length = L3 := by rw [sortZ_len, q2]
      have hl2 : (sortZ s.pn).length = L4 := by rw [sortZ_len, q4]
      have Hl1 := Lib.hid hl1
      have Hl2 := Lib.hid hl2
      have HS := Lib.hid (fun W (hW : Ext wr W) => And.intro (HV.out.ext hW).c.2.2.2.1 (HV.out.ext hW).c.2.2.2.2)
      have hS0 := HS.out wr (Ext.refl _)
      clear hl1 hl2 q2 q4 h8 h9 hb1 hb2 hV hE v0 v1 v2 hlt hj
      go_wp2_with fail
      go_region_held3 (fun w' => w'.cell? ⟨G, 3, none⟩ = some (.slice A3 L3 c3) ∧ w'.cell? ⟨G, 4, none⟩ = some (.slice A4 L4 c4))
        (first | exact hS0 | exact HS.out _ hx4 | exact HS.out _ hx3 | exact HS.out _ hx2 | exact HS.out _ hx1 | fail)
        (first
          | (go_at_call 23; refine (HP.out _ ?_).mono ?_; (first | exact hx2 | exact hx2.drew | exact hx2.drewN _ | fail); rintro e w5 ⟨A7, c7, rfl, hown7, he7⟩; have hx3 : Ext wr w5 := hx2.trans ⟨he7.os, he7.tape, he7.output, he7.size, he7.block⟩; have hr7 := hown7.rd' Hl2.out)
          | (go_at_call 22; refine (HF.out _ ?_).mono ?_; (first | exact Ext.refl _ | exact (Ext.refl _).drew | exact Ext.of_drewN _ _ | fail); rintro e w3 ⟨A6, c6, rfl, hown6, he6⟩; have hx1 : Ext wr w3 := ⟨he6.os, he6.tape, he6.output, he6.size, he6.block⟩; have hr6 := hown6.rd' Hl1.out)
          | (go_at_call 24; have _ := hx3; refine (S2.out _ ?_ _ _ ?_).mono ?_; (first | exact hx3 | exact hx3.drew | exact hx3.drewN _ | fail); exact hr7; rintro e w6 ⟨rfl, he8⟩; have hx4 : Ext wr w6 := hx3.trans ⟨he8.os, he8.tape, he8.output, he8.size, he8.block⟩)
          | (go_at_call 24; refine (S1.out _ ?_ _ _ ?_).mono ?_; (first | exact hx1 | exact hx1.drew | exact hx1.drewN _ | fail); exact hr6; rintro e w4 ⟨rfl, he9⟩; have hx2 : Ext wr w4 := hx1.trans ⟨he9.os, he9.tape, he9.output, he9.size, he9.block⟩)
          | fail)
      go_wp2_with fail
      go_ret
      exact ⟨rfl, HE.out.trans hx4⟩

end Go.Proofs.Ytkmnhapeohlooaa
