/-
  Layer 17: the document's example holds of the program.
-/
import Derived.Test.YtkmnhapeohlooaaMV6
namespace Go.Proofs.Ytkmnhapeohlooaa
open Go.RowKit Go.Maps
set_option maxRecDepth 100000

theorem Ck.calls {f : FuncId} {args : Array Value} {w : World} {e0 : Ending} {b0 base sb bf bp N : Nat} {s s' : CkS} {e1 : Ending} (h : Calls Try.prog f args w fun e w' => e = e0 ∧ Ck w' b0 base sb bf bp N s ∧ Fr b0 base w w') (he : e0 = e1) (hs : s = s') :
    Calls Try.prog f args w fun e w' => e = e1 ∧ Ck w' b0 base sb bf bp N s' ∧ Fr b0 base w w' := by
  subst he; subst hs; exact h
theorem Ck.calls0 {f : FuncId} {args : Array Value} {w : World} {e0 : Ending} {b0 base sb bf bp N : Nat} {s : CkS} {e1 : Ending} (k : Ck w b0 base sb bf bp N s) (h : Calls Try.prog f args w fun e w' => e = e0 ∧ Ext w w') (he : e0 = e1) :
    Calls Try.prog f args w fun e w' => e = e1 ∧ Ck w' b0 base sb bf bp N s ∧ Fr b0 base w w' := by
  subst he
  refine h.mono ?_
  rintro e w' ⟨h1, h2⟩
  exact ⟨h1, k.ext h2, h2.fr _ _⟩
theorem Ck.calls1 {f : FuncId} {args : Array Value} {w : World} {e0 : Ending} {b0 base sb bf bp N : Nat} {s : CkS} {e1 : Ending} (k : Ck w b0 base sb bf bp N s) (h : Calls Try.prog f args w fun e w' => e = e0 ∧ w = w') (he : e0 = e1) :
    Calls Try.prog f args w fun e w' => e = e1 ∧ Ck w' b0 base sb bf bp N s ∧ Fr b0 base w w' := by
  subst he
  refine h.mono ?_
  rintro e w' ⟨h1, rfl⟩
  exact ⟨h1, k, Fr.refl _ _ _⟩

set_option maxHeartbeats 4000000 in
theorem alive17_any (w : World) : Calls Try.prog 12 #[] w fun e w' => e = .returned (.bool true) ∧ Ext w w' := by
  go_enter Try.func12, Try.ntmps12
  go_wp2_with fail
  refine (mnew_any _).mono ?_
  rintro e w0 ⟨sb, bf, bp, rfl, k0, he0⟩
  have f0 : Fr w.heap.size w0.heap.size w0 w0 := Fr.refl _ _ _
  have C0 := Lib.hid (Ck.calls (e1 := .returned (.tuple #[])) (s' := ⟨5, (-1), 0, [], []⟩) (mtick_any k0 (⟨by decide, by decide, by decide, by decide, by decide, by decide⟩ : CkS.Ok ⟨0, (-1), 0, [], []⟩ 0) 5 ⟨by decide, by decide⟩) rfl rfl)
  go_wp2_with fail
  refine C0.out.mono ?_
  rintro e w1 ⟨rfl, k1, g0⟩
  have f1 := f0.trans g0
  clear C0 k0 f0 g0
  have C1 := Lib.hid (Ck.calls (e1 := .returned (.tuple #[.int .i64 5, .int .i64 0])) (s' := ⟨5, 5, 0, [5], []⟩) (mbegin_any k1 (⟨by decide, by decide, by decide, by decide, by decide, by decide⟩ : CkS.Ok ⟨5, (-1), 0, [], []⟩ 0) (by decide)) rfl rfl)
  go_wp2_with fail
  refine C1.out.mono ?_
  rintro e w2 ⟨rfl, k2, g1⟩
  have f2 := f1.trans g1
  clear C1 k1 f1 g1
  have C2 := Lib.hid (Ck.calls (e1 := .returned (.tuple #[.int .i64 6, .int .i64 0])) (s' := ⟨5, 6, 0, [5, 6], []⟩) (mbegin_any k2 (⟨by decide, by decide, by decide, by decide, by decide, by decide⟩ : CkS.Ok ⟨5, 5, 0, [5], []⟩ 1) (by decide)) rfl rfl)
  go_wp2_with fail
  refine C2.out.mono ?_
  rintro e w3 ⟨rfl, k3, g2⟩
  have f3 := f2.trans g2
  clear C2 k2 f2 g2
  have C3 := Lib.hid (Ck.calls0 (e1 := .returned (.int .i64 4)) k3 (mclean_any k3 (⟨by decide, by decide, by decide, by decide, by decide, by decide⟩ : CkS.Ok ⟨5, 6, 0, [5, 6], []⟩ 2)) rfl)
  go_wp2_with fail
  refine C3.out.mono ?_
  rintro e w4 ⟨rfl, k4, g3⟩
  have f4 := f3.trans g3
  clear C3 k3 f3 g3
  have C4 := Lib.hid (Ck.calls (e1 := .returned (.int .i64 0)) (s' := ⟨5, 6, 0, [5], []⟩) (mcommit_any k4 (⟨by decide, by decide, by decide, by decide, by decide, by decide⟩ : CkS.Ok ⟨5, 6, 0, [5, 6], []⟩ 2) (by decide) 6 ⟨by decide, by decide⟩) rfl rfl)
  go_wp2_with fail
  refine C4.out.mono ?_
  rintro e w5 ⟨rfl, k5, g4⟩
  have f5 := f4.trans g4
  clear C4 k4 f4 g4
  have C5 := Lib.hid (Ck.calls0 (e1 := .returned (.int .i64 4)) k5 (mclean_any k5 (⟨by decide, by decide, by decide, by decide, by decide, by decide⟩ : CkS.Ok ⟨5, 6, 0, [5], []⟩ 3)) rfl)
  go_wp2_with fail
  refine C5.out.mono ?_
  rintro e w6 ⟨rfl, k6, g5⟩
  have f6 := f5.trans g5
  clear C5 k5 f5 g5
  have C6 := Lib.hid (Ck.calls (e1 := .returned (.int .i64 0)) (s' := ⟨5, 6, 0, [], []⟩) (mcommit_any k6 (⟨by decide, by decide, by decide, by decide, by decide, by decide⟩ : CkS.Ok ⟨5, 6, 0, [5], []⟩ 3) (by decide) 5 ⟨by decide, by decide⟩) rfl rfl)
  go_wp2_with fail
  refine C6.out.mono ?_
  rintro e w7 ⟨rfl, k7, g6⟩
  have f7 := f6.trans g6
  clear C6 k6 f6 g6
  have C7 := Lib.hid (Ck.calls0 (e1 := .returned (.int .i64 6)) k7 (mclean_any k7 (⟨by decide, by decide, by decide, by decide, by decide, by decide⟩ : CkS.Ok ⟨5, 6, 0, [], []⟩ 4)) rfl)
  go_wp2_with fail
  refine C7.out.mono ?_
  rintro e w8 ⟨rfl, k8, g7⟩
  have f8 := f7.trans g7
  clear C7 k7 f7 g7
  have C8 := Lib.hid (Ck.calls (e1 := .returned (.tuple #[])) (s' := ⟨8, 6, 0, [], []⟩) (mtick_any k8 (⟨by decide, by decide, by decide, by decide, by decide, by decide⟩ : CkS.Ok ⟨5, 6, 0, [], []⟩ 4) 3 ⟨by decide, by decide⟩) rfl rfl)
  go_wp2_with fail
  refine C8.out.mono ?_
  rintro e w9 ⟨rfl, k9, g8⟩
  have f9 := f8.trans g8
  clear C8 k8 f8 g8
  have C9 := Lib.hid (Ck.calls (e1 := .returned (.int .i64 0)) (s' := ⟨8, 6, 4, [], []⟩) (mmove_any k9 4) rfl rfl)
  go_wp2_with fail
  refine C9.out.mono ?_
  rintro e w10 ⟨rfl, k10, g9⟩
  have f10 := f9.trans g9
  clear C9 k9 f9 g9
  have C10 := Lib.hid (Ck.calls (e1 := .returned (.int .i64 0)) (s' := ⟨8, 6, 4, [], [4]⟩) (mpin_any k10 (⟨by decide, by decide, by decide, by decide, by decide, by decide⟩ : CkS.Ok ⟨8, 6, 4, [], []⟩ 4) (by decide) 4 ⟨by decide, by decide⟩) rfl rfl)
  go_wp2_with fail
  refine C10.out.mono ?_
  rintro e w11 ⟨rfl, k11, g10⟩
  have f11 := f10.trans g10
  clear C10 k10 f10 g10
  have C11 := Lib.hid (Ck.calls (e1 := .returned (.int .i64 0)) (s' := ⟨8, 6, 6, [], [4]⟩) (mmove_any k11 6) rfl rfl)
  go_wp2_with fail
  refine C11.out.mono ?_
  rintro e w12 ⟨rfl, k12, g11⟩
  have f12 := f11.trans g11
  clear C11 k11 f11 g11
  have C12 := Lib.hid (Ck.calls0 (e1 := .returned (.int .i64 7)) k12 (mclean_any k12 (⟨by decide, by decide, by decide, by decide, by decide, by decide⟩ : CkS.Ok ⟨8, 6, 6, [], [4]⟩ 5)) rfl)
  go_wp2_with fail
  refine C12.out.mono ?_
  rintro e w13 ⟨rfl, k13, g12⟩
  have f13 := f12.trans g12
  clear C12 k12 f12 g12
  have C13 := Lib.hid (Ck.calls1 (e1 := .returned (.int .i64 6)) k13 (mmark_any k13) rfl)
  go_wp2_with fail
  refine C13.out.mono ?_
  rintro e w14 ⟨rfl, k14, g13⟩
  have f14 := f13.trans g13
  clear C13 k13 f13 g13
  have C14 := Lib.hid (Ck.calls0 (e1 := .returned (.int .i64 4)) k14 (mfloor_any k14) rfl)
  go_wp2_with fail
  refine C14.out.mono ?_
  rintro e w15 ⟨rfl, k15, g14⟩
  have f15 := f14.trans g14
  clear C14 k14 f14 g14
  have C15 := Lib.hid (Ck.calls (e1 := .returned (.int .i64 171)) (s' := ⟨8, 6, 6, [], [4]⟩) (mpin_any k15 (⟨by decide, by decide, by decide, by decide, by decide, by decide⟩ : CkS.Ok ⟨8, 6, 6, [], [4]⟩ 5) (by decide) 5 ⟨by decide, by decide⟩) rfl rfl)
  go_wp2_with fail
  refine C15.out.mono ?_
  rintro e w16 ⟨rfl, k16, g15⟩
  have f16 := f15.trans g15
  clear C15 k15 f15 g15
  have C16 := Lib.hid (mpins_any k16 (⟨by decide, by decide, by decide, by decide, by decide, by decide⟩ : CkS.Ok ⟨8, 6, 6, [], [4]⟩ 6) (by decide))
  go_wp2_with fail
  refine C16.out.mono ?_
  rintro e w17 ⟨A, c, rfl, _, g16⟩
  have k17 := k16.ext g16
  have f17 := f16.trans (g16.fr _ _)
  clear C16 k16 f16 g16
  have C17 := Lib.hid (Ck.calls1 (e1 := .returned (.int .i64 6)) k17 (mlast_any k17) rfl)
  go_wp2_with fail
  refine C17.out.mono ?_
  rintro e w18 ⟨rfl, k18, g17⟩
  have f18 := f17.trans g17
  clear C17 k17 f17 g17
  have C18 := Lib.hid (Ck.calls1 (e1 := .returned (.int .i64 8)) k18 (mnow_any k18) rfl)
  go_wp2_with fail
  refine C18.out.mono ?_
  rintro e w19 ⟨rfl, k19, g18⟩
  have f19 := f18.trans g18
  clear C18 k18 f18 g18
  go_wp2_with fail
  go_ret
  exact ⟨rfl, Fr.ext he0 f19 (Nat.le_refl _)⟩

end Go.Proofs.Ytkmnhapeohlooaa
