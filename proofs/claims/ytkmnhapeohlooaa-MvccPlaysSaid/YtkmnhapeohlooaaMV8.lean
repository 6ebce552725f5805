/-
  Layer 17: the statements' helper calls.
-/
import Derived.Test.YtkmnhapeohlooaaMV7
namespace Go.Proofs.Ytkmnhapeohlooaa
open Go.RowKit Go.Maps
set_option maxRecDepth 100000

/-- A call that gives no timestamp out. -/
def CkS.other (s : CkS) (k t : Int) : CkS :=
  if k = 1 then s.tick t else if k = 3 then s.fin t else if k = 4 then s.fin t else if k = 6 then (s.move t).1 else if k = 7 then (s.pin t).1 else if k = 8 then s.unpin t else
    if k = 9 then (if s.fl.length = 0 then s else s.fin ((sortZ s.fl).getD 0 0)) else s

theorem CkS.Ok.other {s : CkS} {N : Nat} (h : s.Ok N) (k t : Int) : (s.other k t).Ok (N + 1) := by
  unfold CkS.other
  repeat' split
  all_goals first
    | exact (h.tick t).mono (Nat.le_succ _)
    | exact (h.fin t).mono (Nat.le_succ _)
    | exact (h.move t).mono (Nat.le_succ _)
    | exact h.pin t
    | exact (h.unpin t).mono (Nat.le_succ _)
    | exact h.mono (Nat.le_succ _)
    | exact (h.fin _).mono (Nat.le_succ _)

set_option maxHeartbeats 1600000 in
theorem other_any {w : World} {b0 base sb bf bp N : Nat} {s : CkS} (h : Ck w b0 base sb bf bp N s) (ho : s.Ok N) (hN : N ≤ 17592186044416) (k t : Int) (ht : R64 t) :
    Calls Try.prog 26 #[.pointer (some ⟨sb, 0, none⟩), .agg #[.int .i64 k, .int .i64 t]] w fun e w' => e = .returned (.tuple #[]) ∧ Ck w' b0 base sb bf bp (N + 1) (s.other k t) ∧ Fr b0 base w w' := by
  have hA : Ext w (w.alloc (.cells #[.int .i64 k, .int .i64 t] 31)) := (Ext.refl w).alloc _
  have h1 := h.ext hA
  have HF := Lib.hid (hA.fr b0 base)
  have Hh := Lib.hid h1
  have Ho := Lib.hid ho
  by_cases q1 : k = 1
  · subst q1
    have C := Lib.hid (mtick_any h1 ho t ht)
    clear h h1 ho hA
    go_enter Try.func26, Try.ntmps26
    go_wp2_with fail
    refine C.out.mono ?_
    rintro e w2 ⟨rfl, k2, f2⟩
    go_wp2_with fail
    go_end0
    exact ⟨rfl, k2.mono (Nat.le_succ _), HF.out.trans f2⟩
  by_cases q3 : k = 3
  · subst q3
    have C := Lib.hid (mcommit_any h1 ho hN t ht)
    clear h h1 ho hA
    go_enter Try.func26, Try.ntmps26
    go_wp2_with fail
    refine C.out.mono ?_
    rintro e w2 ⟨rfl, k2, f2⟩
    go_wp2_with fail
    go_end0
    exact ⟨rfl, k2, HF.out.trans f2⟩
  by_cases q4 : k = 4
  · subst q4
    have C := Lib.hid (mabort_any h1 ho hN t ht)
    clear h h1 ho hA
    go_enter Try.func26, Try.ntmps26
    go_wp2_with fail
    refine C.out.mono ?_
    rintro e w2 ⟨rfl, k2, f2⟩
    go_wp2_with fail
    go_end0
    exact ⟨rfl, k2, HF.out.trans f2⟩
  by_cases q6 : k = 6
  · subst q6
    have C := Lib.hid (mmove_any h1 t)
    clear h h1 ho hA
    go_enter Try.func26, Try.ntmps26
    go_wp2_with fail
    refine C.out.mono ?_
    rintro e w2 ⟨rfl, k2, f2⟩
    go_wp2_with fail
    go_end0
    exact ⟨rfl, k2.mono (Nat.le_succ _), HF.out.trans f2⟩
  by_cases q7 : k = 7
  · subst q7
    have C := Lib.hid (mpin_any h1 ho hN t ht)
    clear h h1 ho hA
    go_enter Try.func26, Try.ntmps26
    go_wp2_with fail
    refine C.out.mono ?_
    rintro e w2 ⟨rfl, k2, f2⟩
    go_wp2_with fail
    go_end0
    exact ⟨rfl, k2, HF.out.trans f2⟩
  by_cases q8 : k = 8
  · subst q8
    have C := Lib.hid (munpin_any h1 ho hN t ht)
    clear h h1 ho hA
    go_enter Try.func26, Try.ntmps26
    go_wp2_with fail
    refine C.out.mono ?_
    rintro e w2 ⟨rfl, k2, f2⟩
    go_wp2_with fail
    go_end0
    exact ⟨rfl, k2, HF.out.trans f2⟩
  have b1 : (k == 1) = false := by simpa using q1
  have b3 : (k == 3) = false := by simpa using q3
  have b4 : (k == 4) = false := by simpa using q4
  have b6 : (k == 6) = false := by simpa using q6
  have b7 : (k == 7) = false := by simpa using q7
  have b8 : (k == 8) = false := by simpa using q8
  by_cases q9 : k = 9
  · subst q9
    clear b1 b3 b4 b6 b7 b8 q1 q3 q4 q6 q7 q8
    have C := Lib.hid (mflight_any h1 ho hN)
    have HO : Hid (s.other 9 t = if s.fl.length = 0 then s else s.fin ((sortZ s.fl).getD 0 0)) := Lib.hid rfl
    obtain ⟨S, hS⟩ : ∃ S, S = s.other 9 t := ⟨_, rfl⟩
    rw [← hS] at HO ⊢
    have hl : (sortZ s.fl).length = s.fl.length := sortZ_len _
    obtain ⟨L, hL⟩ : ∃ L, L = s.fl.length := ⟨_, rfl⟩
    obtain ⟨ys, hys⟩ : ∃ ys, ys = sortZ s.fl := ⟨_, rfl⟩
    have hyr : Hid (∀ x ∈ ys, R64 x) := Lib.hid fun x hx => by
      have := ho.flr x ((sortZ_perm s.fl).mem_iff.1 (by rw [← hys]; exact hx))
      unfold R64; omega
    rw [← hys] at C HO hl
    rw [← hL] at C HO hl
    have hLN : L ≤ N := by rw [hL]; exact ho.fl
    have Hl := Lib.hid hl
    clear h h1 ho hA hS hL hys hl
    by_cases q : L = 0
    · subst q
      have HO2 : Hid (S = s) := Lib.hid (by rw [HO.out, if_pos rfl])
      go_enter Try.func26, Try.ntmps26
      go_wp2_with fail
      refine C.out.mono ?_
      rintro e w2 ⟨A, c, rfl, hown, he2⟩
      go_wp2_with fail
      go_end0
      refine ⟨rfl, ?_, HF.out.trans (he2.fr _ _)⟩
      rw [HO2.out]
      exact (Hh.out.ext he2).mono (Nat.le_succ _)
    · have HO2 : Hid (S = s.fin (ys.getD 0 0)) := Lib.hid (by rw [HO.out, if_neg q])
      have hL0 : 0 < L := by omega
      have hd : decide ((0 : Int) < (L : Int)) = true := decide_eq_true (by omega)
      go_enter Try.func26, Try.ntmps26
      go_wp2_with fail
      refine C.out.mono ?_
      rintro e w2 ⟨A, c, rfl, hown, he2⟩
      obtain ⟨b, o, rfl, hb, hc⟩ := (hown.rd' Hl.out).atZ hL0
      have C2 := Lib.hid (mcommit_any (Hh.out.ext he2) Ho.out hN (ys.getD 0 0) (by
        have h0 : 0 < ys.length := by rw [Hl.out]; exact hL0
        rw [List.getD, List.getElem?_eq_getElem h0]
        exact hyr.out _ (List.getElem_mem h0)))
      obtain ⟨y, hy⟩ : ∃ y, y = ys.getD 0 0 := ⟨_, rfl⟩
      rw [← hy] at hc C2 HO2
      rw [Nat.add_zero] at hc
      clear hown hy
      go_wp2_with fail
      refine C2.out.mono ?_
      rintro e w3 ⟨rfl, k3, f3⟩
      go_wp2_with fail
      go_end0
      rw [HO2.out]
      exact ⟨rfl, k3, (HF.out.trans (he2.fr _ _)).trans f3⟩
  have b9 : (k == 9) = false := by simpa using q9
  have HO : Hid (s.other k t = s) := Lib.hid (by unfold CkS.other; rw [if_neg q1, if_neg q3, if_neg q4, if_neg q6, if_neg q7, if_neg q8, if_neg q9])
  clear h h1 ho hA
  go_enter Try.func26, Try.ntmps26
  go_wp2_with fail
  go_end0
  rw [HO.out]
  exact ⟨rfl, Hh.out.mono (Nat.le_succ _), HF.out⟩

end Go.Proofs.Ytkmnhapeohlooaa
