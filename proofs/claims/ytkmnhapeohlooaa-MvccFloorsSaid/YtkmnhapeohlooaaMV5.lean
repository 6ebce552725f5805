/-
  Layer 17: the program's calls on a clock.
-/
import Derived.Test.YtkmnhapeohlooaaMV4
namespace Go.Proofs.Ytkmnhapeohlooaa
open Go.RowKit Go.Maps
set_option maxRecDepth 100000

section
variable {w : World} {b0 base sb bf bp N : Nat} {s : CkS} (h : Ck w b0 base sb bf bp N s)
include h
theorem mnow_any : Calls Try.prog 15 #[.pointer (some ⟨sb, 0, none⟩)] w fun e w' => e = .returned (.int .i64 s.now) ∧ w = w' := by
  obtain ⟨h0, h1, h2, h3, h4, hf⟩ := h.cells
  clear h
  go_enter Try.func15, Try.ntmps15
  go_wp2_with fail
  go_ret
  exact ⟨rfl, rfl⟩
theorem mlast_any : Calls Try.prog 16 #[.pointer (some ⟨sb, 0, none⟩)] w fun e w' => e = .returned (.int .i64 s.last) ∧ w = w' := by
  obtain ⟨h0, h1, h2, h3, h4, hf⟩ := h.cells
  clear h
  go_enter Try.func16, Try.ntmps16
  go_wp2_with fail
  go_ret
  exact ⟨rfl, rfl⟩
theorem mmark_any : Calls Try.prog 17 #[.pointer (some ⟨sb, 0, none⟩)] w fun e w' => e = .returned (.int .i64 s.mark) ∧ w = w' := by
  obtain ⟨h0, h1, h2, h3, h4, hf⟩ := h.cells
  clear h
  go_enter Try.func17, Try.ntmps17
  go_wp2_with fail
  go_ret
  exact ⟨rfl, rfl⟩

theorem mnext_any (ho : s.Ok N) : Calls Try.prog 60 #[.pointer (some ⟨sb, 0, none⟩)] w fun e w' => e = .returned (.int .i64 s.next) ∧ Ext w w' := by
  obtain ⟨h0, h1, h2, h3, h4, hf⟩ := h.cells
  obtain ⟨o1, o2, o3, o4, o5, o6⟩ := ho
  have hn : s.next = if s.now < s.last + 1 then s.last + 1 else s.now := rfl
  obtain ⟨X, hX⟩ : ∃ X, X = s.next := ⟨_, rfl⟩
  rw [← hX] at hn ⊢
  obtain ⟨now, last, mark, fl, pn⟩ := s
  simp only at h0 h1 h2 h3 h4 hn o1 o2
  have hn2 : X = max now (last + 1) := by rw [hn]; omega
  have HX := Lib.hid hn2
  clear hX hn hn2 h o4 o5 o6
  go_enter Try.func60, Try.ntmps60
  go_wp2_with fail
  go_region
  go_wp2_with fail
  go_ret
  exact ⟨by rw [HX.out]; rfl, by first | exact Ext.refl _ | exact (Ext.refl _).drew | exact Ext.of_drewN _ _⟩

theorem mtick_any (ho : s.Ok N) (n : Int) (hn : R64 n) : Calls Try.prog 30 #[.pointer (some ⟨sb, 0, none⟩), .int .i64 n] w fun e w' => e = .returned (.tuple #[]) ∧ Ck w' b0 base sb bf bp N (s.tick n) ∧ Fr b0 base w w' := by
  obtain ⟨h0, h1, h2, h3, h4, hf⟩ := h.cells
  obtain ⟨o1, o2, o3, o4, o5, o6⟩ := ho
  obtain ⟨hn1, hn2⟩ := hn
  have Hh := Lib.hid h
  obtain ⟨X, hX⟩ : ∃ X, X = s.now := ⟨_, rfl⟩
  have HX := Lib.hid hX
  rw [← hX] at h0 o1
  clear hX h o4 o5 o6 o2 o3 h1 h2 h3 h4
  have hl : -9223372036854775808 ≤ 1099511627777 - X ∧ 1099511627777 - X ≤ 9223372036854775807 := by omega
  go_enter Try.func30, Try.ntmps30
  go_wp2_with fail
  go_end0
  refine ⟨rfl, Hh.out.set rfl rfl ?_⟩
  have e : X + min (max n 0) (1099511627777 - X) = (s.tick n).now := by
    simp only [CkS.tick]
    rw [← HX.out]
    split
    · omega
    · split <;> omega
  rw [e]
  rfl

theorem mbegin_any (ho : s.Ok N) (hN : N ≤ 17592186044416) : Calls Try.prog 25 #[.pointer (some ⟨sb, 0, none⟩)] w fun e w' => e = .returned (.tuple #[.int .i64 s.begin.2.1, .int .i64 s.begin.2.2]) ∧ Ck w' b0 base sb bf bp (N + 1) s.begin.1 ∧ Fr b0 base w w' := by
  have HN := Lib.hid (mnext_any h ho)
  have hr := CkS.next_ok ho
  have Hh := Lib.hid h
  have Ho := Lib.hid ho
  have HB : Hid (s.begin = if s.next > 1099511627776 then (s, 0, 170) else ({ s with last := s.next, fl := s.fl ++ [s.next] }, s.next, 0)) := Lib.hid rfl
  obtain ⟨B, hB⟩ : ∃ B, B = s.begin := ⟨_, rfl⟩
  rw [← hB] at HB ⊢
  obtain ⟨X, hX⟩ : ∃ X, X = s.next := ⟨_, rfl⟩
  rw [← hX] at HB HN hr
  clear hB hX h ho
  obtain ⟨r1, r2⟩ := hr
  by_cases q : X > 1099511627776
  · have HB2 : Hid (B = (s, 0, 170)) := Lib.hid (by rw [HB.out, if_pos q])
    have q2 : decide (1099511627776 < X) = true := decide_eq_true q
    clear HB q
    go_enter Try.func25, Try.ntmps25
    go_wp2_with fail
    refine HN.out.mono ?_
    rintro e w1 ⟨rfl, he1⟩
    go_wp2_with fail
    go_ret2
    rw [HB2.out]
    exact ⟨rfl, (Hh.out.ext he1).mono (by omega), he1.fr _ _⟩
  · have HB2 : Hid (B = ({ s with last := X, fl := s.fl ++ [X] }, X, 0)) := Lib.hid (by rw [HB.out, if_neg q])
    have q2 : decide (1099511627776 < X) = false := decide_eq_false (by omega)
    clear HB
    go_enter Try.func25, Try.ntmps25
    go_wp2_with fail
    refine HN.out.mono ?_
    rintro e w1 ⟨rfl, he1⟩
    have h1 := Hh.out.ext he1
    obtain ⟨c0, c1, c2, c3, c4, cf⟩ := h1.cells
    obtain ⟨hk, hfr⟩ := h1.set (s' := { s with last := X }) (i := 1) (x := X) rfl rfl rfl
    obtain ⟨d0, d1, d2, d3, d4, df⟩ := hk.cells
    have Hk := Lib.hid hk
    have Hfr := Lib.hid hfr
    clear hk hfr h1 c0 c2 c3 c4 d0 d1 d2
    have HA := Lib.hid (tadd_any bf N s.fl X _ Hk.out.mf ⟨by omega, by omega⟩ (by omega) (by have := Ho.out.fl; omega))
    go_wp2_with fail
    refine HA.out.mono ?_
    rintro e w2 ⟨rfl, hm2, hg2⟩
    go_wp2_with fail
    go_ret2
    rw [HB2.out]
    obtain ⟨k1, k2⟩ := Hk.out.setF (Nat.le_succ _) hm2 hg2
    exact ⟨rfl, k1, ((he1.fr _ _).trans Hfr.out).trans k2⟩

theorem mcommit_any (ho : s.Ok N) (hN : N ≤ 17592186044416) (t : Int) (ht : R64 t) : Calls Try.prog 28 #[.pointer (some ⟨sb, 0, none⟩), .int .i64 t] w fun e w' => e = .returned (.int .i64 (endE s.fl t)) ∧ Ck w' b0 base sb bf bp (N + 1) (s.fin t) ∧ Fr b0 base w w' := by
  obtain ⟨c0, c1, c2, c3, c4, cf⟩ := h.cells
  have HA := Lib.hid (ttake_any bf N s.fl t _ h.mf ht (by omega) (by have := ho.fl; omega))
  obtain ⟨E, hE⟩ : ∃ E : Int, E = if t ∈ s.fl then 0 else 172 := ⟨_, rfl⟩
  unfold endE
  rw [← hE] at HA ⊢
  have Hh := Lib.hid h
  clear hE h c0 c1 c2 c4 ho
  go_enter Try.func28, Try.ntmps28
  go_wp2_with fail
  refine HA.out.mono ?_
  rintro e w2 ⟨rfl, hm2, hg2⟩
  go_wp2_with fail
  go_ret
  exact ⟨rfl, Hh.out.setF (Nat.le_succ _) hm2 hg2⟩
theorem mabort_any (ho : s.Ok N) (hN : N ≤ 17592186044416) (t : Int) (ht : R64 t) : Calls Try.prog 29 #[.pointer (some ⟨sb, 0, none⟩), .int .i64 t] w fun e w' => e = .returned (.int .i64 (endE s.fl t)) ∧ Ck w' b0 base sb bf bp (N + 1) (s.fin t) ∧ Fr b0 base w w' := by
  obtain ⟨c0, c1, c2, c3, c4, cf⟩ := h.cells
  have HA := Lib.hid (ttake_any bf N s.fl t _ h.mf ht (by omega) (by have := ho.fl; omega))
  obtain ⟨E, hE⟩ : ∃ E : Int, E = if t ∈ s.fl then 0 else 172 := ⟨_, rfl⟩
  unfold endE
  rw [← hE] at HA ⊢
  have Hh := Lib.hid h
  clear hE h c0 c1 c2 c4 ho
  go_enter Try.func29, Try.ntmps29
  go_wp2_with fail
  refine HA.out.mono ?_
  rintro e w2 ⟨rfl, hm2, hg2⟩
  go_wp2_with fail
  go_ret
  exact ⟨rfl, Hh.out.setF (Nat.le_succ _) hm2 hg2⟩
theorem munpin_any (ho : s.Ok N) (hN : N ≤ 17592186044416) (t : Int) (ht : R64 t) : Calls Try.prog 56 #[.pointer (some ⟨sb, 0, none⟩), .int .i64 t] w fun e w' => e = .returned (.int .i64 (endE s.pn t)) ∧ Ck w' b0 base sb bf bp (N + 1) (s.unpin t) ∧ Fr b0 base w w' := by
  obtain ⟨c0, c1, c2, c3, c4, cf⟩ := h.cells
  have HA := Lib.hid (ttake_any bp N s.pn t _ h.mp ht (by omega) (by have := ho.pn; omega))
  obtain ⟨E, hE⟩ : ∃ E : Int, E = if t ∈ s.pn then 0 else 172 := ⟨_, rfl⟩
  unfold endE
  rw [← hE] at HA ⊢
  have Hh := Lib.hid h
  clear hE h c0 c1 c2 c3 ho
  go_enter Try.func56, Try.ntmps56
  go_wp2_with fail
  refine HA.out.mono ?_
  rintro e w2 ⟨rfl, hm2, hg2⟩
  go_wp2_with fail
  go_ret
  exact ⟨rfl, Hh.out.setP (Nat.le_succ _) hm2 hg2⟩

theorem mraise_any (t : Int) : Calls Try.prog 52 #[.pointer (some ⟨sb, 0, none⟩), .int .i64 t] w fun e w' => e = .returned (.tuple #[]) ∧ Ck w' b0 base sb bf bp N (s.raise t) ∧ Fr b0 base w w' := by
  obtain ⟨c0, c1, c2, c3, c4, cf⟩ := h.cells
  have Hh := Lib.hid h
  obtain ⟨X, hX⟩ : ∃ X, X = s.last := ⟨_, rfl⟩
  have HX := Lib.hid hX
  rw [← hX] at c1
  clear hX h c0 c2 c3 c4
  go_enter Try.func52, Try.ntmps52
  go_wp2_with fail
  go_end0
  refine ⟨rfl, Hh.out.set rfl rfl ?_⟩
  have e : max X (min t 1099511627776) = (s.raise t).last := by
    simp only [CkS.raise]
    rw [← HX.out]
    split <;> split <;> omega
  rw [e]
  rfl

theorem mmove_any (t : Int) : Calls Try.prog 48 #[.pointer (some ⟨sb, 0, none⟩), .int .i64 t] w fun e w' => e = .returned (.int .i64 (s.move t).2) ∧ Ck w' b0 base sb bf bp N (s.move t).1 ∧ Fr b0 base w w' := by
  obtain ⟨c0, c1, c2, c3, c4, cf⟩ := h.cells
  have Hh := Lib.hid h
  have HB : Hid (s.move t = if t < s.mark ∨ t > 1099511627776 then (s, 1) else ({ s with mark := t }, 0)) := Lib.hid rfl
  obtain ⟨B, hB⟩ : ∃ B, B = s.move t := ⟨_, rfl⟩
  rw [← hB] at HB ⊢
  obtain ⟨X, hX⟩ : ∃ X, X = s.mark := ⟨_, rfl⟩
  rw [← hX] at HB c2
  clear hB hX h c0 c1 c3 c4
  have key : (decide (t < X) = true) ∨ (decide (t < X) = false ∧ decide (1099511627776 < t) = true) ∨ (decide (t < X) = false ∧ decide (1099511627776 < t) = false) := by
    simp only [decide_eq_true_eq, decide_eq_false_iff_not]
    omega
  rcases key with q1 | ⟨q1, q2⟩ | ⟨q1, q2⟩
  · have HB2 : Hid (B = (s, 1)) := Lib.hid (by rw [HB.out, if_pos (.inl (of_decide_eq_true q1))])
    go_enter Try.func48, Try.ntmps48
    go_wp2_with fail
    go_ret
    rw [HB2.out]
    exact ⟨rfl, Hh.out, Fr.refl _ _ _⟩
  · have HB2 : Hid (B = (s, 1)) := Lib.hid (by rw [HB.out, if_pos (.inr (of_decide_eq_true q2))])
    go_enter Try.func48, Try.ntmps48
    go_wp2_with fail
    go_ret
    rw [HB2.out]
    exact ⟨rfl, Hh.out, Fr.refl _ _ _⟩
  · have HB2 : Hid (B = ({ s with mark := t }, 0)) := Lib.hid (by rw [HB.out, if_neg (by rintro (q | q); exact of_decide_eq_false q1 q; exact of_decide_eq_false q2 q)])
    go_enter Try.func48, Try.ntmps48
    go_wp2_with fail
    go_ret
    rw [HB2.out]
    exact ⟨rfl, Hh.out.set rfl rfl rfl⟩

theorem mpin_any (ho : s.Ok N) (hN : N ≤ 17592186044416) (t : Int) (ht : R64 t) : Calls Try.prog 27 #[.pointer (some ⟨sb, 0, none⟩), .int .i64 t] w fun e w' => e = .returned (.int .i64 (s.pin t).2) ∧ Ck w' b0 base sb bf bp (N + 1) (s.pin t).1 ∧ Fr b0 base w w' := by
  obtain ⟨c0, c1, c2, c3, c4, cf⟩ := h.cells
  have HA := Lib.hid (tadd_any bp N s.pn t _ h.mp ht (by omega) (by have := ho.pn; omega))
  have Hh := Lib.hid h
  have HB : Hid (s.pin t = if t < 0 ∨ t > 1099511627776 then (s, 1) else if t < s.mark then (s, 171) else ({ s with pn := s.pn ++ [t] }, 0)) := Lib.hid rfl
  obtain ⟨B, hB⟩ : ∃ B, B = s.pin t := ⟨_, rfl⟩
  rw [← hB] at HB ⊢
  obtain ⟨X, hX⟩ : ∃ X, X = s.mark := ⟨_, rfl⟩
  rw [← hX] at HB c2
  have HX := Lib.hid hX
  clear hB hX h c0 c1 c3 ho
  have key : (decide (t < 0) = true) ∨ (decide (t < 0) = false ∧ decide (1099511627776 < t) = true) ∨ (decide (t < 0) = false ∧ decide (1099511627776 < t) = false ∧ decide (t < X) = true) ∨ (decide (t < 0) = false ∧ decide (1099511627776 < t) = false ∧ decide (t < X) = false) := by
    simp only [decide_eq_true_eq, decide_eq_false_iff_not]
    omega
  rcases key with q1 | ⟨q1, q2⟩ | ⟨q1, q2, q3⟩ | ⟨q1, q2, q3⟩
  · have HB2 : Hid (B = (s, 1)) := Lib.hid (by rw [HB.out, if_pos (.inl (of_decide_eq_true q1))])
    go_enter Try.func27, Try.ntmps27
    go_wp2_with fail
    go_ret
    rw [HB2.out]
    exact ⟨rfl, Hh.out.mono (Nat.le_succ _), Fr.refl _ _ _⟩
  · have HB2 : Hid (B = (s, 1)) := Lib.hid (by rw [HB.out, if_pos (.inr (of_decide_eq_true q2))])
    go_enter Try.func27, Try.ntmps27
    go_wp2_with fail
    go_ret
    rw [HB2.out]
    exact ⟨rfl, Hh.out.mono (Nat.le_succ _), Fr.refl _ _ _⟩
  · have HB2 : Hid (B = (s, 171)) := Lib.hid (by rw [HB.out, if_neg (by rintro (q | q); exact of_decide_eq_false q1 q; exact of_decide_eq_false q2 q), if_pos (of_decide_eq_true q3)])
    go_enter Try.func27, Try.ntmps27
    go_wp2_with fail
    go_ret
    rw [HB2.out]
    exact ⟨rfl, Hh.out.mono (Nat.le_succ _), Fr.refl _ _ _⟩
  · have HB2 : Hid (B = ({ s with pn := s.pn ++ [t] }, 0)) := Lib.hid (by rw [HB.out, if_neg (by rintro (q | q); exact of_decide_eq_false q1 q; exact of_decide_eq_false q2 q), if_neg (of_decide_eq_false q3), HX.out])
    go_enter Try.func27, Try.ntmps27
    go_wp2_with fail
    refine HA.out.mono ?_
    rintro e w2 ⟨rfl, hm2, hg2⟩
    go_wp2_with fail
    go_ret
    rw [HB2.out]
    exact ⟨rfl, Hh.out.setP (Nat.le_succ _) hm2 hg2⟩

theorem mflight_any (ho : s.Ok N) (hN : N ≤ 17592186044416) : Calls Try.prog 22 #[.pointer (some ⟨sb, 0, none⟩)] w fun e w' => ∃ A c, e = .returned (.slice A s.fl.length c) ∧ OwnG shZ 2 w' w.heap.size A c (sortZ s.fl) ∧ Ext w w' := by
  obtain ⟨c0, c1, c2, c3, c4, cf⟩ := h.cells
  have HA := Lib.hid (tlist_any bf N s.fl _ h.mf (by have := ho.fl; omega))
  clear h c0 c1 c2 c4 ho
  go_enter Try.func22, Try.ntmps22
  go_wp2_with fail
  refine HA.out.mono ?_
  rintro e w2 ⟨A, c, rfl, hown, he⟩
  go_wp2_with fail
  go_ret
  exact ⟨A, c, rfl, hown, he⟩
theorem mpins_any (ho : s.Ok N) (hN : N ≤ 17592186044416) : Calls Try.prog 23 #[.pointer (some ⟨sb, 0, none⟩)] w fun e w' => ∃ A c, e = .returned (.slice A s.pn.length c) ∧ OwnG shZ 2 w' w.heap.size A c (sortZ s.pn) ∧ Ext w w' := by
  obtain ⟨c0, c1, c2, c3, c4, cf⟩ := h.cells
  have HA := Lib.hid (tlist_any bp N s.pn _ h.mp (by have := ho.pn; omega))
  clear h c0 c1 c2 c3 ho
  go_enter Try.func23, Try.ntmps23
  go_wp2_with fail
  refine HA.out.mono ?_
  rintro e w2 ⟨A, c, rfl, hown, he⟩
  go_wp2_with fail
  go_ret
  exact ⟨A, c, rfl, hown, he⟩
end

end Go.Proofs.Ytkmnhapeohlooaa
