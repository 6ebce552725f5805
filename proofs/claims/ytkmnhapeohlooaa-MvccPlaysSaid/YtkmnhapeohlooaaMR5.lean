/-
  Layer 17: one call against the document: walked.
-/
import Derived.Test.YtkmnhapeohlooaaMR4
import Derived.Test.YtkmnhapeohlooaaMV11
namespace Go.Proofs.Ytkmnhapeohlooaa
open Go.RowKit Go.Maps
set_option maxRecDepth 100000

theorem OwnG.ne_type {T : Type} {s : Shape T} {e : TypeId} {w : World} {base c g : Nat} {A : Option Addr} {xs : List T} {cs : Array Value} {t : TypeId} {fr : Nat × Nat} (h : OwnG s e w base A c xs) (hg : w.heap[g]? = some (.cells cs t fr)) (hT : t ≠ e) :
    ∀ a, A = some a → some a.block ≠ some g := by
  rintro a rfl q
  injection q with q
  rcases h.2 with ⟨hv, _⟩ | ⟨b, cap, cur, hv, _, hh, _⟩
  · cases hv
  · injection hv with hA
    injection hA with hA
    subst hA
    simp only at q
    subst q
    rw [hh] at hg
    injection hg with hg
    injection hg with _ hg
    exact hT hg.symm
theorem CV.type {w w' : World} {base g : Nat} {v : Value} {s : CkS} {cs : Array Value} {t : TypeId} {fr : Nat × Nat} (h : CV w base v s) (hw : w.heap[g]? = some (.cells cs t fr)) (hT : t ≠ 2) (hg : w.grownBy w' (some g)) : CV w' base v s := by
  obtain ⟨A, c, A2, c2, h1, h2, h3⟩ := h.ex
  exact ⟨A, c, A2, c2, h1, h2.grown hg (h2.ne_type hw hT), h3.grown hg (h3.ne_type hw hT)⟩
theorem Fr.setRow {b0 base g : Nat} {w W : World} (h : Fr b0 base w W) (hg : w.heap.size ≤ g) (cs : Array Value) : Fr b0 base w (W.setRow g cs) :=
  ⟨h.os, h.tape, h.output, Nat.le_trans h.size (grown_setRow W g cs).size, fun i hi hr => ((grown_setRow W g cs).block i (Nat.lt_of_lt_of_le hi h.size) (fun e => by injection e with e; omega)).trans (h.block i hi hr)⟩

/-- What one call leaves: both clocks alike. -/
structure Asked (w w' : World) (b0 base sb bf bp N : Nat) (v : Value) (s : CkS) : Prop where
  ck : Ck w' b0 base sb bf bp N s
  cv : CV w' base v s
  fr : Fr b0 base w w'

theorem asked_end {w w2 : World} {b0 base sb bf bp N : Nat} {now last mark : Int} {A : Option Addr} {n c : Nat} {A2 : Option Addr} {n2 c2 : Nat} {s : CkS} {g : Nat} {b : Array Value} (hck : Ck w2 b0 base sb bf bp N s) (hcv : CV w2 base (cval now last mark (.slice A n c) (.slice A2 n2 c2)) s)
    (hfr : Fr b0 base w w2) (hg : w.heap.size ≤ g) (hb : base ≤ w.heap.size) (hblk : w2.heap[g]? = some (.cells b 28 (0, 0))) :
    Asked w (w2.setRow g (ccs now last mark (.slice A n c) (.slice A2 n2 c2))) b0 base sb bf bp N (cval now last mark (.slice A n c) (.slice A2 n2 c2)) s :=
  ⟨hck.far (grown_setRow w2 g _) (fun j hj => by injection hj with hj; omega), hcv.type hblk (by decide) (grown_setRow w2 g _), hfr.setRow hg _⟩

theorem rtick_cv {W : World} {base N : Nat} {v : Value} {s : CkS} (hv : CV W base v s) (ho : s.Ok N) (t : Int) (ht : R64 t) : Calls Try.prog 49 #[v, .int .i64 t] W fun e w' => ∃ v', e = .returned v' ∧ CV w' base v' (s.tick t) ∧ Ext W w' := by
  obtain ⟨A, c, A2, c2, rfl, hA, hA2⟩ := hv.ex
  refine (rtick_any s.now s.last s.mark A s.fl.length c A2 s.pn.length c2 t W ho.now ht).mono ?_
  rintro e w' ⟨rfl, he⟩
  exact ⟨_, rfl, ⟨A, c, A2, c2, rfl, hA.ext he, hA2.ext he⟩, he⟩
theorem rraise_cv {W : World} {base : Nat} {v : Value} {s : CkS} (hv : CV W base v s) (t : Int) : Calls Try.prog 53 #[v, .int .i64 t] W fun e w' => ∃ v', e = .returned v' ∧ CV w' base v' (s.raise t) ∧ Ext W w' := by
  obtain ⟨A, c, A2, c2, rfl, hA, hA2⟩ := hv.ex
  refine (rraise_any s.now s.last s.mark A s.fl.length c A2 s.pn.length c2 t W).mono ?_
  rintro e w' ⟨rfl, he⟩
  exact ⟨_, rfl, ⟨A, c, A2, c2, rfl, hA.ext he, hA2.ext he⟩, he⟩
theorem rmove_cv {W : World} {base : Nat} {v : Value} {s : CkS} (hv : CV W base v s) (t : Int) : Calls Try.prog 54 #[v, .int .i64 t] W fun e w' => ∃ v', e = .returned (.tuple #[v', .int .i64 (s.move t).2]) ∧ CV w' base v' (s.move t).1 ∧ Ext W w' := by
  obtain ⟨A, c, A2, c2, rfl, hA, hA2⟩ := hv.ex
  refine (rmove_any s.now s.last s.mark A s.fl.length c A2 s.pn.length c2 t W).mono ?_
  rintro e w' ⟨rfl, he⟩
  unfold CkS.move
  by_cases q : t < s.mark ∨ t > 1099511627776
  · rw [if_pos q, if_pos q, if_pos q]
    exact ⟨_, rfl, ⟨A, c, A2, c2, rfl, hA.ext he, hA2.ext he⟩, he⟩
  · rw [if_neg q, if_neg q, if_neg q]
    exact ⟨_, rfl, ⟨A, c, A2, c2, rfl, hA.ext he, hA2.ext he⟩, he⟩

set_option maxHeartbeats 3200000 in
theorem asks_any {w : World} {b0 base sb bf bp N : Nat} {s : CkS} {v : Value} (h : Ck w b0 base sb bf bp N s) (hv : CV w base v s) (ho : s.Ok N) (hN : N ≤ 8796093022208) (k t : Int) (ht : R64 t) :
    Calls Try.prog 14 #[.pointer (some ⟨sb, 0, none⟩), v, .agg #[.int .i64 k, .int .i64 t]] w fun e w' => ∃ v' s', e = .returned (.tuple #[v', .bool true]) ∧ Asked w w' b0 base sb bf bp (N + 1) v' s' ∧ s'.Ok (N + 1) := by
  have hbase := h.top
  obtain ⟨A, c, A2, c2, rfl, hA, hA2⟩ := hv.ex
  obtain ⟨W0, hW0⟩ : ∃ W0, W0 = ((w.alloc (.cells (ccs s.now s.last s.mark (.slice A s.fl.length c) (.slice A2 s.pn.length c2)) 28)).alloc (.cells #[.int .i64 k, .int .i64 t] 31)).alloc (.cells zcs 28) := ⟨_, rfl⟩
  have hE0 : Ext w W0 := by rw [hW0]; exact (((Ext.refl w).alloc _).alloc _).alloc _
  have hz0 : W0.heap.size = w.heap.size + 3 := by rw [hW0]; simp
  have hb0 : W0.heap[w.heap.size]? = some (.cells (ccs s.now s.last s.mark (.slice A s.fl.length c) (.slice A2 s.pn.length c2)) 28 (0, 0)) := by
    rw [hW0, Below.heap_alloc _ _ _ (by simp; omega), Below.heap_alloc _ _ _ (by simp)]; exact heap_alloc_new w _
  have hb1 : W0.heap[w.heap.size + 1]? = some (.cells #[.int .i64 k, .int .i64 t] 31 (0, 0)) := by
    rw [hW0, Below.heap_alloc _ _ _ (by simp)]
    have := heap_alloc_new (w.alloc (.cells (ccs s.now s.last s.mark (.slice A s.fl.length c) (.slice A2 s.pn.length c2)) 28)) (.cells #[.int .i64 k, .int .i64 t] 31)
    simpa using this
  have hb2 : W0.heap[w.heap.size + 2]? = some (.cells zcs 28 (0, 0)) := by
    have := heap_alloc_new ((w.alloc (.cells (ccs s.now s.last s.mark (.slice A s.fl.length c) (.slice A2 s.pn.length c2)) 28)).alloc (.cells #[.int .i64 k, .int .i64 t] 31)) (.cells zcs 28)
    rw [hW0]
    have e : ((w.alloc (.cells (ccs s.now s.last s.mark (.slice A s.fl.length c) (.slice A2 s.pn.length c2)) 28)).alloc (.cells #[.int .i64 k, .int .i64 t] 31)).heap.size = w.heap.size + 2 := by simp
    rw [e] at this
    exact this
  have HM : Hid (∀ W, Fr b0 base W0 W → W.cell? ⟨w.heap.size, 0, none⟩ = some (.int .i64 s.now) ∧ W.cell? ⟨w.heap.size, 1, none⟩ = some (.int .i64 s.last) ∧ W.cell? ⟨w.heap.size, 2, none⟩ = some (.int .i64 s.mark) ∧ W.cell? ⟨w.heap.size, 3, none⟩ = some (.slice A s.fl.length c) ∧ W.cell? ⟨w.heap.size, 4, none⟩ = some (.slice A2 s.pn.length c2)) := Lib.hid fun W hW => by
    have h1 := (hW.block w.heap.size (by omega) (.inr hbase)).trans hb0
    refine ⟨?_, ?_, ?_, ?_, ?_⟩ <;> (rw [cell_of_row W w.heap.size _ _ _ (0, 0) h1]; rfl)
  have HO : Hid (∀ W, Fr b0 base W0 W → W.cell? ⟨w.heap.size + 1, 0, none⟩ = some (.int .i64 k) ∧ W.cell? ⟨w.heap.size + 1, 1, none⟩ = some (.int .i64 t)) := Lib.hid fun W hW => by
    have h1 := (hW.block (w.heap.size + 1) (by omega) (.inr (by omega))).trans hb1
    refine ⟨?_, ?_⟩ <;> (rw [cell_of_row W (w.heap.size + 1) _ _ _ (0, 0) h1]; rfl)
  have HR : Hid (∀ W, Fr b0 base W0 W → W.heap[w.heap.size + 2]? = some (.cells zcs 28 (0, 0))) := Lib.hid fun W hW => (hW.block (w.heap.size + 2) (by omega) (.inr (by omega))).trans hb2
  have Hk := Lib.hid (h.ext hE0)
  have Hv := Lib.hid (hv.ext hE0)
  have Ho := Lib.hid ho
  have HF0 : Hid (Fr b0 base w W0) := Lib.hid (hE0.fr _ _)
  have Hz : Hid (∀ W, Fr b0 base W0 W → base ≤ W.heap.size) := Lib.hid fun W hW => by have := hW.size; omega
  have Hbase := Lib.hid hbase
  have Ht := Lib.hid ht
  have HW0 := Lib.hid hW0
  have hm0 := HM.out W0 (Fr.refl _ _ _)
  have ho0 := HO.out W0 (Fr.refl _ _ _)
  obtain ⟨n, hn⟩ : ∃ n, n = s.fl.length := ⟨_, rfl⟩
  obtain ⟨n2, hn2⟩ : ∃ n2, n2 = s.pn.length := ⟨_, rfl⟩
  obtain ⟨now, hnow⟩ : ∃ x, x = s.now := ⟨_, rfl⟩
  obtain ⟨last, hlast⟩ : ∃ x, x = s.last := ⟨_, rfl⟩
  obtain ⟨mark, hmark⟩ : ∃ x, x = s.mark := ⟨_, rfl⟩
  have Hn := Lib.hid hn
  have Hnow := Lib.hid hnow
  have Hlast := Lib.hid hlast
  have Hmark := Lib.hid hmark
  simp only [← hn, ← hn2, ← hnow, ← hlast, ← hmark] at hm0 HM Hv HW0 ⊢
  obtain ⟨m0, m1, m2, m3, m4⟩ := hm0
  obtain ⟨o0, o1⟩ := ho0
  clear h hv ho ht hE0 hz0 hb0 hb1 hb2 hbase hA hA2 hW0 hn hn2 hnow hlast hmark
  by_cases q1 : k = 1
  · subst q1
    have P := Lib.hid (mtick_any Hk.out Ho.out t Ht.out)
    obtain ⟨S, hS⟩ : ∃ S, S = s.tick t := ⟨_, rfl⟩
    have hOK : S.Ok (N + 1) := by rw [hS]; exact (Ho.out.tick t).mono (Nat.le_succ _)
    have HOK := Lib.hid hOK
    rw [← hS] at P
    have R : Hid (∀ W, Fr b0 base W0 W → Calls Try.prog 49 #[(cval now last mark (.slice A n c) (.slice A2 n2 c2)), .int .i64 t] W fun e w' => ∃ v', e = .returned v' ∧ CV w' base v' S ∧ Ext W w') := Lib.hid fun W hW => by rw [hS]; exact rtick_cv (Hv.out.fr hW) Ho.out t Ht.out
    clear hS hOK
    go_enter Try.func14, Try.ntmps14
    go_wp2_with fail
    rw [← HW0.out]
    refine P.out.mono ?_
    rintro e w1 ⟨rfl, k1, f1⟩
    obtain ⟨m0, m1, m2, m3, m4⟩ := HM.out _ f1
    obtain ⟨o0, o1⟩ := HO.out _ f1
    have K1 := Lib.hid k1
    have F1 := Lib.hid f1
    clear k1 f1
    go_wp2_with fail
    refine (R.out _ F1.out).mono ?_
    rintro e w2 ⟨v2, rfl, cv2, he2⟩
    obtain ⟨A3, c3, A4, c4, hv3, _, _⟩ := cv2.ex
    subst hv3
    obtain ⟨x0, hx0⟩ : ∃ x, x = S.now := ⟨_, rfl⟩
    obtain ⟨x1, hx1⟩ : ∃ x, x = S.last := ⟨_, rfl⟩
    obtain ⟨x2, hx2⟩ : ∃ x, x = S.mark := ⟨_, rfl⟩
    obtain ⟨L3, hL3⟩ : ∃ x, x = S.fl.length := ⟨_, rfl⟩
    obtain ⟨L4, hL4⟩ : ∃ x, x = S.pn.length := ⟨_, rfl⟩
    rw [← hx0, ← hx1, ← hx2, ← hL3, ← hL4] at cv2 ⊢
    clear hx0 hx1 hx2 hL3 hL4
    have CV2 := Lib.hid cv2
    clear cv2
    have F2 : Hid (Fr b0 base W0 w2) := Lib.hid (F1.out.trans (he2.fr _ _))
    have K2 := Lib.hid ((K1.out.ext he2).mono (Nat.le_succ _))
    clear he2
    go_wp2_with (refine wpList_store_clk rfl _ _ rfl (w.heap.size + 2) x0 x1 x2 A3 L3 c3 A4 L4 c4 rfl rfl rfl (HR.out _ F2.out) ?_)
    have hfin := asked_end (A := A3) (n := L3) (c := c3) (A2 := A4) (n2 := L4) (c2 := c4) (g := w.heap.size + 2) (K2.out) (CV2.out) (HF0.out.trans F2.out) (by omega) Hbase.out (HR.out _ F2.out)
    apply bodyPost_ret
    · exact results_c2 rfl _ _ (w.heap.size + 2) 28 (ccs x0 x1 x2 (.slice A3 L3 c3) (.slice A4 L4 c4)) (0, 0) _ rfl (setRow_heap _ (w.heap.size + 2) _ _ 28 (0, 0) (HR.out _ F2.out)) Try.underlying28 rfl (by kernel_rfl)
    · rfl
    exact ⟨_, _, rfl, hfin, HOK.out⟩
  have b1 : (k == 1) = false := by simpa using q1
  by_cases q2 : k = 2
  · subst q2
    obtain ⟨B, hB⟩ : ∃ B, B = s.begin := ⟨_, rfl⟩
    have hOK : B.1.Ok (N + 1) := by rw [hB]; exact Ho.out.begin
    have P := mbegin_any Hk.out Ho.out (by omega)
    have R := fun W (hW : Fr b0 base W0 W) => rbegin_any (Hv.out.fr hW) Ho.out (by omega) (Hz.out W hW)
    rw [← hB] at P
    simp only [← hB] at R
    obtain ⟨S, T, E⟩ := B
    have HOK : Hid (S.Ok (N + 1)) := Lib.hid hOK
    have P := Lib.hid P
    have R := Lib.hid R
    clear hB hOK
    go_enter Try.func14, Try.ntmps14
    go_wp2_with fail
    rw [← HW0.out]
    refine P.out.mono ?_
    rintro e w1 ⟨rfl, k1, f1⟩
    obtain ⟨m0, m1, m2, m3, m4⟩ := HM.out _ f1
    obtain ⟨o0, o1⟩ := HO.out _ f1
    have K1 : Hid (Ck w1 b0 base sb bf bp (N + 1) S) := Lib.hid k1
    have F1 := Lib.hid f1
    clear k1 f1
    go_wp2_with fail
    refine (R.out _ F1.out).mono ?_
    rintro e w2 ⟨v2, rfl, cv2, he2⟩
    replace cv2 : CV w2 base v2 S := cv2
    obtain ⟨A3, c3, A4, c4, hv3, _, _⟩ := cv2.ex
    subst hv3
    obtain ⟨x0, hx0⟩ : ∃ x, x = S.now := ⟨_, rfl⟩
    obtain ⟨x1, hx1⟩ : ∃ x, x = S.last := ⟨_, rfl⟩
    obtain ⟨x2, hx2⟩ : ∃ x, x = S.mark := ⟨_, rfl⟩
    obtain ⟨L3, hL3⟩ : ∃ x, x = S.fl.length := ⟨_, rfl⟩
    obtain ⟨L4, hL4⟩ : ∃ x, x = S.pn.length := ⟨_, rfl⟩
    rw [← hx0, ← hx1, ← hx2, ← hL3, ← hL4] at cv2 ⊢
    clear hx0 hx1 hx2 hL3 hL4
    have CV2 := Lib.hid cv2
    clear cv2
    have F2 : Hid (Fr b0 base W0 (w2.alloc (.cells (ccs x0 x1 x2 (.slice A3 L3 c3) (.slice A4 L4 c4)) 28))) := Lib.hid ((F1.out.trans (he2.fr _ _)).trans (((Ext.refl w2).alloc _).fr _ _))
    have K2 := Lib.hid ((K1.out.ext he2).ext ((Ext.refl w2).alloc (.cells (ccs x0 x1 x2 (.slice A3 L3 c3) (.slice A4 L4 c4)) 28)))
    have CV3 := Lib.hid (CV2.out.ext ((Ext.refl w2).alloc (.cells (ccs x0 x1 x2 (.slice A3 L3 c3) (.slice A4 L4 c4)) 28)))
    clear he2
    go_wp2_with (refine wpList_store_clk rfl _ _ rfl (w.heap.size + 2) x0 x1 x2 A3 L3 c3 A4 L4 c4 rfl rfl rfl (HR.out _ F2.out) ?_)
    have hfin := asked_end (A := A3) (n := L3) (c := c3) (A2 := A4) (n2 := L4) (c2 := c4) (g := w.heap.size + 2) (K2.out) (CV3.out) (HF0.out.trans F2.out) (by omega) Hbase.out (HR.out _ F2.out)
    apply bodyPost_ret
    · exact results_c2 rfl _ _ (w.heap.size + 2) 28 (ccs x0 x1 x2 (.slice A3 L3 c3) (.slice A4 L4 c4)) (0, 0) _ rfl (setRow_heap _ (w.heap.size + 2) _ _ 28 (0, 0) (HR.out _ F2.out)) Try.underlying28 rfl (by kernel_rfl)
    · rfl
    exact ⟨_, _, rfl, hfin, HOK.out⟩
  have b2 : (k == 2) = false := by simpa using q2
  by_cases q3 : k = 3
  · subst q3
    obtain ⟨S, hS⟩ : ∃ S, S = s.fin t := ⟨_, rfl⟩
    obtain ⟨E, hE⟩ : ∃ E, E = endE s.fl t := ⟨_, rfl⟩
    have hOK : S.Ok (N + 1) := by rw [hS]; exact (Ho.out.fin t).mono (Nat.le_succ _)
    have HOK := Lib.hid hOK
    have P : Hid (Calls Try.prog 28 #[.pointer (some ⟨sb, 0, none⟩), .int .i64 t] W0 fun e w' => e = .returned (.int .i64 E) ∧ Ck w' b0 base sb bf bp (N + 1) S ∧ Fr b0 base W0 w') := Lib.hid (by rw [hS, hE]; exact mcommit_any Hk.out Ho.out (by omega) t Ht.out)
    have R : Hid (∀ W, Fr b0 base W0 W → Calls Try.prog 51 #[(cval now last mark (.slice A n c) (.slice A2 n2 c2)), .int .i64 t] W fun e w' => ∃ v', e = .returned (.tuple #[v', .int .i64 E]) ∧ CV w' base v' S ∧ Ext W w') := Lib.hid fun W hW => by rw [hS, hE]; exact rend_any (Hv.out.fr hW) Ho.out (by omega) (Hz.out W hW) t
    clear hS hE hOK
    go_enter Try.func14, Try.ntmps14
    go_wp2_with fail
    rw [← HW0.out]
    refine P.out.mono ?_
    rintro e w1 ⟨rfl, k1, f1⟩
    obtain ⟨m0, m1, m2, m3, m4⟩ := HM.out _ f1
    obtain ⟨o0, o1⟩ := HO.out _ f1
    have K1 := Lib.hid k1
    have F1 := Lib.hid f1
    clear k1 f1
    go_wp2_with fail
    refine (R.out _ F1.out).mono ?_
    rintro e w2 ⟨v2, rfl, cv2, he2⟩
    obtain ⟨A3, c3, A4, c4, hv3, _, _⟩ := cv2.ex
    subst hv3
    obtain ⟨x0, hx0⟩ : ∃ x, x = S.now := ⟨_, rfl⟩
    obtain ⟨x1, hx1⟩ : ∃ x, x = S.last := ⟨_, rfl⟩
    obtain ⟨x2, hx2⟩ : ∃ x, x = S.mark := ⟨_, rfl⟩
    obtain ⟨L3, hL3⟩ : ∃ x, x = S.fl.length := ⟨_, rfl⟩
    obtain ⟨L4, hL4⟩ : ∃ x, x = S.pn.length := ⟨_, rfl⟩
    rw [← hx0, ← hx1, ← hx2, ← hL3, ← hL4] at cv2 ⊢
    clear hx0 hx1 hx2 hL3 hL4
    have CV2 := Lib.hid cv2
    clear cv2
    have F2 : Hid (Fr b0 base W0 (w2.alloc (.cells (ccs x0 x1 x2 (.slice A3 L3 c3) (.slice A4 L4 c4)) 28))) := Lib.hid ((F1.out.trans (he2.fr _ _)).trans (((Ext.refl w2).alloc _).fr _ _))
    have K2 := Lib.hid ((K1.out.ext he2).ext ((Ext.refl w2).alloc (.cells (ccs x0 x1 x2 (.slice A3 L3 c3) (.slice A4 L4 c4)) 28)))
    have CV3 := Lib.hid (CV2.out.ext ((Ext.refl w2).alloc (.cells (ccs x0 x1 x2 (.slice A3 L3 c3) (.slice A4 L4 c4)) 28)))
    clear he2
    go_wp2_with (refine wpList_store_clk rfl _ _ rfl (w.heap.size + 2) x0 x1 x2 A3 L3 c3 A4 L4 c4 rfl rfl rfl (HR.out _ F2.out) ?_)
    have hfin := asked_end (A := A3) (n := L3) (c := c3) (A2 := A4) (n2 := L4) (c2 := c4) (g := w.heap.size + 2) (K2.out) (CV3.out) (HF0.out.trans F2.out) (by omega) Hbase.out (HR.out _ F2.out)
    apply bodyPost_ret
    · exact results_c2 rfl _ _ (w.heap.size + 2) 28 (ccs x0 x1 x2 (.slice A3 L3 c3) (.slice A4 L4 c4)) (0, 0) _ rfl (setRow_heap _ (w.heap.size + 2) _ _ 28 (0, 0) (HR.out _ F2.out)) Try.underlying28 rfl (by kernel_rfl)
    · rfl
    exact ⟨_, _, rfl, hfin, HOK.out⟩
  have b3 : (k == 3) = false := by simpa using q3
  by_cases q4 : k = 4
  · subst q4
    obtain ⟨S, hS⟩ : ∃ S, S = s.fin t := ⟨_, rfl⟩
    obtain ⟨E, hE⟩ : ∃ E, E = endE s.fl t := ⟨_, rfl⟩
    have hOK : S.Ok (N + 1) := by rw [hS]; exact (Ho.out.fin t).mono (Nat.le_succ _)
    have HOK := Lib.hid hOK
    have P : Hid (Calls Try.prog 29 #[.pointer (some ⟨sb, 0, none⟩), .int .i64 t] W0 fun e w' => e = .returned (.int .i64 E) ∧ Ck w' b0 base sb bf bp (N + 1) S ∧ Fr b0 base W0 w') := Lib.hid (by rw [hS, hE]; exact mabort_any Hk.out Ho.out (by omega) t Ht.out)
    have R : Hid (∀ W, Fr b0 base W0 W → Calls Try.prog 51 #[(cval now last mark (.slice A n c) (.slice A2 n2 c2)), .int .i64 t] W fun e w' => ∃ v', e = .returned (.tuple #[v', .int .i64 E]) ∧ CV w' base v' S ∧ Ext W w') := Lib.hid fun W hW => by rw [hS, hE]; exact rend_any (Hv.out.fr hW) Ho.out (by omega) (Hz.out W hW) t
    clear hS hE hOK
    go_enter Try.func14, Try.ntmps14
    go_wp2_with fail
    rw [← HW0.out]
    refine P.out.mono ?_
    rintro e w1 ⟨rfl, k1, f1⟩
    obtain ⟨m0, m1, m2, m3, m4⟩ := HM.out _ f1
    obtain ⟨o0, o1⟩ := HO.out _ f1
    have K1 := Lib.hid k1
    have F1 := Lib.hid f1
    clear k1 f1
    go_wp2_with fail
    refine (R.out _ F1.out).mono ?_
    rintro e w2 ⟨v2, rfl, cv2, he2⟩
    obtain ⟨A3, c3, A4, c4, hv3, _, _⟩ := cv2.ex
    subst hv3
    obtain ⟨x0, hx0⟩ : ∃ x, x = S.now := ⟨_, rfl⟩
    obtain ⟨x1, hx1⟩ : ∃ x, x = S.last := ⟨_, rfl⟩
    obtain ⟨x2, hx2⟩ : ∃ x, x = S.mark := ⟨_, rfl⟩
    obtain ⟨L3, hL3⟩ : ∃ x, x = S.fl.length := ⟨_, rfl⟩
    obtain ⟨L4, hL4⟩ : ∃ x, x = S.pn.length := ⟨_, rfl⟩
    rw [← hx0, ← hx1, ← hx2, ← hL3, ← hL4] at cv2 ⊢
    clear hx0 hx1 hx2 hL3 hL4
    have CV2 := Lib.hid cv2
    clear cv2
    have F2 : Hid (Fr b0 base W0 (w2.alloc (.cells (ccs x0 x1 x2 (.slice A3 L3 c3) (.slice A4 L4 c4)) 28))) := Lib.hid ((F1.out.trans (he2.fr _ _)).trans (((Ext.refl w2).alloc _).fr _ _))
    have K2 := Lib.hid ((K1.out.ext he2).ext ((Ext.refl w2).alloc (.cells (ccs x0 x1 x2 (.slice A3 L3 c3) (.slice A4 L4 c4)) 28)))
    have CV3 := Lib.hid (CV2.out.ext ((Ext.refl w2).alloc (.cells (ccs x0 x1 x2 (.slice A3 L3 c3) (.slice A4 L4 c4)) 28)))
    clear he2
    go_wp2_with (refine wpList_store_clk rfl _ _ rfl (w.heap.size + 2) x0 x1 x2 A3 L3 c3 A4 L4 c4 rfl rfl rfl (HR.out _ F2.out) ?_)
    have hfin := asked_end (A := A3) (n := L3) (c := c3) (A2 := A4) (n2 := L4) (c2 := c4) (g := w.heap.size + 2) (K2.out) (CV3.out) (HF0.out.trans F2.out) (by omega) Hbase.out (HR.out _ F2.out)
    apply bodyPost_ret
    · exact results_c2 rfl _ _ (w.heap.size + 2) 28 (ccs x0 x1 x2 (.slice A3 L3 c3) (.slice A4 L4 c4)) (0, 0) _ rfl (setRow_heap _ (w.heap.size + 2) _ _ 28 (0, 0) (HR.out _ F2.out)) Try.underlying28 rfl (by kernel_rfl)
    · rfl
    exact ⟨_, _, rfl, hfin, HOK.out⟩
  have b4 : (k == 4) = false := by simpa using q4
  by_cases q5 : k = 5
  · subst q5
    have P := Lib.hid (mraise_any Hk.out t)
    obtain ⟨S, hS⟩ : ∃ S, S = s.raise t := ⟨_, rfl⟩
    have hOK : S.Ok (N + 1) := by rw [hS]; exact (Ho.out.raise t).mono (Nat.le_succ _)
    have HOK := Lib.hid hOK
    rw [← hS] at P
    have R : Hid (∀ W, Fr b0 base W0 W → Calls Try.prog 53 #[(cval now last mark (.slice A n c) (.slice A2 n2 c2)), .int .i64 t] W fun e w' => ∃ v', e = .returned v' ∧ CV w' base v' S ∧ Ext W w') := Lib.hid fun W hW => by rw [hS]; exact rraise_cv (Hv.out.fr hW) t
    clear hS hOK
    go_enter Try.func14, Try.ntmps14
    go_wp2_with fail
    rw [← HW0.out]
    refine P.out.mono ?_
    rintro e w1 ⟨rfl, k1, f1⟩
    obtain ⟨m0, m1, m2, m3, m4⟩ := HM.out _ f1
    obtain ⟨o0, o1⟩ := HO.out _ f1
    have K1 := Lib.hid k1
    have F1 := Lib.hid f1
    clear k1 f1
    go_wp2_with fail
    refine (R.out _ F1.out).mono ?_
    rintro e w2 ⟨v2, rfl, cv2, he2⟩
    obtain ⟨A3, c3, A4, c4, hv3, _, _⟩ := cv2.ex
    subst hv3
    obtain ⟨x0, hx0⟩ : ∃ x, x = S.now := ⟨_, rfl⟩
    obtain ⟨x1, hx1⟩ : ∃ x, x = S.last := ⟨_, rfl⟩
    obtain ⟨x2, hx2⟩ : ∃ x, x = S.mark := ⟨_, rfl⟩
    obtain ⟨L3, hL3⟩ : ∃ x, x = S.fl.length := ⟨_, rfl⟩
    obtain ⟨L4, hL4⟩ : ∃ x, x = S.pn.length := ⟨_, rfl⟩
    rw [← hx0, ← hx1, ← hx2, ← hL3, ← hL4] at cv2 ⊢
    clear hx0 hx1 hx2 hL3 hL4
    have CV2 := Lib.hid cv2
    clear cv2
    have F2 : Hid (Fr b0 base W0 w2) := Lib.hid (F1.out.trans (he2.fr _ _))
    have K2 := Lib.hid ((K1.out.ext he2).mono (Nat.le_succ _))
    clear he2
    go_wp2_with (refine wpList_store_clk rfl _ _ rfl (w.heap.size + 2) x0 x1 x2 A3 L3 c3 A4 L4 c4 rfl rfl rfl (HR.out _ F2.out) ?_)
    have hfin := asked_end (A := A3) (n := L3) (c := c3) (A2 := A4) (n2 := L4) (c2 := c4) (g := w.heap.size + 2) (K2.out) (CV2.out) (HF0.out.trans F2.out) (by omega) Hbase.out (HR.out _ F2.out)
    apply bodyPost_ret
    · exact results_c2 rfl _ _ (w.heap.size + 2) 28 (ccs x0 x1 x2 (.slice A3 L3 c3) (.slice A4 L4 c4)) (0, 0) _ rfl (setRow_heap _ (w.heap.size + 2) _ _ 28 (0, 0) (HR.out _ F2.out)) Try.underlying28 rfl (by kernel_rfl)
    · rfl
    exact ⟨_, _, rfl, hfin, HOK.out⟩
  have b5 : (k == 5) = false := by simpa using q5
  by_cases q6 : k = 6
  · subst q6
    obtain ⟨S, hS⟩ : ∃ S, S = (s.move t).1 := ⟨_, rfl⟩
    obtain ⟨E, hE⟩ : ∃ E, E = (s.move t).2 := ⟨_, rfl⟩
    have hOK : S.Ok (N + 1) := by rw [hS]; exact (Ho.out.move t).mono (Nat.le_succ _)
    have HOK := Lib.hid hOK
    have P : Hid (Calls Try.prog 48 #[.pointer (some ⟨sb, 0, none⟩), .int .i64 t] W0 fun e w' => e = .returned (.int .i64 E) ∧ Ck w' b0 base sb bf bp (N + 1) S ∧ Fr b0 base W0 w') := Lib.hid (by rw [hS, hE]; exact (mmove_any Hk.out t).mono (by rintro e w' ⟨rfl, h1, h2⟩; exact ⟨rfl, h1.mono (Nat.le_succ _), h2⟩))
    have R : Hid (∀ W, Fr b0 base W0 W → Calls Try.prog 54 #[(cval now last mark (.slice A n c) (.slice A2 n2 c2)), .int .i64 t] W fun e w' => ∃ v', e = .returned (.tuple #[v', .int .i64 E]) ∧ CV w' base v' S ∧ Ext W w') := Lib.hid fun W hW => by rw [hS, hE]; exact rmove_cv (Hv.out.fr hW) t
    clear hS hE hOK
    go_enter Try.func14, Try.ntmps14
    go_wp2_with fail
    rw [← HW0.out]
    refine P.out.mono ?_
    rintro e w1 ⟨rfl, k1, f1⟩
    obtain ⟨m0, m1, m2, m3, m4⟩ := HM.out _ f1
    obtain ⟨o0, o1⟩ := HO.out _ f1
    have K1 := Lib.hid k1
    have F1 := Lib.hid f1
    clear k1 f1
    go_wp2_with fail
    refine (R.out _ F1.out).mono ?_
    rintro e w2 ⟨v2, rfl, cv2, he2⟩
    obtain ⟨A3, c3, A4, c4, hv3, _, _⟩ := cv2.ex
    subst hv3
    obtain ⟨x0, hx0⟩ : ∃ x, x = S.now := ⟨_, rfl⟩
    obtain ⟨x1, hx1⟩ : ∃ x, x = S.last := ⟨_, rfl⟩
    obtain ⟨x2, hx2⟩ : ∃ x, x = S.mark := ⟨_, rfl⟩
    obtain ⟨L3, hL3⟩ : ∃ x, x = S.fl.length := ⟨_, rfl⟩
    obtain ⟨L4, hL4⟩ : ∃ x, x = S.pn.length := ⟨_, rfl⟩
    rw [← hx0, ← hx1, ← hx2, ← hL3, ← hL4] at cv2 ⊢
    clear hx0 hx1 hx2 hL3 hL4
    have CV2 := Lib.hid cv2
    clear cv2
    have F2 : Hid (Fr b0 base W0 (w2.alloc (.cells (ccs x0 x1 x2 (.slice A3 L3 c3) (.slice A4 L4 c4)) 28))) := Lib.hid ((F1.out.trans (he2.fr _ _)).trans (((Ext.refl w2).alloc _).fr _ _))
    have K2 := Lib.hid ((K1.out.ext he2).ext ((Ext.refl w2).alloc (.cells (ccs x0 x1 x2 (.slice A3 L3 c3) (.slice A4 L4 c4)) 28)))
    have CV3 := Lib.hid (CV2.out.ext ((Ext.refl w2).alloc (.cells (ccs x0 x1 x2 (.slice A3 L3 c3) (.slice A4 L4 c4)) 28)))
    clear he2
    go_wp2_with (refine wpList_store_clk rfl _ _ rfl (w.heap.size + 2) x0 x1 x2 A3 L3 c3 A4 L4 c4 rfl rfl rfl (HR.out _ F2.out) ?_)
    have hfin := asked_end (A := A3) (n := L3) (c := c3) (A2 := A4) (n2 := L4) (c2 := c4) (g := w.heap.size + 2) (K2.out) (CV3.out) (HF0.out.trans F2.out) (by omega) Hbase.out (HR.out _ F2.out)
    apply bodyPost_ret
    · exact results_c2 rfl _ _ (w.heap.size + 2) 28 (ccs x0 x1 x2 (.slice A3 L3 c3) (.slice A4 L4 c4)) (0, 0) _ rfl (setRow_heap _ (w.heap.size + 2) _ _ 28 (0, 0) (HR.out _ F2.out)) Try.underlying28 rfl (by kernel_rfl)
    · rfl
    exact ⟨_, _, rfl, hfin, HOK.out⟩
  have b6 : (k == 6) = false := by simpa using q6
  by_cases q7 : k = 7
  · subst q7
    obtain ⟨S, hS⟩ : ∃ S, S = (s.pin t).1 := ⟨_, rfl⟩
    obtain ⟨E, hE⟩ : ∃ E, E = (s.pin t).2 := ⟨_, rfl⟩
    have hOK : S.Ok (N + 1) := by rw [hS]; exact Ho.out.pin t
    have HOK := Lib.hid hOK
    have P : Hid (Calls Try.prog 27 #[.pointer (some ⟨sb, 0, none⟩), .int .i64 t] W0 fun e w' => e = .returned (.int .i64 E) ∧ Ck w' b0 base sb bf bp (N + 1) S ∧ Fr b0 base W0 w') := Lib.hid (by rw [hS, hE]; exact mpin_any Hk.out Ho.out (by omega) t Ht.out)
    have R : Hid (∀ W, Fr b0 base W0 W → Calls Try.prog 55 #[(cval now last mark (.slice A n c) (.slice A2 n2 c2)), .int .i64 t] W fun e w' => ∃ v', e = .returned (.tuple #[v', .int .i64 E]) ∧ CV w' base v' S ∧ Ext W w') := Lib.hid fun W hW => by rw [hS, hE]; exact rpin_any (Hv.out.fr hW) Ho.out (by omega) (Hz.out W hW) t
    clear hS hE hOK
    go_enter Try.func14, Try.ntmps14
    go_wp2_with fail
    rw [← HW0.out]
    refine P.out.mono ?_
    rintro e w1 ⟨rfl, k1, f1⟩
    obtain ⟨m0, m1, m2, m3, m4⟩ := HM.out _ f1
    obtain ⟨o0, o1⟩ := HO.out _ f1
    have K1 := Lib.hid k1
    have F1 := Lib.hid f1
    clear k1 f1
    go_wp2_with fail
    refine (R.out _ F1.out).mono ?_
    rintro e w2 ⟨v2, rfl, cv2, he2⟩
    obtain ⟨A3, c3, A4, c4, hv3, _, _⟩ := cv2.ex
    subst hv3
    obtain ⟨x0, hx0⟩ : ∃ x, x = S.now := ⟨_, rfl⟩
    obtain ⟨x1, hx1⟩ : ∃ x, x = S.last := ⟨_, rfl⟩
    obtain ⟨x2, hx2⟩ : ∃ x, x = S.mark := ⟨_, rfl⟩
    obtain ⟨L3, hL3⟩ : ∃ x, x = S.fl.length := ⟨_, rfl⟩
    obtain ⟨L4, hL4⟩ : ∃ x, x = S.pn.length := ⟨_, rfl⟩
    rw [← hx0, ← hx1, ← hx2, ← hL3, ← hL4] at cv2 ⊢
    clear hx0 hx1 hx2 hL3 hL4
    have CV2 := Lib.hid cv2
    clear cv2
    have F2 : Hid (Fr b0 base W0 (w2.alloc (.cells (ccs x0 x1 x2 (.slice A3 L3 c3) (.slice A4 L4 c4)) 28))) := Lib.hid ((F1.out.trans (he2.fr _ _)).trans (((Ext.refl w2).alloc _).fr _ _))
    have K2 := Lib.hid ((K1.out.ext he2).ext ((Ext.refl w2).alloc (.cells (ccs x0 x1 x2 (.slice A3 L3 c3) (.slice A4 L4 c4)) 28)))
    have CV3 := Lib.hid (CV2.out.ext ((Ext.refl w2).alloc (.cells (ccs x0 x1 x2 (.slice A3 L3 c3) (.slice A4 L4 c4)) 28)))
    clear he2
    go_wp2_with (refine wpList_store_clk rfl _ _ rfl (w.heap.size + 2) x0 x1 x2 A3 L3 c3 A4 L4 c4 rfl rfl rfl (HR.out _ F2.out) ?_)
    have hfin := asked_end (A := A3) (n := L3) (c := c3) (A2 := A4) (n2 := L4) (c2 := c4) (g := w.heap.size + 2) (K2.out) (CV3.out) (HF0.out.trans F2.out) (by omega) Hbase.out (HR.out _ F2.out)
    apply bodyPost_ret
    · exact results_c2 rfl _ _ (w.heap.size + 2) 28 (ccs x0 x1 x2 (.slice A3 L3 c3) (.slice A4 L4 c4)) (0, 0) _ rfl (setRow_heap _ (w.heap.size + 2) _ _ 28 (0, 0) (HR.out _ F2.out)) Try.underlying28 rfl (by kernel_rfl)
    · rfl
    exact ⟨_, _, rfl, hfin, HOK.out⟩
  have b7 : (k == 7) = false := by simpa using q7
  by_cases q8 : k = 8
  · subst q8
    obtain ⟨S, hS⟩ : ∃ S, S = s.unpin t := ⟨_, rfl⟩
    obtain ⟨E, hE⟩ : ∃ E, E = endE s.pn t := ⟨_, rfl⟩
    have hOK : S.Ok (N + 1) := by rw [hS]; exact (Ho.out.unpin t).mono (Nat.le_succ _)
    have HOK := Lib.hid hOK
    have P : Hid (Calls Try.prog 56 #[.pointer (some ⟨sb, 0, none⟩), .int .i64 t] W0 fun e w' => e = .returned (.int .i64 E) ∧ Ck w' b0 base sb bf bp (N + 1) S ∧ Fr b0 base W0 w') := Lib.hid (by rw [hS, hE]; exact munpin_any Hk.out Ho.out (by omega) t Ht.out)
    have R : Hid (∀ W, Fr b0 base W0 W → Calls Try.prog 57 #[(cval now last mark (.slice A n c) (.slice A2 n2 c2)), .int .i64 t] W fun e w' => ∃ v', e = .returned (.tuple #[v', .int .i64 E]) ∧ CV w' base v' S ∧ Ext W w') := Lib.hid fun W hW => by rw [hS, hE]; exact runpin_any (Hv.out.fr hW) Ho.out (by omega) (Hz.out W hW) t
    clear hS hE hOK
    go_enter Try.func14, Try.ntmps14
    go_wp2_with fail
    rw [← HW0.out]
    refine P.out.mono ?_
    rintro e w1 ⟨rfl, k1, f1⟩
    obtain ⟨m0, m1, m2, m3, m4⟩ := HM.out _ f1
    obtain ⟨o0, o1⟩ := HO.out _ f1
    have K1 := Lib.hid k1
    have F1 := Lib.hid f1
    clear k1 f1
    go_wp2_with fail
    refine (R.out _ F1.out).mono ?_
    rintro e w2 ⟨v2, rfl, cv2, he2⟩
    obtain ⟨A3, c3, A4, c4, hv3, _, _⟩ := cv2.ex
    subst hv3
    obtain ⟨x0, hx0⟩ : ∃ x, x = S.now := ⟨_, rfl⟩
    obtain ⟨x1, hx1⟩ : ∃ x, x = S.last := ⟨_, rfl⟩
    obtain ⟨x2, hx2⟩ : ∃ x, x = S.mark := ⟨_, rfl⟩
    obtain ⟨L3, hL3⟩ : ∃ x, x = S.fl.length := ⟨_, rfl⟩
    obtain ⟨L4, hL4⟩ : ∃ x, x = S.pn.length := ⟨_, rfl⟩
    rw [← hx0, ← hx1, ← hx2, ← hL3, ← hL4] at cv2 ⊢
    clear hx0 hx1 hx2 hL3 hL4
    have CV2 := Lib.hid cv2
    clear cv2
    have F2 : Hid (Fr b0 base W0 (w2.alloc (.cells (ccs x0 x1 x2 (.slice A3 L3 c3) (.slice A4 L4 c4)) 28))) := Lib.hid ((F1.out.trans (he2.fr _ _)).trans (((Ext.refl w2).alloc _).fr _ _))
    have K2 := Lib.hid ((K1.out.ext he2).ext ((Ext.refl w2).alloc (.cells (ccs x0 x1 x2 (.slice A3 L3 c3) (.slice A4 L4 c4)) 28)))
    have CV3 := Lib.hid (CV2.out.ext ((Ext.refl w2).alloc (.cells (ccs x0 x1 x2 (.slice A3 L3 c3) (.slice A4 L4 c4)) 28)))
    clear he2
    go_wp2_with (refine wpList_store_clk rfl _ _ rfl (w.heap.size + 2) x0 x1 x2 A3 L3 c3 A4 L4 c4 rfl rfl rfl (HR.out _ F2.out) ?_)
    have hfin := asked_end (A := A3) (n := L3) (c := c3) (A2 := A4) (n2 := L4) (c2 := c4) (g := w.heap.size + 2) (K2.out) (CV3.out) (HF0.out.trans F2.out) (by omega) Hbase.out (HR.out _ F2.out)
    apply bodyPost_ret
    · exact results_c2 rfl _ _ (w.heap.size + 2) 28 (ccs x0 x1 x2 (.slice A3 L3 c3) (.slice A4 L4 c4)) (0, 0) _ rfl (setRow_heap _ (w.heap.size + 2) _ _ 28 (0, 0) (HR.out _ F2.out)) Try.underlying28 rfl (by kernel_rfl)
    · rfl
    exact ⟨_, _, rfl, hfin, HOK.out⟩
  have b8 : (k == 8) = false := by simpa using q8
  by_cases q9 : k = 9
  · subst q9
    obtain ⟨u, hu⟩ : ∃ u, u = leastL s.fl 2199023255552 := ⟨_, rfl⟩
    have hur : R64 u := by
      rw [hu]
      obtain ⟨k1, k2, k3⟩ := leastL_spec s.fl 2199023255552
      unfold R64
      rcases k3 with k3 | k3
      · omega
      · have := Ho.out.flr _ k3; omega
    have LL : Hid (Calls Try.prog 58 #[.slice A n c, .int .i64 2199023255552] W0 fun e w' => e = .returned (.int .i64 u) ∧ W0 = w') := Lib.hid (by
      rw [hu]
      obtain ⟨A8, c8, A9, c9, h8, h9, h10⟩ := Hv.out.ex
      injection h8 with h8
      simp only [Array.mk.injEq, List.cons.injEq, Value.slice.injEq, Value.int.injEq, true_and, and_true] at h8
      obtain ⟨-, -, -, ⟨rfl, q2, rfl⟩, rfl, q4, rfl⟩ := h8
      exact rleast_any A n c s.fl _ W0 (h9.rd' q2.symm) (by rw [q2]; have := Ho.out.fl; omega))
    obtain ⟨S, hS⟩ : ∃ S, S = s.fin u := ⟨_, rfl⟩
    obtain ⟨E, hE⟩ : ∃ E, E = endE s.fl u := ⟨_, rfl⟩
    have hOK : S.Ok (N + 1) := by rw [hS]; exact (Ho.out.fin u).mono (Nat.le_succ _)
    have HOK := Lib.hid hOK
    have P : Hid (Calls Try.prog 28 #[.pointer (some ⟨sb, 0, none⟩), .int .i64 u] W0 fun e w' => e = .returned (.int .i64 E) ∧ Ck w' b0 base sb bf bp (N + 1) S ∧ Fr b0 base W0 w') := Lib.hid (by rw [hS, hE]; exact mcommit_any Hk.out Ho.out (by omega) u hur)
    have R : Hid (∀ W, Fr b0 base W0 W → Calls Try.prog 51 #[(cval now last mark (.slice A n c) (.slice A2 n2 c2)), .int .i64 u] W fun e w' => ∃ v', e = .returned (.tuple #[v', .int .i64 E]) ∧ CV w' base v' S ∧ Ext W w') := Lib.hid fun W hW => by rw [hS, hE]; exact rend_any (Hv.out.fr hW) Ho.out (by omega) (Hz.out W hW) u
    clear hS hE hOK hu hur
    go_enter Try.func14, Try.ntmps14
    go_wp2_with fail
    rw [← HW0.out]
    refine LL.out.mono ?_
    rintro e w1 ⟨rfl, rfl⟩
    go_wp2_with fail
    refine P.out.mono ?_
    rintro e w1 ⟨rfl, k1, f1⟩
    obtain ⟨m0, m1, m2, m3, m4⟩ := HM.out _ f1
    obtain ⟨o0, o1⟩ := HO.out _ f1
    have K1 := Lib.hid k1
    have F1 := Lib.hid f1
    clear k1 f1
    go_wp2_with fail
    refine (R.out _ F1.out).mono ?_
    rintro e w2 ⟨v2, rfl, cv2, he2⟩
    obtain ⟨A3, c3, A4, c4, hv3, _, _⟩ := cv2.ex
    subst hv3
    obtain ⟨x0, hx0⟩ : ∃ x, x = S.now := ⟨_, rfl⟩
    obtain ⟨x1, hx1⟩ : ∃ x, x = S.last := ⟨_, rfl⟩
    obtain ⟨x2, hx2⟩ : ∃ x, x = S.mark := ⟨_, rfl⟩
    obtain ⟨L3, hL3⟩ : ∃ x, x = S.fl.length := ⟨_, rfl⟩
    obtain ⟨L4, hL4⟩ : ∃ x, x = S.pn.length := ⟨_, rfl⟩
    rw [← hx0, ← hx1, ← hx2, ← hL3, ← hL4] at cv2 ⊢
    clear hx0 hx1 hx2 hL3 hL4
    have CV2 := Lib.hid cv2
    clear cv2
    have F2 : Hid (Fr b0 base W0 (w2.alloc (.cells (ccs x0 x1 x2 (.slice A3 L3 c3) (.slice A4 L4 c4)) 28))) := Lib.hid ((F1.out.trans (he2.fr _ _)).trans (((Ext.refl w2).alloc _).fr _ _))
    have K2 := Lib.hid ((K1.out.ext he2).ext ((Ext.refl w2).alloc (.cells (ccs x0 x1 x2 (.slice A3 L3 c3) (.slice A4 L4 c4)) 28)))
    have CV3 := Lib.hid (CV2.out.ext ((Ext.refl w2).alloc (.cells (ccs x0 x1 x2 (.slice A3 L3 c3) (.slice A4 L4 c4)) 28)))
    clear he2
    go_wp2_with (refine wpList_store_clk rfl _ _ rfl (w.heap.size + 2) x0 x1 x2 A3 L3 c3 A4 L4 c4 rfl rfl rfl (HR.out _ F2.out) ?_)
    have hfin := asked_end (A := A3) (n := L3) (c := c3) (A2 := A4) (n2 := L4) (c2 := c4) (g := w.heap.size + 2) (K2.out) (CV3.out) (HF0.out.trans F2.out) (by omega) Hbase.out (HR.out _ F2.out)
    apply bodyPost_ret
    · exact results_c2 rfl _ _ (w.heap.size + 2) 28 (ccs x0 x1 x2 (.slice A3 L3 c3) (.slice A4 L4 c4)) (0, 0) _ rfl (setRow_heap _ (w.heap.size + 2) _ _ 28 (0, 0) (HR.out _ F2.out)) Try.underlying28 rfl (by kernel_rfl)
    · rfl
    exact ⟨_, _, rfl, hfin, HOK.out⟩
  have b9 : (k == 9) = false := by simpa using q9
  have hfin := asked_end (A := A) (n := n) (c := c) (A2 := A2) (n2 := n2) (c2 := c2) (g := w.heap.size + 2) (Hk.out.mono (Nat.le_succ N)) Hv.out HF0.out (by omega) Hbase.out (HR.out _ (Fr.refl _ _ _))
  go_enter Try.func14, Try.ntmps14
  have hrow := HR.out _ (Fr.refl _ _ _)
  rw [HW0.out] at hrow hfin
  have Hrow := Lib.hid hrow
  have Hfin := Lib.hid hfin
  clear hrow hfin
  go_wp2_with (refine wpList_store_clk rfl _ _ rfl (w.heap.size + 2) now last mark A n c A2 n2 c2 rfl rfl rfl Hrow.out ?_)
  apply bodyPost_ret
  · exact results_c2 rfl _ _ (w.heap.size + 2) 28 (ccs now last mark (.slice A n c) (.slice A2 n2 c2)) (0, 0) _ rfl (setRow_heap _ (w.heap.size + 2) _ _ 28 (0, 0) Hrow.out) Try.underlying28 rfl (by kernel_rfl)
  · rfl
  exact ⟨_, _, rfl, Hfin.out, Ho.out.mono (Nat.le_succ _)⟩

end Go.Proofs.Ytkmnhapeohlooaa
