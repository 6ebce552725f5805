import Derived.Test.YtkmnhapeohlooaaG14

/-
  Layer 18: a call of the script: Get.
-/
namespace Go.Proofs.Ytkmnhapeohlooaa
open Go.RowKit
set_option maxRecDepth 100000

set_option maxHeartbeats 8000000 in
theorem asks_get {w0 w : World} {sb : Nat} {hs : List Int} {Ak : Option Addr} {n : Nat} {Av : Option Addr} {ss : List Sl} {V : List Int} {X : Nat → Prop} {base : Nat} (h : AS w0 w sb hs Ak n Av ss V X base) (hn : n ≤ 1048576) (ck cv : Nat) (kA : Option Addr) (kn kc : Nat) (key : List Nat) (tk : Rd .u8 w kA kn key) (uk : U8 key) (lk : kn ≤ 1048576) (hA : Option Addr) (hn2 hc : Nat) (hi : List Nat) (th : Rd .u8 w hA hn2 hi) (uh : U8 hi) (_lh : hn2 ≤ 1048576) (v : Int) :
    Calls Try.prog 33 #[.pointer (some ⟨sb, 0, none⟩), .agg #[.slice Ak n ck, .slice Av n cv], .agg #[.int .i64 2, .slice kA kn kc, .slice hA hn2 hc, .int .i64 v]] w (AskPost w0 w sb hs n X Ak Av ss) := by
  have hEa : Ext w ((((w.alloc (.cells #[.slice Ak n ck, .slice Av n cv] 51)).alloc (.cells #[.int .i64 2, .slice kA kn kc, .slice hA hn2 hc, .int .i64 v] 54)).alloc (.cells #[.slice none 0 0, .slice none 0 0] 51)).alloc (.cells #[.bool false] 4)) := ((((Ext.refl w).alloc _).alloc _).alloc _).alloc _
  have CP := Lib.hid (rplace_any Ak n ck Av n cv ss kA kn kc key _ (h.rk.ext hEa) (fun s hs => ⟨((h.tx s hs).1).ext hEa, by have := (h.tx s hs).2.2; omega⟩) (by omega) (tk.ext hEa) (by omega))
  have HH := Lib.hid h
  have HEa := Lib.hid hEa
  have Tk := Lib.hid tk
  have Uk := Lib.hid uk
  have Th := Lib.hid th
  have Uh := Lib.hid uh
  have HnL := Lib.hid h.len
  have HLb : Hid ((bodies ss).length < 1099511627776) := Lib.hid (by rw [h.len]; omega)
  obtain ⟨s, hs0⟩ : ∃ s, s = skN key (bodies ss) := ⟨_, rfl⟩
  obtain ⟨D, hD⟩ : ∃ D, D = decide ((bodies ss)[skN key (bodies ss)]? = some key) := ⟨_, rfl⟩
  have hsn : s ≤ n := by have := skN_le key (bodies ss); rw [h.len] at this; omega
  rw [← hD, ← hs0] at CP
  have Hs0 := Lib.hid hs0
  have HD := Lib.hid hD
  clear h hEa tk uk th uh hs0 hD
  refine (callsIn_wide (n := 6)).1 ?_
  refine callsIn_of_wp_marks Try.func33 rfl trivial ?_ rfl
  simp only [Try.ntmps33, List.size_toArray, List.length_cons, List.length_nil, Nat.reduceAdd, Nat.reduceSub, Array.replicate_succ, Array.replicate_zero, List.push_toArray, List.append_toArray, List.nil_append, List.cons_append]
  refine wpIn_wide.2 ?_
  go_wp2_with fail
  refine CP.out.mono ?_
  rintro e w1 ⟨rfl, he1⟩
  have HQ0 : Hid (((((w.alloc (.cells #[.slice Ak n ck, .slice Av n cv] 51)).alloc (.cells #[.int .i64 2, .slice kA kn kc, .slice hA hn2 hc, .int .i64 v] 54)).alloc (.cells #[.slice none 0 0, .slice none 0 0] 51)).alloc (.cells #[.bool false] 4)).heap.size = w.heap.size + 4) := Lib.hid (by simp [World.size_alloc])
  obtain ⟨W1, hW1⟩ : ∃ W1, W1 = w1.alloc (.cells #[.int .i64 (s : Int)] 3) := ⟨_, rfl⟩
  have hq4 := (he1.block w.heap.size (by rw [HQ0.out]; omega)).trans ((Below.heap_alloc _ _ _ (by simp <;> omega)).trans ((Below.heap_alloc _ _ _ (by simp <;> omega)).trans ((Below.heap_alloc _ _ _ (by simp)).trans (heap_alloc_new w (.cells #[.slice Ak n ck, .slice Av n cv] 51)))))
  have hq5 := (he1.block (w.heap.size + 1) (by rw [HQ0.out]; omega)).trans ((Below.heap_alloc _ _ _ (by simp <;> omega)).trans ((Below.heap_alloc _ _ _ (by simp <;> omega)).trans (show _ = some (Obj.cells #[.int .i64 2, .slice kA kn kc, .slice hA hn2 hc, .int .i64 v] 54 (0, 0)) from by
    have := heap_alloc_new (w.alloc (.cells #[.slice Ak n ck, .slice Av n cv] 51)) (.cells #[.int .i64 2, .slice kA kn kc, .slice hA hn2 hc, .int .i64 v] 54)
    rwa [World.size_alloc] at this)))
  have hq6 := (he1.block (w.heap.size + 1 + 1) (by rw [HQ0.out]; omega)).trans ((Below.heap_alloc _ _ _ (by simp <;> omega)).trans (show _ = some (Obj.cells #[.slice none 0 0, .slice none 0 0] 51 (0, 0)) from by
    have := heap_alloc_new ((w.alloc (.cells #[.slice Ak n ck, .slice Av n cv] 51)).alloc (.cells #[.int .i64 2, .slice kA kn kc, .slice hA hn2 hc, .int .i64 v] 54)) (.cells #[.slice none 0 0, .slice none 0 0] 51)
    rwa [World.size_alloc, World.size_alloc] at this))
  have hq7 := (he1.block (w.heap.size + 1 + 1 + 1) (by rw [HQ0.out]; omega)).trans (show _ = some (Obj.cells #[.bool false] 4 (0, 0)) from by
    have := heap_alloc_new (((w.alloc (.cells #[.slice Ak n ck, .slice Av n cv] 51)).alloc (.cells #[.int .i64 2, .slice kA kn kc, .slice hA hn2 hc, .int .i64 v] 54)).alloc (.cells #[.slice none 0 0, .slice none 0 0] 51)) (.cells #[.bool false] 4)
    rwa [World.size_alloc, World.size_alloc, World.size_alloc] at this)
  have hz1 := he1.size
  rw [HQ0.out] at hz1
  obtain ⟨B4, hB4⟩ : ∃ B4, B4 = w.heap.size := ⟨_, rfl⟩
  obtain ⟨B8, hB8⟩ : ∃ B8, B8 = w1.heap.size := ⟨_, rfl⟩
  have he8 : Ext w1 W1 := by rw [hW1]; exact (Ext.refl w1).alloc _
  have hq8 : W1.heap[B8]? = some (.cells #[.int .i64 (s : Int)] 3 (0, 0)) := by rw [hW1, hB8]; exact heap_alloc_new w1 _
  rw [← hB4] at hq4 hq5 hq6 hq7
  have HB4 := Lib.hid hB4
  have HB8 := Lib.hid hB8
  have HE1 := Lib.hid ((HEa.out.trans he1).trans he8)
  have HQ : Hid (∀ W, Ext W1 W → W.heap[B4]? = some (.cells #[.slice Ak n ck, .slice Av n cv] 51 (0, 0)) ∧ W.heap[B4 + 1]? = some (.cells #[.int .i64 2, .slice kA kn kc, .slice hA hn2 hc, .int .i64 v] 54 (0, 0)) ∧ W.heap[B4 + 1 + 1]? = some (.cells #[.slice none 0 0, .slice none 0 0] 51 (0, 0)) ∧ W.heap[B4 + 1 + 1 + 1]? = some (.cells #[.bool false] 4 (0, 0)) ∧ W.heap[B8]? = some (.cells #[.int .i64 (s : Int)] 3 (0, 0))) := Lib.hid fun W hW => by
    have hx := he8.trans hW
    exact ⟨(hx.block _ (by rw [hB4]; omega)).trans hq4, (hx.block _ (by rw [hB4]; omega)).trans hq5, (hx.block _ (by rw [hB4]; omega)).trans hq6, (hx.block _ (by rw [hB4]; omega)).trans hq7, (hW.block _ (Array.getElem?_eq_some_iff.1 hq8).1).trans hq8⟩
  have HZ := Lib.hid (show w.heap.size + 4 ≤ B8 ∧ B8 < W1.heap.size from ⟨by rw [hB8]; exact hz1, (Array.getElem?_eq_some_iff.1 hq8).1⟩)
  have HL1 := Lib.hid (HH.out.to HE1.out)
  have Q4 := Lib.hid (HQ.out W1 (Ext.refl _)).1
  have Q6 := Lib.hid (HQ.out W1 (Ext.refl _)).2.2.1
  obtain ⟨q4, q5, q6, q7, q8⟩ := HQ.out W1 (Ext.refl _)
  have c40 := cell_of_row W1 B4 0 _ _ (0, 0) q4
  have c41 : W1.cell? ⟨B4, 1, none⟩ = some (.slice Av n cv) := cell_of_row W1 B4 1 _ _ (0, 0) q4
  have c50 : W1.cell? ⟨B4 + 1, 0, none⟩ = some (.int .i64 2) := cell_of_row W1 (B4 + 1) 0 _ _ (0, 0) q5
  have c51 : W1.cell? ⟨B4 + 1, 1, none⟩ = some (.slice kA kn kc) := cell_of_row W1 (B4 + 1) 1 _ _ (0, 0) q5
  have c52 : W1.cell? ⟨B4 + 1, 2, none⟩ = some (.slice hA hn2 hc) := cell_of_row W1 (B4 + 1) 2 _ _ (0, 0) q5
  have c53 : W1.cell? ⟨B4 + 1, 3, none⟩ = some (.int .i64 v) := cell_of_row W1 (B4 + 1) 3 _ _ (0, 0) q5
  have c7 : W1.cell? ⟨B4 + 1 + 1 + 1, 0, none⟩ = some (.bool false) := cell_of_row W1 (B4 + 1 + 1 + 1) 0 _ _ (0, 0) q7
  have f7 : W1.frozen? ⟨B4 + 1 + 1 + 1, 0, none⟩ = false := by simp [World.frozen?, q7]
  have c80 : W1.cell? ⟨B8, 0, none⟩ = some (.int .i64 (s : Int)) := cell_of_row W1 B8 0 _ _ (0, 0) q8
  have c7r : ∀ cs, (W1.setRow (B4 + 1 + 1) cs).cell? ⟨B4 + 1 + 1 + 1, 0, none⟩ = some (.bool false) := fun cs => (row_far (by omega) q7 cs).1
  have f7r : ∀ cs, (W1.setRow (B4 + 1 + 1) cs).frozen? ⟨B4 + 1 + 1 + 1, 0, none⟩ = false := fun cs => (row_far (by omega) q7 cs).2
  clear he8 hq4 hq5 hq6 hq7 hq8 hz1 CP HQ0 HEa q4 q5 q6 q7 q8

  simp only [hB8, hB4, hW1] at c40 c41 c50 c51 c52 c53 c7 f7 c80 c7r f7r

  have CG := lsget_any HL1.out.ls HLb.out kA kn kc key (Tk.out.ext HE1.out) Uk.out
  obtain ⟨G, hG⟩ : ∃ G, G = (if (bodies ss)[skN key (bodies ss)]? = some key then V.getD (skN key (bodies ss)) 0 else 0) := ⟨_, rfl⟩
  rw [← HD.out, ← hG] at CG
  rw [← Hs0.out] at hG
  have HG := Lib.hid hG
  have CG := Lib.hid CG
  clear hG
  simp only [hW1] at CG
  go_wp2_with fail
  simp only [← hW1] at CG
  rw [← hW1, ← hB8, ← hB4]
  clear he1 hW1 hB8 hB4
  refine CG.out.mono ?_
  rintro e w2 ⟨rfl, he2⟩
  have HF : Hid (∀ W9, FrX (fun q => q = B4 + 1 + 1 ∨ q = B4 + 1 + 1 + 1) W1 W9 → W9.cell? ⟨B4, 0, none⟩ = some (.slice Ak n ck) ∧ W9.cell? ⟨B4, 1, none⟩ = some (.slice Av n cv) ∧ W9.cell? ⟨B8, 0, none⟩ = some (.int .i64 (s : Int)) ∧ ((s < n → ∀ a, Av = some a → W9.cell? ⟨a.block, a.off + s, none⟩ = some (.int .i64 (V.getD s 0))) ∧ RdL W9 Ak n ss ∧ (∀ s ∈ ss, Rd .u8 W9 s.A s.body.length s.body))) := Lib.hid fun W9 f => by
    obtain ⟨q4, q5, q6, q7, q8⟩ := HQ.out W1 (Ext.refl _)
    have hb := HB4.out
    have hz := HZ.out
    have e4 := (f.block B4 (Array.getElem?_eq_some_iff.1 q4).1 (by omega)).trans q4
    have e8 := (f.block B8 (Array.getElem?_eq_some_iff.1 q8).1 (by omega)).trans q8
    have hrv := HL1.out.rv.fr f (fun a ha => by have := (HH.out.fv a ha).2; omega)
    refine ⟨cell_of_row W9 B4 0 _ _ (0, 0) e4, cell_of_row W9 B4 1 _ _ (0, 0) e4, cell_of_row W9 B8 0 _ _ (0, 0) e8, fun hs a ha => ?_, HL1.out.rk.fr f (fun a ha => by have := (HH.out.fk a ha).2; omega), fun s hs => ?_⟩
    · obtain ⟨b, o, e, _, hc⟩ := hrv.atZ hs
      rw [ha] at e
      injection e with e
      subst e
      exact hc
    · exact (HL1.out.tx s hs).1.fr f (fun a ha => by have := (HH.out.ft s hs a ha).2; omega)
  clear c7r f7r
  cases D with
  | true =>
    have hDs := HD.out.symm
    have hDs := of_decide_eq_true hDs
    rw [← Hs0.out] at hDs
    have hVs : s < n := by have := (List.getElem?_eq_some_iff.1 hDs).1; rw [HnL.out] at this; exact this
    have hG := HG.out
    rw [if_pos hDs] at hG
    obtain ⟨b, o, hAv, _, _⟩ := HL1.out.rv.atZ hVs
    subst hAv
    have HF : Hid (∀ W9, FrX (fun q => q = B4 + 1 + 1 ∨ q = B4 + 1 + 1 + 1) W1 W9 → W9.cell? ⟨B4, 0, none⟩ = some (.slice Ak n ck) ∧ W9.cell? ⟨B4, 1, none⟩ = some (.slice (some ⟨b, o, none⟩) n cv) ∧ W9.cell? ⟨B8, 0, none⟩ = some (.int .i64 (s : Int)) ∧ W9.cell? ⟨b, o + s, none⟩ = some (.int .i64 G)) := Lib.hid fun W9 f => by
      obtain ⟨h1, h2, h3, h4, _⟩ := HF.out W9 f
      exact ⟨h1, h2, h3, by rw [hG]; exact h4 hVs _ rfl⟩
    clear hG hDs
    have HK6 := Lib.hid ((he2.block _ (Array.getElem?_eq_some_iff.1 (HQ.out W1 (Ext.refl _)).2.2.1).1).trans (HQ.out W1 (Ext.refl _)).2.2.1)
    have HK7 := Lib.hid ((he2.block _ (Array.getElem?_eq_some_iff.1 (HQ.out W1 (Ext.refl _)).2.2.2.1).1).trans (HQ.out W1 (Ext.refl _)).2.2.2.1)
    have c7r : ∀ cs, (w2.drew.setRow (B4 + 1 + 1) cs).cell? ⟨B4 + 1 + 1 + 1, 0, none⟩ = some (.bool false) := fun cs => (row_far (W := w2.drew) (by omega) HK7.out cs).1
    have f7r : ∀ cs, (w2.drew.setRow (B4 + 1 + 1) cs).frozen? ⟨B4 + 1 + 1 + 1, 0, none⟩ = false := fun cs => (row_far (W := w2.drew) (by omega) HK7.out cs).2
    have hsn' := hsn
    clear c40 c41 c50 c51 c52 c53 c7 f7 c80 Q4 Q6 CG
    go_wp2_with fail
    refine wp_region_noPanic ?_
    refine wp_region_held_drew (S := fun W9 => FrX (fun q => q = B4 + 1 + 1 ∨ q = B4 + 1 + 1 + 1) W1 W9) (by kernel_rfl) ?_ (fun hHeld => ?_)
    · exact (he2.drew).frX _
    refine wpAnyH_take (i := 0) (v := ?_) rfl (by kernel_rfl) (by kernel_rfl) (by kernel_rfl) (fun _ _ _ h => h) (Or.inl ⟨by rfl, ?_⟩) hHeld ?_
    rotate_left
    · (intro w hSw; (try dsimp only at hSw); obtain ⟨d40, d41, d80, dv⟩ := HF.out w hSw; clear hSw; go_simp; (try with_reducible rfl))
    (try (simp only [Act.put, List.getElem_toArray, List.getElem_cons_zero, List.setIfInBounds_toArray, List.set_cons_zero, List.set_cons_succ]))
    refine wpAnyH_take (i := 1) (v := ?_) rfl (by kernel_rfl) (by kernel_rfl) (by kernel_rfl) (fun _ _ _ h => h) (Or.inl ⟨by rfl, ?_⟩) hHeld ?_
    rotate_left
    · (intro w hSw; (try dsimp only at hSw); obtain ⟨d40, d41, d80, dv⟩ := HF.out w hSw; clear hSw; go_simp; (try with_reducible rfl))
    (try (simp only [Act.put, List.getElem_toArray, List.getElem_cons_zero, List.getElem_cons_succ, List.setIfInBounds_toArray, List.set_cons_zero, List.set_cons_succ]))
    refine wpAnyH_take (i := 2) (v := ?_) rfl (by kernel_rfl) (by kernel_rfl) (by kernel_rfl) (fun _ _ _ h => h) (Or.inl ⟨by rfl, ?_⟩) hHeld ?_
    rotate_left
    · (intro w hSw; (try dsimp only at hSw); obtain ⟨d40, d41, d80, dv⟩ := HF.out w hSw; clear hSw; go_simp; (try with_reducible rfl))
    (try (simp only [Act.put, List.getElem_toArray, List.getElem_cons_zero, List.getElem_cons_succ, List.setIfInBounds_toArray, List.set_cons_zero, List.set_cons_succ]))
    refine wpAnyH_take (i := 3) (v := ?_) rfl (by kernel_rfl) (by kernel_rfl) (by kernel_rfl) (fun _ _ _ h => h) (Or.inl ⟨by rfl, ?_⟩) hHeld ?_
    rotate_left
    · (intro w hSw; (try dsimp only at hSw); obtain ⟨d40, d41, d80, dv⟩ := HF.out w hSw; clear hSw; go_simp; (try with_reducible rfl))
    (try (simp only [Act.put, List.getElem_toArray, List.getElem_cons_zero, List.getElem_cons_succ, List.setIfInBounds_toArray, List.set_cons_zero, List.set_cons_succ]))
    refine wpAnyH_take (i := 4) (v := ?_) rfl (by kernel_rfl) (by kernel_rfl) (by kernel_rfl) (fun _ _ _ h => h) (Or.inl ⟨by rfl, ?_⟩) hHeld ?_
    rotate_left
    · (intro w hSw; (try dsimp only at hSw); obtain ⟨d40, d41, d80, dv⟩ := HF.out w hSw; clear hSw; go_simp; (try with_reducible rfl))
    (try (simp only [Act.put, List.getElem_toArray, List.getElem_cons_zero, List.getElem_cons_succ, List.setIfInBounds_toArray, List.set_cons_zero, List.set_cons_succ]))
    refine wpAnyH_take (i := 5) (v := ?_) rfl (by kernel_rfl) (by kernel_rfl) (by kernel_rfl) (fun _ _ _ h => h) (Or.inl ⟨by rfl, ?_⟩) hHeld ?_
    rotate_left
    · (intro w hSw; (try dsimp only at hSw); obtain ⟨d40, d41, d80, dv⟩ := HF.out w hSw; clear hSw; go_simp; (try with_reducible rfl))
    (try (simp only [Act.put, List.getElem_toArray, List.getElem_cons_zero, List.getElem_cons_succ, List.setIfInBounds_toArray, List.set_cons_zero, List.set_cons_succ]))
    refine wpAnyH_take (i := 6) (v := ?_) rfl (by kernel_rfl) (by kernel_rfl) (by kernel_rfl) (fun _ _ _ h => h) (Or.inl ⟨by rfl, ?_⟩) hHeld ?_
    rotate_left
    · (intro w hSw; (try dsimp only at hSw); obtain ⟨d40, d41, d80, dv⟩ := HF.out w hSw; clear hSw; go_simp; (try with_reducible rfl))
    (try (simp only [Act.put, List.getElem_toArray, List.getElem_cons_zero, List.getElem_cons_succ, List.setIfInBounds_toArray, List.set_cons_zero, List.set_cons_succ]))
    refine wpAnyH_take (i := 7) (v := ?_) rfl (by kernel_rfl) (by kernel_rfl) (by kernel_rfl) (fun _ _ _ h => h) (Or.inl ⟨by rfl, ?_⟩) hHeld ?_
    rotate_left
    · (intro w hSw; (try dsimp only at hSw); obtain ⟨d40, d41, d80, dv⟩ := HF.out w hSw; clear hSw; go_simp; (try with_reducible rfl))
    (try (simp only [Act.put, List.getElem_toArray, List.getElem_cons_zero, List.getElem_cons_succ, List.setIfInBounds_toArray, List.set_cons_zero, List.set_cons_succ]))
    refine wpAnyH_take (i := 8) (v := undef) rfl (by kernel_rfl) (by kernel_rfl) (by kernel_rfl) (fun _ _ _ h => h) (Or.inr ⟨by rfl, rfl⟩) hHeld ?_
    (try (simp only [Act.put, List.getElem_toArray, List.getElem_cons_zero, List.getElem_cons_succ, List.setIfInBounds_toArray, List.set_cons_zero, List.set_cons_succ]))
    refine wpAnyH_take (i := 9) (v := undef) rfl (by kernel_rfl) (by kernel_rfl) (by kernel_rfl) (fun _ _ _ h => h) (Or.inr ⟨by rfl, rfl⟩) hHeld ?_
    (try (simp only [Act.put, List.getElem_toArray, List.getElem_cons_zero, List.getElem_cons_succ, List.setIfInBounds_toArray, List.set_cons_zero, List.set_cons_succ]))
    refine wpAnyH_take (i := 10) (v := ?_) rfl (by kernel_rfl) (by kernel_rfl) (by kernel_rfl) (fun _ _ _ h => h) (Or.inl ⟨by rfl, ?_⟩) hHeld ?_
    rotate_left
    · (intro w hSw; (try dsimp only at hSw); obtain ⟨d40, d41, d80, dv⟩ := HF.out w hSw; clear hSw; go_simp; (try with_reducible rfl))
    (try (simp only [Act.put, List.getElem_toArray, List.getElem_cons_zero, List.getElem_cons_succ, List.setIfInBounds_toArray, List.set_cons_zero, List.set_cons_succ]))
    refine wpAnyH_take (i := 11) (v := ?_) rfl (by kernel_rfl) (by kernel_rfl) (by kernel_rfl) (fun _ _ _ h => h) (Or.inl ⟨by rfl, ?_⟩) hHeld ?_
    rotate_left
    · (intro w hSw; (try dsimp only at hSw); obtain ⟨d40, d41, d80, dv⟩ := HF.out w hSw; clear hSw; go_simp; (try with_reducible rfl))
    (try (simp only [Act.put, List.getElem_toArray, List.getElem_cons_zero, List.getElem_cons_succ, List.setIfInBounds_toArray, List.set_cons_zero, List.set_cons_succ]))
    refine wpAnyH_take (i := 12) (v := ?_) rfl (by kernel_rfl) (by kernel_rfl) (by kernel_rfl) (fun _ _ _ h => h) (Or.inl ⟨by rfl, ?_⟩) hHeld ?_
    rotate_left
    · (intro w hSw; (try dsimp only at hSw); obtain ⟨d40, d41, d80, dv⟩ := HF.out w hSw; clear hSw; go_simp; (try with_reducible rfl))
    (try (simp only [Act.put, List.getElem_toArray, List.getElem_cons_zero, List.getElem_cons_succ, List.setIfInBounds_toArray, List.set_cons_zero, List.set_cons_succ]))
    refine wpAnyH_take (i := 13) (v := ?_) rfl (by kernel_rfl) (by kernel_rfl) (by kernel_rfl) (fun _ _ _ h => h) (Or.inl ⟨by rfl, ?_⟩) hHeld ?_
    rotate_left
    · (intro w hSw; (try dsimp only at hSw); obtain ⟨d40, d41, d80, dv⟩ := HF.out w hSw; clear hSw; go_simp; (try with_reducible rfl))
    (try (simp only [Act.put, List.getElem_toArray, List.getElem_cons_zero, List.getElem_cons_succ, List.setIfInBounds_toArray, List.set_cons_zero, List.set_cons_succ]))
    refine wpAnyH_take (i := 14) (v := ?_) rfl (by kernel_rfl) (by kernel_rfl) (by kernel_rfl) (fun _ _ _ h => h) (Or.inl ⟨by rfl, ?_⟩) hHeld ?_
    rotate_left
    · (intro w hSw; (try dsimp only at hSw); obtain ⟨d40, d41, d80, dv⟩ := HF.out w hSw; clear hSw; go_simp; (try with_reducible rfl))
    (try (simp only [Act.put, List.getElem_toArray, List.getElem_cons_zero, List.getElem_cons_succ, List.setIfInBounds_toArray, List.set_cons_zero, List.set_cons_succ]))
    refine wpAnyH_take (i := 15) (v := ?_) rfl (by kernel_rfl) (by kernel_rfl) (by kernel_rfl) (fun _ _ _ h => h) (Or.inl ⟨by rfl, ?_⟩) hHeld ?_
    rotate_left
    · (intro w hSw; (try dsimp only at hSw); obtain ⟨d40, d41, d80, dv⟩ := HF.out w hSw; clear hSw; go_simp; (try with_reducible rfl))
    (try (simp only [Act.put, List.getElem_toArray, List.getElem_cons_zero, List.getElem_cons_succ, List.setIfInBounds_toArray, List.set_cons_zero, List.set_cons_succ]))
    refine wpAnyH_take (i := 16) (v := ?_) rfl (by kernel_rfl) (by kernel_rfl) (by kernel_rfl) (fun _ _ _ h => h) (Or.inl ⟨by rfl, ?_⟩) hHeld ?_
    rotate_left
    · (intro w hSw; (try dsimp only at hSw); obtain ⟨d40, d41, d80, dv⟩ := HF.out w hSw; clear hSw; go_simp; (try with_reducible rfl))
    (try (simp only [Act.put, List.getElem_toArray, List.getElem_cons_zero, List.getElem_cons_succ, List.setIfInBounds_toArray, List.set_cons_zero, List.set_cons_succ]))
    refine wpAnyH_take (i := 17) (v := ?_) rfl (by kernel_rfl) (by kernel_rfl) (by kernel_rfl) (fun _ _ _ h => h) (Or.inl ⟨by rfl, ?_⟩) hHeld ?_
    rotate_left
    · (intro w hSw; (try dsimp only at hSw); obtain ⟨d40, d41, d80, dv⟩ := HF.out w hSw; clear hSw; go_simp; (try with_reducible rfl))
    (try (simp only [Act.put, List.getElem_toArray, List.getElem_cons_zero, List.getElem_cons_succ, List.setIfInBounds_toArray, List.set_cons_zero, List.set_cons_succ]))
    refine wpAnyH_take (i := 18) (v := ?_) rfl (by kernel_rfl) (by kernel_rfl) (by kernel_rfl) (fun _ _ _ h => h) (Or.inl ⟨by rfl, ?_⟩) hHeld ?_
    rotate_left
    · (intro w hSw; (try dsimp only at hSw); obtain ⟨d40, d41, d80, dv⟩ := HF.out w hSw; clear hSw; go_simp; (try with_reducible rfl))
    (try (simp only [Act.put, List.getElem_toArray, List.getElem_cons_zero, List.getElem_cons_succ, List.setIfInBounds_toArray, List.set_cons_zero, List.set_cons_succ]))
    refine wpAnyH_take (i := 19) (v := ?_) rfl (by kernel_rfl) (by kernel_rfl) (by kernel_rfl) (fun _ _ _ h => h) (Or.inl ⟨by rfl, ?_⟩) hHeld ?_
    rotate_left
    · (intro w hSw; (try dsimp only at hSw); obtain ⟨d40, d41, d80, dv⟩ := HF.out w hSw; clear hSw; go_simp; (try with_reducible rfl))
    (try (simp only [Act.put, List.getElem_toArray, List.getElem_cons_zero, List.getElem_cons_succ, List.setIfInBounds_toArray, List.set_cons_zero, List.set_cons_succ]))
    refine wpAnyH_take (i := 20) (v := ?_) rfl (by kernel_rfl) (by kernel_rfl) (by kernel_rfl) (fun _ _ _ h => h) (Or.inl ⟨by rfl, ?_⟩) hHeld ?_
    rotate_left
    · (intro w hSw; (try dsimp only at hSw); obtain ⟨d40, d41, d80, dv⟩ := HF.out w hSw; clear hSw; go_simp; (try with_reducible rfl))
    (try (simp only [Act.put, List.getElem_toArray, List.getElem_cons_zero, List.getElem_cons_succ, List.setIfInBounds_toArray, List.set_cons_zero, List.set_cons_succ]))
    refine wpAnyH_take (i := 21) (v := ?_) rfl (by kernel_rfl) (by kernel_rfl) (by kernel_rfl) (fun _ _ _ h => h) (Or.inl ⟨by rfl, ?_⟩) hHeld ?_
    rotate_left
    · (intro w hSw; (try dsimp only at hSw); obtain ⟨d40, d41, d80, dv⟩ := HF.out w hSw; clear hSw; go_simp; (try with_reducible rfl))
    (try (simp only [Act.put, List.getElem_toArray, List.getElem_cons_zero, List.getElem_cons_succ, List.setIfInBounds_toArray, List.set_cons_zero, List.set_cons_succ]))
    refine wpAnyH_take (i := 22) (v := ?_) rfl (by kernel_rfl) (by kernel_rfl) (by kernel_rfl) (fun _ _ _ h => h) (Or.inl ⟨by rfl, ?_⟩) hHeld ?_
    rotate_left
    · (intro w hSw; (try dsimp only at hSw); obtain ⟨d40, d41, d80, dv⟩ := HF.out w hSw; clear hSw; go_simp; (try with_reducible rfl))
    (try (simp only [Act.put, List.getElem_toArray, List.getElem_cons_zero, List.getElem_cons_succ, List.setIfInBounds_toArray, List.set_cons_zero, List.set_cons_succ]))
    refine wpAnyH_take (i := 23) (v := ?_) rfl (by kernel_rfl) (by kernel_rfl) (by kernel_rfl) (fun _ _ _ h => h) (Or.inl ⟨by rfl, ?_⟩) hHeld ?_
    rotate_left
    · (intro w hSw; (try dsimp only at hSw); obtain ⟨d40, d41, d80, dv⟩ := HF.out w hSw; clear hSw; go_simp; (try with_reducible rfl))
    (try (simp only [Act.put, List.getElem_toArray, List.getElem_cons_zero, List.getElem_cons_succ, List.setIfInBounds_toArray, List.set_cons_zero, List.set_cons_succ]))
    refine wpAnyH_ready (rs := [24]) (by kernel_rfl) (by simp) ?_
    refine AllReadyH.cons rfl (fun K9 hK9 => ?_) AllReadyH.nil
    rw [if_pos (by rfl)]
    refine wp_store_row 51 _ _ rfl (B4 + 1 + 1) #[.slice Ak n ck, .slice (some ⟨b, o, none⟩) n cv] rfl rfl 51 #[.slice none 0 0, .slice none 0 0] (HK6.out) (by kernel_rfl) rfl (by simp [Value.oneCell']) ?_
    refine hK9.out _ _ ?_ (fun hHeld => ?_)
    · exact hHeld.trans (grownBy_frX (grown_setRow _ _ _) (.inl (.inl rfl)))
    clear hK9 K9
    (try (simp only [Act.put, List.getElem_toArray, List.getElem_cons_zero, List.getElem_cons_succ]))
    refine wpAnyH_ready (rs := [25]) (by kernel_rfl) (by simp) ?_
    refine AllReadyH.cons rfl (fun K9 hK9 => ?_) AllReadyH.nil
    go_simp
    refine hK9.out _ _ ?_ (fun hHeld => ?_)
    · (try dsimp only); exact hHeld.trans (grownBy_frX (grown_setCellS _ _ _ _) (.inl (.inr rfl)))
    clear hK9 K9
    (try (simp only [Act.put, List.getElem_toArray, List.getElem_cons_zero, List.getElem_cons_succ, List.setIfInBounds_toArray, List.set_cons_zero, List.set_cons_succ]))
    refine wpAnyH_done (by kernel_rfl) ?_ _
    refine NoPanic.normal ?_
    go_wp2_with fail
    exact asks_ret (W := w2.drew) (ds := []) rfl rfl HK6.out HK7.out (by omega) ((HE1.out.trans he2).drew) (by have := HB4.out; omega) (by have := HB4.out; omega) List.nodup_nil (fun D hD => by cases hD) (fun W' _ e2 => ⟨Ak, n, ck, _, cv, ss, V, X, base, rfl, by omega, HH.out.to e2, e2.size, fun q hq hf => ⟨hf, e2.block q hq⟩⟩)
  | false =>
    have hDs := HD.out.symm
    have hDs := of_decide_eq_false hDs
    rw [← Hs0.out] at hDs
    have hG := HG.out
    rw [if_neg hDs] at hG
    subst hG
    clear hDs
    have HK6 := Lib.hid ((he2.block _ (Array.getElem?_eq_some_iff.1 (HQ.out W1 (Ext.refl _)).2.2.1).1).trans (HQ.out W1 (Ext.refl _)).2.2.1)
    have HK7 := Lib.hid ((he2.block _ (Array.getElem?_eq_some_iff.1 (HQ.out W1 (Ext.refl _)).2.2.2.1).1).trans (HQ.out W1 (Ext.refl _)).2.2.2.1)
    have c7r : ∀ cs, (w2.drew.setRow (B4 + 1 + 1) cs).cell? ⟨B4 + 1 + 1 + 1, 0, none⟩ = some (.bool false) := fun cs => (row_far (W := w2.drew) (by omega) HK7.out cs).1
    have f7r : ∀ cs, (w2.drew.setRow (B4 + 1 + 1) cs).frozen? ⟨B4 + 1 + 1 + 1, 0, none⟩ = false := fun cs => (row_far (W := w2.drew) (by omega) HK7.out cs).2
    have hsn' := hsn
    clear c40 c41 c50 c51 c52 c53 c7 f7 c80 Q4 Q6 CG
    go_wp2_with fail
    refine wp_region_noPanic ?_
    refine wp_region_held_drew (S := fun W9 => FrX (fun q => q = B4 + 1 + 1 ∨ q = B4 + 1 + 1 + 1) W1 W9) (by kernel_rfl) ?_ (fun hHeld => ?_)
    · exact (he2.drew).frX _
    refine wpAnyH_take (i := 0) (v := ?_) rfl (by kernel_rfl) (by kernel_rfl) (by kernel_rfl) (fun _ _ _ h => h) (Or.inl ⟨by rfl, ?_⟩) hHeld ?_
    rotate_left
    · (intro w hSw; (try dsimp only at hSw); obtain ⟨d40, d41, d80, dv⟩ := HF.out w hSw; clear hSw; go_simp; (try with_reducible rfl))
    (try (simp only [Act.put, List.getElem_toArray, List.getElem_cons_zero, List.setIfInBounds_toArray, List.set_cons_zero, List.set_cons_succ]))
    refine wpAnyH_take (i := 1) (v := ?_) rfl (by kernel_rfl) (by kernel_rfl) (by kernel_rfl) (fun _ _ _ h => h) (Or.inl ⟨by rfl, ?_⟩) hHeld ?_
    rotate_left
    · (intro w hSw; (try dsimp only at hSw); obtain ⟨d40, d41, d80, dv⟩ := HF.out w hSw; clear hSw; go_simp; (try with_reducible rfl))
    (try (simp only [Act.put, List.getElem_toArray, List.getElem_cons_zero, List.getElem_cons_succ, List.setIfInBounds_toArray, List.set_cons_zero, List.set_cons_succ]))
    refine wpAnyH_take (i := 2) (v := ?_) rfl (by kernel_rfl) (by kernel_rfl) (by kernel_rfl) (fun _ _ _ h => h) (Or.inl ⟨by rfl, ?_⟩) hHeld ?_
    rotate_left
    · (intro w hSw; (try dsimp only at hSw); obtain ⟨d40, d41, d80, dv⟩ := HF.out w hSw; clear hSw; go_simp; (try with_reducible rfl))
    (try (simp only [Act.put, List.getElem_toArray, List.getElem_cons_zero, List.getElem_cons_succ, List.setIfInBounds_toArray, List.set_cons_zero, List.set_cons_succ]))
    refine wpAnyH_take (i := 3) (v := ?_) rfl (by kernel_rfl) (by kernel_rfl) (by kernel_rfl) (fun _ _ _ h => h) (Or.inl ⟨by rfl, ?_⟩) hHeld ?_
    rotate_left
    · (intro w hSw; (try dsimp only at hSw); obtain ⟨d40, d41, d80, dv⟩ := HF.out w hSw; clear hSw; go_simp; (try with_reducible rfl))
    (try (simp only [Act.put, List.getElem_toArray, List.getElem_cons_zero, List.getElem_cons_succ, List.setIfInBounds_toArray, List.set_cons_zero, List.set_cons_succ]))
    refine wpAnyH_take (i := 4) (v := ?_) rfl (by kernel_rfl) (by kernel_rfl) (by kernel_rfl) (fun _ _ _ h => h) (Or.inl ⟨by rfl, ?_⟩) hHeld ?_
    rotate_left
    · (intro w hSw; (try dsimp only at hSw); obtain ⟨d40, d41, d80, dv⟩ := HF.out w hSw; clear hSw; go_simp; (try with_reducible rfl))
    (try (simp only [Act.put, List.getElem_toArray, List.getElem_cons_zero, List.getElem_cons_succ, List.setIfInBounds_toArray, List.set_cons_zero, List.set_cons_succ]))
    refine wpAnyH_take (i := 5) (v := ?_) rfl (by kernel_rfl) (by kernel_rfl) (by kernel_rfl) (fun _ _ _ h => h) (Or.inl ⟨by rfl, ?_⟩) hHeld ?_
    rotate_left
    · (intro w hSw; (try dsimp only at hSw); obtain ⟨d40, d41, d80, dv⟩ := HF.out w hSw; clear hSw; go_simp; (try with_reducible rfl))
    (try (simp only [Act.put, List.getElem_toArray, List.getElem_cons_zero, List.getElem_cons_succ, List.setIfInBounds_toArray, List.set_cons_zero, List.set_cons_succ]))
    refine wpAnyH_take (i := 6) (v := ?_) rfl (by kernel_rfl) (by kernel_rfl) (by kernel_rfl) (fun _ _ _ h => h) (Or.inl ⟨by rfl, ?_⟩) hHeld ?_
    rotate_left
    · (intro w hSw; (try dsimp only at hSw); obtain ⟨d40, d41, d80, dv⟩ := HF.out w hSw; clear hSw; go_simp; (try with_reducible rfl))
    (try (simp only [Act.put, List.getElem_toArray, List.getElem_cons_zero, List.getElem_cons_succ, List.setIfInBounds_toArray, List.set_cons_zero, List.set_cons_succ]))
    refine wpAnyH_take (i := 7) (v := ?_) rfl (by kernel_rfl) (by kernel_rfl) (by kernel_rfl) (fun _ _ _ h => h) (Or.inl ⟨by rfl, ?_⟩) hHeld ?_
    rotate_left
    · (intro w hSw; (try dsimp only at hSw); obtain ⟨d40, d41, d80, dv⟩ := HF.out w hSw; clear hSw; go_simp; (try with_reducible rfl))
    (try (simp only [Act.put, List.getElem_toArray, List.getElem_cons_zero, List.getElem_cons_succ, List.setIfInBounds_toArray, List.set_cons_zero, List.set_cons_succ]))
    refine wpAnyH_take (i := 8) (v := ?_) rfl (by kernel_rfl) (by kernel_rfl) (by kernel_rfl) (fun _ _ _ h => h) (Or.inl ⟨by rfl, ?_⟩) hHeld ?_
    rotate_left
    · (intro w hSw; (try dsimp only at hSw); obtain ⟨d40, d41, d80, dv⟩ := HF.out w hSw; clear hSw; go_simp; (try with_reducible rfl))
    (try (simp only [Act.put, List.getElem_toArray, List.getElem_cons_zero, List.getElem_cons_succ, List.setIfInBounds_toArray, List.set_cons_zero, List.set_cons_succ]))
    refine wpAnyH_take (i := 9) (v := ?_) rfl (by kernel_rfl) (by kernel_rfl) (by kernel_rfl) (fun _ _ _ h => h) (Or.inl ⟨by rfl, ?_⟩) hHeld ?_
    rotate_left
    · (intro w hSw; (try dsimp only at hSw); obtain ⟨d40, d41, d80, dv⟩ := HF.out w hSw; clear hSw; go_simp; (try with_reducible rfl))
    (try (simp only [Act.put, List.getElem_toArray, List.getElem_cons_zero, List.getElem_cons_succ, List.setIfInBounds_toArray, List.set_cons_zero, List.set_cons_succ]))
    refine wpAnyH_take (i := 10) (v := ?_) rfl (by kernel_rfl) (by kernel_rfl) (by kernel_rfl) (fun _ _ _ h => h) (Or.inl ⟨by rfl, ?_⟩) hHeld ?_
    rotate_left
    · (intro w hSw; (try dsimp only at hSw); obtain ⟨d40, d41, d80, dv⟩ := HF.out w hSw; clear hSw; go_simp; (try with_reducible rfl))
    (try (simp only [Act.put, List.getElem_toArray, List.getElem_cons_zero, List.getElem_cons_succ, List.setIfInBounds_toArray, List.set_cons_zero, List.set_cons_succ]))
    refine wpAnyH_take (i := 11) (v := ?_) rfl (by kernel_rfl) (by kernel_rfl) (by kernel_rfl) (fun _ _ _ h => h) (Or.inl ⟨by rfl, ?_⟩) hHeld ?_
    rotate_left
    · (intro w hSw; (try dsimp only at hSw); obtain ⟨d40, d41, d80, dv⟩ := HF.out w hSw; clear hSw; go_simp; (try with_reducible rfl))
    (try (simp only [Act.put, List.getElem_toArray, List.getElem_cons_zero, List.getElem_cons_succ, List.setIfInBounds_toArray, List.set_cons_zero, List.set_cons_succ]))
    refine wpAnyH_take (i := 12) (v := undef) rfl (by kernel_rfl) (by kernel_rfl) (by kernel_rfl) (fun _ _ _ h => h) (Or.inr ⟨by rfl, rfl⟩) hHeld ?_
    (try (simp only [Act.put, List.getElem_toArray, List.getElem_cons_zero, List.getElem_cons_succ, List.setIfInBounds_toArray, List.set_cons_zero, List.set_cons_succ]))
    refine wpAnyH_take (i := 13) (v := undef) rfl (by kernel_rfl) (by kernel_rfl) (by kernel_rfl) (fun _ _ _ h => h) (Or.inr ⟨by rfl, rfl⟩) hHeld ?_
    (try (simp only [Act.put, List.getElem_toArray, List.getElem_cons_zero, List.getElem_cons_succ, List.setIfInBounds_toArray, List.set_cons_zero, List.set_cons_succ]))
    refine wpAnyH_take (i := 14) (v := undef) rfl (by kernel_rfl) (by kernel_rfl) (by kernel_rfl) (fun _ _ _ h => h) (Or.inr ⟨by rfl, rfl⟩) hHeld ?_
    (try (simp only [Act.put, List.getElem_toArray, List.getElem_cons_zero, List.getElem_cons_succ, List.setIfInBounds_toArray, List.set_cons_zero, List.set_cons_succ]))
    refine wpAnyH_take (i := 15) (v := undef) rfl (by kernel_rfl) (by kernel_rfl) (by kernel_rfl) (fun _ _ _ h => h) (Or.inr ⟨by rfl, rfl⟩) hHeld ?_
    (try (simp only [Act.put, List.getElem_toArray, List.getElem_cons_zero, List.getElem_cons_succ, List.setIfInBounds_toArray, List.set_cons_zero, List.set_cons_succ]))
    refine wpAnyH_take (i := 16) (v := undef) rfl (by kernel_rfl) (by kernel_rfl) (by kernel_rfl) (fun _ _ _ h => h) (Or.inr ⟨by rfl, rfl⟩) hHeld ?_
    (try (simp only [Act.put, List.getElem_toArray, List.getElem_cons_zero, List.getElem_cons_succ, List.setIfInBounds_toArray, List.set_cons_zero, List.set_cons_succ]))
    refine wpAnyH_take (i := 17) (v := undef) rfl (by kernel_rfl) (by kernel_rfl) (by kernel_rfl) (fun _ _ _ h => h) (Or.inr ⟨by rfl, rfl⟩) hHeld ?_
    (try (simp only [Act.put, List.getElem_toArray, List.getElem_cons_zero, List.getElem_cons_succ, List.setIfInBounds_toArray, List.set_cons_zero, List.set_cons_succ]))
    refine wpAnyH_take (i := 18) (v := undef) rfl (by kernel_rfl) (by kernel_rfl) (by kernel_rfl) (fun _ _ _ h => h) (Or.inr ⟨by rfl, rfl⟩) hHeld ?_
    (try (simp only [Act.put, List.getElem_toArray, List.getElem_cons_zero, List.getElem_cons_succ, List.setIfInBounds_toArray, List.set_cons_zero, List.set_cons_succ]))
    refine wpAnyH_take (i := 19) (v := undef) rfl (by kernel_rfl) (by kernel_rfl) (by kernel_rfl) (fun _ _ _ h => h) (Or.inr ⟨by rfl, rfl⟩) hHeld ?_
    (try (simp only [Act.put, List.getElem_toArray, List.getElem_cons_zero, List.getElem_cons_succ, List.setIfInBounds_toArray, List.set_cons_zero, List.set_cons_succ]))
    refine wpAnyH_take (i := 20) (v := undef) rfl (by kernel_rfl) (by kernel_rfl) (by kernel_rfl) (fun _ _ _ h => h) (Or.inr ⟨by rfl, rfl⟩) hHeld ?_
    (try (simp only [Act.put, List.getElem_toArray, List.getElem_cons_zero, List.getElem_cons_succ, List.setIfInBounds_toArray, List.set_cons_zero, List.set_cons_succ]))
    refine wpAnyH_take (i := 21) (v := undef) rfl (by kernel_rfl) (by kernel_rfl) (by kernel_rfl) (fun _ _ _ h => h) (Or.inr ⟨by rfl, rfl⟩) hHeld ?_
    (try (simp only [Act.put, List.getElem_toArray, List.getElem_cons_zero, List.getElem_cons_succ, List.setIfInBounds_toArray, List.set_cons_zero, List.set_cons_succ]))
    refine wpAnyH_take (i := 22) (v := ?_) rfl (by kernel_rfl) (by kernel_rfl) (by kernel_rfl) (fun _ _ _ h => h) (Or.inl ⟨by rfl, ?_⟩) hHeld ?_
    rotate_left
    · (intro w hSw; (try dsimp only at hSw); obtain ⟨d40, d41, d80, dv⟩ := HF.out w hSw; clear hSw; go_simp; (try with_reducible rfl))
    (try (simp only [Act.put, List.getElem_toArray, List.getElem_cons_zero, List.getElem_cons_succ, List.setIfInBounds_toArray, List.set_cons_zero, List.set_cons_succ]))
    refine wpAnyH_take (i := 23) (v := ?_) rfl (by kernel_rfl) (by kernel_rfl) (by kernel_rfl) (fun _ _ _ h => h) (Or.inl ⟨by rfl, ?_⟩) hHeld ?_
    rotate_left
    · (intro w hSw; (try dsimp only at hSw); obtain ⟨d40, d41, d80, dv⟩ := HF.out w hSw; clear hSw; go_simp; (try with_reducible rfl))
    (try (simp only [Act.put, List.getElem_toArray, List.getElem_cons_zero, List.getElem_cons_succ, List.setIfInBounds_toArray, List.set_cons_zero, List.set_cons_succ]))
    refine wpAnyH_ready (rs := [24]) (by kernel_rfl) (by simp) ?_
    refine AllReadyH.cons rfl (fun K9 hK9 => ?_) AllReadyH.nil
    rw [if_pos (by rfl)]
    refine wp_store_row 51 _ _ rfl (B4 + 1 + 1) #[.slice Ak n ck, .slice Av n cv] rfl rfl 51 #[.slice none 0 0, .slice none 0 0] (HK6.out) (by kernel_rfl) rfl (by simp [Value.oneCell']) ?_
    refine hK9.out _ _ ?_ (fun hHeld => ?_)
    · exact hHeld.trans (grownBy_frX (grown_setRow _ _ _) (.inl (.inl rfl)))
    clear hK9 K9
    (try (simp only [Act.put, List.getElem_toArray, List.getElem_cons_zero, List.getElem_cons_succ]))
    refine wpAnyH_ready (rs := [25]) (by kernel_rfl) (by simp) ?_
    refine AllReadyH.cons rfl (fun K9 hK9 => ?_) AllReadyH.nil
    go_simp
    refine hK9.out _ _ ?_ (fun hHeld => ?_)
    · (try dsimp only); exact hHeld.trans (grownBy_frX (grown_setCellS _ _ _ _) (.inl (.inr rfl)))
    clear hK9 K9
    (try (simp only [Act.put, List.getElem_toArray, List.getElem_cons_zero, List.getElem_cons_succ, List.setIfInBounds_toArray, List.set_cons_zero, List.set_cons_succ]))
    refine wpAnyH_done (by kernel_rfl) ?_ _
    refine NoPanic.normal ?_
    go_wp2_with fail
    exact asks_ret (W := w2.drew) (ds := []) rfl rfl HK6.out HK7.out (by omega) ((HE1.out.trans he2).drew) (by have := HB4.out; omega) (by have := HB4.out; omega) List.nodup_nil (fun D hD => by cases hD) (fun W' _ e2 => ⟨Ak, n, ck, Av, cv, ss, V, X, base, rfl, by omega, HH.out.to e2, e2.size, fun q hq hf => ⟨hf, e2.block q hq⟩⟩)

end Go.Proofs.Ytkmnhapeohlooaa
