import Derived.Test.YtkmnhapeohlooaaG16
import Derived.Test.YtkmnhapeohlooaaG14

/-
  Layer 18: a call of the script: Put.
-/
namespace Go.Proofs.Ytkmnhapeohlooaa
open Go.RowKit
set_option maxRecDepth 100000

set_option maxHeartbeats 8000000 in
theorem asks_put {w0 w : World} {sb : Nat} {hs : List Int} {Ak : Option Addr} {n : Nat} {Av : Option Addr} {ss : List Sl} {V : List Int} {X : Nat → Prop} {base : Nat} (h : AS w0 w sb hs Ak n Av ss V X base) (hn : n ≤ 1048576) (ck cv : Nat) (kA : Option Addr) (kn kc : Nat) (key : List Nat) (tk : Rd .u8 w kA kn key) (nk : 0 < kn → ∀ a, kA = some a → ¬ X a.block) (uk : U8 key) (lk : kn ≤ 1048576) (hA : Option Addr) (hn2 hc : Nat) (hi : List Nat) (th : Rd .u8 w hA hn2 hi) (uh : U8 hi) (_lh : hn2 ≤ 1048576) (v : Int) :
    Calls Try.prog 33 #[.pointer (some ⟨sb, 0, none⟩), .agg #[.slice Ak n ck, .slice Av n cv], .agg #[.int .i64 1, .slice kA kn kc, .slice hA hn2 hc, .int .i64 v]] w (AskPost w0 w sb hs n X Ak Av ss) := by
  have hEa : Ext w ((((w.alloc (.cells #[.slice Ak n ck, .slice Av n cv] 51)).alloc (.cells #[.int .i64 1, .slice kA kn kc, .slice hA hn2 hc, .int .i64 v] 54)).alloc (.cells #[.slice none 0 0, .slice none 0 0] 51)).alloc (.cells #[.bool false] 4)) := ((((Ext.refl w).alloc _).alloc _).alloc _).alloc _
  have CP := Lib.hid (rplace_any Ak n ck Av n cv ss kA kn kc key _ (h.rk.ext hEa) (fun s hs => ⟨((h.tx s hs).1).ext hEa, by have := (h.tx s hs).2.2; omega⟩) (by omega) (tk.ext hEa) (by omega))
  have HH := Lib.hid h
  have HEa := Lib.hid hEa
  have Tk := Lib.hid tk
  have Uk := Lib.hid uk
  have Th := Lib.hid th
  have Uh := Lib.hid uh
  have HnL := Lib.hid h.len
  have HLb : Hid ((bodies ss).length < 1099511627776) := Lib.hid (by rw [h.len]; omega)
  obtain ⟨s, hs0⟩ : ∃ s, s = skN key (bodies ss) := ⟨_, rfl⟩
  obtain ⟨D, hD⟩ : ∃ D, D = decide ((bodies ss)[skN key (bodies ss)]? = some key) := ⟨_, rfl⟩
  have hsn : s ≤ n := by have := skN_le key (bodies ss); rw [h.len] at this; omega
  rw [← hD, ← hs0] at CP
  have Hs0 := Lib.hid hs0
  have HD := Lib.hid hD
  clear h hEa tk uk th uh hs0 hD
  refine (callsIn_wide (n := 6)).1 ?_
  refine callsIn_of_wp_marks Try.func33 rfl trivial ?_ rfl
  simp only [Try.ntmps33, List.size_toArray, List.length_cons, List.length_nil, Nat.reduceAdd, Nat.reduceSub, Array.replicate_succ, Array.replicate_zero, List.push_toArray, List.append_toArray, List.nil_append, List.cons_append]
  refine wpIn_wide.2 ?_
  go_wp2_with fail
  refine CP.out.mono ?_
  rintro e w1 ⟨rfl, he1⟩
  have HQ0 : Hid (((((w.alloc (.cells #[.slice Ak n ck, .slice Av n cv] 51)).alloc (.cells #[.int .i64 1, .slice kA kn kc, .slice hA hn2 hc, .int .i64 v] 54)).alloc (.cells #[.slice none 0 0, .slice none 0 0] 51)).alloc (.cells #[.bool false] 4)).heap.size = w.heap.size + 4) := Lib.hid (by simp [World.size_alloc])
  obtain ⟨W1, hW1⟩ : ∃ W1, W1 = w1.alloc (.cells #[.int .i64 (s : Int)] 3) := ⟨_, rfl⟩
  have hq4 := (he1.block w.heap.size (by rw [HQ0.out]; omega)).trans ((Below.heap_alloc _ _ _ (by simp <;> omega)).trans ((Below.heap_alloc _ _ _ (by simp <;> omega)).trans ((Below.heap_alloc _ _ _ (by simp)).trans (heap_alloc_new w (.cells #[.slice Ak n ck, .slice Av n cv] 51)))))
  have hq5 := (he1.block (w.heap.size + 1) (by rw [HQ0.out]; omega)).trans ((Below.heap_alloc _ _ _ (by simp <;> omega)).trans ((Below.heap_alloc _ _ _ (by simp <;> omega)).trans (show _ = some (Obj.cells #[.int .i64 1, .slice kA kn kc, .slice hA hn2 hc, .int .i64 v] 54 (0, 0)) from by
    have := heap_alloc_new (w.alloc (.cells #[.slice Ak n ck, .slice Av n cv] 51)) (.cells #[.int .i64 1, .slice kA kn kc, .slice hA hn2 hc, .int .i64 v] 54)
    rwa [World.size_alloc] at this)))
  have hq6 := (he1.block (w.heap.size + 1 + 1) (by rw [HQ0.out]; omega)).trans ((Below.heap_alloc _ _ _ (by simp <;> omega)).trans (show _ = some (Obj.cells #[.slice none 0 0, .slice none 0 0] 51 (0, 0)) from by
    have := heap_alloc_new ((w.alloc (.cells #[.slice Ak n ck, .slice Av n cv] 51)).alloc (.cells #[.int .i64 1, .slice kA kn kc, .slice hA hn2 hc, .int .i64 v] 54)) (.cells #[.slice none 0 0, .slice none 0 0] 51)
    rwa [World.size_alloc, World.size_alloc] at this))
  have hq7 := (he1.block (w.heap.size + 1 + 1 + 1) (by rw [HQ0.out]; omega)).trans (show _ = some (Obj.cells #[.bool false] 4 (0, 0)) from by
    have := heap_alloc_new (((w.alloc (.cells #[.slice Ak n ck, .slice Av n cv] 51)).alloc (.cells #[.int .i64 1, .slice kA kn kc, .slice hA hn2 hc, .int .i64 v] 54)).alloc (.cells #[.slice none 0 0, .slice none 0 0] 51)) (.cells #[.bool false] 4)
    rwa [World.size_alloc, World.size_alloc, World.size_alloc] at this)
  have hz1 := he1.size
  rw [HQ0.out] at hz1
  obtain ⟨B4, hB4⟩ : ∃ B4, B4 = w.heap.size := ⟨_, rfl⟩
  obtain ⟨B8, hB8⟩ : ∃ B8, B8 = w1.heap.size := ⟨_, rfl⟩
  have he8 : Ext w1 W1 := by rw [hW1]; exact (Ext.refl w1).alloc _
  have hq8 : W1.heap[B8]? = some (.cells #[.int .i64 (s : Int)] 3 (0, 0)) := by rw [hW1, hB8]; exact heap_alloc_new w1 _
  rw [← hB4] at hq4 hq5 hq6 hq7
  have HB4 := Lib.hid hB4
  have HB8 := Lib.hid hB8
  have HE1 := Lib.hid ((HEa.out.trans he1).trans he8)
  have HQ : Hid (∀ W, Ext W1 W → W.heap[B4]? = some (.cells #[.slice Ak n ck, .slice Av n cv] 51 (0, 0)) ∧ W.heap[B4 + 1]? = some (.cells #[.int .i64 1, .slice kA kn kc, .slice hA hn2 hc, .int .i64 v] 54 (0, 0)) ∧ W.heap[B4 + 1 + 1]? = some (.cells #[.slice none 0 0, .slice none 0 0] 51 (0, 0)) ∧ W.heap[B4 + 1 + 1 + 1]? = some (.cells #[.bool false] 4 (0, 0)) ∧ W.heap[B8]? = some (.cells #[.int .i64 (s : Int)] 3 (0, 0))) := Lib.hid fun W hW => by
    have hx := he8.trans hW
    exact ⟨(hx.block _ (by rw [hB4]; omega)).trans hq4, (hx.block _ (by rw [hB4]; omega)).trans hq5, (hx.block _ (by rw [hB4]; omega)).trans hq6, (hx.block _ (by rw [hB4]; omega)).trans hq7, (hW.block _ (Array.getElem?_eq_some_iff.1 hq8).1).trans hq8⟩
  have HZ := Lib.hid (show w.heap.size + 4 ≤ B8 ∧ B8 < W1.heap.size from ⟨by rw [hB8]; exact hz1, (Array.getElem?_eq_some_iff.1 hq8).1⟩)
  have HL1 := Lib.hid (HH.out.to HE1.out)
  have Q4 := Lib.hid (HQ.out W1 (Ext.refl _)).1
  have Q6 := Lib.hid (HQ.out W1 (Ext.refl _)).2.2.1
  obtain ⟨q4, q5, q6, q7, q8⟩ := HQ.out W1 (Ext.refl _)
  have c40 := cell_of_row W1 B4 0 _ _ (0, 0) q4
  have c41 : W1.cell? ⟨B4, 1, none⟩ = some (.slice Av n cv) := cell_of_row W1 B4 1 _ _ (0, 0) q4
  have c50 : W1.cell? ⟨B4 + 1, 0, none⟩ = some (.int .i64 1) := cell_of_row W1 (B4 + 1) 0 _ _ (0, 0) q5
  have c51 : W1.cell? ⟨B4 + 1, 1, none⟩ = some (.slice kA kn kc) := cell_of_row W1 (B4 + 1) 1 _ _ (0, 0) q5
  have c52 : W1.cell? ⟨B4 + 1, 2, none⟩ = some (.slice hA hn2 hc) := cell_of_row W1 (B4 + 1) 2 _ _ (0, 0) q5
  have c53 : W1.cell? ⟨B4 + 1, 3, none⟩ = some (.int .i64 v) := cell_of_row W1 (B4 + 1) 3 _ _ (0, 0) q5
  have c7 : W1.cell? ⟨B4 + 1 + 1 + 1, 0, none⟩ = some (.bool false) := cell_of_row W1 (B4 + 1 + 1 + 1) 0 _ _ (0, 0) q7
  have f7 : W1.frozen? ⟨B4 + 1 + 1 + 1, 0, none⟩ = false := by simp [World.frozen?, q7]
  have c80 : W1.cell? ⟨B8, 0, none⟩ = some (.int .i64 (s : Int)) := cell_of_row W1 B8 0 _ _ (0, 0) q8
  have c7r : ∀ cs, (W1.setRow (B4 + 1 + 1) cs).cell? ⟨B4 + 1 + 1 + 1, 0, none⟩ = some (.bool false) := fun cs => (row_far (by omega) q7 cs).1
  have f7r : ∀ cs, (W1.setRow (B4 + 1 + 1) cs).frozen? ⟨B4 + 1 + 1 + 1, 0, none⟩ = false := fun cs => (row_far (by omega) q7 cs).2
  clear he8 hq4 hq5 hq6 hq7 hq8 hz1 CP HQ0 HEa q4 q5 q6 q7 q8

  simp only [hB8, hB4, hW1] at c40 c41 c50 c51 c52 c53 c7 f7 c80 c7r f7r

  have CW := wide_any kA kn kc key W1 (Tk.out.ext HE1.out) (by omega)
  have CW := Lib.hid CW
  simp only [hW1] at CW
  go_wp2_with fail
  simp only [← hW1] at CW
  rw [← hW1, ← hB8, ← hB4]
  clear he1 hW1 hB8 hB4
  refine CW.out.mono ?_
  rintro e w2 ⟨A2, c2, rfl, ho2, he2⟩
  have hXb : Hid (∀ q, X q → w0.heap.size ≤ q ∧ q < w.heap.size) := Lib.hid fun q hq => by
    have h1 := HH.out.ls.bd' q hq
    have := HH.out.low
    omega
  have HX : Hid (∀ W9, FrX X W1 W9 → W9.heap[B4]? = some (.cells #[.slice Ak n ck, .slice Av n cv] 51 (0, 0)) ∧ (W9.heap[B4 + 1 + 1]? = some (.cells #[.slice none 0 0, .slice none 0 0] 51 (0, 0)) ∧ W9.heap[B4 + 1 + 1 + 1]? = some (.cells #[.bool false] 4 (0, 0))) ∧ W9.cell? ⟨B4 + 1, 1, none⟩ = some (.slice kA kn kc) ∧ W9.cell? ⟨B4 + 1, 3, none⟩ = some (.int .i64 v) ∧ RdL W9 Ak n ss ∧ RdG shZ W9 Av n V ∧ (∀ s ∈ ss, Rd .u8 W9 s.A s.body.length s.body) ∧ Rd .u8 W9 kA kn key) := Lib.hid fun W9 f => by
    obtain ⟨q4, q5, q6, q7, q8⟩ := HQ.out W1 (Ext.refl _)
    have hb := HB4.out
    have hn : ∀ q, w.heap.size ≤ q → ¬ X q := fun q h1 h2 => by have := (hXb.out q h2).2; omega
    have e4 := (f.block B4 (Array.getElem?_eq_some_iff.1 q4).1 (hn _ (by omega))).trans q4
    have e5 := (f.block (B4 + 1) (Array.getElem?_eq_some_iff.1 q5).1 (hn _ (by omega))).trans q5
    have e6 := (f.block (B4 + 1 + 1) (Array.getElem?_eq_some_iff.1 q6).1 (hn _ (by omega))).trans q6
    have e7 := (f.block (B4 + 1 + 1 + 1) (Array.getElem?_eq_some_iff.1 q7).1 (hn _ (by omega))).trans q7
    exact ⟨e4, ⟨e6, e7⟩, cell_of_row W9 (B4 + 1) 1 _ _ (0, 0) e5, cell_of_row W9 (B4 + 1) 3 _ _ (0, 0) e5, HL1.out.rk.fr f (fun a ha => (HH.out.fk a ha).1), HL1.out.rv.fr f (fun a ha => (HH.out.fv a ha).1), fun s hs => (HL1.out.tx s hs).1.fr f (fun a ha => (HH.out.ft s hs a ha).1), (Tk.out.ext HE1.out).fr0 f nk⟩
  clear c7r f7r
  obtain ⟨_, _, e51, e53, _⟩ := HX.out w2 (he2.frX X)
  have hcap := ho2.cap.1
  rw [List.length_append, marks_len, Tk.out.len] at hcap
  have hup := run_upto .i64 A2 (kn + 64) c2 kn (by omega)
  have hrd2 := ho2.rd_take (n := kn) (by rw [List.length_append, Tk.out.len]; omega)
  rw [show (key ++ marks 64).take kn = key from by rw [← Tk.out.len]; exact List.take_left] at hrd2
  have CPut := sput_any ((HL1.out.ls.ext he2).ext (Ext.refl w2).drew) HLb.out A2 kn c2 key v (hrd2.ext (Ext.refl w2).drew) Uk.out (by omega)
  rw [show decide (¬ (bodies ss)[skN key (bodies ss)]? = some key) = !D from by rw [HD.out]; simp] at CPut
  have CPut := Lib.hid CPut
  have HO2 := Lib.hid ho2
  have HE2 := Lib.hid he2
  obtain ⟨N, hN⟩ : ∃ N, N = !D := ⟨_, rfl⟩
  rw [← hN] at CPut
  have HN := Lib.hid hN
  clear hN hrd2 ho2
  clear c40 c41 c50 c51 c52 c53 c7 f7 c80 Q4 Q6
  go_wp2_with fail
  refine wp_region_noPanic ?_
  refine wp_region_held_drew (S := fun W9 => W9.cell? ⟨B4 + 1, 1, none⟩ = some (.slice kA kn kc) ∧ W9.cell? ⟨B4 + 1, 3, none⟩ = some (.int .i64 v)) (by kernel_rfl) ?_ (fun hHeld => ?_)
  · exact ⟨e51, e53⟩
  refine wpAnyH_take (i := 0) (v := ?_) rfl (by kernel_rfl) (by kernel_rfl) (by kernel_rfl) (fun _ _ _ h => h) (Or.inl ⟨by rfl, ?_⟩) hHeld ?_
  rotate_left
  · (intro w hSw; (try dsimp only at hSw); obtain ⟨d51, d53⟩ := hSw; go_simp; (try with_reducible rfl))
  (try (simp only [Act.put, List.getElem_toArray, List.getElem_cons_zero, List.setIfInBounds_toArray, List.set_cons_zero, List.set_cons_succ]))
  refine wpAnyH_take (i := 1) (v := ?_) rfl (by kernel_rfl) (by kernel_rfl) (by kernel_rfl) (fun _ _ _ h => h) (Or.inl ⟨by rfl, ?_⟩) hHeld ?_
  rotate_left
  · (intro w hSw; (try dsimp only at hSw); obtain ⟨d51, d53⟩ := hSw; go_simp; (try with_reducible rfl))
  (try (simp only [Act.put, List.getElem_toArray, List.getElem_cons_zero, List.getElem_cons_succ, List.setIfInBounds_toArray, List.set_cons_zero, List.set_cons_succ]))
  refine wpAnyH_take (i := 2) (v := ?_) rfl (by kernel_rfl) (by kernel_rfl) (by kernel_rfl) (fun _ _ _ h => h) (Or.inl ⟨by rfl, ?_⟩) hHeld ?_
  rotate_left
  · (intro w hSw; (try dsimp only at hSw); obtain ⟨d51, d53⟩ := hSw; go_simp; (try with_reducible rfl))
  (try (simp only [Act.put, List.getElem_toArray, List.getElem_cons_zero, List.getElem_cons_succ, List.setIfInBounds_toArray, List.set_cons_zero, List.set_cons_succ]))
  refine wpAnyH_take (i := 3) (v := ?_) rfl (by kernel_rfl) (by kernel_rfl) (by kernel_rfl) (fun _ _ _ h => h) (Or.inl ⟨by rfl, ?_⟩) hHeld ?_
  rotate_left
  · (intro w hSw; (try dsimp only at hSw); obtain ⟨d51, d53⟩ := hSw; go_simp; (try with_reducible rfl))
  (try (simp only [Act.put, List.getElem_toArray, List.getElem_cons_zero, List.getElem_cons_succ, List.setIfInBounds_toArray, List.set_cons_zero, List.set_cons_succ]))
  refine wpAnyH_take (i := 4) (v := ?_) rfl (by kernel_rfl) (by kernel_rfl) (by kernel_rfl) (fun _ _ _ h => h) (Or.inl ⟨by rfl, ?_⟩) hHeld ?_
  rotate_left
  · (intro w hSw; (try dsimp only at hSw); obtain ⟨d51, d53⟩ := hSw; go_simp; (try with_reducible rfl))
  (try (simp only [Act.put, List.getElem_toArray, List.getElem_cons_zero, List.getElem_cons_succ, List.setIfInBounds_toArray, List.set_cons_zero, List.set_cons_succ]))
  refine wpAnyH_take (i := 5) (v := ?_) rfl (by kernel_rfl) (by kernel_rfl) (by kernel_rfl) (fun _ _ _ h => h) (Or.inl ⟨by rfl, ?_⟩) hHeld ?_
  rotate_left
  · (intro w hSw; (try dsimp only at hSw); obtain ⟨d51, d53⟩ := hSw; go_simp; (try with_reducible rfl))
  (try (simp only [Act.put, List.getElem_toArray, List.getElem_cons_zero, List.getElem_cons_succ, List.setIfInBounds_toArray, List.set_cons_zero, List.set_cons_succ]))
  refine wpAnyH_take (i := 6) (v := ?_) rfl (by kernel_rfl) (by kernel_rfl) (by kernel_rfl) (fun _ _ _ h => h) (Or.inl ⟨by rfl, ?_⟩) hHeld ?_
  rotate_left
  · (intro w hSw; (try dsimp only at hSw); obtain ⟨d51, d53⟩ := hSw; go_simp; (try with_reducible rfl))
  (try (simp only [Act.put, List.getElem_toArray, List.getElem_cons_zero, List.getElem_cons_succ, List.setIfInBounds_toArray, List.set_cons_zero, List.set_cons_succ]))
  refine wpAnyH_take (i := 7) (v := ?_) rfl (by kernel_rfl) (by kernel_rfl) (by kernel_rfl) (fun _ _ _ h => h) (Or.inl ⟨by rfl, ?_⟩) hHeld ?_
  rotate_left
  · (intro w hSw; (try dsimp only at hSw); obtain ⟨d51, d53⟩ := hSw; go_simp; (try with_reducible rfl))
  (try (simp only [Act.put, List.getElem_toArray, List.getElem_cons_zero, List.getElem_cons_succ, List.setIfInBounds_toArray, List.set_cons_zero, List.set_cons_succ]))
  refine wpAnyH_ready (rs := [8]) (by kernel_rfl) (by simp) ?_
  refine AllReadyH.cons rfl (fun K9 hK9 => ?_) AllReadyH.nil
  go_simp
  refine CPut.out.mono ?_
  rintro e w3 ⟨rfl, hls3, hf3⟩
  have hf13 : FrX X W1 w3 := (he2.drew.frX X).trans hf3
  have hSn := HX.out w3 hf13
  have hSn := (show w3.cell? ⟨B4 + 1, 1, none⟩ = some (.slice kA kn kc) ∧ w3.cell? ⟨B4 + 1, 3, none⟩ = some (.int .i64 v) from ⟨hSn.2.2.1, hSn.2.2.2.1⟩)
  refine hK9.out _ _ ?_ (fun hHeld => ?_)
  · exact hSn
  clear hK9 K9
  (try (simp only [Act.put, List.getElem_toArray, List.getElem_cons_zero, List.getElem_cons_succ, List.setIfInBounds_toArray, List.set_cons_zero, List.set_cons_succ]))
  refine wpAnyH_take (i := 9) (v := ?_) rfl (by kernel_rfl) (by kernel_rfl) (by kernel_rfl) (fun _ _ _ h => h) (Or.inl ⟨by rfl, ?_⟩) hHeld ?_
  rotate_left
  · (intro w hSw; (try dsimp only at hSw); obtain ⟨d51, d53⟩ := hSw; go_simp; (try with_reducible rfl))
  (try (simp only [Act.put, List.getElem_toArray, List.getElem_cons_zero, List.getElem_cons_succ, List.setIfInBounds_toArray, List.set_cons_zero, List.set_cons_succ]))
  refine wpAnyH_done (by kernel_rfl) ?_ _
  refine NoPanic.normal ?_
  clear hup e51 e53 CPut hSn
  have hA2b : ∀ a, A2 = some a → W1.heap.size ≤ a.block ∧ a.block < w2.heap.size := fun a ha => HO2.out.block a ha
  have hnA : ∀ a, A2 = some a → ¬ X a.block := fun a ha h => by
    have h1 := (hXb.out _ h).2
    have h2 := (hA2b a ha).1
    have h3 := HE1.out.size
    omega
  obtain ⟨_, _, x51, _, _, _, _, xkey⟩ := HX.out w3 hf13
  have hml : (key ++ marks 64).length = kn + 64 := by rw [List.length_append, marks_len, Tk.out.len]
  have ho3 : Own .u8 5 w3 W1.heap.size A2 c2 (key ++ marks 64) := HO2.out.blk8 (fun a ha => hf3.block a.block (hA2b a ha).2 (hnA a ha))
  have hmu : U8 (key ++ marks 64) := fun x hx => by
    rcases List.mem_append.1 hx with h | h
    · exact Uk.out x h
    · simp only [marks, List.mem_map, List.mem_range] at h
      obtain ⟨i, _, rfl⟩ := h
      omega
  have CIn := Lib.hid (intact_yes (c := c2) (c' := kc) (ho3.rd' hml) xkey (by omega) (by omega))
  have HO3 := Lib.hid ho3
  have Hml := Lib.hid hml
  have Hmu := Lib.hid hmu
  have Hls3 := Lib.hid hls3
  have Hf3 := Lib.hid hf3
  have Hf13 := Lib.hid hf13
  clear ho3 hml hmu hls3 hf3 hf13 xkey he2
  go_wp2_with fail
  refine CIn.out.mono ?_
  rintro e w4 ⟨rfl, q4, hw4⟩
  have hE34 : Ext w3 w4 := by rw [hw4]; exact (Ext.refl w3).drewN q4
  clear hw4
  have CSp := Lib.hid (spoil_any A2 (kn + 64) c2 W1.heap.size (key ++ marks 64) w4 (HO3.out.ext hE34) Hml.out Hmu.out (by omega))
  have HE34 := Lib.hid hE34
  clear hE34 CIn x51
  go_wp2_with fail
  refine CSp.out.mono ?_
  rintro e w5 ⟨rfl, _, hg5⟩
  have f5 : FrX X W1 w5 := ⟨(hg5.os.trans HE34.out.os).trans Hf13.out.os, (hg5.tape.trans HE34.out.tape).trans Hf13.out.tape, (hg5.output.trans HE34.out.output).trans Hf13.out.output, Nat.le_trans Hf13.out.size (Nat.le_trans HE34.out.size hg5.size), fun q hq hx => by
    have h1 := Hf13.out.size
    have h2 := HE34.out.size
    refine (hg5.block q (by omega) (fun e => ?_)).trans ((HE34.out.block q (by omega)).trans (Hf13.out.block q hq hx))
    obtain ⟨a, ha, rfl⟩ := Option.map_eq_some_iff.1 e.symm
    have := (hA2b a ha).1
    omega⟩
  have h35 : ∀ q, XN X w2 w3 q → w5.heap[q]? = w3.heap[q]? := fun q hq => by
    have hql : q < w3.heap.size := by
      rcases hq with h | h
      · have h1 := (hXb.out q h).2
        have h2 := Hf13.out.size
        have h3 := HE1.out.size
        omega
      · exact h.2
    refine (hg5.block q (Nat.lt_of_lt_of_le hql HE34.out.size) (fun e => ?_)).trans (HE34.out.block q hql)
    obtain ⟨a, ha, rfl⟩ := Option.map_eq_some_iff.1 e.symm
    have h4 := hA2b a ha
    rcases hq with h | h
    · exact hnA a ha h
    · omega
  obtain ⟨y4, ⟨y6, y7⟩, y51, y53, yrk, yrv, ytx, ykey⟩ := HX.out w5 f5
  have hz35 := Nat.le_trans HE34.out.size hg5.size
  have CP2 := rput_any Ak n ck Av cv ss V kA kn kc key v w5 yrk yrv (fun s hs => ⟨ytx s hs, by have := (HH.out.tx s hs).2.2; omega⟩) hn ykey (by omega)
  rw [← HD.out] at CP2
  have CP2 := Lib.hid CP2
  have Hf5 := Lib.hid f5
  have H35 := Lib.hid h35
  have HY4 := Lib.hid y4
  have HY6 := Lib.hid y6
  have HY7 := Lib.hid y7
  clear f5 h35 y4 y6 y7 yrk yrv ytx ykey hg5 CSp
  go_wp2_with (first
    | (refine wpList_load_row rfl 51 _ rfl B4 rfl 51 #[.slice Ak n ck, .slice Av n cv] (0, 0) _ HY4.out Try.underlying51 rfl (by kernel_rfl) ?_)
    | fail)
  refine CP2.out.mono ?_
  rintro e w6 ⟨Ao, co, Aw, cw, ts, vs, rfl, hb6, rfl, ho6, hv6, hts6, he6⟩
  rw [← HN.out]
  have hvl : (putV (bodies ss) V key v).length = ts.length := by
    have h1 := putV_len (HH.out.ls.vlen).1 key v
    rw [← bodies_len ts, hb6]; exact h1
  rw [hvl]
  obtain ⟨n6, hn6⟩ : ∃ n6, n6 = ts.length := ⟨_, rfl⟩
  rw [← hn6]
  have Hn6 := Lib.hid hn6
  have hk6 := (he6.block _ (Array.getElem?_eq_some_iff.1 HY6.out).1).trans HY6.out
  have hk7 := (he6.block _ (Array.getElem?_eq_some_iff.1 HY7.out).1).trans HY7.out
  have HK6 : Hid ((w6.alloc (.cells #[.slice Ao n6 co, .slice Aw n6 cw] 51)).heap[B4 + 1 + 1]? = some (.cells #[.slice none 0 0, .slice none 0 0] 51 (0, 0))) := Lib.hid ((Below.heap_alloc _ _ _ (Array.getElem?_eq_some_iff.1 hk6).1).trans hk6)
  have HK7 : Hid ((w6.alloc (.cells #[.slice Ao n6 co, .slice Aw n6 cw] 51)).heap[B4 + 1 + 1 + 1]? = some (.cells #[.bool false] 4 (0, 0))) := Lib.hid ((Below.heap_alloc _ _ _ (Array.getElem?_eq_some_iff.1 hk7).1).trans hk7)
  have H13 := Lib.hid (heap_alloc_new w6 (.cells #[.slice Ao n6 co, .slice Aw n6 cw] 51))
  have c7r : ∀ cs, ((w6.alloc (.cells #[.slice Ao n6 co, .slice Aw n6 cw] 51)).setRow (B4 + 1 + 1) cs).cell? ⟨B4 + 1 + 1 + 1, 0, none⟩ = some (.bool false) := fun cs => (row_far (by omega) HK7.out cs).1
  have f7r : ∀ cs, ((w6.alloc (.cells #[.slice Ao n6 co, .slice Aw n6 cw] 51)).setRow (B4 + 1 + 1) cs).frozen? ⟨B4 + 1 + 1 + 1, 0, none⟩ = false := fun cs => (row_far (by omega) HK7.out cs).2
  have HFin := Lib.hid (as_put (P := fun q => q = B4 + 1 + 1 ∨ q = B4 + 1 + 1 + 1) HH.out HE1.out HE2.out Hls3.out Hf5.out hz35 H35.out hb6 ho6 hv6 (show w2.heap.size ≤ w3.heap.size from Hf3.out.size) hts6 Uk.out (by rw [Tk.out.len]; exact lk) he6 (W := ((w6.alloc (.cells #[.slice Ao n6 co, .slice Aw n6 cw] 51)).setRow (B4 + 1 + 1) #[.slice Ao n6 co, .slice Aw n6 cw]).setCell ⟨B4 + 1 + 1 + 1, 0, none⟩ (.bool true))
    ((((Ext.refl w6).alloc _).frX _).trans ((grownBy_frX (grown_setRow _ _ _) (.inl (.inl rfl))).trans (grownBy_frX (grown_setCellS _ _ _ _) (.inl (.inr rfl))))) (fun q hq => by
      have h4 := HB4.out
      have h1 := HE2.out.size
      have h2 := HE1.out.size
      have h3 := (Array.getElem?_eq_some_iff.1 (HQ.out W1 (Ext.refl _)).2.2.2.1).1
      omega))
  clear hn6 hk6 hk7 hvl hb6 ho6 hv6 hts6 he6 CP2
  go_wp2_with (first
    | (refine wpList_load_row rfl 51 _ rfl w6.heap.size rfl 51 #[.slice Ao n6 co, .slice Aw n6 cw] (0, 0) _ H13.out Try.underlying51 rfl (by kernel_rfl) ?_)
    | (refine wpList_store_row rfl 51 _ _ rfl (B4 + 1 + 1) #[.slice Ao n6 co, .slice Aw n6 cw] rfl rfl 51 #[.slice none 0 0, .slice none 0 0] HK6.out (by kernel_rfl) rfl (by simp [Value.oneCell']) ?_)
    | fail)
  refine asks_ret0 (W := w6.alloc (.cells #[.slice Ao n6 co, .slice Aw n6 cw] 51)) rfl rfl HK6.out HK7.out (by omega) ⟨Ao, n6, co, Aw, cw, ts, putV (bodies ss) V key v, XN X w2 w3, base, rfl, ?_, ?_, HFin.out.2.2.1, HFin.out.2.2.2⟩
  · rw [Hn6.out]; exact HFin.out.2.1
  · rw [Hn6.out]; have := HFin.out.1; rw [Hn6.out] at this; exact this

end Go.Proofs.Ytkmnhapeohlooaa
