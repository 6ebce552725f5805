import Derived.Test.YtkmnhapeohlooaaG15
import Derived.Test.YtkmnhapeohlooaaG14

/-
  Layer 18: a call of the script: Seek.
-/
namespace Go.Proofs.Ytkmnhapeohlooaa
open Go.RowKit
set_option maxRecDepth 100000

set_option maxHeartbeats 8000000 in
theorem asks_seek {w0 w : World} {sb : Nat} {hs : List Int} {Ak : Option Addr} {n : Nat} {Av : Option Addr} {ss : List Sl} {V : List Int} {X : Nat → Prop} {base : Nat} (h : AS w0 w sb hs Ak n Av ss V X base) (hn : n ≤ 1048576) (ck cv : Nat) (kA : Option Addr) (kn kc : Nat) (key : List Nat) (tk : Rd .u8 w kA kn key) (uk : U8 key) (lk : kn ≤ 1048576) (hA : Option Addr) (hn2 hc : Nat) (hi : List Nat) (th : Rd .u8 w hA hn2 hi) (uh : U8 hi) (_lh : hn2 ≤ 1048576) (v : Int) :
    Calls Try.prog 33 #[.pointer (some ⟨sb, 0, none⟩), .agg #[.slice Ak n ck, .slice Av n cv], .agg #[.int .i64 3, .slice kA kn kc, .slice hA hn2 hc, .int .i64 v]] w (AskPost w0 w sb hs n X Ak Av ss) := by
  have hEa : Ext w ((((w.alloc (.cells #[.slice Ak n ck, .slice Av n cv] 51)).alloc (.cells #[.int .i64 3, .slice kA kn kc, .slice hA hn2 hc, .int .i64 v] 54)).alloc (.cells #[.slice none 0 0, .slice none 0 0] 51)).alloc (.cells #[.bool false] 4)) := ((((Ext.refl w).alloc _).alloc _).alloc _).alloc _
  have CP := Lib.hid (rplace_any Ak n ck Av n cv ss kA kn kc key _ (h.rk.ext hEa) (fun s hs => ⟨((h.tx s hs).1).ext hEa, by have := (h.tx s hs).2.2; omega⟩) (by omega) (tk.ext hEa) (by omega))
  have HH := Lib.hid h
  have HEa := Lib.hid hEa
  have Tk := Lib.hid tk
  have Uk := Lib.hid uk
  have Th := Lib.hid th
  have Uh := Lib.hid uh
  have HnL := Lib.hid h.len
  have HLb : Hid ((bodies ss).length < 1099511627776) := Lib.hid (by rw [h.len]; omega)
  obtain ⟨s, hs0⟩ : ∃ s, s = skN key (bodies ss) := ⟨_, rfl⟩
  obtain ⟨D, hD⟩ : ∃ D, D = decide ((bodies ss)[skN key (bodies ss)]? = some key) := ⟨_, rfl⟩
  have hsn : s ≤ n := by have := skN_le key (bodies ss); rw [h.len] at this; omega
  rw [← hD, ← hs0] at CP
  have Hs0 := Lib.hid hs0
  have HD := Lib.hid hD
  clear h hEa tk uk th uh hs0 hD
  refine (callsIn_wide (n := 6)).1 ?_
  refine callsIn_of_wp_marks Try.func33 rfl trivial ?_ rfl
  simp only [Try.ntmps33, List.size_toArray, List.length_cons, List.length_nil, Nat.reduceAdd, Nat.reduceSub, Array.replicate_succ, Array.replicate_zero, List.push_toArray, List.append_toArray, List.nil_append, List.cons_append]
  refine wpIn_wide.2 ?_
  go_wp2_with fail
  refine CP.out.mono ?_
  rintro e w1 ⟨rfl, he1⟩
  have HQ0 : Hid (((((w.alloc (.cells #[.slice Ak n ck, .slice Av n cv] 51)).alloc (.cells #[.int .i64 3, .slice kA kn kc, .slice hA hn2 hc, .int .i64 v] 54)).alloc (.cells #[.slice none 0 0, .slice none 0 0] 51)).alloc (.cells #[.bool false] 4)).heap.size = w.heap.size + 4) := Lib.hid (by simp [World.size_alloc])
  obtain ⟨W1, hW1⟩ : ∃ W1, W1 = w1.alloc (.cells #[.int .i64 (s : Int)] 3) := ⟨_, rfl⟩
  have hq4 := (he1.block w.heap.size (by rw [HQ0.out]; omega)).trans ((Below.heap_alloc _ _ _ (by simp <;> omega)).trans ((Below.heap_alloc _ _ _ (by simp <;> omega)).trans ((Below.heap_alloc _ _ _ (by simp)).trans (heap_alloc_new w (.cells #[.slice Ak n ck, .slice Av n cv] 51)))))
  have hq5 := (he1.block (w.heap.size + 1) (by rw [HQ0.out]; omega)).trans ((Below.heap_alloc _ _ _ (by simp <;> omega)).trans ((Below.heap_alloc _ _ _ (by simp <;> omega)).trans (show _ = some (Obj.cells #[.int .i64 3, .slice kA kn kc, .slice hA hn2 hc, .int .i64 v] 54 (0, 0)) from by
    have := heap_alloc_new (w.alloc (.cells #[.slice Ak n ck, .slice Av n cv] 51)) (.cells #[.int .i64 3, .slice kA kn kc, .slice hA hn2 hc, .int .i64 v] 54)
    rwa [World.size_alloc] at this)))
  have hq6 := (he1.block (w.heap.size + 1 + 1) (by rw [HQ0.out]; omega)).trans ((Below.heap_alloc _ _ _ (by simp <;> omega)).trans (show _ = some (Obj.cells #[.slice none 0 0, .slice none 0 0] 51 (0, 0)) from by
    have := heap_alloc_new ((w.alloc (.cells #[.slice Ak n ck, .slice Av n cv] 51)).alloc (.cells #[.int .i64 3, .slice kA kn kc, .slice hA hn2 hc, .int .i64 v] 54)) (.cells #[.slice none 0 0, .slice none 0 0] 51)
    rwa [World.size_alloc, World.size_alloc] at this))
  have hq7 := (he1.block (w.heap.size + 1 + 1 + 1) (by rw [HQ0.out]; omega)).trans (show _ = some (Obj.cells #[.bool false] 4 (0, 0)) from by
    have := heap_alloc_new (((w.alloc (.cells #[.slice Ak n ck, .slice Av n cv] 51)).alloc (.cells #[.int .i64 3, .slice kA kn kc, .slice hA hn2 hc, .int .i64 v] 54)).alloc (.cells #[.slice none 0 0, .slice none 0 0] 51)) (.cells #[.bool false] 4)
    rwa [World.size_alloc, World.size_alloc, World.size_alloc] at this)
  have hz1 := he1.size
  rw [HQ0.out] at hz1
  obtain ⟨B4, hB4⟩ : ∃ B4, B4 = w.heap.size := ⟨_, rfl⟩
  obtain ⟨B8, hB8⟩ : ∃ B8, B8 = w1.heap.size := ⟨_, rfl⟩
  have he8 : Ext w1 W1 := by rw [hW1]; exact (Ext.refl w1).alloc _
  have hq8 : W1.heap[B8]? = some (.cells #[.int .i64 (s : Int)] 3 (0, 0)) := by rw [hW1, hB8]; exact heap_alloc_new w1 _
  rw [← hB4] at hq4 hq5 hq6 hq7
  have HB4 := Lib.hid hB4
  have HB8 := Lib.hid hB8
  have HE1 := Lib.hid ((HEa.out.trans he1).trans he8)
  have HQ : Hid (∀ W, Ext W1 W → W.heap[B4]? = some (.cells #[.slice Ak n ck, .slice Av n cv] 51 (0, 0)) ∧ W.heap[B4 + 1]? = some (.cells #[.int .i64 3, .slice kA kn kc, .slice hA hn2 hc, .int .i64 v] 54 (0, 0)) ∧ W.heap[B4 + 1 + 1]? = some (.cells #[.slice none 0 0, .slice none 0 0] 51 (0, 0)) ∧ W.heap[B4 + 1 + 1 + 1]? = some (.cells #[.bool false] 4 (0, 0)) ∧ W.heap[B8]? = some (.cells #[.int .i64 (s : Int)] 3 (0, 0))) := Lib.hid fun W hW => by
    have hx := he8.trans hW
    exact ⟨(hx.block _ (by rw [hB4]; omega)).trans hq4, (hx.block _ (by rw [hB4]; omega)).trans hq5, (hx.block _ (by rw [hB4]; omega)).trans hq6, (hx.block _ (by rw [hB4]; omega)).trans hq7, (hW.block _ (Array.getElem?_eq_some_iff.1 hq8).1).trans hq8⟩
  have HZ := Lib.hid (show w.heap.size + 4 ≤ B8 ∧ B8 < W1.heap.size from ⟨by rw [hB8]; exact hz1, (Array.getElem?_eq_some_iff.1 hq8).1⟩)
  have HL1 := Lib.hid (HH.out.to HE1.out)
  have Q4 := Lib.hid (HQ.out W1 (Ext.refl _)).1
  have Q6 := Lib.hid (HQ.out W1 (Ext.refl _)).2.2.1
  obtain ⟨q4, q5, q6, q7, q8⟩ := HQ.out W1 (Ext.refl _)
  have c40 := cell_of_row W1 B4 0 _ _ (0, 0) q4
  have c41 : W1.cell? ⟨B4, 1, none⟩ = some (.slice Av n cv) := cell_of_row W1 B4 1 _ _ (0, 0) q4
  have c50 : W1.cell? ⟨B4 + 1, 0, none⟩ = some (.int .i64 3) := cell_of_row W1 (B4 + 1) 0 _ _ (0, 0) q5
  have c51 : W1.cell? ⟨B4 + 1, 1, none⟩ = some (.slice kA kn kc) := cell_of_row W1 (B4 + 1) 1 _ _ (0, 0) q5
  have c52 : W1.cell? ⟨B4 + 1, 2, none⟩ = some (.slice hA hn2 hc) := cell_of_row W1 (B4 + 1) 2 _ _ (0, 0) q5
  have c53 : W1.cell? ⟨B4 + 1, 3, none⟩ = some (.int .i64 v) := cell_of_row W1 (B4 + 1) 3 _ _ (0, 0) q5
  have c7 : W1.cell? ⟨B4 + 1 + 1 + 1, 0, none⟩ = some (.bool false) := cell_of_row W1 (B4 + 1 + 1 + 1) 0 _ _ (0, 0) q7
  have f7 : W1.frozen? ⟨B4 + 1 + 1 + 1, 0, none⟩ = false := by simp [World.frozen?, q7]
  have c80 : W1.cell? ⟨B8, 0, none⟩ = some (.int .i64 (s : Int)) := cell_of_row W1 B8 0 _ _ (0, 0) q8
  have c7r : ∀ cs, (W1.setRow (B4 + 1 + 1) cs).cell? ⟨B4 + 1 + 1 + 1, 0, none⟩ = some (.bool false) := fun cs => (row_far (by omega) q7 cs).1
  have f7r : ∀ cs, (W1.setRow (B4 + 1 + 1) cs).frozen? ⟨B4 + 1 + 1 + 1, 0, none⟩ = false := fun cs => (row_far (by omega) q7 cs).2
  clear he8 hq4 hq5 hq6 hq7 hq8 hz1 CP HQ0 HEa q4 q5 q6 q7 q8

  simp only [hB8, hB4, hW1] at c40 c41 c50 c51 c52 c53 c7 f7 c80 c7r f7r

  have CS := Lib.hid (lsseek_any HL1.out.ls HLb.out kA kn kc key (Tk.out.ext HE1.out) Uk.out)
  simp only [hW1] at CS
  go_wp2_with fail
  simp only [← hW1] at CS
  rw [← hW1, ← hB8, ← hB4]
  clear he1 hW1 hB8 hB4
  refine CS.out.mono ?_
  rintro e w2 ⟨hs2, he2⟩
  have HF : Hid (∀ W9, FrX (fun q => q = B4 + 1 + 1 ∨ q = B4 + 1 + 1 + 1) W1 W9 → W9.cell? ⟨B4, 0, none⟩ = some (.slice Ak n ck) ∧ W9.cell? ⟨B4, 1, none⟩ = some (.slice Av n cv) ∧ W9.cell? ⟨B8, 0, none⟩ = some (.int .i64 (s : Int)) ∧ ((s < n → ∀ a, Av = some a → W9.cell? ⟨a.block, a.off + s, none⟩ = some (.int .i64 (V.getD s 0))) ∧ RdL W9 Ak n ss ∧ (∀ s ∈ ss, Rd .u8 W9 s.A s.body.length s.body))) := Lib.hid fun W9 f => by
    obtain ⟨q4, q5, q6, q7, q8⟩ := HQ.out W1 (Ext.refl _)
    have hb := HB4.out
    have hz := HZ.out
    have e4 := (f.block B4 (Array.getElem?_eq_some_iff.1 q4).1 (by omega)).trans q4
    have e8 := (f.block B8 (Array.getElem?_eq_some_iff.1 q8).1 (by omega)).trans q8
    have hrv := HL1.out.rv.fr f (fun a ha => by have := (HH.out.fv a ha).2; omega)
    refine ⟨cell_of_row W9 B4 0 _ _ (0, 0) e4, cell_of_row W9 B4 1 _ _ (0, 0) e4, cell_of_row W9 B8 0 _ _ (0, 0) e8, fun hs a ha => ?_, HL1.out.rk.fr f (fun a ha => by have := (HH.out.fk a ha).2; omega), fun s hs => ?_⟩
    · obtain ⟨b, o, e, _, hc⟩ := hrv.atZ hs
      rw [ha] at e
      injection e with e
      subst e
      exact hc
    · exact (HL1.out.tx s hs).1.fr f (fun a ha => by have := (HH.out.ft s hs a ha).2; omega)
  clear c7r f7r
  have HK6 := Lib.hid (HQ.out w2 he2).2.2.1
  have HK7 := Lib.hid (HQ.out w2 he2).2.2.2.1
  have c7r : ∀ cs, (w2.setRow (B4 + 1 + 1) cs).cell? ⟨B4 + 1 + 1 + 1, 0, none⟩ = some (.bool false) := fun cs => (row_far (W := w2) (by omega) HK7.out cs).1
  have f7r : ∀ cs, (w2.setRow (B4 + 1 + 1) cs).frozen? ⟨B4 + 1 + 1 + 1, 0, none⟩ = false := fun cs => (row_far (W := w2) (by omega) HK7.out cs).2
  obtain ⟨e40, e41, e80, _⟩ := HF.out w2 (he2.frX _)
  have hq54 := (HQ.out w2 he2).2.1
  have e51 : w2.cell? ⟨B4 + 1, 1, none⟩ = some (.slice kA kn kc) := cell_of_row w2 (B4 + 1) 1 _ _ (0, 0) hq54
  have HQ4 := Lib.hid (HQ.out w2 he2).1
  clear hq54
  clear c40 c41 c50 c51 c52 c53 c7 f7 c80 Q4 Q6
  rcases hs2 with ⟨h1, rfl⟩ | ⟨x, A2, c2, h1, rfl, ho2⟩
  · have hsn2 : s = n := by rw [Hs0.out, h1, HnL.out]
    subst hsn2
    clear h1
    go_wp2_with (first
      | (refine wpList_load_row rfl 51 _ rfl B4 rfl 51 #[.slice Ak s ck, .slice Av s cv] (0, 0) _ HQ4.out Try.underlying51 rfl (by kernel_rfl) ?_)
      | (refine wpList_store_row rfl 51 _ _ rfl (B4 + 1 + 1) #[.slice Ak s ck, .slice Av s cv] rfl rfl 51 #[.slice none 0 0, .slice none 0 0] HK6.out (by kernel_rfl) rfl (by simp [Value.oneCell']) ?_)
      | fail)
    exact asks_ret (W := w2) (ds := []) rfl rfl HK6.out HK7.out (by omega) (HE1.out.trans he2) (by have := HB4.out; omega) (by have := HB4.out; omega) List.nodup_nil (fun D hD => by cases hD) (fun W' _ e2 => ⟨Ak, s, ck, Av, cv, ss, V, X, base, rfl, by omega, HH.out.to e2, e2.size, fun q hq hf => ⟨hf, e2.block q hq⟩⟩)
  · rw [← Hs0.out] at h1
    have hsl := (List.getElem?_eq_some_iff.1 h1).1
    rw [HnL.out] at hsl
    have hne : ¬ (s : Int) = (n : Int) := by omega
    have CS2 := Lib.hid (lsseek_any (HL1.out.ls.ext he2) HLb.out kA kn kc key ((Tk.out.ext HE1.out).ext he2) Uk.out)
    rw [← Hs0.out]
    obtain ⟨G, hG⟩ : ∃ G, G = V.getD s 0 := ⟨_, rfl⟩
    rw [← hG]
    have HG := Lib.hid hG
    have H1 := Lib.hid h1
    have HO2 := Lib.hid ho2
    obtain ⟨xn, hxn⟩ : ∃ xn, xn = x.length := ⟨_, rfl⟩
    rw [← hxn]
    have Hxn := Lib.hid hxn
    clear h1 ho2 hG hxn
    go_wp2_with fail
    refine CS2.out.mono ?_
    rintro e w3 ⟨hs3, he3⟩
    obtain ⟨A3, c3, rfl, ho3⟩ : ∃ A3 c3, e = .returned (.tuple #[.slice A3 xn c3, .int .i64 G, .bool true]) ∧ Own .u8 5 w3 w2.heap.size A3 c3 x := by
      rcases hs3 with ⟨h, _⟩ | ⟨x3, A3, c3, h, he, ho⟩
      · rw [HnL.out, ← Hs0.out] at h; omega
      · rw [← Hs0.out, H1.out] at h
        injection h with h
        subst h
        exact ⟨A3, c3, by rw [he, ← Hs0.out, ← HG.out, ← Hxn.out], ho⟩
    have hE3 := he2.trans he3
    obtain ⟨b, o, hAv, _, _⟩ := HL1.out.rv.atZ hsl
    obtain ⟨b2, o2, t, hAk, hf, hct⟩ := HL1.out.rk.at_ hsl
    have htx : t.body = x := by
      have h2 := bodies_at hf
      rw [H1.out] at h2
      injection h2 with h2
      exact h2.symm
    have htl : t.body.length = xn := by rw [htx]; exact Hxn.out.symm
    have htm := List.mem_of_getElem? hf
    subst hAv hAk
    have HF : Hid (∀ W9, FrX (fun q => q = B4 + 1 + 1 ∨ q = B4 + 1 + 1 + 1) W1 W9 → W9.cell? ⟨B4, 0, none⟩ = some (.slice (some ⟨b2, o2, none⟩) n ck) ∧ W9.cell? ⟨B4, 1, none⟩ = some (.slice (some ⟨b, o, none⟩) n cv) ∧ W9.cell? ⟨B8, 0, none⟩ = some (.int .i64 (s : Int)) ∧ (W9.cell? ⟨b, o + s, none⟩ = some (.int .i64 G) ∧ W9.cell? ⟨b2, o2 + s, none⟩ = some (.slice t.A xn t.c))) := Lib.hid fun W9 f => by
      obtain ⟨h1, h2, h3, h4, h5, _⟩ := HF.out W9 f
      obtain ⟨b3, o3, t3, e3, hf3, hc3⟩ := h5.at_ hsl
      injection e3 with e3
      injection e3 with e3 e4
      subst e3 e4
      rw [hf] at hf3
      injection hf3 with hf3
      subst hf3
      exact ⟨h1, h2, h3, by rw [HG.out]; exact h4 hsl _ rfl, by rw [hc3, htl]⟩
    have hAtx := HL1.out.tx t htm
    rw [htx] at hAtx
    have CA := Lib.hid (apart_any A2 A3 t.A xn c2 c3 t.c W1.heap.size x W1 w3.drew ((HO2.out.ext he3).ext (Ext.refl w3).drew) Hxn.out.symm hAtx.2.1 ((ho3.rd' Hxn.out.symm).ext (Ext.refl w3).drew) (by have h9 := (hAtx.1.ext hE3).ext (Ext.refl w3).drew; rwa [← Hxn.out] at h9) (fun a a2 h1 h2 => by
      have := (HO2.out.block a h1).2
      have := (ho3.block a2 h2).1
      omega) (fun a a3 h1 h2 => by
      have := (HO2.out.block a h1).1
      have := (HH.out.ft t htm a3 h2).2
      have := HE1.out.size
      omega) hE3.drew (Nat.le_refl _) hE3.size (by have := hAtx.2.2; have := Hxn.out; omega))
    obtain ⟨tA, htA⟩ : ∃ tA, tA = t.A := ⟨_, rfl⟩
    obtain ⟨tc, htc⟩ : ∃ tc, tc = t.c := ⟨_, rfl⟩
    rw [← htA, ← htc] at HF CA
    clear htA htc hAtx htm htl htx hct ho3 hs3 CS2 e40 e41 e80 e51 c7r f7r HK6 HK7
    go_wp2_with fail
    refine wp_region_noPanic ?_
    refine wp_region_held_drew (S := fun W9 => FrX (fun q => q = B4 + 1 + 1 ∨ q = B4 + 1 + 1 + 1) W1 W9) (by kernel_rfl) ?_ (fun hHeld => ?_)
    · exact (hE3.drew).frX _
    refine wpAnyH_take (i := 0) (v := ?_) rfl (by kernel_rfl) (by kernel_rfl) (by kernel_rfl) (fun _ _ _ h => h) (Or.inl ⟨by rfl, ?_⟩) hHeld ?_
    rotate_left
    · (intro w hSw; (try dsimp only at hSw); obtain ⟨d40, d41, d80, dv⟩ := HF.out w hSw; clear hSw; go_simp; (try with_reducible rfl))
    (try (simp only [Act.put, List.getElem_toArray, List.getElem_cons_zero, List.setIfInBounds_toArray, List.set_cons_zero, List.set_cons_succ]))
    refine wpAnyH_take (i := 1) (v := ?_) rfl (by kernel_rfl) (by kernel_rfl) (by kernel_rfl) (fun _ _ _ h => h) (Or.inl ⟨by rfl, ?_⟩) hHeld ?_
    rotate_left
    · (intro w hSw; (try dsimp only at hSw); obtain ⟨d40, d41, d80, dv⟩ := HF.out w hSw; clear hSw; go_simp; (try with_reducible rfl))
    (try (simp only [Act.put, List.getElem_toArray, List.getElem_cons_zero, List.getElem_cons_succ, List.setIfInBounds_toArray, List.set_cons_zero, List.set_cons_succ]))
    refine wpAnyH_take (i := 2) (v := ?_) rfl (by kernel_rfl) (by kernel_rfl) (by kernel_rfl) (fun _ _ _ h => h) (Or.inl ⟨by rfl, ?_⟩) hHeld ?_
    rotate_left
    · (intro w hSw; (try dsimp only at hSw); obtain ⟨d40, d41, d80, dv⟩ := HF.out w hSw; clear hSw; go_simp; (try with_reducible rfl))
    (try (simp only [Act.put, List.getElem_toArray, List.getElem_cons_zero, List.getElem_cons_succ, List.setIfInBounds_toArray, List.set_cons_zero, List.set_cons_succ]))
    refine wpAnyH_take (i := 3) (v := ?_) rfl (by kernel_rfl) (by kernel_rfl) (by kernel_rfl) (fun _ _ _ h => h) (Or.inl ⟨by rfl, ?_⟩) hHeld ?_
    rotate_left
    · (intro w hSw; (try dsimp only at hSw); obtain ⟨d40, d41, d80, dv⟩ := HF.out w hSw; clear hSw; go_simp; (try with_reducible rfl))
    (try (simp only [Act.put, List.getElem_toArray, List.getElem_cons_zero, List.getElem_cons_succ, List.setIfInBounds_toArray, List.set_cons_zero, List.set_cons_succ]))
    refine wpAnyH_take (i := 4) (v := ?_) rfl (by kernel_rfl) (by kernel_rfl) (by kernel_rfl) (fun _ _ _ h => h) (Or.inl ⟨by rfl, ?_⟩) hHeld ?_
    rotate_left
    · (intro w hSw; (try dsimp only at hSw); obtain ⟨d40, d41, d80, dv⟩ := HF.out w hSw; clear hSw; go_simp; (try with_reducible rfl))
    (try (simp only [Act.put, List.getElem_toArray, List.getElem_cons_zero, List.getElem_cons_succ, List.setIfInBounds_toArray, List.set_cons_zero, List.set_cons_succ]))
    refine wpAnyH_take (i := 5) (v := ?_) rfl (by kernel_rfl) (by kernel_rfl) (by kernel_rfl) (fun _ _ _ h => h) (Or.inl ⟨by rfl, ?_⟩) hHeld ?_
    rotate_left
    · (intro w hSw; (try dsimp only at hSw); obtain ⟨d40, d41, d80, dv⟩ := HF.out w hSw; clear hSw; go_simp; (try with_reducible rfl))
    (try (simp only [Act.put, List.getElem_toArray, List.getElem_cons_zero, List.getElem_cons_succ, List.setIfInBounds_toArray, List.set_cons_zero, List.set_cons_succ]))
    refine wpAnyH_take (i := 6) (v := ?_) rfl (by kernel_rfl) (by kernel_rfl) (by kernel_rfl) (fun _ _ _ h => h) (Or.inl ⟨by rfl, ?_⟩) hHeld ?_
    rotate_left
    · (intro w hSw; (try dsimp only at hSw); obtain ⟨d40, d41, d80, dv⟩ := HF.out w hSw; clear hSw; go_simp; (try with_reducible rfl))
    (try (simp only [Act.put, List.getElem_toArray, List.getElem_cons_zero, List.getElem_cons_succ, List.setIfInBounds_toArray, List.set_cons_zero, List.set_cons_succ]))
    refine wpAnyH_take (i := 7) (v := ?_) rfl (by kernel_rfl) (by kernel_rfl) (by kernel_rfl) (fun _ _ _ h => h) (Or.inl ⟨by rfl, ?_⟩) hHeld ?_
    rotate_left
    · (intro w hSw; (try dsimp only at hSw); obtain ⟨d40, d41, d80, dv⟩ := HF.out w hSw; clear hSw; go_simp; (try with_reducible rfl))
    (try (simp only [Act.put, List.getElem_toArray, List.getElem_cons_zero, List.getElem_cons_succ, List.setIfInBounds_toArray, List.set_cons_zero, List.set_cons_succ]))
    refine wpAnyH_take (i := 8) (v := ?_) rfl (by kernel_rfl) (by kernel_rfl) (by kernel_rfl) (fun _ _ _ h => h) (Or.inl ⟨by rfl, ?_⟩) hHeld ?_
    rotate_left
    · (intro w hSw; (try dsimp only at hSw); obtain ⟨d40, d41, d80, dv⟩ := HF.out w hSw; clear hSw; go_simp; (try with_reducible rfl))
    (try (simp only [Act.put, List.getElem_toArray, List.getElem_cons_zero, List.getElem_cons_succ, List.setIfInBounds_toArray, List.set_cons_zero, List.set_cons_succ]))
    refine wpAnyH_take (i := 9) (v := ?_) rfl (by kernel_rfl) (by kernel_rfl) (by kernel_rfl) (fun _ _ _ h => h) (Or.inl ⟨by rfl, ?_⟩) hHeld ?_
    rotate_left
    · (intro w hSw; (try dsimp only at hSw); obtain ⟨d40, d41, d80, dv⟩ := HF.out w hSw; clear hSw; go_simp; (try with_reducible rfl))
    (try (simp only [Act.put, List.getElem_toArray, List.getElem_cons_zero, List.getElem_cons_succ, List.setIfInBounds_toArray, List.set_cons_zero, List.set_cons_succ]))
    refine wpAnyH_take (i := 10) (v := ?_) rfl (by kernel_rfl) (by kernel_rfl) (by kernel_rfl) (fun _ _ _ h => h) (Or.inl ⟨by rfl, ?_⟩) hHeld ?_
    rotate_left
    · (intro w hSw; (try dsimp only at hSw); obtain ⟨d40, d41, d80, dv⟩ := HF.out w hSw; clear hSw; go_simp; (try with_reducible rfl))
    (try (simp only [Act.put, List.getElem_toArray, List.getElem_cons_zero, List.getElem_cons_succ, List.setIfInBounds_toArray, List.set_cons_zero, List.set_cons_succ]))
    refine wpAnyH_take (i := 11) (v := ?_) rfl (by kernel_rfl) (by kernel_rfl) (by kernel_rfl) (fun _ _ _ h => h) (Or.inl ⟨by rfl, ?_⟩) hHeld ?_
    rotate_left
    · (intro w hSw; (try dsimp only at hSw); obtain ⟨d40, d41, d80, dv⟩ := HF.out w hSw; clear hSw; go_simp; (try with_reducible rfl))
    (try (simp only [Act.put, List.getElem_toArray, List.getElem_cons_zero, List.getElem_cons_succ, List.setIfInBounds_toArray, List.set_cons_zero, List.set_cons_succ]))
    refine wpAnyH_take (i := 12) (v := ?_) rfl (by kernel_rfl) (by kernel_rfl) (by kernel_rfl) (fun _ _ _ h => h) (Or.inl ⟨by rfl, ?_⟩) hHeld ?_
    rotate_left
    · (intro w hSw; (try dsimp only at hSw); obtain ⟨d40, d41, d80, dv⟩ := HF.out w hSw; clear hSw; go_simp; (try with_reducible rfl))
    (try (simp only [Act.put, List.getElem_toArray, List.getElem_cons_zero, List.getElem_cons_succ, List.setIfInBounds_toArray, List.set_cons_zero, List.set_cons_succ]))
    refine wpAnyH_take (i := 13) (v := ?_) rfl (by kernel_rfl) (by kernel_rfl) (by kernel_rfl) (fun _ _ _ h => h) (Or.inl ⟨by rfl, ?_⟩) hHeld ?_
    rotate_left
    · (intro w hSw; (try dsimp only at hSw); obtain ⟨d40, d41, d80, dv⟩ := HF.out w hSw; clear hSw; go_simp; (try with_reducible rfl))
    (try (simp only [Act.put, List.getElem_toArray, List.getElem_cons_zero, List.getElem_cons_succ, List.setIfInBounds_toArray, List.set_cons_zero, List.set_cons_succ]))
    refine wpAnyH_take (i := 14) (v := ?_) rfl (by kernel_rfl) (by kernel_rfl) (by kernel_rfl) (fun _ _ _ h => h) (Or.inl ⟨by rfl, ?_⟩) hHeld ?_
    rotate_left
    · (intro w hSw; (try dsimp only at hSw); obtain ⟨d40, d41, d80, dv⟩ := HF.out w hSw; clear hSw; go_simp; (try with_reducible rfl))
    (try (simp only [Act.put, List.getElem_toArray, List.getElem_cons_zero, List.getElem_cons_succ, List.setIfInBounds_toArray, List.set_cons_zero, List.set_cons_succ]))
    refine wpAnyH_take (i := 15) (v := ?_) rfl (by kernel_rfl) (by kernel_rfl) (by kernel_rfl) (fun _ _ _ h => h) (Or.inl ⟨by rfl, ?_⟩) hHeld ?_
    rotate_left
    · (intro w hSw; (try dsimp only at hSw); obtain ⟨d40, d41, d80, dv⟩ := HF.out w hSw; clear hSw; go_simp; (try with_reducible rfl))
    (try (simp only [Act.put, List.getElem_toArray, List.getElem_cons_zero, List.getElem_cons_succ, List.setIfInBounds_toArray, List.set_cons_zero, List.set_cons_succ]))
    refine wpAnyH_take (i := 16) (v := ?_) rfl (by kernel_rfl) (by kernel_rfl) (by kernel_rfl) (fun _ _ _ h => h) (Or.inl ⟨by rfl, ?_⟩) hHeld ?_
    rotate_left
    · (intro w hSw; (try dsimp only at hSw); obtain ⟨d40, d41, d80, dv⟩ := HF.out w hSw; clear hSw; go_simp; (try with_reducible rfl))
    (try (simp only [Act.put, List.getElem_toArray, List.getElem_cons_zero, List.getElem_cons_succ, List.setIfInBounds_toArray, List.set_cons_zero, List.set_cons_succ]))
    refine wpAnyH_take (i := 17) (v := ?_) rfl (by kernel_rfl) (by kernel_rfl) (by kernel_rfl) (fun _ _ _ h => h) (Or.inl ⟨by rfl, ?_⟩) hHeld ?_
    rotate_left
    · (intro w hSw; (try dsimp only at hSw); obtain ⟨d40, d41, d80, dv⟩ := HF.out w hSw; clear hSw; go_simp; (try with_reducible rfl))
    (try (simp only [Act.put, List.getElem_toArray, List.getElem_cons_zero, List.getElem_cons_succ, List.setIfInBounds_toArray, List.set_cons_zero, List.set_cons_succ]))
    refine wpAnyH_take (i := 18) (v := ?_) rfl (by kernel_rfl) (by kernel_rfl) (by kernel_rfl) (fun _ _ _ h => h) (Or.inl ⟨by rfl, ?_⟩) hHeld ?_
    rotate_left
    · (intro w hSw; (try dsimp only at hSw); obtain ⟨d40, d41, d80, dv⟩ := HF.out w hSw; clear hSw; go_simp; (try with_reducible rfl))
    (try (simp only [Act.put, List.getElem_toArray, List.getElem_cons_zero, List.getElem_cons_succ, List.setIfInBounds_toArray, List.set_cons_zero, List.set_cons_succ]))
    refine wpAnyH_ready (rs := [19]) (by kernel_rfl) (by simp) ?_
    refine AllReadyH.cons rfl (fun K9 hK9 => ?_) AllReadyH.nil
    go_simp
    refine CA.out.mono ?_
    rintro e W5 ⟨rfl, hE5⟩
    have hSn := hE5.frX (fun q => q = B4 + 1 + 1 ∨ q = B4 + 1 + 1 + 1)
    have HK6 := Lib.hid (HQ.out W5 hE5).2.2.1
    have HK7 := Lib.hid (HQ.out W5 hE5).2.2.2.1
    have c7r : ∀ cs, (W5.setRow (B4 + 1 + 1) cs).cell? ⟨B4 + 1 + 1 + 1, 0, none⟩ = some (.bool false) := fun cs => (row_far (W := W5) (by omega) HK7.out cs).1
    have f7r : ∀ cs, (W5.setRow (B4 + 1 + 1) cs).frozen? ⟨B4 + 1 + 1 + 1, 0, none⟩ = false := fun cs => (row_far (W := W5) (by omega) HK7.out cs).2
    refine hK9.out _ _ ?_ (fun hHeld => ?_)
    · exact hSn
    clear hK9 K9
    (try (simp only [Act.put, List.getElem_toArray, List.getElem_cons_zero, List.getElem_cons_succ, List.setIfInBounds_toArray, List.set_cons_zero, List.set_cons_succ]))
    refine wpAnyH_take (i := 20) (v := ?_) rfl (by kernel_rfl) (by kernel_rfl) (by kernel_rfl) (fun _ _ _ h => h) (Or.inl ⟨by rfl, ?_⟩) hHeld ?_
    rotate_left
    · (intro w hSw; (try dsimp only at hSw); obtain ⟨d40, d41, d80, dv⟩ := HF.out w hSw; clear hSw; go_simp; (try with_reducible rfl))
    (try (simp only [Act.put, List.getElem_toArray, List.getElem_cons_zero, List.getElem_cons_succ, List.setIfInBounds_toArray, List.set_cons_zero, List.set_cons_succ]))
    refine wpAnyH_ready (rs := [21]) (by kernel_rfl) (by simp) ?_
    refine AllReadyH.cons rfl (fun K9 hK9 => ?_) AllReadyH.nil
    rw [if_pos (by rfl)]
    refine wp_store_row 51 _ _ rfl (B4 + 1 + 1) #[.slice (some ⟨b2, o2, none⟩) n ck, .slice (some ⟨b, o, none⟩) n cv] rfl rfl 51 #[.slice none 0 0, .slice none 0 0] (HK6.out) (by kernel_rfl) rfl (by simp [Value.oneCell']) ?_
    refine hK9.out _ _ ?_ (fun hHeld => ?_)
    · exact hHeld.trans (grownBy_frX (grown_setRow _ _ _) (.inl (.inl rfl)))
    clear hK9 K9
    (try (simp only [Act.put, List.getElem_toArray, List.getElem_cons_zero, List.getElem_cons_succ]))
    refine wpAnyH_ready (rs := [22]) (by kernel_rfl) (by simp) ?_
    refine AllReadyH.cons rfl (fun K9 hK9 => ?_) AllReadyH.nil
    go_simp
    refine hK9.out _ _ ?_ (fun hHeld => ?_)
    · (try dsimp only); exact hHeld.trans (grownBy_frX (grown_setCellS _ _ _ _) (.inl (.inr rfl)))
    clear hK9 K9
    (try (simp only [Act.put, List.getElem_toArray, List.getElem_cons_zero, List.getElem_cons_succ, List.setIfInBounds_toArray, List.set_cons_zero, List.set_cons_succ]))
    refine wpAnyH_done (by kernel_rfl) ?_ _
    refine NoPanic.normal ?_
    go_wp2_with fail
    exact asks_ret (W := W5) (ds := []) rfl rfl HK6.out HK7.out (by omega) (HE1.out.trans hE5) (by have := HB4.out; omega) (by have := HB4.out; omega) List.nodup_nil (fun D hD => by cases hD) (fun W' _ e2 => ⟨_, n, ck, _, cv, ss, V, X, base, rfl, by omega, HH.out.to e2, e2.size, fun q hq hf => ⟨hf, e2.block q hq⟩⟩)

end Go.Proofs.Ytkmnhapeohlooaa

/-
  Layer 18: a call of the script: Range.
-/
namespace Go.Proofs.Ytkmnhapeohlooaa
open Go.RowKit
set_option maxRecDepth 100000

set_option maxHeartbeats 8000000 in
theorem asks_range {w0 w : World} {sb : Nat} {hs : List Int} {Ak : Option Addr} {n : Nat} {Av : Option Addr} {ss : List Sl} {V : List Int} {X : Nat → Prop} {base : Nat} (h : AS w0 w sb hs Ak n Av ss V X base) (hn : n ≤ 1048576) (ck cv : Nat) (kA : Option Addr) (kn kc : Nat) (key : List Nat) (tk : Rd .u8 w kA kn key) (uk : U8 key) (lk : kn ≤ 1048576) (hA : Option Addr) (hn2 hc : Nat) (hi : List Nat) (th : Rd .u8 w hA hn2 hi) (uh : U8 hi) (lh : hn2 ≤ 1048576) (v : Int) :
    Calls Try.prog 33 #[.pointer (some ⟨sb, 0, none⟩), .agg #[.slice Ak n ck, .slice Av n cv], .agg #[.int .i64 4, .slice kA kn kc, .slice hA hn2 hc, .int .i64 v]] w (AskPost w0 w sb hs n X Ak Av ss) := by
  have hEa : Ext w ((((w.alloc (.cells #[.slice Ak n ck, .slice Av n cv] 51)).alloc (.cells #[.int .i64 4, .slice kA kn kc, .slice hA hn2 hc, .int .i64 v] 54)).alloc (.cells #[.slice none 0 0, .slice none 0 0] 51)).alloc (.cells #[.bool false] 4)) := ((((Ext.refl w).alloc _).alloc _).alloc _).alloc _
  have CP := Lib.hid (rplace_any Ak n ck Av n cv ss kA kn kc key _ (h.rk.ext hEa) (fun s hs => ⟨((h.tx s hs).1).ext hEa, by have := (h.tx s hs).2.2; omega⟩) (by omega) (tk.ext hEa) (by omega))
  have HH := Lib.hid h
  have HEa := Lib.hid hEa
  have Tk := Lib.hid tk
  have Uk := Lib.hid uk
  have Th := Lib.hid th
  have Uh := Lib.hid uh
  have HnL := Lib.hid h.len
  have HLb : Hid ((bodies ss).length < 1099511627776) := Lib.hid (by rw [h.len]; omega)
  obtain ⟨s, hs0⟩ : ∃ s, s = skN key (bodies ss) := ⟨_, rfl⟩
  obtain ⟨D, hD⟩ : ∃ D, D = decide ((bodies ss)[skN key (bodies ss)]? = some key) := ⟨_, rfl⟩
  have hsn : s ≤ n := by have := skN_le key (bodies ss); rw [h.len] at this; omega
  rw [← hD, ← hs0] at CP
  have Hs0 := Lib.hid hs0
  have HD := Lib.hid hD
  clear h hEa tk uk th uh hs0 hD
  refine (callsIn_wide (n := 6)).1 ?_
  refine callsIn_of_wp_marks Try.func33 rfl trivial ?_ rfl
  simp only [Try.ntmps33, List.size_toArray, List.length_cons, List.length_nil, Nat.reduceAdd, Nat.reduceSub, Array.replicate_succ, Array.replicate_zero, List.push_toArray, List.append_toArray, List.nil_append, List.cons_append]
  refine wpIn_wide.2 ?_
  go_wp2_with fail
  refine CP.out.mono ?_
  rintro e w1 ⟨rfl, he1⟩
  have HQ0 : Hid (((((w.alloc (.cells #[.slice Ak n ck, .slice Av n cv] 51)).alloc (.cells #[.int .i64 4, .slice kA kn kc, .slice hA hn2 hc, .int .i64 v] 54)).alloc (.cells #[.slice none 0 0, .slice none 0 0] 51)).alloc (.cells #[.bool false] 4)).heap.size = w.heap.size + 4) := Lib.hid (by simp [World.size_alloc])
  obtain ⟨W1, hW1⟩ : ∃ W1, W1 = w1.alloc (.cells #[.int .i64 (s : Int)] 3) := ⟨_, rfl⟩
  have hq4 := (he1.block w.heap.size (by rw [HQ0.out]; omega)).trans ((Below.heap_alloc _ _ _ (by simp <;> omega)).trans ((Below.heap_alloc _ _ _ (by simp <;> omega)).trans ((Below.heap_alloc _ _ _ (by simp)).trans (heap_alloc_new w (.cells #[.slice Ak n ck, .slice Av n cv] 51)))))
  have hq5 := (he1.block (w.heap.size + 1) (by rw [HQ0.out]; omega)).trans ((Below.heap_alloc _ _ _ (by simp <;> omega)).trans ((Below.heap_alloc _ _ _ (by simp <;> omega)).trans (show _ = some (Obj.cells #[.int .i64 4, .slice kA kn kc, .slice hA hn2 hc, .int .i64 v] 54 (0, 0)) from by
    have := heap_alloc_new (w.alloc (.cells #[.slice Ak n ck, .slice Av n cv] 51)) (.cells #[.int .i64 4, .slice kA kn kc, .slice hA hn2 hc, .int .i64 v] 54)
    rwa [World.size_alloc] at this)))
  have hq6 := (he1.block (w.heap.size + 1 + 1) (by rw [HQ0.out]; omega)).trans ((Below.heap_alloc _ _ _ (by simp <;> omega)).trans (show _ = some (Obj.cells #[.slice none 0 0, .slice none 0 0] 51 (0, 0)) from by
    have := heap_alloc_new ((w.alloc (.cells #[.slice Ak n ck, .slice Av n cv] 51)).alloc (.cells #[.int .i64 4, .slice kA kn kc, .slice hA hn2 hc, .int .i64 v] 54)) (.cells #[.slice none 0 0, .slice none 0 0] 51)
    rwa [World.size_alloc, World.size_alloc] at this))
  have hq7 := (he1.block (w.heap.size + 1 + 1 + 1) (by rw [HQ0.out]; omega)).trans (show _ = some (Obj.cells #[.bool false] 4 (0, 0)) from by
    have := heap_alloc_new (((w.alloc (.cells #[.slice Ak n ck, .slice Av n cv] 51)).alloc (.cells #[.int .i64 4, .slice kA kn kc, .slice hA hn2 hc, .int .i64 v] 54)).alloc (.cells #[.slice none 0 0, .slice none 0 0] 51)) (.cells #[.bool false] 4)
    rwa [World.size_alloc, World.size_alloc, World.size_alloc] at this)
  have hz1 := he1.size
  rw [HQ0.out] at hz1
  obtain ⟨B4, hB4⟩ : ∃ B4, B4 = w.heap.size := ⟨_, rfl⟩
  obtain ⟨B8, hB8⟩ : ∃ B8, B8 = w1.heap.size := ⟨_, rfl⟩
  have he8 : Ext w1 W1 := by rw [hW1]; exact (Ext.refl w1).alloc _
  have hq8 : W1.heap[B8]? = some (.cells #[.int .i64 (s : Int)] 3 (0, 0)) := by rw [hW1, hB8]; exact heap_alloc_new w1 _
  rw [← hB4] at hq4 hq5 hq6 hq7
  have HB4 := Lib.hid hB4
  have HB8 := Lib.hid hB8
  have HE1 := Lib.hid ((HEa.out.trans he1).trans he8)
  have HQ : Hid (∀ W, Ext W1 W → W.heap[B4]? = some (.cells #[.slice Ak n ck, .slice Av n cv] 51 (0, 0)) ∧ W.heap[B4 + 1]? = some (.cells #[.int .i64 4, .slice kA kn kc, .slice hA hn2 hc, .int .i64 v] 54 (0, 0)) ∧ W.heap[B4 + 1 + 1]? = some (.cells #[.slice none 0 0, .slice none 0 0] 51 (0, 0)) ∧ W.heap[B4 + 1 + 1 + 1]? = some (.cells #[.bool false] 4 (0, 0)) ∧ W.heap[B8]? = some (.cells #[.int .i64 (s : Int)] 3 (0, 0))) := Lib.hid fun W hW => by
    have hx := he8.trans hW
    exact ⟨(hx.block _ (by rw [hB4]; omega)).trans hq4, (hx.block _ (by rw [hB4]; omega)).trans hq5, (hx.block _ (by rw [hB4]; omega)).trans hq6, (hx.block _ (by rw [hB4]; omega)).trans hq7, (hW.block _ (Array.getElem?_eq_some_iff.1 hq8).1).trans hq8⟩
  have HZ := Lib.hid (show w.heap.size + 4 ≤ B8 ∧ B8 < W1.heap.size from ⟨by rw [hB8]; exact hz1, (Array.getElem?_eq_some_iff.1 hq8).1⟩)
  have HL1 := Lib.hid (HH.out.to HE1.out)
  have Q4 := Lib.hid (HQ.out W1 (Ext.refl _)).1
  have Q6 := Lib.hid (HQ.out W1 (Ext.refl _)).2.2.1
  obtain ⟨q4, q5, q6, q7, q8⟩ := HQ.out W1 (Ext.refl _)
  have c40 := cell_of_row W1 B4 0 _ _ (0, 0) q4
  have c41 : W1.cell? ⟨B4, 1, none⟩ = some (.slice Av n cv) := cell_of_row W1 B4 1 _ _ (0, 0) q4
  have c50 : W1.cell? ⟨B4 + 1, 0, none⟩ = some (.int .i64 4) := cell_of_row W1 (B4 + 1) 0 _ _ (0, 0) q5
  have c51 : W1.cell? ⟨B4 + 1, 1, none⟩ = some (.slice kA kn kc) := cell_of_row W1 (B4 + 1) 1 _ _ (0, 0) q5
  have c52 : W1.cell? ⟨B4 + 1, 2, none⟩ = some (.slice hA hn2 hc) := cell_of_row W1 (B4 + 1) 2 _ _ (0, 0) q5
  have c53 : W1.cell? ⟨B4 + 1, 3, none⟩ = some (.int .i64 v) := cell_of_row W1 (B4 + 1) 3 _ _ (0, 0) q5
  have c7 : W1.cell? ⟨B4 + 1 + 1 + 1, 0, none⟩ = some (.bool false) := cell_of_row W1 (B4 + 1 + 1 + 1) 0 _ _ (0, 0) q7
  have f7 : W1.frozen? ⟨B4 + 1 + 1 + 1, 0, none⟩ = false := by simp [World.frozen?, q7]
  have c80 : W1.cell? ⟨B8, 0, none⟩ = some (.int .i64 (s : Int)) := cell_of_row W1 B8 0 _ _ (0, 0) q8
  have c7r : ∀ cs, (W1.setRow (B4 + 1 + 1) cs).cell? ⟨B4 + 1 + 1 + 1, 0, none⟩ = some (.bool false) := fun cs => (row_far (by omega) q7 cs).1
  have f7r : ∀ cs, (W1.setRow (B4 + 1 + 1) cs).frozen? ⟨B4 + 1 + 1 + 1, 0, none⟩ = false := fun cs => (row_far (by omega) q7 cs).2
  clear he8 hq4 hq5 hq6 hq7 hq8 hz1 CP HQ0 HEa q4 q5 q6 q7 q8

  simp only [hB8, hB4, hW1] at c40 c41 c50 c51 c52 c53 c7 f7 c80 c7r f7r

  have CS := srange_any HL1.out.ls HLb.out kA kn kc key (Tk.out.ext HE1.out) Uk.out (by omega) hA hn2 hc hi (Th.out.ext HE1.out) Uh.out
  have hasc : V.length = (bodies ss).length ∧ Asc (bodies ss) := HL1.out.ls.vlen
  obtain ⟨r1, r2⟩ := ref_rng hasc.2 hasc.1 key hi
  obtain ⟨rK, hrK⟩ : ∃ rK, rK = rngK (bodies ss) key hi := ⟨_, rfl⟩
  obtain ⟨rV, hrV⟩ : ∃ rV, rV = rngV (bodies ss) V key hi := ⟨_, rfl⟩
  unfold RngPost at CS
  rw [HnL.out, ← hrK] at r1
  rw [HnL.out, ← hrV] at r2
  rw [← hrK, ← hrV] at CS
  have hrm : ∀ x ∈ rK, x ∈ bodies ss := fun x hx => by
    rw [hrK] at hx
    exact List.mem_of_mem_drop ((List.takeWhile_sublist _).subset hx)
  have hrl : rK.length ≤ n := by
    have := (List.takeWhile_sublist (fun k => !stopB hi k) (l := (bodies ss).drop (skN key (bodies ss)))).length_le
    rw [List.length_drop, HnL.out] at this
    rw [hrK]
    unfold rngK
    omega
  have Hr := Lib.hid (And.intro r1 (And.intro r2 (And.intro hrm hrl)))
  have CS := Lib.hid CS
  clear r1 r2 hrK hrV hrm hrl hasc
  simp only [hW1] at CS
  go_wp2_with fail
  simp only [← hW1] at CS
  rw [← hW1, ← hB8, ← hB4]
  clear he1 hW1 hB8 hB4
  refine CS.out.mono ?_
  rintro e w2 ⟨A2, c2, t2, Av2, cv2, rfl, hb2, hk2, ht2, hv2, he2⟩
  have HF : Hid (∀ W9, FrX (fun q => q = B4 + 1 + 1 ∨ q = B4 + 1 + 1 + 1) W1 W9 → W9.cell? ⟨B4, 0, none⟩ = some (.slice Ak n ck) ∧ W9.cell? ⟨B4, 1, none⟩ = some (.slice Av n cv) ∧ W9.cell? ⟨B8, 0, none⟩ = some (.int .i64 (s : Int)) ∧ ((s < n → ∀ a, Av = some a → W9.cell? ⟨a.block, a.off + s, none⟩ = some (.int .i64 (V.getD s 0))) ∧ RdL W9 Ak n ss ∧ (∀ s ∈ ss, Rd .u8 W9 s.A s.body.length s.body))) := Lib.hid fun W9 f => by
    obtain ⟨q4, q5, q6, q7, q8⟩ := HQ.out W1 (Ext.refl _)
    have hb := HB4.out
    have hz := HZ.out
    have e4 := (f.block B4 (Array.getElem?_eq_some_iff.1 q4).1 (by omega)).trans q4
    have e8 := (f.block B8 (Array.getElem?_eq_some_iff.1 q8).1 (by omega)).trans q8
    have hrv := HL1.out.rv.fr f (fun a ha => by have := (HH.out.fv a ha).2; omega)
    refine ⟨cell_of_row W9 B4 0 _ _ (0, 0) e4, cell_of_row W9 B4 1 _ _ (0, 0) e4, cell_of_row W9 B8 0 _ _ (0, 0) e8, fun hs a ha => ?_, HL1.out.rk.fr f (fun a ha => by have := (HH.out.fk a ha).2; omega), fun s hs => ?_⟩
    · obtain ⟨b, o, e, _, hc⟩ := hrv.atZ hs
      rw [ha] at e
      injection e with e
      subst e
      exact hc
    · exact (HL1.out.tx s hs).1.fr f (fun a ha => by have := (HH.out.ft s hs a ha).2; omega)
  clear c7r f7r
  obtain ⟨e40, e41, e80, _, erk, ert⟩ := HF.out w2 (he2.frX _)
  have hq54 := (HQ.out w2 he2).2.1
  have e51 : w2.cell? ⟨B4 + 1, 1, none⟩ = some (.slice kA kn kc) := cell_of_row w2 (B4 + 1) 1 _ _ (0, 0) hq54
  have e52 : w2.cell? ⟨B4 + 1, 2, none⟩ = some (.slice hA hn2 hc) := cell_of_row w2 (B4 + 1) 2 _ _ (0, 0) hq54
  have CR := rrange_any Ak n ck Av cv ss V kA kn kc key hA hn2 hc hi w2 erk (HL1.out.rv.ext he2) (fun s hs => ⟨ert s hs, by have := (HH.out.tx s hs).2.2; omega⟩) hn ((Tk.out.ext HE1.out).ext he2) (by omega) ((Th.out.ext HE1.out).ext he2) (by omega)
  rw [Hr.out.1, Hr.out.2.1] at CR
  have CR := Lib.hid CR
  obtain ⟨n2, hn2e⟩ : ∃ n2, n2 = t2.length := ⟨_, rfl⟩
  obtain ⟨m2, hm2e⟩ : ∃ m2, m2 = rV.length := ⟨_, rfl⟩
  rw [← hn2e, ← hm2e]
  have Hn2 := Lib.hid hn2e
  have Hm2 := Lib.hid hm2e
  have H2 := Lib.hid (show bodies t2 = rK ∧ OwnT w2 W1.heap.size A2 c2 t2 ∧ Txts w2 W1.heap.size t2 ∧ OwnG shZ 3 w2 W1.heap.size Av2 cv2 rV from ⟨hb2, hk2, ht2, hv2⟩)
  clear hq54 hn2e hm2e hb2 hk2 ht2 hv2 erk ert CS
  clear c40 c41 c50 c51 c52 c53 c7 f7 c80 Q4 Q6
  go_wp2_with fail
  refine CR.out.mono ?_
  rintro e w3 ⟨A3, c3, t3, Av3, cv3, rfl, hb3, hk3, ht3, hv3, hl3, he3⟩
  have hn3 : t3.length = n2 := by
    have h1 := congrArg List.length hb3
    have h2 := congrArg List.length H2.out.1
    rw [bodies_len] at h1 h2
    rw [h1, ← h2, ← Hn2.out]
  have hm3 : m2 = n2 := by rw [Hm2.out, hl3, hn3]
  subst hm3
  rw [hn3]
  have hE3 := he2.trans he3
  have hbb : bodies t2 = bodies t3 := H2.out.1.trans hb3.symm
  have hn2n : m2 ≤ n := by
    have h2 := congrArg List.length H2.out.1
    rw [bodies_len] at h2
    rw [Hn2.out, h2]; exact Hr.out.2.2.2
  have CI := Lib.hid (sameInts_yes Av2 Av3 m2 cv2 cv3 rV w3.drew (((H2.out.2.2.2.rd' Hm2.out.symm).ext he3).ext (Ext.refl w3).drew) ((hv3.rd' Hm2.out.symm).ext (Ext.refl w3).drew) (by omega))
  have HA2 : Hid (∀ W4, Ext w3 W4 → Calls Try.prog 73 #[.slice A2 m2 c2, .slice A3 m2 c3] W4 fun e w' => e = .returned (.bool true) ∧ Ext W1 w') := Lib.hid fun W4 hE4 => (apartAll2 H2.out.2.1 H2.out.2.2.1 he2 hk3 ht3 he3 hE4 hbb Hn2.out.symm (by omega) (fun s hs => by
    have h1 : s.body ∈ rK := by rw [← H2.out.1]; exact List.mem_map_of_mem hs
    obtain ⟨q, hq, e⟩ := List.mem_map.1 (Hr.out.2.2.1 _ h1)
    rw [← e]
    exact (HH.out.tx q hq).2)).mono fun e w' h => ⟨h.1, h.2.ext0 (hE3.trans hE4) (H2.out.2.2.1.above)⟩
  clear hn3 hbb hb3 hk3 ht3 hv3 hl3 CR e40 e41 e80 e51 e52
  go_wp2_with fail
  refine wp_region_noPanic ?_
  refine wp_region_held_drew (S := fun W9 => FrX (fun q => q = B4 + 1 + 1 ∨ q = B4 + 1 + 1 + 1) W1 W9) (by kernel_rfl) ?_ (fun hHeld => ?_)
  · exact (hE3.drew).frX _
  refine wpAnyH_take (i := 0) (v := ?_) rfl (by kernel_rfl) (by kernel_rfl) (by kernel_rfl) (fun _ _ _ h => h) (Or.inl ⟨by rfl, ?_⟩) hHeld ?_
  rotate_left
  · (intro w hSw; (try dsimp only at hSw); obtain ⟨d40, d41, d80, dv⟩ := HF.out w hSw; clear hSw; go_simp; (try with_reducible rfl))
  (try (simp only [Act.put, List.getElem_toArray, List.getElem_cons_zero, List.setIfInBounds_toArray, List.set_cons_zero, List.set_cons_succ]))
  refine wpAnyH_take (i := 1) (v := ?_) rfl (by kernel_rfl) (by kernel_rfl) (by kernel_rfl) (fun _ _ _ h => h) (Or.inl ⟨by rfl, ?_⟩) hHeld ?_
  rotate_left
  · (intro w hSw; (try dsimp only at hSw); obtain ⟨d40, d41, d80, dv⟩ := HF.out w hSw; clear hSw; go_simp; (try with_reducible rfl))
  (try (simp only [Act.put, List.getElem_toArray, List.getElem_cons_zero, List.getElem_cons_succ, List.setIfInBounds_toArray, List.set_cons_zero, List.set_cons_succ]))
  refine wpAnyH_take (i := 2) (v := ?_) rfl (by kernel_rfl) (by kernel_rfl) (by kernel_rfl) (fun _ _ _ h => h) (Or.inl ⟨by rfl, ?_⟩) hHeld ?_
  rotate_left
  · (intro w hSw; (try dsimp only at hSw); obtain ⟨d40, d41, d80, dv⟩ := HF.out w hSw; clear hSw; go_simp; (try with_reducible rfl))
  (try (simp only [Act.put, List.getElem_toArray, List.getElem_cons_zero, List.getElem_cons_succ, List.setIfInBounds_toArray, List.set_cons_zero, List.set_cons_succ]))
  refine wpAnyH_ready (rs := [3]) (by kernel_rfl) (by simp) ?_
  refine AllReadyH.cons rfl (fun K9 hK9 => ?_) AllReadyH.nil
  go_simp
  refine CI.out.mono ?_
  rintro e W4 ⟨rfl, q4, hW4⟩
  have hE4 : Ext w3 W4 := by rw [hW4]; exact ((Ext.refl w3).drew).drewN q4
  clear hW4
  have hSn := (hE3.trans hE4).frX (fun q => q = B4 + 1 + 1 ∨ q = B4 + 1 + 1 + 1)
  have CA := Lib.hid (HA2.out W4 hE4)
  refine hK9.out _ _ ?_ (fun hHeld => ?_)
  · exact hSn
  clear hK9 K9
  (try (simp only [Act.put, List.getElem_toArray, List.getElem_cons_zero, List.getElem_cons_succ, List.setIfInBounds_toArray, List.set_cons_zero, List.set_cons_succ]))
  refine wpAnyH_take (i := 4) (v := ?_) rfl (by kernel_rfl) (by kernel_rfl) (by kernel_rfl) (fun _ _ _ h => h) (Or.inl ⟨by rfl, ?_⟩) hHeld ?_
  rotate_left
  · (intro w hSw; (try dsimp only at hSw); obtain ⟨d40, d41, d80, dv⟩ := HF.out w hSw; clear hSw; go_simp; (try with_reducible rfl))
  (try (simp only [Act.put, List.getElem_toArray, List.getElem_cons_zero, List.getElem_cons_succ, List.setIfInBounds_toArray, List.set_cons_zero, List.set_cons_succ]))
  refine wpAnyH_take (i := 5) (v := ?_) rfl (by kernel_rfl) (by kernel_rfl) (by kernel_rfl) (fun _ _ _ h => h) (Or.inl ⟨by rfl, ?_⟩) hHeld ?_
  rotate_left
  · (intro w hSw; (try dsimp only at hSw); obtain ⟨d40, d41, d80, dv⟩ := HF.out w hSw; clear hSw; go_simp; (try with_reducible rfl))
  (try (simp only [Act.put, List.getElem_toArray, List.getElem_cons_zero, List.getElem_cons_succ, List.setIfInBounds_toArray, List.set_cons_zero, List.set_cons_succ]))
  refine wpAnyH_take (i := 6) (v := ?_) rfl (by kernel_rfl) (by kernel_rfl) (by kernel_rfl) (fun _ _ _ h => h) (Or.inl ⟨by rfl, ?_⟩) hHeld ?_
  rotate_left
  · (intro w hSw; (try dsimp only at hSw); obtain ⟨d40, d41, d80, dv⟩ := HF.out w hSw; clear hSw; go_simp; (try with_reducible rfl))
  (try (simp only [Act.put, List.getElem_toArray, List.getElem_cons_zero, List.getElem_cons_succ, List.setIfInBounds_toArray, List.set_cons_zero, List.set_cons_succ]))
  refine wpAnyH_ready (rs := [7]) (by kernel_rfl) (by simp) ?_
  refine AllReadyH.cons rfl (fun K9 hK9 => ?_) AllReadyH.nil
  go_simp
  refine CA.out.mono ?_
  rintro e W5 ⟨rfl, hE5⟩
  have hSn := hE5.frX (fun q => q = B4 + 1 + 1 ∨ q = B4 + 1 + 1 + 1)
  have HK6 := Lib.hid (HQ.out W5 hE5).2.2.1
  have HK7 := Lib.hid (HQ.out W5 hE5).2.2.2.1
  have c7r : ∀ cs, (W5.setRow (B4 + 1 + 1) cs).cell? ⟨B4 + 1 + 1 + 1, 0, none⟩ = some (.bool false) := fun cs => (row_far (W := W5) (by omega) HK7.out cs).1
  have f7r : ∀ cs, (W5.setRow (B4 + 1 + 1) cs).frozen? ⟨B4 + 1 + 1 + 1, 0, none⟩ = false := fun cs => (row_far (W := W5) (by omega) HK7.out cs).2
  refine hK9.out _ _ ?_ (fun hHeld => ?_)
  · exact hSn
  clear hK9 K9
  (try (simp only [Act.put, List.getElem_toArray, List.getElem_cons_zero, List.getElem_cons_succ, List.setIfInBounds_toArray, List.set_cons_zero, List.set_cons_succ]))
  refine wpAnyH_take (i := 8) (v := ?_) rfl (by kernel_rfl) (by kernel_rfl) (by kernel_rfl) (fun _ _ _ h => h) (Or.inl ⟨by rfl, ?_⟩) hHeld ?_
  rotate_left
  · (intro w hSw; (try dsimp only at hSw); obtain ⟨d40, d41, d80, dv⟩ := HF.out w hSw; clear hSw; go_simp; (try with_reducible rfl))
  (try (simp only [Act.put, List.getElem_toArray, List.getElem_cons_zero, List.getElem_cons_succ, List.setIfInBounds_toArray, List.set_cons_zero, List.set_cons_succ]))
  refine wpAnyH_ready (rs := [9]) (by kernel_rfl) (by simp) ?_
  refine AllReadyH.cons rfl (fun K9 hK9 => ?_) AllReadyH.nil
  rw [if_pos (by rfl)]
  refine wp_store_row 51 _ _ rfl (B4 + 1 + 1) #[.slice Ak n ck, .slice Av n cv] rfl rfl 51 #[.slice none 0 0, .slice none 0 0] (HK6.out) (by kernel_rfl) rfl (by simp [Value.oneCell']) ?_
  refine hK9.out _ _ ?_ (fun hHeld => ?_)
  · exact hHeld.trans (grownBy_frX (grown_setRow _ _ _) (.inl (.inl rfl)))
  clear hK9 K9
  (try (simp only [Act.put, List.getElem_toArray, List.getElem_cons_zero, List.getElem_cons_succ]))
  refine wpAnyH_ready (rs := [10]) (by kernel_rfl) (by simp) ?_
  refine AllReadyH.cons rfl (fun K9 hK9 => ?_) AllReadyH.nil
  go_simp
  refine hK9.out _ _ ?_ (fun hHeld => ?_)
  · (try dsimp only); exact hHeld.trans (grownBy_frX (grown_setCellS _ _ _ _) (.inl (.inr rfl)))
  clear hK9 K9
  (try (simp only [Act.put, List.getElem_toArray, List.getElem_cons_zero, List.getElem_cons_succ, List.setIfInBounds_toArray, List.set_cons_zero, List.set_cons_succ]))
  refine wpAnyH_done (by kernel_rfl) ?_ _
  refine NoPanic.normal ?_
  go_wp2_with fail
  exact asks_ret (W := W5) (ds := []) rfl rfl HK6.out HK7.out (by omega) (HE1.out.trans hE5) (by have := HB4.out; omega) (by have := HB4.out; omega) List.nodup_nil (fun D hD => by cases hD) (fun W' _ e2 => ⟨Ak, n, ck, Av, cv, ss, V, X, base, rfl, by omega, HH.out.to e2, e2.size, fun q hq hf => ⟨hf, e2.block q hq⟩⟩)

end Go.Proofs.Ytkmnhapeohlooaa
