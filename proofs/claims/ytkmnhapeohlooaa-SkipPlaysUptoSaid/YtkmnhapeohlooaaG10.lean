import Derived.Test.YtkmnhapeohlooaaG9

/-
  Layer 18: the reference: Put.
-/
namespace Go.Proofs.Ytkmnhapeohlooaa
open Go.RowKit
set_option maxRecDepth 100000

set_option maxHeartbeats 6400000 in
theorem rput_any (Ak : Option Addr) (n ck : Nat) (Av : Option Addr) (cv : Nat) (ss : List Sl) (V : List Int) (A : Option Addr) (m c : Nat) (t : List Nat) (v : Int) (w : World) (hk : RdL w Ak n ss) (hv : RdG shZ w Av n V) (hs : ∀ s ∈ ss, Rd .u8 w s.A s.body.length s.body ∧ s.body.length ≤ 140737488355328) (hn : n ≤ 1048576) (ht : Rd .u8 w A m t) (hm : m ≤ 140737488355328) :
    Calls Try.prog 70 #[.agg #[.slice Ak n ck, .slice Av n cv], .slice A m c, .int .i64 v] w (RPut w ss V t v (decide ((bodies ss)[skN t (bodies ss)]? = some t))) := by
  have hE0 : Ext w ((w.alloc (.cells #[.slice Ak n ck, .slice Av n cv] 51)).alloc (.cells #[.slice none 0 0, .slice none 0 0] 51)) := ((Ext.refl w).alloc _).alloc _
  have hb0 : ((w.alloc (.cells #[.slice Ak n ck, .slice Av n cv] 51)).alloc (.cells #[.slice none 0 0, .slice none 0 0] 51)).heap[w.heap.size]? = some (.cells #[.slice Ak n ck, .slice Av n cv] 51 (0, 0)) := (Below.heap_alloc _ _ _ (by simp)).trans (heap_alloc_new w _)
  have CP := Lib.hid (rplace_any Ak n ck Av n cv ss A m c t _ (hk.ext hE0) (fun s h => ⟨(hs s h).1.ext hE0, (hs s h).2⟩) (by omega) (ht.ext hE0) hm)
  have hb1 : ((w.alloc (.cells #[.slice Ak n ck, .slice Av n cv] 51)).alloc (.cells #[.slice none 0 0, .slice none 0 0] 51)).heap[w.heap.size + 1]? = some (.cells #[.slice none 0 0, .slice none 0 0] 51 (0, 0)) := by
    have := heap_alloc_new (w.alloc (.cells #[.slice Ak n ck, .slice Av n cv] 51)) (.cells #[.slice none 0 0, .slice none 0 0] 51)
    rwa [World.size_alloc] at this
  have HB0 := Lib.hid hb0
  have HB1 := Lib.hid hb1
  have HE0 := Lib.hid hE0
  have Hk := Lib.hid hk
  have Hv := Lib.hid hv
  have Hs := Lib.hid hs
  have Ht := Lib.hid ht
  have hSn : skN t (bodies ss) ≤ n := by have := skN_le t (bodies ss); rw [bodies_len, hk.1] at this; exact this
  obtain ⟨S, hS⟩ : ∃ S, S = skN t (bodies ss) := ⟨_, rfl⟩
  obtain ⟨D, hD⟩ : ∃ D, D = decide ((bodies ss)[skN t (bodies ss)]? = some t) := ⟨_, rfl⟩
  rw [← hD]
  rw [← hS] at hSn
  rw [← hD, ← hS] at CP
  have HS := Lib.hid hS
  have HD := Lib.hid hD
  clear hb0 hb1 hE0 hS hD hk hv hs ht
  go_enter Try.func70, Try.ntmps70
  go_wp2_with fail
  refine CP.out.mono ?_
  rintro e w2 ⟨rfl, he2⟩
  have hE2 : Ext w w2 := HE0.out.trans he2
  have hz2 : w.heap.size + 2 ≤ w2.heap.size := by have := he2.size; simp at this; omega
  obtain ⟨Bl, hBl⟩ : ∃ Bl, Bl = w.heap.size := ⟨_, rfl⟩
  obtain ⟨O, hO⟩ : ∃ O, O = w2.heap.size := ⟨_, rfl⟩
  obtain ⟨w1, hw1⟩ : ∃ w1, w1 = w2.alloc (.cells #[.slice none 0 0, .slice none 0 0] 51) := ⟨_, rfl⟩
  have hE1 : Ext w w1 := by rw [hw1]; exact hE2.alloc _
  have hz1 : w1.heap.size = O + 1 := by rw [hw1, hO]; simp
  have hB1 : w1.heap[Bl]? = some (.cells #[.slice Ak n ck, .slice Av n cv] 51 (0, 0)) := by
    rw [hw1, hBl]
    exact (Below.heap_alloc _ _ _ (by omega)).trans ((he2.block _ (Array.getElem?_eq_some_iff.1 HB0.out).1).trans HB0.out)
  have hB2 : w1.heap[Bl + 1]? = some (.cells #[.slice none 0 0, .slice none 0 0] 51 (0, 0)) := by
    rw [hw1, hBl]
    exact (Below.heap_alloc _ _ _ (by omega)).trans ((he2.block _ (Array.getElem?_eq_some_iff.1 HB1.out).1).trans HB1.out)
  have HB2 := Lib.hid hB2
  have hO1 : w1.heap[O]? = some (.cells #[.slice none 0 0, .slice none 0 0] 51 (0, 0)) := by rw [hw1, hO]; exact heap_alloc_new w2 _
  have hr0 : RO w1 w1 O [] [] := ⟨by omega, Nat.le_refl _, ⟨rfl, rfl, rfl⟩, fun _ _ _ => rfl, none, 0, none, 0, hO1, OwnG.nil _ _ _ _, OwnG.nil _ _ _ _⟩
  have HBl := Lib.hid hB1
  have Hb1 := Lib.hid (show ∀ q, q < w.heap.size → w1.heap[q]? = w.heap[q]? from fun q hq => hE1.block q hq)
  have HE1 := Lib.hid hE1
  have Hr0 := Lib.hid hr0
  have hBO : Bl + 2 ≤ O := by omega
  have hwO : w.heap.size ≤ O := by omega
  go_wp2_with fail
  rw [show w.heap.size = Bl from hBl.symm, show w2.heap.size = O from hO.symm, ← hw1]
  have hBl2 : w.heap.size = Bl := hBl.symm
  have HBlw := Lib.hid hBl2
  clear he2 CP hE2 hz2 hE1 hB1 hB2 hO1 hr0 hw1 hO hBl hBl2
  go_loopw [11] (fun i wr => ∃ j : Nat, j ≤ S ∧ i = .int .i64 j ∧ Hid (RO w1 wr O (ss.take j) (V.take j))) (fun i _ => S - (intOf i).toNat)
  case atStart => exact ⟨0, Nat.zero_le _, rfl, Hr0⟩
  case round =>
    obtain ⟨j, hj, rfl, Hr⟩ := hrel
    have hwB := HBlw.out
    by_cases hlt : j < S
    · have hjn : j < n := by omega
      have hji : (j : Int) < (S : Int) := by omega
      obtain ⟨b, o, eA, hbw, hcA⟩ := Hk.out.2 (by omega)
      subst eA
      obtain ⟨b', o', eA, hbw', hcv⟩ := Hv.out.atZ hjn
      subst eA
      obtain ⟨s, hsj⟩ : ∃ s, ss[j]? = some s := ⟨ss[j]'(by have := Hk.out.1; omega), List.getElem?_eq_getElem _⟩
      have hc := hcA j s hsj
      obtain ⟨xv, hxv⟩ : ∃ xv, xv = V.getD j 0 := ⟨_, rfl⟩
      rw [← hxv] at hcv
      have HN := Lib.hid (show ss.take (j + 1) = ss.take j ++ [s] ∧ V.take (j + 1) = V.take j ++ [xv] from ⟨by rw [List.take_add_one, hsj]; rfl, by rw [List.take_add_one, show V[j]? = some xv from by rw [hxv, List.getD, List.getElem?_eq_getElem (by have := Hv.out.len; omega)]; rfl]; rfl⟩)
      obtain ⟨sA, sc, sb⟩ := s
      obtain ⟨sn, hsn⟩ : ∃ sn, sn = sb.length := ⟨_, rfl⟩
      have Hsn := Lib.hid hsn
      unfold Sl.v at hc
      simp only at hc
      rw [← hsn] at hc
      have HT := Lib.hid (show (ss.take j).length = j from by rw [List.length_take]; have := Hk.out.1; omega)
      have HV := Lib.hid (show (V.take j).length = j from by rw [List.length_take]; have := Hv.out.len; omega)
      clear hsn hxv hsj hcA
      go_wp2_with fail
      obtain ⟨Ao, co, Aw, cw, hbO, hok, hov⟩ := Hr.out.ex
      rw [HT.out, HV.out] at hbO
      have hOl := Hr.out.lt
      have hsz := Hr.out.size
      have hBb := (Hr.out.kb Bl (by omega) (by omega)).trans HBl.out
      have hqb := (Hr.out.kb b (by omega) (by omega)).trans (Hb1.out b (by omega))
      have c0 : wr.cell? ⟨O, 0, none⟩ = some (.slice Ao j co) := (cell_of_row wr O 0 _ _ (0, 0) hbO).trans rfl
      have c1 : wr.cell? ⟨Bl, 0, none⟩ = some (.slice (some ⟨b, o, none⟩) n ck) := (cell_of_row wr Bl 0 _ _ (0, 0) hBb).trans rfl
      have c2 : wr.cell? ⟨b, o + j, none⟩ = some (.slice sA sn sc) := (World.cell?_of_block (w := w) (a := ⟨b, o + j, none⟩) hqb).trans hc
      have hSx : ∀ W9, Ext wr W9 → W9.cell? ⟨O, 0, none⟩ = some (.slice Ao j co) ∧ W9.cell? ⟨Bl, 0, none⟩ = some (.slice (some ⟨b, o, none⟩) n ck) ∧ W9.cell? ⟨b, o + j, none⟩ = some (.slice sA sn sc) := fun W9 h => ⟨(Below.cell h (p := ⟨O, 0, none⟩) (by show O < _; omega)).trans c0, (Below.cell h (p := ⟨Bl, 0, none⟩) (by show Bl < _; omega)).trans c1, (Below.cell h (p := ⟨b, o + j, none⟩) (by show b < _; omega)).trans c2⟩
      clear c0 c1 c2
      refine wp_region_T (S := fun W9 => W9.cell? ⟨O, 0, none⟩ = some (.slice Ao j co) ∧ W9.cell? ⟨Bl, 0, none⟩ = some (.slice (some ⟨b, o, none⟩) n ck) ∧ W9.cell? ⟨b, o + j, none⟩ = some (.slice sA sn sc)) (late := fun k => k == 9 || k == 10) (by kernel_rfl) ?_
      refine wpAnyT_take (i := 0) (v := ?_) rfl (by kernel_rfl) (by kernel_rfl) (by kernel_rfl) (by kernel_rfl) (fun _ _ _ h => h) (Or.inl ⟨by rfl, ?_⟩) (by exact hSx _ (Ext.refl _).drew) ?_
      rotate_left
      · (intro w hSw; (try dsimp only at hSw); (try (obtain ⟨hS1, hS2, hS3⟩ := hSw)); go_simp; (try with_reducible rfl))
      (try (simp only [Act.put, List.getElem_toArray, List.getElem_cons_zero, List.setIfInBounds_toArray, List.set_cons_zero, List.set_cons_succ]))
      refine wpAnyT_take (i := 1) (v := ?_) rfl (by kernel_rfl) (by kernel_rfl) (by kernel_rfl) (by kernel_rfl) (fun _ _ _ h => h) (Or.inl ⟨by rfl, ?_⟩) (by exact hSx _ (Ext.refl _).drew) ?_
      rotate_left
      · (intro w hSw; (try dsimp only at hSw); (try (obtain ⟨hS1, hS2, hS3⟩ := hSw)); go_simp; (try with_reducible rfl))
      (try (simp only [Act.put, List.getElem_toArray, List.getElem_cons_zero, List.getElem_cons_succ, List.setIfInBounds_toArray, List.set_cons_zero, List.set_cons_succ]))
      refine wpAnyT_take (i := 2) (v := ?_) rfl (by kernel_rfl) (by kernel_rfl) (by kernel_rfl) (by kernel_rfl) (fun _ _ _ h => h) (Or.inl ⟨by rfl, ?_⟩) (by exact hSx _ (Ext.refl _).drew) ?_
      rotate_left
      · (intro w hSw; (try dsimp only at hSw); (try (obtain ⟨hS1, hS2, hS3⟩ := hSw)); go_simp; (try with_reducible rfl))
      (try (simp only [Act.put, List.getElem_toArray, List.getElem_cons_zero, List.getElem_cons_succ, List.setIfInBounds_toArray, List.set_cons_zero, List.set_cons_succ]))
      refine wpAnyT_take (i := 3) (v := ?_) rfl (by kernel_rfl) (by kernel_rfl) (by kernel_rfl) (by kernel_rfl) (fun _ _ _ h => h) (Or.inl ⟨by rfl, ?_⟩) (by exact hSx _ (Ext.refl _).drew) ?_
      rotate_left
      · (intro w hSw; (try dsimp only at hSw); (try (obtain ⟨hS1, hS2, hS3⟩ := hSw)); go_simp; (try with_reducible rfl))
      (try (simp only [Act.put, List.getElem_toArray, List.getElem_cons_zero, List.getElem_cons_succ, List.setIfInBounds_toArray, List.set_cons_zero, List.set_cons_succ]))
      refine wpAnyT_take (i := 4) (v := ?_) rfl (by kernel_rfl) (by kernel_rfl) (by kernel_rfl) (by kernel_rfl) (fun _ _ _ h => h) (Or.inl ⟨by rfl, ?_⟩) (by exact hSx _ (Ext.refl _).drew) ?_
      rotate_left
      · (intro w hSw; (try dsimp only at hSw); (try (obtain ⟨hS1, hS2, hS3⟩ := hSw)); go_simp; (try with_reducible rfl))
      (try (simp only [Act.put, List.getElem_toArray, List.getElem_cons_zero, List.getElem_cons_succ, List.setIfInBounds_toArray, List.set_cons_zero, List.set_cons_succ]))
      refine wpAnyT_take (i := 5) (v := ?_) rfl (by kernel_rfl) (by kernel_rfl) (by kernel_rfl) (by kernel_rfl) (fun _ _ _ h => h) (Or.inl ⟨by rfl, ?_⟩) (by exact hSx _ (Ext.refl _).drew) ?_
      rotate_left
      · (intro w hSw; (try dsimp only at hSw); (try (obtain ⟨hS1, hS2, hS3⟩ := hSw)); go_simp; (try with_reducible rfl))
      (try (simp only [Act.put, List.getElem_toArray, List.getElem_cons_zero, List.getElem_cons_succ, List.setIfInBounds_toArray, List.set_cons_zero, List.set_cons_succ]))
      refine wpAnyT_take (i := 6) (v := ?_) rfl (by kernel_rfl) (by kernel_rfl) (by kernel_rfl) (by kernel_rfl) (fun _ _ _ h => h) (Or.inl ⟨by rfl, ?_⟩) (by exact hSx _ (Ext.refl _).drew) ?_
      rotate_left
      · (intro w hSw; (try dsimp only at hSw); (try (obtain ⟨hS1, hS2, hS3⟩ := hSw)); go_simp; (try with_reducible rfl))
      (try (simp only [Act.put, List.getElem_toArray, List.getElem_cons_zero, List.getElem_cons_succ, List.setIfInBounds_toArray, List.set_cons_zero, List.set_cons_succ]))
      refine wpAnyT_step (i := 7) (by kernel_rfl) rfl rfl ?_
      go_simp
      have hE3' : Ext wr (wr.alloc (.cells #[(.slice sA sn sc)] 52)) := (Ext.refl wr).alloc _
      have hE3 := hE3'.drew
      have hR3 := Hr.out.ext hE3
      have hok3 := hok.ext hE3
      have hov3 := hov.ext hE3
      have hbO3 := (hE3.block O (by omega)).trans hbO
      refine ⟨by first | exact fun _ => hSx _ hE3' | exact hSx _ hE3', ?_⟩
      (try (simp only [Act.put, List.getElem_toArray, List.getElem_cons_zero, List.getElem_cons_succ, List.setIfInBounds_toArray, List.set_cons_zero, List.set_cons_succ]))
      refine wpAnyT_step (i := 8) (by kernel_rfl) rfl rfl ?_
      refine wp_pushK shS ⟨sA, sc, sb⟩ 52 _ _ 49 rfl _ 24 Try.underlying49 Try.infoS rfl hok3 j HT.out rfl rfl ((heap_alloc_new _ _).trans (by rw [Hsn.out]; rfl)) (by omega) (by decide) hR3.size ?_
      intro A5 c5 W5 ho5 hg5 _
      have hg5 := gk hg5
      obtain ⟨hR6, hO5⟩ := hR3.pushK (by rw [HT.out, HV.out]; exact hbO3) hok3 hov3 ho5 hg5
      rw [HT.out, HV.out] at hO5
      rw [HT.out] at hR6
      have hrow : ∀ r, Ao.map (·.block) = some r → w1.heap.size ≤ r := fun r e => by obtain ⟨a, ha, rfl⟩ := Option.map_eq_some_iff.1 e; exact (hok.block a ha).1
      have hsame : ∀ q, q < w1.heap.size → W5.heap[q]? = wr.heap[q]? := fun q hq => (hg5.block q (by have := hE3.size; omega) (fun e => by have := hrow q e.symm; omega)).trans (hE3.block q (by omega))
      have k5 : W5.cell? ⟨O, 0, none⟩ = some (.slice Ao j co) := (cell_of_row W5 O 0 _ _ (0, 0) hO5).trans rfl
      have f5 : W5.frozen? ⟨O, 0, none⟩ = false := by simp [World.frozen?, hO5]
      have hS5 : (fun W9 => W9.cell? ⟨O, 0, none⟩ = some (.slice Ao j co) ∧ W9.cell? ⟨Bl, 0, none⟩ = some (.slice (some ⟨b, o, none⟩) n ck) ∧ W9.cell? ⟨b, o + j, none⟩ = some (.slice sA sn sc)) W5 := ⟨k5, (cell_of_row W5 Bl 0 _ _ (0, 0) ((hsame Bl (by omega)).trans hBb)).trans rfl, (World.cell?_of_block (w := w) (a := ⟨b, o + j, none⟩) ((hsame b (by omega)).trans hqb)).trans hc⟩
      refine ⟨by first | exact fun _ => hS5 | exact hS5, ?_⟩
      (try (simp only [Act.put, List.getElem_toArray, List.getElem_cons_zero, List.getElem_cons_succ, List.setIfInBounds_toArray, List.set_cons_zero, List.set_cons_succ]))
      refine wpAnyT_step (i := 9) (by kernel_rfl) rfl rfl ?_
      go_simp
      (try (simp only [Act.put, List.getElem_toArray, List.getElem_cons_zero, List.getElem_cons_succ, List.setIfInBounds_toArray, List.set_cons_zero, List.set_cons_succ]))
      refine wpAnyT_step (i := 10) (by kernel_rfl) rfl rfl ?_
      go_simp
      refine wpAnyT_done (by kernel_rfl) ?_ _
      obtain ⟨W6, hW6⟩ : ∃ W, W = W5.setCell ⟨O, 0, none⟩ (.slice A5 (j + 1) c5) := ⟨_, rfl⟩
      rw [← hW6] at hR6 ⊢
      clear hW6 hS5 k5 f5 hsame hrow hO5 hg5 ho5 hbO3 hov3 hok3 hR3 hE3 hE3' hSx hqb hBb hok hov hbO
      have Hr := Lib.hid hR6
      have HT := Lib.hid (show (ss.take j ++ [(⟨sA, sc, sb⟩ : Sl)]).length = j + 1 from by rw [List.length_append, HT.out]; rfl)
      clear hR6
      go_wp2_with fail
      obtain ⟨Ao, co, Aw, cw, hbO, hok, hov⟩ := Hr.out.ex
      rw [HT.out, HV.out] at hbO
      have hOl := Hr.out.lt
      have hsz := Hr.out.size
      have hBb := (Hr.out.kb Bl (by omega) (by omega)).trans HBl.out
      have hqb := (Hr.out.kb b' (by omega) (by omega)).trans (Hb1.out b' (by omega))
      have c0 : W6.cell? ⟨O, 1, none⟩ = some (.slice Aw j cw) := (cell_of_row W6 O 1 _ _ (0, 0) hbO).trans rfl
      have c1 : W6.cell? ⟨Bl, 1, none⟩ = some (.slice (some ⟨b', o', none⟩) n cv) := (cell_of_row W6 Bl 1 _ _ (0, 0) hBb).trans rfl
      have c2 : W6.cell? ⟨b', o' + j, none⟩ = some (.int .i64 xv) := (World.cell?_of_block (w := w) (a := ⟨b', o' + j, none⟩) hqb).trans hcv
      have hSx : ∀ W9, Ext W6 W9 → W9.cell? ⟨O, 1, none⟩ = some (.slice Aw j cw) ∧ W9.cell? ⟨Bl, 1, none⟩ = some (.slice (some ⟨b', o', none⟩) n cv) ∧ W9.cell? ⟨b', o' + j, none⟩ = some (.int .i64 xv) := fun W9 h => ⟨(Below.cell h (p := ⟨O, 1, none⟩) (by show O < _; omega)).trans c0, (Below.cell h (p := ⟨Bl, 1, none⟩) (by show Bl < _; omega)).trans c1, (Below.cell h (p := ⟨b', o' + j, none⟩) (by show b' < _; omega)).trans c2⟩
      clear c0 c1 c2
      refine wp_region_T (S := fun W9 => W9.cell? ⟨O, 1, none⟩ = some (.slice Aw j cw) ∧ W9.cell? ⟨Bl, 1, none⟩ = some (.slice (some ⟨b', o', none⟩) n cv) ∧ W9.cell? ⟨b', o' + j, none⟩ = some (.int .i64 xv)) (late := fun k => k == 9 || k == 10) (by kernel_rfl) ?_
      refine wpAnyT_take (i := 0) (v := ?_) rfl (by kernel_rfl) (by kernel_rfl) (by kernel_rfl) (by kernel_rfl) (fun _ _ _ h => h) (Or.inl ⟨by rfl, ?_⟩) (by exact hSx _ (Ext.refl _).drew) ?_
      rotate_left
      · (intro w hSw; (try dsimp only at hSw); (try (obtain ⟨hS1, hS2, hS3⟩ := hSw)); go_simp; (try with_reducible rfl))
      (try (simp only [Act.put, List.getElem_toArray, List.getElem_cons_zero, List.setIfInBounds_toArray, List.set_cons_zero, List.set_cons_succ]))
      refine wpAnyT_take (i := 1) (v := ?_) rfl (by kernel_rfl) (by kernel_rfl) (by kernel_rfl) (by kernel_rfl) (fun _ _ _ h => h) (Or.inl ⟨by rfl, ?_⟩) (by exact hSx _ (Ext.refl _).drew) ?_
      rotate_left
      · (intro w hSw; (try dsimp only at hSw); (try (obtain ⟨hS1, hS2, hS3⟩ := hSw)); go_simp; (try with_reducible rfl))
      (try (simp only [Act.put, List.getElem_toArray, List.getElem_cons_zero, List.getElem_cons_succ, List.setIfInBounds_toArray, List.set_cons_zero, List.set_cons_succ]))
      refine wpAnyT_take (i := 2) (v := ?_) rfl (by kernel_rfl) (by kernel_rfl) (by kernel_rfl) (by kernel_rfl) (fun _ _ _ h => h) (Or.inl ⟨by rfl, ?_⟩) (by exact hSx _ (Ext.refl _).drew) ?_
      rotate_left
      · (intro w hSw; (try dsimp only at hSw); (try (obtain ⟨hS1, hS2, hS3⟩ := hSw)); go_simp; (try with_reducible rfl))
      (try (simp only [Act.put, List.getElem_toArray, List.getElem_cons_zero, List.getElem_cons_succ, List.setIfInBounds_toArray, List.set_cons_zero, List.set_cons_succ]))
      refine wpAnyT_take (i := 3) (v := ?_) rfl (by kernel_rfl) (by kernel_rfl) (by kernel_rfl) (by kernel_rfl) (fun _ _ _ h => h) (Or.inl ⟨by rfl, ?_⟩) (by exact hSx _ (Ext.refl _).drew) ?_
      rotate_left
      · (intro w hSw; (try dsimp only at hSw); (try (obtain ⟨hS1, hS2, hS3⟩ := hSw)); go_simp; (try with_reducible rfl))
      (try (simp only [Act.put, List.getElem_toArray, List.getElem_cons_zero, List.getElem_cons_succ, List.setIfInBounds_toArray, List.set_cons_zero, List.set_cons_succ]))
      refine wpAnyT_take (i := 4) (v := ?_) rfl (by kernel_rfl) (by kernel_rfl) (by kernel_rfl) (by kernel_rfl) (fun _ _ _ h => h) (Or.inl ⟨by rfl, ?_⟩) (by exact hSx _ (Ext.refl _).drew) ?_
      rotate_left
      · (intro w hSw; (try dsimp only at hSw); (try (obtain ⟨hS1, hS2, hS3⟩ := hSw)); go_simp; (try with_reducible rfl))
      (try (simp only [Act.put, List.getElem_toArray, List.getElem_cons_zero, List.getElem_cons_succ, List.setIfInBounds_toArray, List.set_cons_zero, List.set_cons_succ]))
      refine wpAnyT_take (i := 5) (v := ?_) rfl (by kernel_rfl) (by kernel_rfl) (by kernel_rfl) (by kernel_rfl) (fun _ _ _ h => h) (Or.inl ⟨by rfl, ?_⟩) (by exact hSx _ (Ext.refl _).drew) ?_
      rotate_left
      · (intro w hSw; (try dsimp only at hSw); (try (obtain ⟨hS1, hS2, hS3⟩ := hSw)); go_simp; (try with_reducible rfl))
      (try (simp only [Act.put, List.getElem_toArray, List.getElem_cons_zero, List.getElem_cons_succ, List.setIfInBounds_toArray, List.set_cons_zero, List.set_cons_succ]))
      refine wpAnyT_take (i := 6) (v := ?_) rfl (by kernel_rfl) (by kernel_rfl) (by kernel_rfl) (by kernel_rfl) (fun _ _ _ h => h) (Or.inl ⟨by rfl, ?_⟩) (by exact hSx _ (Ext.refl _).drew) ?_
      rotate_left
      · (intro w hSw; (try dsimp only at hSw); (try (obtain ⟨hS1, hS2, hS3⟩ := hSw)); go_simp; (try with_reducible rfl))
      (try (simp only [Act.put, List.getElem_toArray, List.getElem_cons_zero, List.getElem_cons_succ, List.setIfInBounds_toArray, List.set_cons_zero, List.set_cons_succ]))
      refine wpAnyT_step (i := 7) (by kernel_rfl) rfl rfl ?_
      go_simp
      have hE3' : Ext W6 (W6.alloc (.cells #[(.int .i64 xv)] 3)) := (Ext.refl W6).alloc _
      have hE3 := hE3'.drew
      have hR3 := Hr.out.ext hE3
      have hok3 := hok.ext hE3
      have hov3 := hov.ext hE3
      have hbO3 := (hE3.block O (by omega)).trans hbO
      refine ⟨by first | exact fun _ => hSx _ hE3' | exact hSx _ hE3', ?_⟩
      (try (simp only [Act.put, List.getElem_toArray, List.getElem_cons_zero, List.getElem_cons_succ, List.setIfInBounds_toArray, List.set_cons_zero, List.set_cons_succ]))
      refine wpAnyT_step (i := 8) (by kernel_rfl) rfl rfl ?_
      refine wp_pushK shZ xv 3 _ _ 45 rfl _ 8 Try.underlying45 Try.infoInt18 rfl hov3 j HV.out rfl rfl (heap_alloc_new _ _) (by omega) (by decide) hR3.size ?_
      intro A5 c5 W5 ho5 hg5 _
      have hg5 := gk hg5
      obtain ⟨hR6, hO5⟩ := hR3.pushV (by rw [HT.out, HV.out]; exact hbO3) hok3 hov3 ho5 hg5
      rw [HT.out, HV.out] at hO5
      rw [HV.out] at hR6
      have hrow : ∀ r, Aw.map (·.block) = some r → w1.heap.size ≤ r := fun r e => by obtain ⟨a, ha, rfl⟩ := Option.map_eq_some_iff.1 e; exact (hov.block a ha).1
      have hsame : ∀ q, q < w1.heap.size → W5.heap[q]? = W6.heap[q]? := fun q hq => (hg5.block q (by have := hE3.size; omega) (fun e => by have := hrow q e.symm; omega)).trans (hE3.block q (by omega))
      have k5 : W5.cell? ⟨O, 1, none⟩ = some (.slice Aw j cw) := (cell_of_row W5 O 1 _ _ (0, 0) hO5).trans rfl
      have f5 : W5.frozen? ⟨O, 1, none⟩ = false := by simp [World.frozen?, hO5]
      have hS5 : (fun W9 => W9.cell? ⟨O, 1, none⟩ = some (.slice Aw j cw) ∧ W9.cell? ⟨Bl, 1, none⟩ = some (.slice (some ⟨b', o', none⟩) n cv) ∧ W9.cell? ⟨b', o' + j, none⟩ = some (.int .i64 xv)) W5 := ⟨k5, (cell_of_row W5 Bl 1 _ _ (0, 0) ((hsame Bl (by omega)).trans hBb)).trans rfl, (World.cell?_of_block (w := w) (a := ⟨b', o' + j, none⟩) ((hsame b' (by omega)).trans hqb)).trans hcv⟩
      refine ⟨by first | exact fun _ => hS5 | exact hS5, ?_⟩
      (try (simp only [Act.put, List.getElem_toArray, List.getElem_cons_zero, List.getElem_cons_succ, List.setIfInBounds_toArray, List.set_cons_zero, List.set_cons_succ]))
      refine wpAnyT_step (i := 9) (by kernel_rfl) rfl rfl ?_
      go_simp
      (try (simp only [Act.put, List.getElem_toArray, List.getElem_cons_zero, List.getElem_cons_succ, List.setIfInBounds_toArray, List.set_cons_zero, List.set_cons_succ]))
      refine wpAnyT_step (i := 10) (by kernel_rfl) rfl rfl ?_
      go_simp
      refine wpAnyT_done (by kernel_rfl) ?_ _
      obtain ⟨W7, hW7⟩ : ∃ W, W = W5.setCell ⟨O, 1, none⟩ (.slice A5 (j + 1) c5) := ⟨_, rfl⟩
      rw [← hW7] at hR6 ⊢
      clear hW7 hS5 k5 f5 hsame hrow hO5 hg5 ho5 hbO3 hov3 hok3 hR3 hE3 hE3' hSx hqb hBb hok hov hbO
      go_wp2_with fail
      go_roundw
      case rel => exact ⟨j + 1, by omega, by go_num, Lib.hid (by rw [HN.out.1, HN.out.2]; exact hR6)⟩
      case measure => simp [intOf]; omega
    · obtain rfl : j = S := by omega
      have HT := Lib.hid (show (ss.take j).length = j from by rw [List.length_take]; have := Hk.out.1; omega)
      have HV := Lib.hid (show (V.take j).length = j from by rw [List.length_take]; have := Hv.out.len; omega)
      have hji : ¬ (j : Int) < (j : Int) := by omega
      obtain ⟨Ao, co, Aw, cw, hbO, hok, hov⟩ := Hr.out.ex
      rw [HT.out, HV.out] at hbO
      have hsz := Hr.out.size
      have c0 : wr.drew.cell? ⟨O, 0, none⟩ = some (.slice Ao j co) := (cell_of_row wr O 0 _ _ (0, 0) hbO).trans rfl
      have Hew := Lib.hid (Hr.out.toExt HE1.out hwO)
      have CC := Lib.hid (copy_any A m c t wr.drew (Ht.out.ext (Hew.out.drew)) (by omega))
      have Htl := Lib.hid Ht.out.len
      clear Hr0 hlt
      go_wp2_with fail
      refine wp_region_T (S := fun W9 => W9.cell? ⟨O, 0, none⟩ = some (.slice Ao j co)) (late := fun k => k == 6 || k == 7) (by kernel_rfl) ?_
      refine wpAnyT_take (i := 0) (v := ?_) rfl (by kernel_rfl) (by kernel_rfl) (by kernel_rfl) (by kernel_rfl) (fun _ _ _ h => h) (Or.inl ⟨by rfl, ?_⟩) (by exact c0) ?_
      rotate_left
      · (intro w hSw; (try dsimp only at hSw); go_simp; (try with_reducible rfl))
      (try (simp only [Act.put, List.getElem_toArray, List.getElem_cons_zero, List.setIfInBounds_toArray, List.set_cons_zero, List.set_cons_succ]))
      refine wpAnyT_take (i := 1) (v := ?_) rfl (by kernel_rfl) (by kernel_rfl) (by kernel_rfl) (by kernel_rfl) (fun _ _ _ h => h) (Or.inl ⟨by rfl, ?_⟩) (by exact c0) ?_
      rotate_left
      · (intro w hSw; (try dsimp only at hSw); go_simp; (try with_reducible rfl))
      (try (simp only [Act.put, List.getElem_toArray, List.getElem_cons_zero, List.getElem_cons_succ, List.setIfInBounds_toArray, List.set_cons_zero, List.set_cons_succ]))
      refine wpAnyT_take (i := 2) (v := ?_) rfl (by kernel_rfl) (by kernel_rfl) (by kernel_rfl) (by kernel_rfl) (fun _ _ _ h => h) (Or.inl ⟨by rfl, ?_⟩) (by exact c0) ?_
      rotate_left
      · (intro w hSw; (try dsimp only at hSw); go_simp; (try with_reducible rfl))
      (try (simp only [Act.put, List.getElem_toArray, List.getElem_cons_zero, List.getElem_cons_succ, List.setIfInBounds_toArray, List.set_cons_zero, List.set_cons_succ]))
      refine wpAnyT_step (i := 3) (by kernel_rfl) rfl rfl ?_
      go_simp
      refine CC.out.mono ?_
      rintro e W2 ⟨A2, c2, rfl, ho2, he2⟩
      have hE2 : Ext wr W2 := ((Ext.refl wr).drew).trans he2
      have HO2 := Lib.hid (ho2.mono (show w1.heap.size ≤ wr.drew.heap.size from hsz))
      have hb2 := (hE2.block O (by omega)).trans hbO
      (try dsimp only)
      refine ⟨by first | exact fun _ => (cell_of_row W2 O 0 _ _ (0, 0) hb2).trans rfl | exact (cell_of_row W2 O 0 _ _ (0, 0) hb2).trans rfl, ?_⟩
      (try (simp only [Act.put, List.getElem_toArray, List.getElem_cons_zero, List.getElem_cons_succ, List.setIfInBounds_toArray, List.set_cons_zero, List.set_cons_succ]))
      refine wpAnyT_step (i := 4) (by kernel_rfl) rfl rfl ?_
      go_simp
      have hE3 : Ext wr (W2.alloc (.cells #[.slice A2 m c2] 52)) := hE2.alloc _
      have hb3 := (hE3.block O (by omega)).trans hbO
      have hR3 := Hr.out.ext hE3
      have hok3 := hok.ext hE3
      have hov3 := hov.ext hE3
      refine ⟨by first | exact fun _ => (cell_of_row _ O 0 _ _ (0, 0) hb3).trans rfl | exact (cell_of_row _ O 0 _ _ (0, 0) hb3).trans rfl, ?_⟩
      (try (simp only [Act.put, List.getElem_toArray, List.getElem_cons_zero, List.getElem_cons_succ, List.setIfInBounds_toArray, List.set_cons_zero, List.set_cons_succ]))
      refine wpAnyT_step (i := 5) (by kernel_rfl) rfl rfl ?_
      refine wp_pushK shS ⟨A2, c2, t⟩ 52 _ _ 49 rfl _ 24 Try.underlying49 Try.infoS rfl hok3 j HT.out rfl rfl ((heap_alloc_new _ _).trans (by rw [← Htl.out]; rfl)) (by omega) (by decide) hR3.size ?_
      intro A5 c5 W5 ho5 hg5 _
      have hg5 := gk hg5
      obtain ⟨hR6, hO5⟩ := hR3.pushK (by rw [HT.out, HV.out]; exact hb3) hok3 hov3 ho5 hg5
      rw [HT.out, HV.out] at hO5
      rw [HT.out] at hR6
      have hY6 := own8_push (k := 0) (u := .slice A5 (j + 1) c5) HO2.out ((Ext.refl W2).alloc (.cells #[.slice A2 m c2] 52)) (by decide) hok3.cellsAt hg5 hO5
      have k5 : W5.cell? ⟨O, 0, none⟩ = some (.slice Ao j co) := (cell_of_row W5 O 0 _ _ (0, 0) hO5).trans rfl
      have f5 : W5.frozen? ⟨O, 0, none⟩ = false := by simp [World.frozen?, hO5]
      refine ⟨by first | exact fun _ => k5 | exact k5, ?_⟩
      (try (simp only [Act.put, List.getElem_toArray, List.getElem_cons_zero, List.getElem_cons_succ, List.setIfInBounds_toArray, List.set_cons_zero, List.set_cons_succ]))
      refine wpAnyT_step (i := 6) (by kernel_rfl) rfl rfl ?_
      go_simp
      (try (simp only [Act.put, List.getElem_toArray, List.getElem_cons_zero, List.getElem_cons_succ, List.setIfInBounds_toArray, List.set_cons_zero, List.set_cons_succ]))
      refine wpAnyT_step (i := 7) (by kernel_rfl) rfl rfl ?_
      go_simp
      refine wpAnyT_done (by kernel_rfl) ?_ _
      obtain ⟨W6, hW6⟩ : ∃ W, W = W5.setCell ⟨O, 0, none⟩ (.slice A5 (j + 1) c5) := ⟨_, rfl⟩
      rw [← hW6] at hR6 hY6 ⊢
      have HY6 := Lib.hid hY6
      clear hY6
      have HR6 := Lib.hid hR6
      obtain ⟨Ao6, co6, Aw6, cw6, hb6, hok6, hov6⟩ := hR6.ex
      have hsz6 := hR6.size
      rw [List.length_append, List.length_singleton, HT.out, HV.out] at hb6
      have e1 : W6.cell? ⟨O, 1, none⟩ = some (.slice Aw6 j cw6) := (cell_of_row W6 O 1 _ _ (0, 0) hb6).trans rfl
      have hR7 := Lib.hid (hR6.ext ((Ext.refl W6).alloc (.cells #[.int .i64 v] 3)))
      have hok7 := Lib.hid (hok6.ext ((Ext.refl W6).alloc (.cells #[.int .i64 v] 3)))
      have hov7 := hov6.ext ((Ext.refl W6).alloc (.cells #[.int .i64 v] 3))
      have Hb7 := Lib.hid ((Below.heap_alloc W6 (.cells #[.int .i64 v] 3) O (by omega)).trans hb6)
      clear hR6 hW6 k5 f5 hO5 hg5 ho5 hok3 hov3 hR3 hb3 hE3 hb2 hE2 he2 ho2 CC c0 hbO hok hov hb6 hok6 hov6
      go_wp2_with (at_builtin; refine wpList_pushG (w0 := W6) (base := w1.heap.size) shZ v 3 rfl _ _ 45 rfl _ 8 Try.underlying45 Try.infoInt18 rfl (by decide) hov7 j HV.out rfl rfl (heap_alloc_new _ _) (by omega) (by omega) (Below.alloc (Below.refl w1.heap.size W6) hsz6 _) (by simp <;> omega) ?_; intro A8 c8 W8 ho8 hg8 hb8 hz8; have hgm : (W6.alloc (.cells #[.int .i64 v] 3)).grownBy W8 (Aw6.map (·.block)) := (by cases Aw6 <;> exact hg8); obtain ⟨hR9, hO9⟩ := hR7.out.pushV (by rw [List.length_append, List.length_singleton, HT.out, HV.out]; exact Hb7.out) hok7.out hov7 ho8 hgm; rw [List.length_append, List.length_singleton, HT.out, HV.out] at hO9; rw [HV.out] at hR9; have k8 : W8.cell? ⟨O, 1, none⟩ = some (.slice Aw6 j cw6) := (cell_of_row W8 O 1 _ _ (0, 0) hO9).trans rfl; have f8 : W8.frozen? ⟨O, 1, none⟩ = false := (by simp [World.frozen?, hO9]))
      · rename D = true => hDx
        have HDf : Hid (D = true) := Lib.hid hDx
        clear hDx
        have hF : j + 1 ≤ n := by have h1 := HD.out; rw [HDf.out] at h1; have h2 := of_decide_eq_true h1.symm; have h3 := (List.getElem?_eq_some_iff.1 h2).1; rw [← HS.out, bodies_len, Hk.out.1] at h3; omega
        have HTa := Lib.hid (show (ss.take j ++ [(⟨A2, c2, t⟩ : Sl)]).length = j + 1 from by rw [List.length_append, HT.out]; rfl)
        have HVa := Lib.hid (show (V.take j ++ [v]).length = j + 1 from by rw [List.length_append, HV.out]; rfl)
        have HR9 := Lib.hid hR9
        have HY9 := Lib.hid (own8_push (k := 1) (u := .slice A8 (j + 1) c8) HY6.out ((Ext.refl W6).alloc (.cells #[.int .i64 v] 3)) (by decide) hov7.cellsAt hgm hO9)
        clear hR9 hO9 k8 f8 hgm hg8 hb8 hz8 ho8 Hb7 hov7 hok7 hR7 HR6 e1 HT HV Hr
        obtain ⟨TS, hTS⟩ : ∃ TS, TS = ss.take j ++ [(⟨A2, c2, t⟩ : Sl)] := ⟨_, rfl⟩
        obtain ⟨VS, hVS⟩ : ∃ VS, VS = V.take j ++ [v] := ⟨_, rfl⟩
        rw [← hTS] at HR9 HTa
        rw [← hVS] at HR9 HVa
        have HTS := Lib.hid hTS
        have HVS := Lib.hid hVS
        clear hTS hVS
        go_loopw [13] (fun i wr => ∃ k : Nat, j + 1 ≤ k ∧ k ≤ n ∧ i = .int .i64 (k : Int) ∧ Hid (RO w1 wr O (TS ++ (ss.drop (j + 1)).take (k - (j + 1))) (VS ++ (V.drop (j + 1)).take (k - (j + 1)))) ∧ Hid (Own .u8 5 wr w1.heap.size A2 c2 t)) (fun i _ => n - (intOf i).toNat)
        case atStart => exact ⟨j + 1, Nat.le_refl _, hF, by go_num, Lib.hid (by rw [Nat.sub_self, List.take_zero, List.take_zero, List.append_nil, List.append_nil]; exact HR9.out), HY9⟩
        case round =>
          obtain ⟨k, hk1, hk2, rfl, Hr, HY⟩ := hrel
          have hzr := Hr.out.size
          have hBb0 := (Hr.out.kb Bl (by rw [hz1]; omega) (by omega)).trans HBl.out
          have d0 := cell_of_row _ Bl 0 _ _ (0, 0) hBb0
          clear hBb0
          by_cases hlt : k < n
          · have hkI : (k : Int) < (n : Int) := by omega
            obtain ⟨b, o, eA, hbw, hcA⟩ := Hk.out.2 (by omega)
            subst eA
            obtain ⟨b', o', eA, hbw', hcv⟩ := Hv.out.atZ hlt
            subst eA
            obtain ⟨s, hsj⟩ : ∃ s, ss[k]? = some s := ⟨ss[k]'(by have := Hk.out.1; omega), List.getElem?_eq_getElem _⟩
            have hc := hcA k s hsj
            obtain ⟨xv, hxv⟩ : ∃ xv, xv = V.getD k 0 := ⟨_, rfl⟩
            rw [← hxv] at hcv
            have HN := Lib.hid (show (ss.drop (j + 1)).take (k + 1 - (j + 1)) = (ss.drop (j + 1)).take (k - (j + 1)) ++ [s] ∧ (V.drop (j + 1)).take (k + 1 - (j + 1)) = (V.drop (j + 1)).take (k - (j + 1)) ++ [xv] from by
              rw [show k + 1 - (j + 1) = (k - (j + 1)) + 1 by omega, List.take_add_one, List.take_add_one, List.getElem?_drop, List.getElem?_drop, show j + 1 + (k - (j + 1)) = k by omega, hsj, show V[k]? = some xv from by rw [hxv, List.getD, List.getElem?_eq_getElem (by have := Hv.out.len; omega)]; rfl]
              exact ⟨rfl, rfl⟩)
            obtain ⟨sA, sc, sb⟩ := s
            obtain ⟨sn, hsn⟩ : ∃ sn, sn = sb.length := ⟨_, rfl⟩
            have Hsn := Lib.hid hsn
            unfold Sl.v at hc
            simp only at hc
            rw [← hsn] at hc
            obtain ⟨q, hq⟩ : ∃ q, q = j + 1 + (k - (j + 1)) := ⟨_, rfl⟩
            have hqb : q ≤ 1048577 := by omega
            have HT := Lib.hid (show (TS ++ (ss.drop (j + 1)).take (k - (j + 1))).length = q from by rw [List.length_append, HTa.out, List.length_take, List.length_drop, hq]; have := Hk.out.1; omega)
            have HV := Lib.hid (show (VS ++ (V.drop (j + 1)).take (k - (j + 1))).length = q from by rw [List.length_append, HVa.out, List.length_take, List.length_drop, hq]; have := Hv.out.len; omega)
            clear hsn hxv hsj hcA hq
            go_wp2_with fail
            obtain ⟨Ao, co, Aw, cw, hbO, hok, hov⟩ := Hr.out.ex
            rw [HT.out, HV.out] at hbO
            have hOl := Hr.out.lt
            have hsz := Hr.out.size
            have hBb := (Hr.out.kb Bl (by omega) (by omega)).trans HBl.out
            have hqb := (Hr.out.kb b (by omega) (by omega)).trans (Hb1.out b (by omega))
            have c0 : wr.cell? ⟨O, 0, none⟩ = some (.slice Ao q co) := (cell_of_row wr O 0 _ _ (0, 0) hbO).trans rfl
            have c1 : wr.cell? ⟨Bl, 0, none⟩ = some (.slice (some ⟨b, o, none⟩) n ck) := (cell_of_row wr Bl 0 _ _ (0, 0) hBb).trans rfl
            have c2 : wr.cell? ⟨b, o + k, none⟩ = some (.slice sA sn sc) := (World.cell?_of_block (w := w) (a := ⟨b, o + k, none⟩) hqb).trans hc
            have hSx : ∀ W9, Ext wr W9 → W9.cell? ⟨O, 0, none⟩ = some (.slice Ao q co) ∧ W9.cell? ⟨Bl, 0, none⟩ = some (.slice (some ⟨b, o, none⟩) n ck) ∧ W9.cell? ⟨b, o + k, none⟩ = some (.slice sA sn sc) := fun W9 h => ⟨(Below.cell h (p := ⟨O, 0, none⟩) (by show O < _; omega)).trans c0, (Below.cell h (p := ⟨Bl, 0, none⟩) (by show Bl < _; omega)).trans c1, (Below.cell h (p := ⟨b, o + k, none⟩) (by show b < _; omega)).trans c2⟩
            clear c0 c1 c2
            refine wp_region_T (S := fun W9 => W9.cell? ⟨O, 0, none⟩ = some (.slice Ao q co) ∧ W9.cell? ⟨Bl, 0, none⟩ = some (.slice (some ⟨b, o, none⟩) n ck) ∧ W9.cell? ⟨b, o + k, none⟩ = some (.slice sA sn sc)) (late := fun k => k == 9 || k == 10) (by kernel_rfl) ?_
            refine wpAnyT_take (i := 0) (v := ?_) rfl (by kernel_rfl) (by kernel_rfl) (by kernel_rfl) (by kernel_rfl) (fun _ _ _ h => h) (Or.inl ⟨by rfl, ?_⟩) (by exact hSx _ (Ext.refl _).drew) ?_
            rotate_left
            · (intro w hSw; (try dsimp only at hSw); (try (obtain ⟨hS1, hS2, hS3⟩ := hSw)); go_simp; (try with_reducible rfl))
            (try (simp only [Act.put, List.getElem_toArray, List.getElem_cons_zero, List.setIfInBounds_toArray, List.set_cons_zero, List.set_cons_succ]))
            refine wpAnyT_take (i := 1) (v := ?_) rfl (by kernel_rfl) (by kernel_rfl) (by kernel_rfl) (by kernel_rfl) (fun _ _ _ h => h) (Or.inl ⟨by rfl, ?_⟩) (by exact hSx _ (Ext.refl _).drew) ?_
            rotate_left
            · (intro w hSw; (try dsimp only at hSw); (try (obtain ⟨hS1, hS2, hS3⟩ := hSw)); go_simp; (try with_reducible rfl))
            (try (simp only [Act.put, List.getElem_toArray, List.getElem_cons_zero, List.getElem_cons_succ, List.setIfInBounds_toArray, List.set_cons_zero, List.set_cons_succ]))
            refine wpAnyT_take (i := 2) (v := ?_) rfl (by kernel_rfl) (by kernel_rfl) (by kernel_rfl) (by kernel_rfl) (fun _ _ _ h => h) (Or.inl ⟨by rfl, ?_⟩) (by exact hSx _ (Ext.refl _).drew) ?_
            rotate_left
            · (intro w hSw; (try dsimp only at hSw); (try (obtain ⟨hS1, hS2, hS3⟩ := hSw)); go_simp; (try with_reducible rfl))
            (try (simp only [Act.put, List.getElem_toArray, List.getElem_cons_zero, List.getElem_cons_succ, List.setIfInBounds_toArray, List.set_cons_zero, List.set_cons_succ]))
            refine wpAnyT_take (i := 3) (v := ?_) rfl (by kernel_rfl) (by kernel_rfl) (by kernel_rfl) (by kernel_rfl) (fun _ _ _ h => h) (Or.inl ⟨by rfl, ?_⟩) (by exact hSx _ (Ext.refl _).drew) ?_
            rotate_left
            · (intro w hSw; (try dsimp only at hSw); (try (obtain ⟨hS1, hS2, hS3⟩ := hSw)); go_simp; (try with_reducible rfl))
            (try (simp only [Act.put, List.getElem_toArray, List.getElem_cons_zero, List.getElem_cons_succ, List.setIfInBounds_toArray, List.set_cons_zero, List.set_cons_succ]))
            refine wpAnyT_take (i := 4) (v := ?_) rfl (by kernel_rfl) (by kernel_rfl) (by kernel_rfl) (by kernel_rfl) (fun _ _ _ h => h) (Or.inl ⟨by rfl, ?_⟩) (by exact hSx _ (Ext.refl _).drew) ?_
            rotate_left
            · (intro w hSw; (try dsimp only at hSw); (try (obtain ⟨hS1, hS2, hS3⟩ := hSw)); go_simp; (try with_reducible rfl))
            (try (simp only [Act.put, List.getElem_toArray, List.getElem_cons_zero, List.getElem_cons_succ, List.setIfInBounds_toArray, List.set_cons_zero, List.set_cons_succ]))
            refine wpAnyT_take (i := 5) (v := ?_) rfl (by kernel_rfl) (by kernel_rfl) (by kernel_rfl) (by kernel_rfl) (fun _ _ _ h => h) (Or.inl ⟨by rfl, ?_⟩) (by exact hSx _ (Ext.refl _).drew) ?_
            rotate_left
            · (intro w hSw; (try dsimp only at hSw); (try (obtain ⟨hS1, hS2, hS3⟩ := hSw)); go_simp; (try with_reducible rfl))
            (try (simp only [Act.put, List.getElem_toArray, List.getElem_cons_zero, List.getElem_cons_succ, List.setIfInBounds_toArray, List.set_cons_zero, List.set_cons_succ]))
            refine wpAnyT_take (i := 6) (v := ?_) rfl (by kernel_rfl) (by kernel_rfl) (by kernel_rfl) (by kernel_rfl) (fun _ _ _ h => h) (Or.inl ⟨by rfl, ?_⟩) (by exact hSx _ (Ext.refl _).drew) ?_
            rotate_left
            · (intro w hSw; (try dsimp only at hSw); (try (obtain ⟨hS1, hS2, hS3⟩ := hSw)); go_simp; (try with_reducible rfl))
            (try (simp only [Act.put, List.getElem_toArray, List.getElem_cons_zero, List.getElem_cons_succ, List.setIfInBounds_toArray, List.set_cons_zero, List.set_cons_succ]))
            refine wpAnyT_step (i := 7) (by kernel_rfl) rfl rfl ?_
            go_simp
            have hE3' : Ext wr (wr.alloc (.cells #[(.slice sA sn sc)] 52)) := (Ext.refl wr).alloc _
            have hE3 := hE3'.drew
            have hR3 := Hr.out.ext hE3
            have hok3 := hok.ext hE3
            have hov3 := hov.ext hE3
            have hbO3 := (hE3.block O (by omega)).trans hbO
            refine ⟨by first | exact fun _ => hSx _ hE3' | exact hSx _ hE3', ?_⟩
            (try (simp only [Act.put, List.getElem_toArray, List.getElem_cons_zero, List.getElem_cons_succ, List.setIfInBounds_toArray, List.set_cons_zero, List.set_cons_succ]))
            refine wpAnyT_step (i := 8) (by kernel_rfl) rfl rfl ?_
            refine wp_pushK shS ⟨sA, sc, sb⟩ 52 _ _ 49 rfl _ 24 Try.underlying49 Try.infoS rfl hok3 q HT.out rfl rfl ((heap_alloc_new _ _).trans (by rw [Hsn.out]; rfl)) (by omega) (by decide) hR3.size ?_
            intro A5 c5 W5 ho5 hg5 _
            have hg5 := gk hg5
            obtain ⟨hR6, hO5⟩ := hR3.pushK (by rw [HT.out, HV.out]; exact hbO3) hok3 hov3 ho5 hg5
            rw [HT.out, HV.out] at hO5
            rw [HT.out] at hR6
            have hrow : ∀ r, Ao.map (·.block) = some r → w1.heap.size ≤ r := fun r e => by obtain ⟨a, ha, rfl⟩ := Option.map_eq_some_iff.1 e; exact (hok.block a ha).1
            have hsame : ∀ q, q < w1.heap.size → W5.heap[q]? = wr.heap[q]? := fun q hq => (hg5.block q (by have := hE3.size; omega) (fun e => by have := hrow q e.symm; omega)).trans (hE3.block q (by omega))
            have k5 : W5.cell? ⟨O, 0, none⟩ = some (.slice Ao q co) := (cell_of_row W5 O 0 _ _ (0, 0) hO5).trans rfl
            have f5 : W5.frozen? ⟨O, 0, none⟩ = false := by simp [World.frozen?, hO5]
            have hS5 : (fun W9 => W9.cell? ⟨O, 0, none⟩ = some (.slice Ao q co) ∧ W9.cell? ⟨Bl, 0, none⟩ = some (.slice (some ⟨b, o, none⟩) n ck) ∧ W9.cell? ⟨b, o + k, none⟩ = some (.slice sA sn sc)) W5 := ⟨k5, (cell_of_row W5 Bl 0 _ _ (0, 0) ((hsame Bl (by omega)).trans hBb)).trans rfl, (World.cell?_of_block (w := w) (a := ⟨b, o + k, none⟩) ((hsame b (by omega)).trans hqb)).trans hc⟩
            refine ⟨by first | exact fun _ => hS5 | exact hS5, ?_⟩
            (try (simp only [Act.put, List.getElem_toArray, List.getElem_cons_zero, List.getElem_cons_succ, List.setIfInBounds_toArray, List.set_cons_zero, List.set_cons_succ]))
            refine wpAnyT_step (i := 9) (by kernel_rfl) rfl rfl ?_
            go_simp
            (try (simp only [Act.put, List.getElem_toArray, List.getElem_cons_zero, List.getElem_cons_succ, List.setIfInBounds_toArray, List.set_cons_zero, List.set_cons_succ]))
            refine wpAnyT_step (i := 10) (by kernel_rfl) rfl rfl ?_
            go_simp
            refine wpAnyT_done (by kernel_rfl) ?_ _
            have hY6 := own8_push (k := 0) (u := .slice A5 (q + 1) c5) HY.out hE3 (by decide) hok3.cellsAt hg5 hO5
            obtain ⟨W6, hW6⟩ : ∃ W, W = W5.setCell ⟨O, 0, none⟩ (.slice A5 (q + 1) c5) := ⟨_, rfl⟩
            rw [← hW6] at hR6 hY6 ⊢
            have HY := Lib.hid hY6
            clear hY6
            clear hW6 hS5 k5 f5 hsame hrow hO5 hg5 ho5 hbO3 hov3 hok3 hR3 hE3 hE3' hSx hqb hBb hok hov hbO
            have Hr := Lib.hid hR6
            have HT := Lib.hid (show (TS ++ (ss.drop (j + 1)).take (k - (j + 1)) ++ [(⟨sA, sc, sb⟩ : Sl)]).length = q + 1 from by rw [List.length_append, HT.out]; rfl)
            clear hR6
            go_wp2_with fail
            obtain ⟨Ao, co, Aw, cw, hbO, hok, hov⟩ := Hr.out.ex
            rw [HT.out, HV.out] at hbO
            have hOl := Hr.out.lt
            have hsz := Hr.out.size
            have hBb := (Hr.out.kb Bl (by omega) (by omega)).trans HBl.out
            have hqb := (Hr.out.kb b' (by omega) (by omega)).trans (Hb1.out b' (by omega))
            have c0 : W6.cell? ⟨O, 1, none⟩ = some (.slice Aw q cw) := (cell_of_row W6 O 1 _ _ (0, 0) hbO).trans rfl
            have c1 : W6.cell? ⟨Bl, 1, none⟩ = some (.slice (some ⟨b', o', none⟩) n cv) := (cell_of_row W6 Bl 1 _ _ (0, 0) hBb).trans rfl
            have c2 : W6.cell? ⟨b', o' + k, none⟩ = some (.int .i64 xv) := (World.cell?_of_block (w := w) (a := ⟨b', o' + k, none⟩) hqb).trans hcv
            have hSx : ∀ W9, Ext W6 W9 → W9.cell? ⟨O, 1, none⟩ = some (.slice Aw q cw) ∧ W9.cell? ⟨Bl, 1, none⟩ = some (.slice (some ⟨b', o', none⟩) n cv) ∧ W9.cell? ⟨b', o' + k, none⟩ = some (.int .i64 xv) := fun W9 h => ⟨(Below.cell h (p := ⟨O, 1, none⟩) (by show O < _; omega)).trans c0, (Below.cell h (p := ⟨Bl, 1, none⟩) (by show Bl < _; omega)).trans c1, (Below.cell h (p := ⟨b', o' + k, none⟩) (by show b' < _; omega)).trans c2⟩
            clear c0 c1 c2
            refine wp_region_T (S := fun W9 => W9.cell? ⟨O, 1, none⟩ = some (.slice Aw q cw) ∧ W9.cell? ⟨Bl, 1, none⟩ = some (.slice (some ⟨b', o', none⟩) n cv) ∧ W9.cell? ⟨b', o' + k, none⟩ = some (.int .i64 xv)) (late := fun k => k == 9 || k == 10) (by kernel_rfl) ?_
            refine wpAnyT_take (i := 0) (v := ?_) rfl (by kernel_rfl) (by kernel_rfl) (by kernel_rfl) (by kernel_rfl) (fun _ _ _ h => h) (Or.inl ⟨by rfl, ?_⟩) (by exact hSx _ (Ext.refl _).drew) ?_
            rotate_left
            · (intro w hSw; (try dsimp only at hSw); (try (obtain ⟨hS1, hS2, hS3⟩ := hSw)); go_simp; (try with_reducible rfl))
            (try (simp only [Act.put, List.getElem_toArray, List.getElem_cons_zero, List.setIfInBounds_toArray, List.set_cons_zero, List.set_cons_succ]))
            refine wpAnyT_take (i := 1) (v := ?_) rfl (by kernel_rfl) (by kernel_rfl) (by kernel_rfl) (by kernel_rfl) (fun _ _ _ h => h) (Or.inl ⟨by rfl, ?_⟩) (by exact hSx _ (Ext.refl _).drew) ?_
            rotate_left
            · (intro w hSw; (try dsimp only at hSw); (try (obtain ⟨hS1, hS2, hS3⟩ := hSw)); go_simp; (try with_reducible rfl))
            (try (simp only [Act.put, List.getElem_toArray, List.getElem_cons_zero, List.getElem_cons_succ, List.setIfInBounds_toArray, List.set_cons_zero, List.set_cons_succ]))
            refine wpAnyT_take (i := 2) (v := ?_) rfl (by kernel_rfl) (by kernel_rfl) (by kernel_rfl) (by kernel_rfl) (fun _ _ _ h => h) (Or.inl ⟨by rfl, ?_⟩) (by exact hSx _ (Ext.refl _).drew) ?_
            rotate_left
            · (intro w hSw; (try dsimp only at hSw); (try (obtain ⟨hS1, hS2, hS3⟩ := hSw)); go_simp; (try with_reducible rfl))
            (try (simp only [Act.put, List.getElem_toArray, List.getElem_cons_zero, List.getElem_cons_succ, List.setIfInBounds_toArray, List.set_cons_zero, List.set_cons_succ]))
            refine wpAnyT_take (i := 3) (v := ?_) rfl (by kernel_rfl) (by kernel_rfl) (by kernel_rfl) (by kernel_rfl) (fun _ _ _ h => h) (Or.inl ⟨by rfl, ?_⟩) (by exact hSx _ (Ext.refl _).drew) ?_
            rotate_left
            · (intro w hSw; (try dsimp only at hSw); (try (obtain ⟨hS1, hS2, hS3⟩ := hSw)); go_simp; (try with_reducible rfl))
            (try (simp only [Act.put, List.getElem_toArray, List.getElem_cons_zero, List.getElem_cons_succ, List.setIfInBounds_toArray, List.set_cons_zero, List.set_cons_succ]))
            refine wpAnyT_take (i := 4) (v := ?_) rfl (by kernel_rfl) (by kernel_rfl) (by kernel_rfl) (by kernel_rfl) (fun _ _ _ h => h) (Or.inl ⟨by rfl, ?_⟩) (by exact hSx _ (Ext.refl _).drew) ?_
            rotate_left
            · (intro w hSw; (try dsimp only at hSw); (try (obtain ⟨hS1, hS2, hS3⟩ := hSw)); go_simp; (try with_reducible rfl))
            (try (simp only [Act.put, List.getElem_toArray, List.getElem_cons_zero, List.getElem_cons_succ, List.setIfInBounds_toArray, List.set_cons_zero, List.set_cons_succ]))
            refine wpAnyT_take (i := 5) (v := ?_) rfl (by kernel_rfl) (by kernel_rfl) (by kernel_rfl) (by kernel_rfl) (fun _ _ _ h => h) (Or.inl ⟨by rfl, ?_⟩) (by exact hSx _ (Ext.refl _).drew) ?_
            rotate_left
            · (intro w hSw; (try dsimp only at hSw); (try (obtain ⟨hS1, hS2, hS3⟩ := hSw)); go_simp; (try with_reducible rfl))
            (try (simp only [Act.put, List.getElem_toArray, List.getElem_cons_zero, List.getElem_cons_succ, List.setIfInBounds_toArray, List.set_cons_zero, List.set_cons_succ]))
            refine wpAnyT_take (i := 6) (v := ?_) rfl (by kernel_rfl) (by kernel_rfl) (by kernel_rfl) (by kernel_rfl) (fun _ _ _ h => h) (Or.inl ⟨by rfl, ?_⟩) (by exact hSx _ (Ext.refl _).drew) ?_
            rotate_left
            · (intro w hSw; (try dsimp only at hSw); (try (obtain ⟨hS1, hS2, hS3⟩ := hSw)); go_simp; (try with_reducible rfl))
            (try (simp only [Act.put, List.getElem_toArray, List.getElem_cons_zero, List.getElem_cons_succ, List.setIfInBounds_toArray, List.set_cons_zero, List.set_cons_succ]))
            refine wpAnyT_step (i := 7) (by kernel_rfl) rfl rfl ?_
            go_simp
            have hE3' : Ext W6 (W6.alloc (.cells #[(.int .i64 xv)] 3)) := (Ext.refl W6).alloc _
            have hE3 := hE3'.drew
            have hR3 := Hr.out.ext hE3
            have hok3 := hok.ext hE3
            have hov3 := hov.ext hE3
            have hbO3 := (hE3.block O (by omega)).trans hbO
            refine ⟨by first | exact fun _ => hSx _ hE3' | exact hSx _ hE3', ?_⟩
            (try (simp only [Act.put, List.getElem_toArray, List.getElem_cons_zero, List.getElem_cons_succ, List.setIfInBounds_toArray, List.set_cons_zero, List.set_cons_succ]))
            refine wpAnyT_step (i := 8) (by kernel_rfl) rfl rfl ?_
            refine wp_pushK shZ xv 3 _ _ 45 rfl _ 8 Try.underlying45 Try.infoInt18 rfl hov3 q HV.out rfl rfl (heap_alloc_new _ _) (by omega) (by decide) hR3.size ?_
            intro A5 c5 W5 ho5 hg5 _
            have hg5 := gk hg5
            obtain ⟨hR6, hO5⟩ := hR3.pushV (by rw [HT.out, HV.out]; exact hbO3) hok3 hov3 ho5 hg5
            rw [HT.out, HV.out] at hO5
            rw [HV.out] at hR6
            have hrow : ∀ r, Aw.map (·.block) = some r → w1.heap.size ≤ r := fun r e => by obtain ⟨a, ha, rfl⟩ := Option.map_eq_some_iff.1 e; exact (hov.block a ha).1
            have hsame : ∀ q, q < w1.heap.size → W5.heap[q]? = W6.heap[q]? := fun q hq => (hg5.block q (by have := hE3.size; omega) (fun e => by have := hrow q e.symm; omega)).trans (hE3.block q (by omega))
            have k5 : W5.cell? ⟨O, 1, none⟩ = some (.slice Aw q cw) := (cell_of_row W5 O 1 _ _ (0, 0) hO5).trans rfl
            have f5 : W5.frozen? ⟨O, 1, none⟩ = false := by simp [World.frozen?, hO5]
            have hS5 : (fun W9 => W9.cell? ⟨O, 1, none⟩ = some (.slice Aw q cw) ∧ W9.cell? ⟨Bl, 1, none⟩ = some (.slice (some ⟨b', o', none⟩) n cv) ∧ W9.cell? ⟨b', o' + k, none⟩ = some (.int .i64 xv)) W5 := ⟨k5, (cell_of_row W5 Bl 1 _ _ (0, 0) ((hsame Bl (by omega)).trans hBb)).trans rfl, (World.cell?_of_block (w := w) (a := ⟨b', o' + k, none⟩) ((hsame b' (by omega)).trans hqb)).trans hcv⟩
            refine ⟨by first | exact fun _ => hS5 | exact hS5, ?_⟩
            (try (simp only [Act.put, List.getElem_toArray, List.getElem_cons_zero, List.getElem_cons_succ, List.setIfInBounds_toArray, List.set_cons_zero, List.set_cons_succ]))
            refine wpAnyT_step (i := 9) (by kernel_rfl) rfl rfl ?_
            go_simp
            (try (simp only [Act.put, List.getElem_toArray, List.getElem_cons_zero, List.getElem_cons_succ, List.setIfInBounds_toArray, List.set_cons_zero, List.set_cons_succ]))
            refine wpAnyT_step (i := 10) (by kernel_rfl) rfl rfl ?_
            go_simp
            refine wpAnyT_done (by kernel_rfl) ?_ _
            have hY6 := own8_push (k := 1) (u := .slice A5 (q + 1) c5) HY.out hE3 (by decide) hov3.cellsAt hg5 hO5
            obtain ⟨W7, hW7⟩ : ∃ W, W = W5.setCell ⟨O, 1, none⟩ (.slice A5 (q + 1) c5) := ⟨_, rfl⟩
            rw [← hW7] at hR6 hY6 ⊢
            have HY := Lib.hid hY6
            clear hY6
            clear hW7 hS5 k5 f5 hsame hrow hO5 hg5 ho5 hbO3 hov3 hok3 hR3 hE3 hE3' hSx hqb hBb hok hov hbO
            go_wp2_with fail
            go_roundw
            case rel => exact ⟨k + 1, by omega, by omega, by go_num, Lib.hid (by rw [HN.out.1, HN.out.2, ← List.append_assoc, ← List.append_assoc]; exact hR6), HY⟩
            case measure => simp [intOf]; omega
          · obtain rfl : k = n := by omega
            obtain ⟨Af, cf, Ag, cg, hbf, hof, hog⟩ := Hr.out.ex
            have hb9 := (Hr.out.kb (Bl + 1) (by rw [hz1]; omega) (by omega)).trans HB2.out
            obtain ⟨FN, hFN⟩ : ∃ FN, FN = (TS ++ (ss.drop (j + 1)).take (k - (j + 1))).length := ⟨_, rfl⟩
            obtain ⟨FM, hFM⟩ : ∃ FM, FM = (VS ++ (V.drop (j + 1)).take (k - (j + 1))).length := ⟨_, rfl⟩
            have Hf := Lib.hid (show OwnT wr w1.heap.size Af cf (TS ++ (ss.drop (j + 1)).take (k - (j + 1))) ∧ OwnG shZ 3 wr w1.heap.size Ag cg (VS ++ (V.drop (j + 1)).take (k - (j + 1))) from ⟨hof, hog⟩)
            rw [← hFN, ← hFM] at hbf
            have HFN := Lib.hid hFN
            have HFM := Lib.hid hFM
            have Hb9 := Lib.hid hb9
            have Hbf := Lib.hid hbf
            clear hof hog hFN hFM hb9 hbf
            go_wp2_with (first
              | (refine wpList_load_row rfl 51 _ rfl O rfl 51 #[.slice Af FN cf, .slice Ag FM cg] (0, 0) _ Hbf.out Try.underlying51 rfl (by kernel_rfl) ?_)
              | (refine wpList_store_row rfl 51 _ _ rfl (Bl + 1) #[.slice Af FN cf, .slice Ag FM cg] rfl rfl 51 #[.slice none 0 0, .slice none 0 0] Hb9.out (by kernel_rfl) rfl (by simp [Value.oneCell']) ?_)
              | fail)
            apply bodyPost_ret
            · exact results_s2 rfl _ _ (Bl + 1) 51 #[.slice Af FN cf, .slice Ag FM cg] (0, 0) _ rfl (setRow_heap wr (Bl + 1) _ _ 51 (0, 0) Hb9.out) Try.underlying51 rfl (by kernel_rfl)
            · rfl
            have hfull : (ss.drop (j + 1)).take (k - (j + 1)) = ss.drop (j + 1) := List.take_of_length_le (by rw [List.length_drop, Hk.out.1]; exact Nat.le_refl _)
            have hfullV : (V.drop (j + 1)).take (k - (j + 1)) = V.drop (j + 1) := List.take_of_length_le (by rw [List.length_drop, Hv.out.len]; exact Nat.le_refl _)
            have hDs := HD.out
            rw [HDf.out] at hDs
            have hput := put_yes (V := V) (v := v) (by rw [Hv.out.len, bodies_len, Hk.out.1]) (of_decide_eq_true hDs.symm)
            rw [HFN.out, HFM.out]
            refine rput_fin HE1.out Hr.out HBlw.out.symm (by omega) hwO Hf.out.1 Hf.out.2 HY.out ?_ ?_ ?_ Hb9.out _
            · intro s hs
              rw [HTS.out] at hs
              rcases List.mem_append.1 hs with hs | hs
              · rcases List.mem_append.1 hs with hs | hs
                · exact .inl (List.mem_of_mem_take hs)
                · exact .inr (List.mem_singleton.1 hs)
              · exact .inl (List.mem_of_mem_drop (List.mem_of_mem_take hs))
            · rw [← hput.1, hfull, HTS.out, ← HS.out]
              unfold bodies
              simp [List.map_take, List.map_drop]
            · rw [← hput.2, hfullV, HVS.out, ← HS.out]
              simp
      · rename D = false => hDx
        have HDf : Hid (D = false) := Lib.hid hDx
        clear hDx
        have hF : j ≤ n := by omega
        have HTa := Lib.hid (show (ss.take j ++ [(⟨A2, c2, t⟩ : Sl)]).length = j + 1 from by rw [List.length_append, HT.out]; rfl)
        have HVa := Lib.hid (show (V.take j ++ [v]).length = j + 1 from by rw [List.length_append, HV.out]; rfl)
        have HR9 := Lib.hid hR9
        have HY9 := Lib.hid (own8_push (k := 1) (u := .slice A8 (j + 1) c8) HY6.out ((Ext.refl W6).alloc (.cells #[.int .i64 v] 3)) (by decide) hov7.cellsAt hgm hO9)
        clear hR9 hO9 k8 f8 hgm hg8 hb8 hz8 ho8 Hb7 hov7 hok7 hR7 HR6 e1 HT HV Hr
        obtain ⟨TS, hTS⟩ : ∃ TS, TS = ss.take j ++ [(⟨A2, c2, t⟩ : Sl)] := ⟨_, rfl⟩
        obtain ⟨VS, hVS⟩ : ∃ VS, VS = V.take j ++ [v] := ⟨_, rfl⟩
        rw [← hTS] at HR9 HTa
        rw [← hVS] at HR9 HVa
        have HTS := Lib.hid hTS
        have HVS := Lib.hid hVS
        clear hTS hVS
        go_loopw [13] (fun i wr => ∃ k : Nat, j ≤ k ∧ k ≤ n ∧ i = .int .i64 (k : Int) ∧ Hid (RO w1 wr O (TS ++ (ss.drop (j)).take (k - (j))) (VS ++ (V.drop (j)).take (k - (j)))) ∧ Hid (Own .u8 5 wr w1.heap.size A2 c2 t)) (fun i _ => n - (intOf i).toNat)
        case atStart => exact ⟨j, Nat.le_refl _, hF, by go_num, Lib.hid (by rw [Nat.sub_self, List.take_zero, List.take_zero, List.append_nil, List.append_nil]; exact HR9.out), HY9⟩
        case round =>
          obtain ⟨k, hk1, hk2, rfl, Hr, HY⟩ := hrel
          have hzr := Hr.out.size
          have hBb0 := (Hr.out.kb Bl (by rw [hz1]; omega) (by omega)).trans HBl.out
          have d0 := cell_of_row _ Bl 0 _ _ (0, 0) hBb0
          clear hBb0
          by_cases hlt : k < n
          · have hkI : (k : Int) < (n : Int) := by omega
            obtain ⟨b, o, eA, hbw, hcA⟩ := Hk.out.2 (by omega)
            subst eA
            obtain ⟨b', o', eA, hbw', hcv⟩ := Hv.out.atZ hlt
            subst eA
            obtain ⟨s, hsj⟩ : ∃ s, ss[k]? = some s := ⟨ss[k]'(by have := Hk.out.1; omega), List.getElem?_eq_getElem _⟩
            have hc := hcA k s hsj
            obtain ⟨xv, hxv⟩ : ∃ xv, xv = V.getD k 0 := ⟨_, rfl⟩
            rw [← hxv] at hcv
            have HN := Lib.hid (show (ss.drop (j)).take (k + 1 - (j)) = (ss.drop (j)).take (k - (j)) ++ [s] ∧ (V.drop (j)).take (k + 1 - (j)) = (V.drop (j)).take (k - (j)) ++ [xv] from by
              rw [show k + 1 - (j) = (k - (j)) + 1 by omega, List.take_add_one, List.take_add_one, List.getElem?_drop, List.getElem?_drop, show j + (k - (j)) = k by omega, hsj, show V[k]? = some xv from by rw [hxv, List.getD, List.getElem?_eq_getElem (by have := Hv.out.len; omega)]; rfl]
              exact ⟨rfl, rfl⟩)
            obtain ⟨sA, sc, sb⟩ := s
            obtain ⟨sn, hsn⟩ : ∃ sn, sn = sb.length := ⟨_, rfl⟩
            have Hsn := Lib.hid hsn
            unfold Sl.v at hc
            simp only at hc
            rw [← hsn] at hc
            obtain ⟨q, hq⟩ : ∃ q, q = j + 1 + (k - (j)) := ⟨_, rfl⟩
            have hqb : q ≤ 1048577 := by omega
            have HT := Lib.hid (show (TS ++ (ss.drop (j)).take (k - (j))).length = q from by rw [List.length_append, HTa.out, List.length_take, List.length_drop, hq]; have := Hk.out.1; omega)
            have HV := Lib.hid (show (VS ++ (V.drop (j)).take (k - (j))).length = q from by rw [List.length_append, HVa.out, List.length_take, List.length_drop, hq]; have := Hv.out.len; omega)
            clear hsn hxv hsj hcA hq
            go_wp2_with fail
            obtain ⟨Ao, co, Aw, cw, hbO, hok, hov⟩ := Hr.out.ex
            rw [HT.out, HV.out] at hbO
            have hOl := Hr.out.lt
            have hsz := Hr.out.size
            have hBb := (Hr.out.kb Bl (by omega) (by omega)).trans HBl.out
            have hqb := (Hr.out.kb b (by omega) (by omega)).trans (Hb1.out b (by omega))
            have c0 : wr.cell? ⟨O, 0, none⟩ = some (.slice Ao q co) := (cell_of_row wr O 0 _ _ (0, 0) hbO).trans rfl
            have c1 : wr.cell? ⟨Bl, 0, none⟩ = some (.slice (some ⟨b, o, none⟩) n ck) := (cell_of_row wr Bl 0 _ _ (0, 0) hBb).trans rfl
            have c2 : wr.cell? ⟨b, o + k, none⟩ = some (.slice sA sn sc) := (World.cell?_of_block (w := w) (a := ⟨b, o + k, none⟩) hqb).trans hc
            have hSx : ∀ W9, Ext wr W9 → W9.cell? ⟨O, 0, none⟩ = some (.slice Ao q co) ∧ W9.cell? ⟨Bl, 0, none⟩ = some (.slice (some ⟨b, o, none⟩) n ck) ∧ W9.cell? ⟨b, o + k, none⟩ = some (.slice sA sn sc) := fun W9 h => ⟨(Below.cell h (p := ⟨O, 0, none⟩) (by show O < _; omega)).trans c0, (Below.cell h (p := ⟨Bl, 0, none⟩) (by show Bl < _; omega)).trans c1, (Below.cell h (p := ⟨b, o + k, none⟩) (by show b < _; omega)).trans c2⟩
            clear c0 c1 c2
            refine wp_region_T (S := fun W9 => W9.cell? ⟨O, 0, none⟩ = some (.slice Ao q co) ∧ W9.cell? ⟨Bl, 0, none⟩ = some (.slice (some ⟨b, o, none⟩) n ck) ∧ W9.cell? ⟨b, o + k, none⟩ = some (.slice sA sn sc)) (late := fun k => k == 9 || k == 10) (by kernel_rfl) ?_
            refine wpAnyT_take (i := 0) (v := ?_) rfl (by kernel_rfl) (by kernel_rfl) (by kernel_rfl) (by kernel_rfl) (fun _ _ _ h => h) (Or.inl ⟨by rfl, ?_⟩) (by exact hSx _ (Ext.refl _).drew) ?_
            rotate_left
            · (intro w hSw; (try dsimp only at hSw); (try (obtain ⟨hS1, hS2, hS3⟩ := hSw)); go_simp; (try with_reducible rfl))
            (try (simp only [Act.put, List.getElem_toArray, List.getElem_cons_zero, List.setIfInBounds_toArray, List.set_cons_zero, List.set_cons_succ]))
            refine wpAnyT_take (i := 1) (v := ?_) rfl (by kernel_rfl) (by kernel_rfl) (by kernel_rfl) (by kernel_rfl) (fun _ _ _ h => h) (Or.inl ⟨by rfl, ?_⟩) (by exact hSx _ (Ext.refl _).drew) ?_
            rotate_left
            · (intro w hSw; (try dsimp only at hSw); (try (obtain ⟨hS1, hS2, hS3⟩ := hSw)); go_simp; (try with_reducible rfl))
            (try (simp only [Act.put, List.getElem_toArray, List.getElem_cons_zero, List.getElem_cons_succ, List.setIfInBounds_toArray, List.set_cons_zero, List.set_cons_succ]))
            refine wpAnyT_take (i := 2) (v := ?_) rfl (by kernel_rfl) (by kernel_rfl) (by kernel_rfl) (by kernel_rfl) (fun _ _ _ h => h) (Or.inl ⟨by rfl, ?_⟩) (by exact hSx _ (Ext.refl _).drew) ?_
            rotate_left
            · (intro w hSw; (try dsimp only at hSw); (try (obtain ⟨hS1, hS2, hS3⟩ := hSw)); go_simp; (try with_reducible rfl))
            (try (simp only [Act.put, List.getElem_toArray, List.getElem_cons_zero, List.getElem_cons_succ, List.setIfInBounds_toArray, List.set_cons_zero, List.set_cons_succ]))
            refine wpAnyT_take (i := 3) (v := ?_) rfl (by kernel_rfl) (by kernel_rfl) (by kernel_rfl) (by kernel_rfl) (fun _ _ _ h => h) (Or.inl ⟨by rfl, ?_⟩) (by exact hSx _ (Ext.refl _).drew) ?_
            rotate_left
            · (intro w hSw; (try dsimp only at hSw); (try (obtain ⟨hS1, hS2, hS3⟩ := hSw)); go_simp; (try with_reducible rfl))
            (try (simp only [Act.put, List.getElem_toArray, List.getElem_cons_zero, List.getElem_cons_succ, List.setIfInBounds_toArray, List.set_cons_zero, List.set_cons_succ]))
            refine wpAnyT_take (i := 4) (v := ?_) rfl (by kernel_rfl) (by kernel_rfl) (by kernel_rfl) (by kernel_rfl) (fun _ _ _ h => h) (Or.inl ⟨by rfl, ?_⟩) (by exact hSx _ (Ext.refl _).drew) ?_
            rotate_left
            · (intro w hSw; (try dsimp only at hSw); (try (obtain ⟨hS1, hS2, hS3⟩ := hSw)); go_simp; (try with_reducible rfl))
            (try (simp only [Act.put, List.getElem_toArray, List.getElem_cons_zero, List.getElem_cons_succ, List.setIfInBounds_toArray, List.set_cons_zero, List.set_cons_succ]))
            refine wpAnyT_take (i := 5) (v := ?_) rfl (by kernel_rfl) (by kernel_rfl) (by kernel_rfl) (by kernel_rfl) (fun _ _ _ h => h) (Or.inl ⟨by rfl, ?_⟩) (by exact hSx _ (Ext.refl _).drew) ?_
            rotate_left
            · (intro w hSw; (try dsimp only at hSw); (try (obtain ⟨hS1, hS2, hS3⟩ := hSw)); go_simp; (try with_reducible rfl))
            (try (simp only [Act.put, List.getElem_toArray, List.getElem_cons_zero, List.getElem_cons_succ, List.setIfInBounds_toArray, List.set_cons_zero, List.set_cons_succ]))
            refine wpAnyT_take (i := 6) (v := ?_) rfl (by kernel_rfl) (by kernel_rfl) (by kernel_rfl) (by kernel_rfl) (fun _ _ _ h => h) (Or.inl ⟨by rfl, ?_⟩) (by exact hSx _ (Ext.refl _).drew) ?_
            rotate_left
            · (intro w hSw; (try dsimp only at hSw); (try (obtain ⟨hS1, hS2, hS3⟩ := hSw)); go_simp; (try with_reducible rfl))
            (try (simp only [Act.put, List.getElem_toArray, List.getElem_cons_zero, List.getElem_cons_succ, List.setIfInBounds_toArray, List.set_cons_zero, List.set_cons_succ]))
            refine wpAnyT_step (i := 7) (by kernel_rfl) rfl rfl ?_
            go_simp
            have hE3' : Ext wr (wr.alloc (.cells #[(.slice sA sn sc)] 52)) := (Ext.refl wr).alloc _
            have hE3 := hE3'.drew
            have hR3 := Hr.out.ext hE3
            have hok3 := hok.ext hE3
            have hov3 := hov.ext hE3
            have hbO3 := (hE3.block O (by omega)).trans hbO
            refine ⟨by first | exact fun _ => hSx _ hE3' | exact hSx _ hE3', ?_⟩
            (try (simp only [Act.put, List.getElem_toArray, List.getElem_cons_zero, List.getElem_cons_succ, List.setIfInBounds_toArray, List.set_cons_zero, List.set_cons_succ]))
            refine wpAnyT_step (i := 8) (by kernel_rfl) rfl rfl ?_
            refine wp_pushK shS ⟨sA, sc, sb⟩ 52 _ _ 49 rfl _ 24 Try.underlying49 Try.infoS rfl hok3 q HT.out rfl rfl ((heap_alloc_new _ _).trans (by rw [Hsn.out]; rfl)) (by omega) (by decide) hR3.size ?_
            intro A5 c5 W5 ho5 hg5 _
            have hg5 := gk hg5
            obtain ⟨hR6, hO5⟩ := hR3.pushK (by rw [HT.out, HV.out]; exact hbO3) hok3 hov3 ho5 hg5
            rw [HT.out, HV.out] at hO5
            rw [HT.out] at hR6
            have hrow : ∀ r, Ao.map (·.block) = some r → w1.heap.size ≤ r := fun r e => by obtain ⟨a, ha, rfl⟩ := Option.map_eq_some_iff.1 e; exact (hok.block a ha).1
            have hsame : ∀ q, q < w1.heap.size → W5.heap[q]? = wr.heap[q]? := fun q hq => (hg5.block q (by have := hE3.size; omega) (fun e => by have := hrow q e.symm; omega)).trans (hE3.block q (by omega))
            have k5 : W5.cell? ⟨O, 0, none⟩ = some (.slice Ao q co) := (cell_of_row W5 O 0 _ _ (0, 0) hO5).trans rfl
            have f5 : W5.frozen? ⟨O, 0, none⟩ = false := by simp [World.frozen?, hO5]
            have hS5 : (fun W9 => W9.cell? ⟨O, 0, none⟩ = some (.slice Ao q co) ∧ W9.cell? ⟨Bl, 0, none⟩ = some (.slice (some ⟨b, o, none⟩) n ck) ∧ W9.cell? ⟨b, o + k, none⟩ = some (.slice sA sn sc)) W5 := ⟨k5, (cell_of_row W5 Bl 0 _ _ (0, 0) ((hsame Bl (by omega)).trans hBb)).trans rfl, (World.cell?_of_block (w := w) (a := ⟨b, o + k, none⟩) ((hsame b (by omega)).trans hqb)).trans hc⟩
            refine ⟨by first | exact fun _ => hS5 | exact hS5, ?_⟩
            (try (simp only [Act.put, List.getElem_toArray, List.getElem_cons_zero, List.getElem_cons_succ, List.setIfInBounds_toArray, List.set_cons_zero, List.set_cons_succ]))
            refine wpAnyT_step (i := 9) (by kernel_rfl) rfl rfl ?_
            go_simp
            (try (simp only [Act.put, List.getElem_toArray, List.getElem_cons_zero, List.getElem_cons_succ, List.setIfInBounds_toArray, List.set_cons_zero, List.set_cons_succ]))
            refine wpAnyT_step (i := 10) (by kernel_rfl) rfl rfl ?_
            go_simp
            refine wpAnyT_done (by kernel_rfl) ?_ _
            have hY6 := own8_push (k := 0) (u := .slice A5 (q + 1) c5) HY.out hE3 (by decide) hok3.cellsAt hg5 hO5
            obtain ⟨W6, hW6⟩ : ∃ W, W = W5.setCell ⟨O, 0, none⟩ (.slice A5 (q + 1) c5) := ⟨_, rfl⟩
            rw [← hW6] at hR6 hY6 ⊢
            have HY := Lib.hid hY6
            clear hY6
            clear hW6 hS5 k5 f5 hsame hrow hO5 hg5 ho5 hbO3 hov3 hok3 hR3 hE3 hE3' hSx hqb hBb hok hov hbO
            have Hr := Lib.hid hR6
            have HT := Lib.hid (show (TS ++ (ss.drop (j)).take (k - (j)) ++ [(⟨sA, sc, sb⟩ : Sl)]).length = q + 1 from by rw [List.length_append, HT.out]; rfl)
            clear hR6
            go_wp2_with fail
            obtain ⟨Ao, co, Aw, cw, hbO, hok, hov⟩ := Hr.out.ex
            rw [HT.out, HV.out] at hbO
            have hOl := Hr.out.lt
            have hsz := Hr.out.size
            have hBb := (Hr.out.kb Bl (by omega) (by omega)).trans HBl.out
            have hqb := (Hr.out.kb b' (by omega) (by omega)).trans (Hb1.out b' (by omega))
            have c0 : W6.cell? ⟨O, 1, none⟩ = some (.slice Aw q cw) := (cell_of_row W6 O 1 _ _ (0, 0) hbO).trans rfl
            have c1 : W6.cell? ⟨Bl, 1, none⟩ = some (.slice (some ⟨b', o', none⟩) n cv) := (cell_of_row W6 Bl 1 _ _ (0, 0) hBb).trans rfl
            have c2 : W6.cell? ⟨b', o' + k, none⟩ = some (.int .i64 xv) := (World.cell?_of_block (w := w) (a := ⟨b', o' + k, none⟩) hqb).trans hcv
            have hSx : ∀ W9, Ext W6 W9 → W9.cell? ⟨O, 1, none⟩ = some (.slice Aw q cw) ∧ W9.cell? ⟨Bl, 1, none⟩ = some (.slice (some ⟨b', o', none⟩) n cv) ∧ W9.cell? ⟨b', o' + k, none⟩ = some (.int .i64 xv) := fun W9 h => ⟨(Below.cell h (p := ⟨O, 1, none⟩) (by show O < _; omega)).trans c0, (Below.cell h (p := ⟨Bl, 1, none⟩) (by show Bl < _; omega)).trans c1, (Below.cell h (p := ⟨b', o' + k, none⟩) (by show b' < _; omega)).trans c2⟩
            clear c0 c1 c2
            refine wp_region_T (S := fun W9 => W9.cell? ⟨O, 1, none⟩ = some (.slice Aw q cw) ∧ W9.cell? ⟨Bl, 1, none⟩ = some (.slice (some ⟨b', o', none⟩) n cv) ∧ W9.cell? ⟨b', o' + k, none⟩ = some (.int .i64 xv)) (late := fun k => k == 9 || k == 10) (by kernel_rfl) ?_
            refine wpAnyT_take (i := 0) (v := ?_) rfl (by kernel_rfl) (by kernel_rfl) (by kernel_rfl) (by kernel_rfl) (fun _ _ _ h => h) (Or.inl ⟨by rfl, ?_⟩) (by exact hSx _ (Ext.refl _).drew) ?_
            rotate_left
            · (intro w hSw; (try dsimp only at hSw); (try (obtain ⟨hS1, hS2, hS3⟩ := hSw)); go_simp; (try with_reducible rfl))
            (try (simp only [Act.put, List.getElem_toArray, List.getElem_cons_zero, List.setIfInBounds_toArray, List.set_cons_zero, List.set_cons_succ]))
            refine wpAnyT_take (i := 1) (v := ?_) rfl (by kernel_rfl) (by kernel_rfl) (by kernel_rfl) (by kernel_rfl) (fun _ _ _ h => h) (Or.inl ⟨by rfl, ?_⟩) (by exact hSx _ (Ext.refl _).drew) ?_
            rotate_left
            · (intro w hSw; (try dsimp only at hSw); (try (obtain ⟨hS1, hS2, hS3⟩ := hSw)); go_simp; (try with_reducible rfl))
            (try (simp only [Act.put, List.getElem_toArray, List.getElem_cons_zero, List.getElem_cons_succ, List.setIfInBounds_toArray, List.set_cons_zero, List.set_cons_succ]))
            refine wpAnyT_take (i := 2) (v := ?_) rfl (by kernel_rfl) (by kernel_rfl) (by kernel_rfl) (by kernel_rfl) (fun _ _ _ h => h) (Or.inl ⟨by rfl, ?_⟩) (by exact hSx _ (Ext.refl _).drew) ?_
            rotate_left
            · (intro w hSw; (try dsimp only at hSw); (try (obtain ⟨hS1, hS2, hS3⟩ := hSw)); go_simp; (try with_reducible rfl))
            (try (simp only [Act.put, List.getElem_toArray, List.getElem_cons_zero, List.getElem_cons_succ, List.setIfInBounds_toArray, List.set_cons_zero, List.set_cons_succ]))
            refine wpAnyT_take (i := 3) (v := ?_) rfl (by kernel_rfl) (by kernel_rfl) (by kernel_rfl) (by kernel_rfl) (fun _ _ _ h => h) (Or.inl ⟨by rfl, ?_⟩) (by exact hSx _ (Ext.refl _).drew) ?_
            rotate_left
            · (intro w hSw; (try dsimp only at hSw); (try (obtain ⟨hS1, hS2, hS3⟩ := hSw)); go_simp; (try with_reducible rfl))
            (try (simp only [Act.put, List.getElem_toArray, List.getElem_cons_zero, List.getElem_cons_succ, List.setIfInBounds_toArray, List.set_cons_zero, List.set_cons_succ]))
            refine wpAnyT_take (i := 4) (v := ?_) rfl (by kernel_rfl) (by kernel_rfl) (by kernel_rfl) (by kernel_rfl) (fun _ _ _ h => h) (Or.inl ⟨by rfl, ?_⟩) (by exact hSx _ (Ext.refl _).drew) ?_
            rotate_left
            · (intro w hSw; (try dsimp only at hSw); (try (obtain ⟨hS1, hS2, hS3⟩ := hSw)); go_simp; (try with_reducible rfl))
            (try (simp only [Act.put, List.getElem_toArray, List.getElem_cons_zero, List.getElem_cons_succ, List.setIfInBounds_toArray, List.set_cons_zero, List.set_cons_succ]))
            refine wpAnyT_take (i := 5) (v := ?_) rfl (by kernel_rfl) (by kernel_rfl) (by kernel_rfl) (by kernel_rfl) (fun _ _ _ h => h) (Or.inl ⟨by rfl, ?_⟩) (by exact hSx _ (Ext.refl _).drew) ?_
            rotate_left
            · (intro w hSw; (try dsimp only at hSw); (try (obtain ⟨hS1, hS2, hS3⟩ := hSw)); go_simp; (try with_reducible rfl))
            (try (simp only [Act.put, List.getElem_toArray, List.getElem_cons_zero, List.getElem_cons_succ, List.setIfInBounds_toArray, List.set_cons_zero, List.set_cons_succ]))
            refine wpAnyT_take (i := 6) (v := ?_) rfl (by kernel_rfl) (by kernel_rfl) (by kernel_rfl) (by kernel_rfl) (fun _ _ _ h => h) (Or.inl ⟨by rfl, ?_⟩) (by exact hSx _ (Ext.refl _).drew) ?_
            rotate_left
            · (intro w hSw; (try dsimp only at hSw); (try (obtain ⟨hS1, hS2, hS3⟩ := hSw)); go_simp; (try with_reducible rfl))
            (try (simp only [Act.put, List.getElem_toArray, List.getElem_cons_zero, List.getElem_cons_succ, List.setIfInBounds_toArray, List.set_cons_zero, List.set_cons_succ]))
            refine wpAnyT_step (i := 7) (by kernel_rfl) rfl rfl ?_
            go_simp
            have hE3' : Ext W6 (W6.alloc (.cells #[(.int .i64 xv)] 3)) := (Ext.refl W6).alloc _
            have hE3 := hE3'.drew
            have hR3 := Hr.out.ext hE3
            have hok3 := hok.ext hE3
            have hov3 := hov.ext hE3
            have hbO3 := (hE3.block O (by omega)).trans hbO
            refine ⟨by first | exact fun _ => hSx _ hE3' | exact hSx _ hE3', ?_⟩
            (try (simp only [Act.put, List.getElem_toArray, List.getElem_cons_zero, List.getElem_cons_succ, List.setIfInBounds_toArray, List.set_cons_zero, List.set_cons_succ]))
            refine wpAnyT_step (i := 8) (by kernel_rfl) rfl rfl ?_
            refine wp_pushK shZ xv 3 _ _ 45 rfl _ 8 Try.underlying45 Try.infoInt18 rfl hov3 q HV.out rfl rfl (heap_alloc_new _ _) (by omega) (by decide) hR3.size ?_
            intro A5 c5 W5 ho5 hg5 _
            have hg5 := gk hg5
            obtain ⟨hR6, hO5⟩ := hR3.pushV (by rw [HT.out, HV.out]; exact hbO3) hok3 hov3 ho5 hg5
            rw [HT.out, HV.out] at hO5
            rw [HV.out] at hR6
            have hrow : ∀ r, Aw.map (·.block) = some r → w1.heap.size ≤ r := fun r e => by obtain ⟨a, ha, rfl⟩ := Option.map_eq_some_iff.1 e; exact (hov.block a ha).1
            have hsame : ∀ q, q < w1.heap.size → W5.heap[q]? = W6.heap[q]? := fun q hq => (hg5.block q (by have := hE3.size; omega) (fun e => by have := hrow q e.symm; omega)).trans (hE3.block q (by omega))
            have k5 : W5.cell? ⟨O, 1, none⟩ = some (.slice Aw q cw) := (cell_of_row W5 O 1 _ _ (0, 0) hO5).trans rfl
            have f5 : W5.frozen? ⟨O, 1, none⟩ = false := by simp [World.frozen?, hO5]
            have hS5 : (fun W9 => W9.cell? ⟨O, 1, none⟩ = some (.slice Aw q cw) ∧ W9.cell? ⟨Bl, 1, none⟩ = some (.slice (some ⟨b', o', none⟩) n cv) ∧ W9.cell? ⟨b', o' + k, none⟩ = some (.int .i64 xv)) W5 := ⟨k5, (cell_of_row W5 Bl 1 _ _ (0, 0) ((hsame Bl (by omega)).trans hBb)).trans rfl, (World.cell?_of_block (w := w) (a := ⟨b', o' + k, none⟩) ((hsame b' (by omega)).trans hqb)).trans hcv⟩
            refine ⟨by first | exact fun _ => hS5 | exact hS5, ?_⟩
            (try (simp only [Act.put, List.getElem_toArray, List.getElem_cons_zero, List.getElem_cons_succ, List.setIfInBounds_toArray, List.set_cons_zero, List.set_cons_succ]))
            refine wpAnyT_step (i := 9) (by kernel_rfl) rfl rfl ?_
            go_simp
            (try (simp only [Act.put, List.getElem_toArray, List.getElem_cons_zero, List.getElem_cons_succ, List.setIfInBounds_toArray, List.set_cons_zero, List.set_cons_succ]))
            refine wpAnyT_step (i := 10) (by kernel_rfl) rfl rfl ?_
            go_simp
            refine wpAnyT_done (by kernel_rfl) ?_ _
            have hY6 := own8_push (k := 1) (u := .slice A5 (q + 1) c5) HY.out hE3 (by decide) hov3.cellsAt hg5 hO5
            obtain ⟨W7, hW7⟩ : ∃ W, W = W5.setCell ⟨O, 1, none⟩ (.slice A5 (q + 1) c5) := ⟨_, rfl⟩
            rw [← hW7] at hR6 hY6 ⊢
            have HY := Lib.hid hY6
            clear hY6
            clear hW7 hS5 k5 f5 hsame hrow hO5 hg5 ho5 hbO3 hov3 hok3 hR3 hE3 hE3' hSx hqb hBb hok hov hbO
            go_wp2_with fail
            go_roundw
            case rel => exact ⟨k + 1, by omega, by omega, by go_num, Lib.hid (by rw [HN.out.1, HN.out.2, ← List.append_assoc, ← List.append_assoc]; exact hR6), HY⟩
            case measure => simp [intOf]; omega
          · obtain rfl : k = n := by omega
            obtain ⟨Af, cf, Ag, cg, hbf, hof, hog⟩ := Hr.out.ex
            have hb9 := (Hr.out.kb (Bl + 1) (by rw [hz1]; omega) (by omega)).trans HB2.out
            obtain ⟨FN, hFN⟩ : ∃ FN, FN = (TS ++ (ss.drop (j)).take (k - (j))).length := ⟨_, rfl⟩
            obtain ⟨FM, hFM⟩ : ∃ FM, FM = (VS ++ (V.drop (j)).take (k - (j))).length := ⟨_, rfl⟩
            have Hf := Lib.hid (show OwnT wr w1.heap.size Af cf (TS ++ (ss.drop (j)).take (k - (j))) ∧ OwnG shZ 3 wr w1.heap.size Ag cg (VS ++ (V.drop (j)).take (k - (j))) from ⟨hof, hog⟩)
            rw [← hFN, ← hFM] at hbf
            have HFN := Lib.hid hFN
            have HFM := Lib.hid hFM
            have Hb9 := Lib.hid hb9
            have Hbf := Lib.hid hbf
            clear hof hog hFN hFM hb9 hbf
            go_wp2_with (first
              | (refine wpList_load_row rfl 51 _ rfl O rfl 51 #[.slice Af FN cf, .slice Ag FM cg] (0, 0) _ Hbf.out Try.underlying51 rfl (by kernel_rfl) ?_)
              | (refine wpList_store_row rfl 51 _ _ rfl (Bl + 1) #[.slice Af FN cf, .slice Ag FM cg] rfl rfl 51 #[.slice none 0 0, .slice none 0 0] Hb9.out (by kernel_rfl) rfl (by simp [Value.oneCell']) ?_)
              | fail)
            apply bodyPost_ret
            · exact results_s2 rfl _ _ (Bl + 1) 51 #[.slice Af FN cf, .slice Ag FM cg] (0, 0) _ rfl (setRow_heap wr (Bl + 1) _ _ 51 (0, 0) Hb9.out) Try.underlying51 rfl (by kernel_rfl)
            · rfl
            have hfull : (ss.drop (j)).take (k - (j)) = ss.drop (j) := List.take_of_length_le (by rw [List.length_drop, Hk.out.1]; exact Nat.le_refl _)
            have hfullV : (V.drop (j)).take (k - (j)) = V.drop (j) := List.take_of_length_le (by rw [List.length_drop, Hv.out.len]; exact Nat.le_refl _)
            have hDs := HD.out
            rw [HDf.out] at hDs
            have hput := put_no (V := V) (v := v) (of_decide_eq_false hDs.symm)
            rw [HFN.out, HFM.out]
            refine rput_fin HE1.out Hr.out HBlw.out.symm (by omega) hwO Hf.out.1 Hf.out.2 HY.out ?_ ?_ ?_ Hb9.out _
            · intro s hs
              rw [HTS.out] at hs
              rcases List.mem_append.1 hs with hs | hs
              · rcases List.mem_append.1 hs with hs | hs
                · exact .inl (List.mem_of_mem_take hs)
                · exact .inr (List.mem_singleton.1 hs)
              · exact .inl (List.mem_of_mem_drop (List.mem_of_mem_take hs))
            · rw [← hput.1, hfull, HTS.out, ← HS.out]
              unfold bodies
              simp [List.map_take, List.map_drop]
            · rw [← hput.2, hfullV, HVS.out, ← HS.out]
              simp

end Go.Proofs.Ytkmnhapeohlooaa
