import Derived.Test.YthibbgmicmfkfaaGreatGW16
namespace Go.Proofs.YthibbgmicmfkfaaGreat
open Go.RowKit
set_option maxRecDepth 100000
set_option maxHeartbeats 3200000 in
theorem told_any (A : Option Addr) (n c : Nat) (foot : List Nat) (B : Option Addr) (m d : Nat) (blocks : List Nat) (w : World) (hx : Rd .u8 w A n foot) (hu : U8 foot) (hn : n ≤ 70000) (hc : n ≤ c) (hcm : c ≤ 9223372036854775807) (hy : Rd .u8 w B m blocks) (hv : U8 blocks) (hm : m ≤ 1100000) :
   Calls Tryz.prog 60 #[.slice A n c, .slice B m d] w (ToldPost (toldR foot blocks) w) := by
 by_cases hs : foot.length < 2 ∨ 1 < foot.getD 1 0
 · refine (told_short A n c foot B m d w hx hu hs).mono ?_
   rintro e w' ⟨rfl, rfl⟩
   exact ⟨Ext.refl _, .inl ⟨if_pos hs, rfl⟩⟩
 have hl := hx.len
 have hR : toldR foot blocks = _ := if_neg hs
 have hn2 : 2 ≤ n := by omega
 obtain ⟨b, o, hA, hbl, q0⟩ := hx.at_ (show 0 < n by omega)
 obtain ⟨b', o', hA', _, q1⟩ := hx.at_ (show 1 < n by omega)
 rw [hA] at hA'
 injection hA' with hA'
 injection hA' with e1 e2
 subst e1 e2
 rw [Nat.add_zero] at q0
 have hk8 := hu.at_ 0
 have hv1 : foot.getD 1 0 ≤ 1 := by omega
 obtain ⟨k, hk⟩ : ∃ k, k = foot.getD 0 0 := ⟨_, rfl⟩
 obtain ⟨v, hvv⟩ : ∃ v, v = foot.getD 1 0 := ⟨_, rfl⟩
 rw [← hk] at q0 hk8
 rw [← hvv] at q1 hv1
 rw [← hk, ← hvv] at hR
 have hksI : ((v : Int) == 1) = (v == 1) := by
   by_cases h : v = 1
   · subst h; rfl
   · rw [beq_eq_false_iff_ne.2 h]; exact beq_eq_false_iff_ne.2 (by omega)
 obtain ⟨ks, hks⟩ : ∃ ks, ks = (v == 1) := ⟨_, rfl⟩
 rw [← hks] at hksI hR
 have hwk : IntKind.i64.wrap (k : Int) = (k : Int) := IntWalk.i64_in _ (by omega)
 have hgt : ¬ (1 : Int) < (v : Int) := by omega
 have hl2 : ¬ (n : Int) < 2 := by omega
 have hi0 : (0 : Int) < (n : Int) := by omega
 have hi1 : (1 : Int) < (n : Int) := by omega
 have hi2 : 0 < n := by omega
 have hi3 : 1 < n := by omega
 have HSl : ∀ W : World, (Instr.slice 22 (.slice A n c) (some (.int .i64 2)) none none).run Tryz.prog W = .ok (.slice (offA A 2 c) (n - 2 : Nat) (c - 2 : Nat)) W := fun W => run_from A n c 2 hn2 W
 have hxo := hx.offA hn2 hc
 have hob : ∀ p', offA A 2 c = some p' → ∃ p, A = some p ∧ p'.block = p.block := fun p' hp' => offA_blk hp'
 rw [hA] at HSl hxo hob
 obtain ⟨A2, hA2⟩ : ∃ A2, A2 = offA (some ⟨b, o, none⟩) 2 c := ⟨_, rfl⟩
 rw [← hA2] at HSl hxo hob
 clear hA2
 have Hxo := Lib.hid hxo
 have Hob := Lib.hid hob
 clear hxo hob
 have Hbl := Lib.hid hbl
 have K := Lib.hid (fun W (hW : Ext w W) => (show W.cell? ⟨b, o, none⟩ = some (.int .u8 (k : Int)) ∧ W.cell? ⟨b, o + 1, none⟩ = some (.int .u8 (v : Int)) from ⟨(hW.cells b _ hbl).trans q0, (hW.cells b _ hbl).trans q1⟩))
 obtain ⟨N1, hN1⟩ : ∃ N, N = numR (foot.drop 2) false 4096 := ⟨_, rfl⟩
 obtain ⟨N2, hN2⟩ : ∃ N, N = numR N1.2.1 N1.2.2 4096 := ⟨_, rfl⟩
 obtain ⟨N3, hN3⟩ : ∃ N, N = numR N2.2.1 N2.2.2 4096 := ⟨_, rfl⟩
 rw [hdL_eq foot hN1 hN2 hN3] at hR
 simp only at hR
 have HR := Lib.hid hR
 have hdl : (foot.drop 2).length = n - 2 := by rw [List.length_drop, hl]
 have hdu : U8 (foot.drop 2) := fun v hv => hu v (List.mem_of_mem_drop hv)
 have hu1 : U8 N1.2.1 := hN1 ▸ numR_u8 hdu
 have hu2 : U8 N2.2.1 := hN2 ▸ numR_u8 hu1
 have hu3 : U8 N3.2.1 := hN3 ▸ numR_u8 hu2
 have hl1 : N1.2.1.length ≤ 70000 := Nat.le_trans (hN1 ▸ numR_len) (by omega)
 have hl2' : N2.2.1.length ≤ 70000 := Nat.le_trans (hN2 ▸ numR_len) hl1
 have hl3 : N3.2.1.length ≤ 70000 := Nat.le_trans (hN3 ▸ numR_len) hl2'
 have hm1 : N1.1 ≤ 4096 := hN1 ▸ numR_le
 have hm2 : N2.1 ≤ 4096 := hN2 ▸ numR_le
 have hm3 : N3.1 ≤ 4096 := hN3 ▸ numR_le
 have HN1 := Lib.hid hN1
 have HN2 := Lib.hid hN2
 have HN3 := Lib.hid hN3
 have Hdl := Lib.hid hdl
 have Hdu := Lib.hid hdu
 have Hu1 := Lib.hid hu1
 have Hu2 := Lib.hid hu2
 have Hu3 := Lib.hid hu3
 have Hl1 := Lib.hid hl1
 have Hl2 := Lib.hid hl2'
 have Hl3 := Lib.hid hl3
 clear hN1 hN2 hN3 hdl hdu hu1 hu2 hu3 hl1 hl2' hl3
 have Hy := Lib.hid hy
 have Hu := Lib.hid hu
 have Hv := Lib.hid hv
 have Hl := Lib.hid hl
 subst hA
 clear hs hx hR hk hvv hks hy hu hv hl
 go_enter Tryz.func60, Tryz.ntmps60
 go_wp2_with fail
 go_region_held3 (fun W => W.cell? ⟨b, o, none⟩ = some (.int .u8 (k : Int)) ∧ W.cell? ⟨b, o + 1, none⟩ = some (.int .u8 (v : Int)))
   (first | (refine K.out _ ?_; (repeat (first | exact Ext.refl _ | apply Ext.drew | apply Ext.alloc | fail))) | fail)
   (first | fail | fail)
 go_wp2_with fail
 obtain ⟨W2, hW2⟩ : ∃ W, W = ((w.alloc (.cells #[.int .i64 (k : Int), .bool ks, .int .i64 0, .int .i64 0, .slice none 0 0, .slice none 0 0] 82)).alloc (.cells #[.slice A2 (n - 2) (c - 2), .bool false] 136)).drew := ⟨_, rfl⟩
 rw [← hW2]
 obtain ⟨g1, hg1⟩ : ∃ g, g = w.heap.size := ⟨_, rfl⟩
 rw [← hg1]
 have hgb : ∀ p, (some ⟨b, o, none⟩ : Option Addr) = some p → p.block ≠ g1 + 1 := fun p hp => by injection hp with hp; subst hp; have := Hbl.out; show b ≠ g1 + 1; omega
 have hE2 : Ext w W2 := by rw [hW2]; exact (((Ext.refl w).alloc _).alloc _).drew
 have hF2 : FilC W2 g1 (k : Int) ks 0 0 (.slice none 0 0) (.slice none 0 0) := by
   rw [hW2, hg1]
   exact (FilC.made w _ _ _ _ _ _ _).grownR (Ext.toGrown ((Ext.refl _).alloc _).drew none) (by simp)
 have hR2 : Rdr W2 (g1 + 1) (some ⟨b, o, none⟩) (foot.drop 2) false := by
   refine ⟨A2, c - 2, ?_, ?_, by rw [Hdl.out]; omega, by omega, Hob.out⟩
   · rw [hW2, hg1, Hdl.out]
     have h := RdrC.made (w.alloc (.cells #[.int .i64 (k : Int), .bool ks, .int .i64 0, .int .i64 0, .slice none 0 0, .slice none 0 0] 82)) (.slice A2 (n - 2) (c - 2)) (.bool false) 136
     rw [World.size_alloc] at h
     exact h.grownR (Ext.toGrown ((Ext.refl _).drew) none) (by simp)
   · rw [Hdl.out]
     exact Hxo.out.ext hE2
 have Hg1 := Lib.hid hg1
 have Hgb := Lib.hid hgb
 have HE2 := Lib.hid hE2
 have hgb1 : ∀ p, (some ⟨b, o, none⟩ : Option Addr) = some p → some g1 ≠ some p.block := fun p hp => by injection hp with hp; subst hp; have := Hbl.out; show some g1 ≠ some b; intro e; injection e with e; omega
 have Hgb1 := Lib.hid hgb1
 have Hw0 : Hid (w.heap.size ≤ g1) := Lib.hid (by omega)
 clear hW2 hg1 hgb hgb1 Hxo Hob HSl hE2
 refine (hR2.num Hgb.out Hdu.out (by rw [Hdl.out]; omega) 4096 4096 rfl (by decide)).mono ?_
 rintro e W3 ⟨rfl, hR3, hg3⟩
 rw [← HN1.out] at hR3 ⊢
 have hF3 := hF2.grownR hg3 (by simp)
 have HE3 := Lib.hid (HE2.out.grownB hg3 (fun b e => by injection e with e; have := Hw0.out; omega))
 clear hF2 hR2 hg3
 have c2 := hF3.c2
 have f2 := hF3.fr 2
 go_wp2_with fail
 have hF4 := hF3.set2 (N1.1 : Int)
 have hg4 := grown_setCell W3 g1 2 (.int .i64 (N1.1 : Int))
 have hR4 := hR3.grownR hg4 (by simp) Hgb1.out
 have HE4 := Lib.hid (HE3.out.grownB hg4 (fun b e => by injection e with e; have := Hw0.out; omega))
 obtain ⟨W4, hW4⟩ : ∃ W, W = W3.setCell ⟨g1, 2, none⟩ (.int .i64 (N1.1 : Int)) := ⟨_, rfl⟩
 rw [← hW4] at hF4 hR4 HE4 ⊢
 clear hF3 hR3 hg4 hW4 c2 f2
 refine (hR4.num Hgb.out Hu1.out (Nat.le_trans Hl1.out (by decide)) 4096 4096 rfl (by decide)).mono ?_
 rintro e W5 ⟨rfl, hR5, hg5⟩
 rw [← HN2.out] at hR5 ⊢
 have hF5 := hF4.grownR hg5 (by simp)
 have HE5 := Lib.hid (HE4.out.grownB hg5 (fun b e => by injection e with e; have := Hw0.out; omega))
 clear hF4 hR4 hg5
 have c3 := hF5.c3
 have f3 := hF5.fr 3
 go_wp2_with fail
 have hF6 := hF5.set3 (N2.1 : Int)
 have hg6 := grown_setCell W5 g1 3 (.int .i64 (N2.1 : Int))
 have hR6 := hR5.grownR hg6 (by simp) Hgb1.out
 have HE6 := Lib.hid (HE5.out.grownB hg6 (fun b e => by injection e with e; have := Hw0.out; omega))
 obtain ⟨W6, hW6⟩ : ∃ W, W = W5.setCell ⟨g1, 3, none⟩ (.int .i64 (N2.1 : Int)) := ⟨_, rfl⟩
 rw [← hW6] at hF6 hR6 HE6 ⊢
 clear hF5 hR5 hg6 hW6 c3 f3
 refine (hR6.num Hgb.out Hu2.out (Nat.le_trans Hl2.out (by decide)) 4096 4096 rfl (by decide)).mono ?_
 rintro e W7 ⟨rfl, hR7, hg7⟩
 rw [← HN3.out] at hR7 ⊢
 have hF7 := hF6.grownR hg7 (by simp)
 have HE7 := Lib.hid (HE6.out.grownB hg7 (fun b e => by injection e with e; have := Hw0.out; omega))
 clear hF6 hR6 hg7
 have HF7 := Lib.hid hF7
 have HR7 := Lib.hid hR7
 go_wp2_with fail
 obtain ⟨A7, c7, hq7, _⟩ := hR7.ex
 have k0 := hq7.c1
 have k2 := hF7.c2
 have k3 := hF7.c3
 have l1 := hq7.lt
 have l2 := hF7.lt
 clear hq7 hF7 hR7
 by_cases hfl : N3.2.2 = true
 · have HRn := Lib.hid (HR.out.trans (if_pos (.inl hfl)))
   rw [hfl] at k0
   have K7 := Lib.hid (fun W (hW : Ext W7 W) => (show W.cell? ⟨g1 + 1, 1, none⟩ = some (.bool true) ∧ W.cell? ⟨g1, 2, none⟩ = some (.int .i64 (N1.1 : Int)) ∧ W.cell? ⟨g1, 3, none⟩ = some (.int .i64 (N2.1 : Int)) from ⟨(hW.cells _ _ l1).trans k0, (hW.cells _ _ l2).trans k2, (hW.cells _ _ l2).trans k3⟩))
   refine wp_region_held_drew (S := (fun W => W.cell? ⟨g1 + 1, 1, none⟩ = some (.bool true) ∧ W.cell? ⟨g1, 2, none⟩ = some (.int .i64 (N1.1 : Int)) ∧ W.cell? ⟨g1, 3, none⟩ = some (.int .i64 (N2.1 : Int)))) (by kernel_rfl) ?_ (fun hHeld => ?_)
   · (refine K7.out _ ?_; (repeat (first | exact Ext.refl _ | (with_reducible refine Ext.trans ?_ he8) | apply Ext.drew | apply Ext.alloc | fail)))
   refine wpAnyH_take (i := 0) (v := ?_) rfl (by kernel_rfl) (by kernel_rfl) (by kernel_rfl) (fun _ _ _ h => h) (Or.inl ⟨by rfl, ?_⟩) hHeld ?_
   rotate_left
   · (intro w hSw; (try dsimp only at hSw); go_simp; (try with_reducible rfl))
   (simp only [Act.put, List.getElem_toArray, List.getElem_cons_zero, List.setIfInBounds_toArray, List.set_cons_zero, List.set_cons_succ])
   refine wpAnyH_take (i := 1) (v := ?_) rfl (by kernel_rfl) (by kernel_rfl) (by kernel_rfl) (fun _ _ _ h => h) (Or.inl ⟨by rfl, ?_⟩) hHeld ?_
   rotate_left
   · (intro w hSw; (try dsimp only at hSw); go_simp; (try with_reducible rfl))
   (simp only [Act.put, List.getElem_toArray, List.getElem_cons_zero, List.getElem_cons_succ, List.setIfInBounds_toArray, List.set_cons_zero, List.set_cons_succ])
   refine wpAnyH_take (i := 2) (v := ?_) rfl (by kernel_rfl) (by kernel_rfl) (by kernel_rfl) (fun _ _ _ h => h) (Or.inl ⟨by rfl, ?_⟩) hHeld ?_
   rotate_left
   · (intro w hSw; (try dsimp only at hSw); go_simp; (try with_reducible rfl))
   (simp only [Act.put, List.getElem_toArray, List.getElem_cons_zero, List.getElem_cons_succ, List.setIfInBounds_toArray, List.set_cons_zero, List.set_cons_succ])
   refine wpAnyH_take (i := 3) (v := ?_) rfl (by kernel_rfl) (by kernel_rfl) (by kernel_rfl) (fun _ _ _ h => h) (Or.inl ⟨by rfl, ?_⟩) hHeld ?_
   rotate_left
   · (intro w hSw; (try dsimp only at hSw); go_simp; (try with_reducible rfl))
   (simp only [Act.put, List.getElem_toArray, List.getElem_cons_zero, List.getElem_cons_succ, List.setIfInBounds_toArray, List.set_cons_zero, List.set_cons_succ])
   refine wpAnyH_take (i := 4) (v := ?_) rfl (by kernel_rfl) (by kernel_rfl) (by kernel_rfl) (fun _ _ _ h => h) (Or.inl ⟨by rfl, ?_⟩) hHeld ?_
   rotate_left
   · (intro w hSw; (try dsimp only at hSw); go_simp; (try with_reducible rfl))
   (simp only [Act.put, List.getElem_toArray, List.getElem_cons_zero, List.getElem_cons_succ, List.setIfInBounds_toArray, List.set_cons_zero, List.set_cons_succ])
   refine wpAnyH_take (i := 5) (v := undef) rfl (by kernel_rfl) (by kernel_rfl) (by kernel_rfl) (fun _ _ _ h => h) (Or.inr ⟨by rfl, rfl⟩) hHeld ?_
   (simp only [Act.put, List.getElem_toArray, List.getElem_cons_zero, List.getElem_cons_succ, List.setIfInBounds_toArray, List.set_cons_zero, List.set_cons_succ])
   refine wpAnyH_take (i := 6) (v := undef) rfl (by kernel_rfl) (by kernel_rfl) (by kernel_rfl) (fun _ _ _ h => h) (Or.inr ⟨by rfl, rfl⟩) hHeld ?_
   (simp only [Act.put, List.getElem_toArray, List.getElem_cons_zero, List.getElem_cons_succ, List.setIfInBounds_toArray, List.set_cons_zero, List.set_cons_succ])
   refine wpAnyH_take (i := 7) (v := undef) rfl (by kernel_rfl) (by kernel_rfl) (by kernel_rfl) (fun _ _ _ h => h) (Or.inr ⟨by rfl, rfl⟩) hHeld ?_
   (simp only [Act.put, List.getElem_toArray, List.getElem_cons_zero, List.getElem_cons_succ, List.setIfInBounds_toArray, List.set_cons_zero, List.set_cons_succ])
   refine wpAnyH_take (i := 8) (v := ?_) rfl (by kernel_rfl) (by kernel_rfl) (by kernel_rfl) (fun _ _ _ h => h) (Or.inl ⟨by rfl, ?_⟩) hHeld ?_
   rotate_left
   · (intro w hSw; (try dsimp only at hSw); go_simp; (try with_reducible rfl))
   (simp only [Act.put, List.getElem_toArray, List.getElem_cons_zero, List.getElem_cons_succ, List.setIfInBounds_toArray, List.set_cons_zero, List.set_cons_succ])
   refine wpAnyH_take (i := 9) (v := ?_) rfl (by kernel_rfl) (by kernel_rfl) (by kernel_rfl) (fun _ _ _ h => h) (Or.inl ⟨by rfl, ?_⟩) hHeld ?_
   rotate_left
   · (intro w hSw; (try dsimp only at hSw); go_simp; (try with_reducible rfl))
   (simp only [Act.put, List.getElem_toArray, List.getElem_cons_zero, List.getElem_cons_succ, List.setIfInBounds_toArray, List.set_cons_zero, List.set_cons_succ])
   refine wpAnyH_take (i := 10) (v := undef) rfl (by kernel_rfl) (by kernel_rfl) (by kernel_rfl) (fun _ _ _ h => h) (Or.inr ⟨by rfl, rfl⟩) hHeld ?_
   (simp only [Act.put, List.getElem_toArray, List.getElem_cons_zero, List.getElem_cons_succ, List.setIfInBounds_toArray, List.set_cons_zero, List.set_cons_succ])
   refine wpAnyH_take (i := 11) (v := undef) rfl (by kernel_rfl) (by kernel_rfl) (by kernel_rfl) (fun _ _ _ h => h) (Or.inr ⟨by rfl, rfl⟩) hHeld ?_
   (simp only [Act.put, List.getElem_toArray, List.getElem_cons_zero, List.getElem_cons_succ, List.setIfInBounds_toArray, List.set_cons_zero, List.set_cons_succ])
   refine wpAnyH_take (i := 12) (v := undef) rfl (by kernel_rfl) (by kernel_rfl) (by kernel_rfl) (fun _ _ _ h => h) (Or.inr ⟨by rfl, rfl⟩) hHeld ?_
   (simp only [Act.put, List.getElem_toArray, List.getElem_cons_zero, List.getElem_cons_succ, List.setIfInBounds_toArray, List.set_cons_zero, List.set_cons_succ])
   refine wpAnyH_take (i := 13) (v := undef) rfl (by kernel_rfl) (by kernel_rfl) (by kernel_rfl) (fun _ _ _ h => h) (Or.inr ⟨by rfl, rfl⟩) hHeld ?_
   (simp only [Act.put, List.getElem_toArray, List.getElem_cons_zero, List.getElem_cons_succ, List.setIfInBounds_toArray, List.set_cons_zero, List.set_cons_succ])
   refine wpAnyH_take (i := 14) (v := undef) rfl (by kernel_rfl) (by kernel_rfl) (by kernel_rfl) (fun _ _ _ h => h) (Or.inr ⟨by rfl, rfl⟩) hHeld ?_
   (simp only [Act.put, List.getElem_toArray, List.getElem_cons_zero, List.getElem_cons_succ, List.setIfInBounds_toArray, List.set_cons_zero, List.set_cons_succ])
   refine wpAnyH_take (i := 15) (v := undef) rfl (by kernel_rfl) (by kernel_rfl) (by kernel_rfl) (fun _ _ _ h => h) (Or.inr ⟨by rfl, rfl⟩) hHeld ?_
   (simp only [Act.put, List.getElem_toArray, List.getElem_cons_zero, List.getElem_cons_succ, List.setIfInBounds_toArray, List.set_cons_zero, List.set_cons_succ])
   refine wpAnyH_take (i := 16) (v := undef) rfl (by kernel_rfl) (by kernel_rfl) (by kernel_rfl) (fun _ _ _ h => h) (Or.inr ⟨by rfl, rfl⟩) hHeld ?_
   (simp only [Act.put, List.getElem_toArray, List.getElem_cons_zero, List.getElem_cons_succ, List.setIfInBounds_toArray, List.set_cons_zero, List.set_cons_succ])
   refine wpAnyH_take (i := 17) (v := undef) rfl (by kernel_rfl) (by kernel_rfl) (by kernel_rfl) (fun _ _ _ h => h) (Or.inr ⟨by rfl, rfl⟩) hHeld ?_
   (simp only [Act.put, List.getElem_toArray, List.getElem_cons_zero, List.getElem_cons_succ, List.setIfInBounds_toArray, List.set_cons_zero, List.set_cons_succ])
   refine wpAnyH_take (i := 18) (v := undef) rfl (by kernel_rfl) (by kernel_rfl) (by kernel_rfl) (fun _ _ _ h => h) (Or.inr ⟨by rfl, rfl⟩) hHeld ?_
   (simp only [Act.put, List.getElem_toArray, List.getElem_cons_zero, List.getElem_cons_succ, List.setIfInBounds_toArray, List.set_cons_zero, List.set_cons_succ])
   refine wpAnyH_take (i := 19) (v := undef) rfl (by kernel_rfl) (by kernel_rfl) (by kernel_rfl) (fun _ _ _ h => h) (Or.inr ⟨by rfl, rfl⟩) hHeld ?_
   (simp only [Act.put, List.getElem_toArray, List.getElem_cons_zero, List.getElem_cons_succ, List.setIfInBounds_toArray, List.set_cons_zero, List.set_cons_succ])
   refine wpAnyH_take (i := 20) (v := undef) rfl (by kernel_rfl) (by kernel_rfl) (by kernel_rfl) (fun _ _ _ h => h) (Or.inr ⟨by rfl, rfl⟩) hHeld ?_
   (simp only [Act.put, List.getElem_toArray, List.getElem_cons_zero, List.getElem_cons_succ, List.setIfInBounds_toArray, List.set_cons_zero, List.set_cons_succ])
   refine wpAnyH_take (i := 21) (v := undef) rfl (by kernel_rfl) (by kernel_rfl) (by kernel_rfl) (fun _ _ _ h => h) (Or.inr ⟨by rfl, rfl⟩) hHeld ?_
   (simp only [Act.put, List.getElem_toArray, List.getElem_cons_zero, List.getElem_cons_succ, List.setIfInBounds_toArray, List.set_cons_zero, List.set_cons_succ])
   refine wpAnyH_take (i := 22) (v := undef) rfl (by kernel_rfl) (by kernel_rfl) (by kernel_rfl) (fun _ _ _ h => h) (Or.inr ⟨by rfl, rfl⟩) hHeld ?_
   (simp only [Act.put, List.getElem_toArray, List.getElem_cons_zero, List.getElem_cons_succ, List.setIfInBounds_toArray, List.set_cons_zero, List.set_cons_succ])
   refine wpAnyH_take (i := 23) (v := undef) rfl (by kernel_rfl) (by kernel_rfl) (by kernel_rfl) (fun _ _ _ h => h) (Or.inr ⟨by rfl, rfl⟩) hHeld ?_
   (simp only [Act.put, List.getElem_toArray, List.getElem_cons_zero, List.getElem_cons_succ, List.setIfInBounds_toArray, List.set_cons_zero, List.set_cons_succ])
   refine wpAnyH_take (i := 24) (v := undef) rfl (by kernel_rfl) (by kernel_rfl) (by kernel_rfl) (fun _ _ _ h => h) (Or.inr ⟨by rfl, rfl⟩) hHeld ?_
   (simp only [Act.put, List.getElem_toArray, List.getElem_cons_zero, List.getElem_cons_succ, List.setIfInBounds_toArray, List.set_cons_zero, List.set_cons_succ])
   refine wpAnyH_take (i := 25) (v := undef) rfl (by kernel_rfl) (by kernel_rfl) (by kernel_rfl) (fun _ _ _ h => h) (Or.inr ⟨by rfl, rfl⟩) hHeld ?_
   (simp only [Act.put, List.getElem_toArray, List.getElem_cons_zero, List.getElem_cons_succ, List.setIfInBounds_toArray, List.set_cons_zero, List.set_cons_succ])
   refine wpAnyH_take (i := 26) (v := undef) rfl (by kernel_rfl) (by kernel_rfl) (by kernel_rfl) (fun _ _ _ h => h) (Or.inr ⟨by rfl, rfl⟩) hHeld ?_
   (simp only [Act.put, List.getElem_toArray, List.getElem_cons_zero, List.getElem_cons_succ, List.setIfInBounds_toArray, List.set_cons_zero, List.set_cons_succ])
   refine wpAnyH_take (i := 27) (v := ?_) rfl (by kernel_rfl) (by kernel_rfl) (by kernel_rfl) (fun _ _ _ h => h) (Or.inl ⟨by rfl, ?_⟩) hHeld ?_
   rotate_left
   · (intro w hSw; (try dsimp only at hSw); go_simp; (try with_reducible rfl))
   (simp only [Act.put, List.getElem_toArray, List.getElem_cons_zero, List.getElem_cons_succ, List.setIfInBounds_toArray, List.set_cons_zero, List.set_cons_succ])
   refine wpAnyH_done (by kernel_rfl) ?_ _
   go_wp2_with fail
   go_ret2
   exact ⟨HE7.out.drew, .inl ⟨HRn.out, rfl⟩⟩
 have hff : N3.2.2 = false := by cases h : N3.2.2 with
   | false => rfl
   | true => exact absurd h hfl
 rw [hff] at k0 HR7
 have K7 := Lib.hid (fun W (hW : Ext W7 W) => (show W.cell? ⟨g1 + 1, 1, none⟩ = some (.bool false) ∧ W.cell? ⟨g1, 2, none⟩ = some (.int .i64 (N1.1 : Int)) ∧ W.cell? ⟨g1, 3, none⟩ = some (.int .i64 (N2.1 : Int)) from ⟨(hW.cells _ _ l1).trans k0, (hW.cells _ _ l2).trans k2, (hW.cells _ _ l2).trans k3⟩))
 have HRt := Lib.hid (fun W (hW : Ext W7 W) => rightC_any g1 (k : Int) ks (N1.1 : Int) (N2.1 : Int) _ _ W (HF7.out.grownR (Ext.toGrown hW none) (by simp)))
 by_cases hri : rightK (k : Int) ks (N2.1 : Int) = false
 · have HRn := Lib.hid (HR.out.trans (if_pos (.inr (.inl hri))))
   rw [hri] at HRt
   clear hfl k0 k2 k3 hri
   refine wp_region_held_drew (S := (fun W => W.cell? ⟨g1 + 1, 1, none⟩ = some (.bool false) ∧ W.cell? ⟨g1, 2, none⟩ = some (.int .i64 (N1.1 : Int)) ∧ W.cell? ⟨g1, 3, none⟩ = some (.int .i64 (N2.1 : Int)))) (by kernel_rfl) ?_ (fun hHeld => ?_)
   · (refine K7.out _ ?_; (repeat (first | exact Ext.refl _ | (with_reducible refine Ext.trans ?_ he8) | apply Ext.drew | apply Ext.alloc | fail)))
   refine wpAnyH_take (i := 0) (v := ?_) rfl (by kernel_rfl) (by kernel_rfl) (by kernel_rfl) (fun _ _ _ h => h) (Or.inl ⟨by rfl, ?_⟩) hHeld ?_
   rotate_left
   · (intro w hSw; (try dsimp only at hSw); go_simp; (try with_reducible rfl))
   (simp only [Act.put, List.getElem_toArray, List.getElem_cons_zero, List.setIfInBounds_toArray, List.set_cons_zero, List.set_cons_succ])
   refine wpAnyH_take (i := 1) (v := ?_) rfl (by kernel_rfl) (by kernel_rfl) (by kernel_rfl) (fun _ _ _ h => h) (Or.inl ⟨by rfl, ?_⟩) hHeld ?_
   rotate_left
   · (intro w hSw; (try dsimp only at hSw); go_simp; (try with_reducible rfl))
   (simp only [Act.put, List.getElem_toArray, List.getElem_cons_zero, List.getElem_cons_succ, List.setIfInBounds_toArray, List.set_cons_zero, List.set_cons_succ])
   refine wpAnyH_take (i := 2) (v := ?_) rfl (by kernel_rfl) (by kernel_rfl) (by kernel_rfl) (fun _ _ _ h => h) (Or.inl ⟨by rfl, ?_⟩) hHeld ?_
   rotate_left
   · (intro w hSw; (try dsimp only at hSw); go_simp; (try with_reducible rfl))
   (simp only [Act.put, List.getElem_toArray, List.getElem_cons_zero, List.getElem_cons_succ, List.setIfInBounds_toArray, List.set_cons_zero, List.set_cons_succ])
   refine wpAnyH_take (i := 3) (v := ?_) rfl (by kernel_rfl) (by kernel_rfl) (by kernel_rfl) (fun _ _ _ h => h) (Or.inl ⟨by rfl, ?_⟩) hHeld ?_
   rotate_left
   · (intro w hSw; (try dsimp only at hSw); go_simp; (try with_reducible rfl))
   (simp only [Act.put, List.getElem_toArray, List.getElem_cons_zero, List.getElem_cons_succ, List.setIfInBounds_toArray, List.set_cons_zero, List.set_cons_succ])
   refine wpAnyH_take (i := 4) (v := ?_) rfl (by kernel_rfl) (by kernel_rfl) (by kernel_rfl) (fun _ _ _ h => h) (Or.inl ⟨by rfl, ?_⟩) hHeld ?_
   rotate_left
   · (intro w hSw; (try dsimp only at hSw); go_simp; (try with_reducible rfl))
   (simp only [Act.put, List.getElem_toArray, List.getElem_cons_zero, List.getElem_cons_succ, List.setIfInBounds_toArray, List.set_cons_zero, List.set_cons_succ])
   refine wpAnyH_take (i := 5) (v := ?_) rfl (by kernel_rfl) (by kernel_rfl) (by kernel_rfl) (fun _ _ _ h => h) (Or.inl ⟨by rfl, ?_⟩) hHeld ?_
   rotate_left
   · (intro w hSw; (try dsimp only at hSw); go_simp; (try with_reducible rfl))
   (simp only [Act.put, List.getElem_toArray, List.getElem_cons_zero, List.getElem_cons_succ, List.setIfInBounds_toArray, List.set_cons_zero, List.set_cons_succ])
   refine wpAnyH_ready (rs := [6]) (by kernel_rfl) (by simp) ?_
   refine AllReadyH.cons rfl (fun K9 hK9 => ?_) AllReadyH.nil
   go_simp
   (with_reducible refine (HRt.out _ ?_).mono ?_); (focus ((repeat (first | exact Ext.refl _ | apply Ext.drew | apply Ext.alloc | fail)); done)); rintro e W8 ⟨rfl, he8⟩
   refine hK9.out _ _ ?_ (fun hHeld => ?_)
   · (try dsimp only); (refine K7.out _ ?_; (repeat (first | exact Ext.refl _ | (with_reducible refine Ext.trans ?_ he8) | apply Ext.drew | apply Ext.alloc | fail)))
   clear hK9 K9
   refine wpAnyH_take (i := 7) (v := ?_) rfl (by kernel_rfl) (by kernel_rfl) (by kernel_rfl) (fun _ _ _ h => h) (Or.inl ⟨by rfl, ?_⟩) hHeld ?_
   rotate_left
   · (intro w hSw; (try dsimp only at hSw); go_simp; (try with_reducible rfl))
   (simp only [Act.put, List.getElem_toArray, List.getElem_cons_zero, List.getElem_cons_succ, List.setIfInBounds_toArray, List.set_cons_zero, List.set_cons_succ])
   refine wpAnyH_take (i := 8) (v := ?_) rfl (by kernel_rfl) (by kernel_rfl) (by kernel_rfl) (fun _ _ _ h => h) (Or.inl ⟨by rfl, ?_⟩) hHeld ?_
   rotate_left
   · (intro w hSw; (try dsimp only at hSw); go_simp; (try with_reducible rfl))
   (simp only [Act.put, List.getElem_toArray, List.getElem_cons_zero, List.getElem_cons_succ, List.setIfInBounds_toArray, List.set_cons_zero, List.set_cons_succ])
   refine wpAnyH_take (i := 9) (v := ?_) rfl (by kernel_rfl) (by kernel_rfl) (by kernel_rfl) (fun _ _ _ h => h) (Or.inl ⟨by rfl, ?_⟩) hHeld ?_
   rotate_left
   · (intro w hSw; (try dsimp only at hSw); go_simp; (try with_reducible rfl))
   (simp only [Act.put, List.getElem_toArray, List.getElem_cons_zero, List.getElem_cons_succ, List.setIfInBounds_toArray, List.set_cons_zero, List.set_cons_succ])
   refine wpAnyH_take (i := 10) (v := undef) rfl (by kernel_rfl) (by kernel_rfl) (by kernel_rfl) (fun _ _ _ h => h) (Or.inr ⟨by rfl, rfl⟩) hHeld ?_
   (simp only [Act.put, List.getElem_toArray, List.getElem_cons_zero, List.getElem_cons_succ, List.setIfInBounds_toArray, List.set_cons_zero, List.set_cons_succ])
   refine wpAnyH_take (i := 11) (v := undef) rfl (by kernel_rfl) (by kernel_rfl) (by kernel_rfl) (fun _ _ _ h => h) (Or.inr ⟨by rfl, rfl⟩) hHeld ?_
   (simp only [Act.put, List.getElem_toArray, List.getElem_cons_zero, List.getElem_cons_succ, List.setIfInBounds_toArray, List.set_cons_zero, List.set_cons_succ])
   refine wpAnyH_take (i := 12) (v := undef) rfl (by kernel_rfl) (by kernel_rfl) (by kernel_rfl) (fun _ _ _ h => h) (Or.inr ⟨by rfl, rfl⟩) hHeld ?_
   (simp only [Act.put, List.getElem_toArray, List.getElem_cons_zero, List.getElem_cons_succ, List.setIfInBounds_toArray, List.set_cons_zero, List.set_cons_succ])
   refine wpAnyH_take (i := 13) (v := undef) rfl (by kernel_rfl) (by kernel_rfl) (by kernel_rfl) (fun _ _ _ h => h) (Or.inr ⟨by rfl, rfl⟩) hHeld ?_
   (simp only [Act.put, List.getElem_toArray, List.getElem_cons_zero, List.getElem_cons_succ, List.setIfInBounds_toArray, List.set_cons_zero, List.set_cons_succ])
   refine wpAnyH_take (i := 14) (v := undef) rfl (by kernel_rfl) (by kernel_rfl) (by kernel_rfl) (fun _ _ _ h => h) (Or.inr ⟨by rfl, rfl⟩) hHeld ?_
   (simp only [Act.put, List.getElem_toArray, List.getElem_cons_zero, List.getElem_cons_succ, List.setIfInBounds_toArray, List.set_cons_zero, List.set_cons_succ])
   refine wpAnyH_take (i := 15) (v := undef) rfl (by kernel_rfl) (by kernel_rfl) (by kernel_rfl) (fun _ _ _ h => h) (Or.inr ⟨by rfl, rfl⟩) hHeld ?_
   (simp only [Act.put, List.getElem_toArray, List.getElem_cons_zero, List.getElem_cons_succ, List.setIfInBounds_toArray, List.set_cons_zero, List.set_cons_succ])
   refine wpAnyH_take (i := 16) (v := undef) rfl (by kernel_rfl) (by kernel_rfl) (by kernel_rfl) (fun _ _ _ h => h) (Or.inr ⟨by rfl, rfl⟩) hHeld ?_
   (simp only [Act.put, List.getElem_toArray, List.getElem_cons_zero, List.getElem_cons_succ, List.setIfInBounds_toArray, List.set_cons_zero, List.set_cons_succ])
   refine wpAnyH_take (i := 17) (v := undef) rfl (by kernel_rfl) (by kernel_rfl) (by kernel_rfl) (fun _ _ _ h => h) (Or.inr ⟨by rfl, rfl⟩) hHeld ?_
   (simp only [Act.put, List.getElem_toArray, List.getElem_cons_zero, List.getElem_cons_succ, List.setIfInBounds_toArray, List.set_cons_zero, List.set_cons_succ])
   refine wpAnyH_take (i := 18) (v := undef) rfl (by kernel_rfl) (by kernel_rfl) (by kernel_rfl) (fun _ _ _ h => h) (Or.inr ⟨by rfl, rfl⟩) hHeld ?_
   (simp only [Act.put, List.getElem_toArray, List.getElem_cons_zero, List.getElem_cons_succ, List.setIfInBounds_toArray, List.set_cons_zero, List.set_cons_succ])
   refine wpAnyH_take (i := 19) (v := undef) rfl (by kernel_rfl) (by kernel_rfl) (by kernel_rfl) (fun _ _ _ h => h) (Or.inr ⟨by rfl, rfl⟩) hHeld ?_
   (simp only [Act.put, List.getElem_toArray, List.getElem_cons_zero, List.getElem_cons_succ, List.setIfInBounds_toArray, List.set_cons_zero, List.set_cons_succ])
   refine wpAnyH_take (i := 20) (v := undef) rfl (by kernel_rfl) (by kernel_rfl) (by kernel_rfl) (fun _ _ _ h => h) (Or.inr ⟨by rfl, rfl⟩) hHeld ?_
   (simp only [Act.put, List.getElem_toArray, List.getElem_cons_zero, List.getElem_cons_succ, List.setIfInBounds_toArray, List.set_cons_zero, List.set_cons_succ])
   refine wpAnyH_take (i := 21) (v := undef) rfl (by kernel_rfl) (by kernel_rfl) (by kernel_rfl) (fun _ _ _ h => h) (Or.inr ⟨by rfl, rfl⟩) hHeld ?_
   (simp only [Act.put, List.getElem_toArray, List.getElem_cons_zero, List.getElem_cons_succ, List.setIfInBounds_toArray, List.set_cons_zero, List.set_cons_succ])
   refine wpAnyH_take (i := 22) (v := undef) rfl (by kernel_rfl) (by kernel_rfl) (by kernel_rfl) (fun _ _ _ h => h) (Or.inr ⟨by rfl, rfl⟩) hHeld ?_
   (simp only [Act.put, List.getElem_toArray, List.getElem_cons_zero, List.getElem_cons_succ, List.setIfInBounds_toArray, List.set_cons_zero, List.set_cons_succ])
   refine wpAnyH_take (i := 23) (v := undef) rfl (by kernel_rfl) (by kernel_rfl) (by kernel_rfl) (fun _ _ _ h => h) (Or.inr ⟨by rfl, rfl⟩) hHeld ?_
   (simp only [Act.put, List.getElem_toArray, List.getElem_cons_zero, List.getElem_cons_succ, List.setIfInBounds_toArray, List.set_cons_zero, List.set_cons_succ])
   refine wpAnyH_take (i := 24) (v := undef) rfl (by kernel_rfl) (by kernel_rfl) (by kernel_rfl) (fun _ _ _ h => h) (Or.inr ⟨by rfl, rfl⟩) hHeld ?_
   (simp only [Act.put, List.getElem_toArray, List.getElem_cons_zero, List.getElem_cons_succ, List.setIfInBounds_toArray, List.set_cons_zero, List.set_cons_succ])
   refine wpAnyH_take (i := 25) (v := undef) rfl (by kernel_rfl) (by kernel_rfl) (by kernel_rfl) (fun _ _ _ h => h) (Or.inr ⟨by rfl, rfl⟩) hHeld ?_
   (simp only [Act.put, List.getElem_toArray, List.getElem_cons_zero, List.getElem_cons_succ, List.setIfInBounds_toArray, List.set_cons_zero, List.set_cons_succ])
   refine wpAnyH_take (i := 26) (v := undef) rfl (by kernel_rfl) (by kernel_rfl) (by kernel_rfl) (fun _ _ _ h => h) (Or.inr ⟨by rfl, rfl⟩) hHeld ?_
   (simp only [Act.put, List.getElem_toArray, List.getElem_cons_zero, List.getElem_cons_succ, List.setIfInBounds_toArray, List.set_cons_zero, List.set_cons_succ])
   refine wpAnyH_take (i := 27) (v := ?_) rfl (by kernel_rfl) (by kernel_rfl) (by kernel_rfl) (fun _ _ _ h => h) (Or.inl ⟨by rfl, ?_⟩) hHeld ?_
   rotate_left
   · (intro w hSw; (try dsimp only at hSw); go_simp; (try with_reducible rfl))
   (simp only [Act.put, List.getElem_toArray, List.getElem_cons_zero, List.getElem_cons_succ, List.setIfInBounds_toArray, List.set_cons_zero, List.set_cons_succ])
   refine wpAnyH_done (by kernel_rfl) ?_ _
   go_wp2_with fail
   go_ret2
   exact ⟨by repeat (first | exact HE7.out | (with_reducible refine Ext.trans ?_ he8) | apply Ext.drew | apply Ext.alloc), .inl ⟨HRn.out, rfl⟩⟩
 have hrt : rightK (k : Int) ks (N2.1 : Int) = true := by
   cases h : rightK (k : Int) ks (N2.1 : Int) with
   | true => rfl
   | false => exact absurd h hri
 have hper : 1 ≤ N2.1 := by
   have h1 : perK (N2.1 : Int) = true := by
     have h2 := hrt
     unfold rightK at h2
     rw [Bool.and_eq_true] at h2
     exact h2.2
   have h2 := of_decide_eq_true h1
   omega
 rw [hrt] at HRt
 have hR := HR.out
 rw [hff, hrt] at hR
 obtain ⟨r, hr⟩ : ∃ r, r = N1.1 := ⟨_, rfl⟩
 obtain ⟨p, hp⟩ : ∃ r, r = N2.1 := ⟨_, rfl⟩
 obtain ⟨q, hq⟩ : ∃ r, r = N3.1 := ⟨_, rfl⟩
 rw [← hr] at K7 hR hm1 HF7 ⊢
 rw [← hp] at K7 hR hm2 hper HF7 ⊢
 rw [← hq] at hR hm3 ⊢
 have hquo : ((r : Int) + (p : Int) - 1).tdiv (p : Int) = (((r + p - 1) / p : Nat) : Int) := by
   rw [show (r : Int) + (p : Int) - 1 = ((r + p - 1 : Nat) : Int) by omega]
   rfl
 have hdl2 : (r + p - 1) / p ≤ r + p := Nat.le_trans (Nat.div_le_self _ _) (by omega)
 obtain ⟨t, ht⟩ : ∃ t, t = (r + p - 1) / p := ⟨_, rfl⟩
 rw [← ht] at hquo hR hdl2
 have hnz : ((p : Int) == 0) = false := by simp; omega
 have hnz2 : ¬ (p : Int) = 0 := by omega
 have hw1 : IntKind.i64.wrap ((r : Int) + (p : Int)) = (r : Int) + (p : Int) := IntWalk.i64_in _ (by omega)
 have hw2 : IntKind.i64.wrap ((r : Int) + (p : Int) - 1) = (r : Int) + (p : Int) - 1 := IntWalk.i64_in _ (by omega)
 have hw3 : IntKind.i64.wrap (t : Int) = (t : Int) := IntWalk.i64_in _ (by omega)
 have hquo2 : ((r : Int) + (p : Int) - 1) / (p : Int) = (t : Int) := by rw [← hquo, Int.tdiv_eq_ediv_of_nonneg (by omega)]
 have hwq : IntKind.i64.wrap (((r : Int) + (p : Int) - 1).tdiv (p : Int)) = (t : Int) := by rw [hquo]; exact hw3
 have hnz3 : ¬ p = 0 := by omega
 have hp1 : (1 : Int) ≤ (p : Int) := by omega
 have hp2 : (0 : Int) ≤ (r : Int) + (p : Int) - 1 := by omega
 have hp3 : (r : Int) + (p : Int) - 1 ≤ 9223372036854775807 := by omega
 clear hfl k0 k2 k3 hri hrt hff hr hp hq ht
 by_cases hct : q = t
 rotate_left
 · have HRn := Lib.hid (hR.trans (if_pos (.inr (.inr hct))))
   have hbn : ((q : Int) != (t : Int)) = true := by simp; omega
   clear hR hct
   go_region_held3 (fun W => W.cell? ⟨g1 + 1, 1, none⟩ = some (.bool false) ∧ W.cell? ⟨g1, 2, none⟩ = some (.int .i64 (r : Int)) ∧ W.cell? ⟨g1, 3, none⟩ = some (.int .i64 (p : Int)))
     (first | (refine K7.out _ ?_; (repeat (first | exact Ext.refl _ | (with_reducible refine Ext.trans ?_ he8) | apply Ext.drew | apply Ext.alloc | fail))) | fail)
     (first
       | (go_at_call 99; (with_reducible refine (HRt.out _ ?_).mono ?_); (focus ((repeat (first | exact Ext.refl _ | apply Ext.drew | apply Ext.alloc | fail)); done)); rintro e W8 ⟨rfl, he8⟩)
       | fail)
   go_wp2_with fail
   go_ret2
   exact ⟨by repeat (first | exact HE7.out | (with_reducible refine Ext.trans ?_ he8) | apply Ext.drew | apply Ext.alloc), .inl ⟨HRn.out, rfl⟩⟩
 subst hct
 have hbn : ((q : Int) != (q : Int)) = false := by simp
 replace hR := hR.trans (if_neg (by simp))
 have HR2 := Lib.hid hR
 clear hR
 go_region_held3 (fun W => W.cell? ⟨g1 + 1, 1, none⟩ = some (.bool false) ∧ W.cell? ⟨g1, 2, none⟩ = some (.int .i64 (r : Int)) ∧ W.cell? ⟨g1, 3, none⟩ = some (.int .i64 (p : Int)))
   (first | (refine K7.out _ ?_; (repeat (first | exact Ext.refl _ | (with_reducible refine Ext.trans ?_ he8) | apply Ext.drew | apply Ext.alloc | fail))) | fail)
   (first
     | (go_at_call 99; (with_reducible refine (HRt.out _ ?_).mono ?_); (focus ((repeat (first | exact Ext.refl _ | apply Ext.drew | apply Ext.alloc | fail)); done)); rintro e W8 ⟨rfl, he8⟩)
     | fail)
 go_wp2_with fail
 have HCl := Lib.hid (fun W (hW : Ext w W) => clone_any B m d blocks W (Hy.out.ext hW) (by omega))
 have hE8 : Ext w W8 := by repeat (first | exact HE7.out | (with_reducible refine Ext.trans ?_ he8) | apply Ext.drew | apply Ext.alloc)
 have hF8 := HF7.out.grownR (Ext.toGrown (show Ext W7 W8 by repeat (first | exact Ext.refl _ | (with_reducible refine Ext.trans ?_ he8) | apply Ext.drew | apply Ext.alloc)) none) (by simp)
 have hR8 := HR7.out.grownR (Ext.toGrown (show Ext W7 W8 by repeat (first | exact Ext.refl _ | (with_reducible refine Ext.trans ?_ he8) | apply Ext.drew | apply Ext.alloc)) none) (by simp) (by simp)
 have hs1 : g1 + 1 < W8.heap.size := by obtain ⟨_, _, q, _⟩ := hR8.ex; exact q.lt
 refine (HCl.out _ hE8).mono ?_
 rintro e W9 ⟨A9, c9, rfl, ho9, he9⟩
 have hml : blocks.length = m := Hy.out.len
 have hcap9 := ho9.cap
 have hr9 := ho9.rd
 have hb9 := ho9.block
 have hz9 := he9.size
 go_wp2_with fail
 have hT0 : TL w (W9.alloc (.cells #[.slice A9 m c9, .bool false] 136)) g1 W9.heap.size (W9.heap.size + 1) (some ⟨b, o, none⟩) A9 (k : Int) ks (r : Int) (p : Int) none 0 [] none 0 [] ⟨N3.2.1, false, blocks, false, [], []⟩ := by
   have hX := Ext.toGrown ((Ext.refl W9).alloc (.cells #[.slice A9 m c9, .bool false] 136)) none
   have hX9 := Ext.toGrown he9 none
   refine ⟨(hE8.trans he9).alloc _, by rw [World.size_alloc]; exact Nat.le_refl _, Hw0.out, by omega, by omega, fun p hp => by injection hp with hp; subst hp; exact Hbl.out, fun p hp => ?_, (hF8.grownR hX9 (by simp)).grownR hX (by simp), OwnS.nil _ _, OwnS.nil _ _, fun p q hp => (by cases hp), rfl, rfl, fun x hx => (by cases hx), fun x hx => (by cases hx), (hR8.grownR hX9 (by simp) (by simp)).grownR hX (by simp) (by simp), ?_⟩
   · have := hb9 p hp
     have := Hw0.out
     refine ⟨?_, ?_, ?_, ?_, ?_⟩ <;> omega
   · refine ⟨A9, c9, ?_, ?_, hcap9.1, hcap9.2, fun p' hp' => ⟨p', hp', rfl⟩⟩
     · rw [hml]
       exact RdrC.made W9 _ _ _
     · exact hr9.ext ((Ext.refl _).alloc _)
 have HT0 := Lib.hid hT0
 obtain ⟨g3, hg3⟩ : ∃ g, g = W9.heap.size := ⟨_, rfl⟩
 rw [← hg3] at HT0 ⊢
 obtain ⟨base, hbs⟩ : ∃ g, g = g3 + 1 := ⟨_, rfl⟩
 rw [← hbs] at HT0
 have hO0 : OkL ⟨N3.2.1, false, blocks, false, [], []⟩ 0 := ⟨Hu3.out, Hl3.out, Hv.out, by rw [hml]; exact hm, rfl, Nat.le_refl _, fun t ht => (by cases ht), fun t ht => (by cases ht), fun t ht => (by cases ht), fun t ht => (by cases ht)⟩
 have HO0 := Lib.hid hO0
 clear hT0 hE8 hF8 hR8 hs1 ho9 hcap9 hr9 hb9 hz9 hO0 hg3 hbs HCl
 obtain ⟨s0, hs0⟩ : ∃ s, s = (⟨N3.2.1, false, blocks, false, [], []⟩ : LSt) := ⟨_, rfl⟩
 rw [← hs0] at HT0 HO0
 have hR := HR2.out
 rw [← hs0] at hR
 obtain ⟨S, hS⟩ : ∃ S, S = itL ks q s0 := ⟨_, rfl⟩
 rw [← hS] at hR
 have HR3 := Lib.hid hR
 have HI0 : Hid (itL ks (q - 0) s0 = S) := Lib.hid hS.symm
 clear hR hS hs0 HR HR2 HN1 HN2 HN3 Hdl Hdu Hu1 Hu2 Hl1 Hl2 Hgb Hgb1 HE2 HE3 HE4 HE5 HE6 HF7 HR7 K K7 HRt hquo hquo2 hwq hw1 hw2 hw3 hp1 hp2 hp3 hnz hnz2 hnz3 hbn hdl2 q0 q1 hm1 hm2 l1 l2 he9 he8
 go_loopw [78] (fun i wr => ∃ (j : Nat) (s : LSt) (Ab : Option Addr) (cb : Nat) (bs : List Sl) (Af : Option Addr) (cf : Nat) (fs : List Sl), j ≤ q ∧ i = .int .i64 (j : Int) ∧ Hid (OkL s j) ∧ Hid (itL ks (q - j) s = S) ∧ Hid (TL w wr g1 g3 base (some ⟨b, o, none⟩) A9 (k : Int) ks (r : Int) (p : Int) Ab cb bs Af cf fs s)) (fun i _ => q - (intOf i).toNat)
 case atStart => exact ⟨0, s0, none, 0, [], none, 0, [], Nat.zero_le _, rfl, HO0.out, HI0.out, HT0.out⟩
 case round =>
   clear HO0 HI0 HT0
   obtain ⟨j, s, Ab, cb, bs, Af, cf, fs, hj, rfl, HO, HI, hT⟩ := hrel
   by_cases hlt : j < q
   · have hI := HI.out
     rw [show q - j = (q - (j + 1)) + 1 by omega] at hI
     have HI2 : Hid (itL ks (q - (j + 1)) (stL ks s) = S) := Lib.hid hI
     have HO2 := Lib.hid (okL_stL (ks := ks) HO.out)
     have hlen1 : bs.length ≤ 1048576 := by
       have h1 := HO.out.lb
       have h2 := congrArg List.length hT.out.mb
       rw [List.length_map] at h2
       omega
     have hlen6 : fs.length ≤ 1048576 := by
       have h1 := HO.out.lf
       have h2 := congrArg List.length hT.out.mf
       rw [List.length_map] at h2
       omega
     have c40 := hT.out.fil.c4
     have f40 := hT.out.fil.fr 4
     have hnl := HO.out.n2
     have hnr := HO.out.u1
     have hnq := HO.out.n1
     clear hI
     go_wp2_with fail
     refine wp_region_T (S := fun W => W.cell? ⟨g1, 4, none⟩ = some (.slice Ab bs.length cb)) (late := fun j => j == 13) (by kernel_rfl) ?_
     refine wpAnyT_take (i := 0) (v := ?_) rfl (by kernel_rfl) (by kernel_rfl) (by kernel_rfl) (by kernel_rfl) (fun _ _ _ h => h) (Or.inl ⟨by rfl, ?_⟩) (by exact hT.out.fil.c4) ?_
     rotate_left
     · (intro w hSw; (try dsimp only at hSw); go_simp; (try with_reducible rfl))
     (simp only [Act.put, List.getElem_toArray, List.getElem_cons_zero, List.setIfInBounds_toArray, List.set_cons_zero, List.set_cons_succ])
     refine wpAnyT_take (i := 1) (v := ?_) rfl (by kernel_rfl) (by kernel_rfl) (by kernel_rfl) (by kernel_rfl) (fun _ _ _ h => h) (Or.inl ⟨by rfl, ?_⟩) (by exact hT.out.fil.c4) ?_
     rotate_left
     · (intro w hSw; (try dsimp only at hSw); go_simp; (try with_reducible rfl))
     (simp only [Act.put, List.getElem_toArray, List.getElem_cons_zero, List.getElem_cons_succ, List.setIfInBounds_toArray, List.set_cons_zero, List.set_cons_succ])
     refine wpAnyT_take (i := 2) (v := ?_) rfl (by kernel_rfl) (by kernel_rfl) (by kernel_rfl) (by kernel_rfl) (fun _ _ _ h => h) (Or.inl ⟨by rfl, ?_⟩) (by exact hT.out.fil.c4) ?_
     rotate_left
     · (intro w hSw; (try dsimp only at hSw); go_simp; (try with_reducible rfl))
     (simp only [Act.put, List.getElem_toArray, List.getElem_cons_zero, List.getElem_cons_succ, List.setIfInBounds_toArray, List.set_cons_zero, List.set_cons_succ])
     refine wpAnyT_take (i := 3) (v := ?_) rfl (by kernel_rfl) (by kernel_rfl) (by kernel_rfl) (by kernel_rfl) (fun _ _ _ h => h) (Or.inl ⟨by rfl, ?_⟩) (by exact hT.out.fil.c4) ?_
     rotate_left
     · (intro w hSw; (try dsimp only at hSw); go_simp; (try with_reducible rfl))
     (simp only [Act.put, List.getElem_toArray, List.getElem_cons_zero, List.getElem_cons_succ, List.setIfInBounds_toArray, List.set_cons_zero, List.set_cons_succ])
     refine wpAnyT_take (i := 4) (v := ?_) rfl (by kernel_rfl) (by kernel_rfl) (by kernel_rfl) (by kernel_rfl) (fun _ _ _ h => h) (Or.inl ⟨by rfl, ?_⟩) (by exact hT.out.fil.c4) ?_
     rotate_left
     · (intro w hSw; (try dsimp only at hSw); go_simp; (try with_reducible rfl))
     (simp only [Act.put, List.getElem_toArray, List.getElem_cons_zero, List.getElem_cons_succ, List.setIfInBounds_toArray, List.set_cons_zero, List.set_cons_succ])
     refine wpAnyT_take (i := 5) (v := ?_) rfl (by kernel_rfl) (by kernel_rfl) (by kernel_rfl) (by kernel_rfl) (fun _ _ _ h => h) (Or.inl ⟨by rfl, ?_⟩) (by exact hT.out.fil.c4) ?_
     rotate_left
     · (intro w hSw; (try dsimp only at hSw); go_simp; (try with_reducible rfl))
     (simp only [Act.put, List.getElem_toArray, List.getElem_cons_zero, List.getElem_cons_succ, List.setIfInBounds_toArray, List.set_cons_zero, List.set_cons_succ])
     refine wpAnyT_take (i := 6) (v := ?_) rfl (by kernel_rfl) (by kernel_rfl) (by kernel_rfl) (by kernel_rfl) (fun _ _ _ h => h) (Or.inl ⟨by rfl, ?_⟩) (by exact hT.out.fil.c4) ?_
     rotate_left
     · (intro w hSw; (try dsimp only at hSw); go_simp; (try with_reducible rfl))
     (simp only [Act.put, List.getElem_toArray, List.getElem_cons_zero, List.getElem_cons_succ, List.setIfInBounds_toArray, List.set_cons_zero, List.set_cons_succ])
     refine wpAnyT_step (i := 7) (by kernel_rfl) rfl rfl ?_
     go_simp
     (with_reducible refine ((hT.out.ext' ?_).num hnr hnq 65000 65000 rfl (by decide)).mono ?_)
     · (repeat (first | exact Ext.refl _ | apply Ext.drew | apply Ext.alloc | fail))
     rintro e W1 ⟨rfl, hT1⟩
     refine ⟨by first | exact fun _ => hT1.fil.c4 | exact hT1.fil.c4, ?_⟩
     (try (simp only [Act.put, List.getElem_toArray, List.getElem_cons_zero, List.getElem_cons_succ, List.setIfInBounds_toArray, List.set_cons_zero, List.set_cons_succ]))
     refine wpAnyT_step (i := 8) (by kernel_rfl) rfl rfl ?_
     go_simp
     (with_reducible refine (hT1.bytL (Nat.le_trans hnl (by decide)) _ (Nat.le_trans numR_le (by decide))).mono ?_)
     rintro e W2 ⟨x1, rfl, hx1, hxs1, hT2⟩
     have Hx1 := Lib.hid hx1
     clear hx1
     refine ⟨by first | exact fun _ => hT2.fil.c4 | exact hT2.fil.c4, ?_⟩
     (try (simp only [Act.put, List.getElem_toArray, List.getElem_cons_zero, List.getElem_cons_succ, List.setIfInBounds_toArray, List.set_cons_zero, List.set_cons_succ]))
     refine wpAnyT_step (i := 9) (by kernel_rfl) rfl rfl ?_
     have hT2' := hT2.ext' ((Ext.refl _).alloc (.cells #[.slice x1.A x1.body.length x1.c] 22))
     go_simp
     refine ⟨by first | exact fun _ => hT2'.fil.c4 | exact hT2'.fil.c4, ?_⟩
     (try (simp only [Act.put, List.getElem_toArray, List.getElem_cons_zero, List.getElem_cons_succ, List.setIfInBounds_toArray, List.set_cons_zero, List.set_cons_succ]))
     refine wpAnyT_step (i := 10) (by kernel_rfl) rfl rfl ?_
     refine wp_pushS (base := base) x1 _ _ (by rfl) hT2'.own _ rfl (by rfl) (by rfl) (heap_alloc_new _ _) hlen1 hT2'.bas ?_
     intro A5 c5 W5 ho5 hg5 hq5 hb5
     have hF5 := hT2'.fil.grownR hg5 (fun e => by obtain ⟨q9, q8, q7⟩ := Option.map_eq_some_iff.1 e; have := (hT2'.own.block _ q8).1; have := hT2'.lo1; have := hT2'.lo3; have := hT2'.lob; omega)
     have d45 := hF5.c4
     have e45 := hF5.fr 4
     refine ⟨by first | exact fun _ => d45 | exact d45, ?_⟩
     (try (simp only [Act.put, List.getElem_toArray, List.getElem_cons_zero, List.getElem_cons_succ, List.setIfInBounds_toArray, List.set_cons_zero, List.set_cons_succ]))
     refine wpAnyT_step (i := 11) (by kernel_rfl) rfl rfl ?_
     go_simp
     (try (simp only [Act.put, List.getElem_toArray, List.getElem_cons_zero, List.getElem_cons_succ, List.setIfInBounds_toArray, List.set_cons_zero, List.set_cons_succ]))
     refine wpAnyT_step (i := 12) (by kernel_rfl) rfl rfl ?_
     go_simp
     (try (simp only [Act.put, List.getElem_toArray, List.getElem_cons_zero, List.getElem_cons_succ, List.setIfInBounds_toArray, List.set_cons_zero, List.set_cons_succ]))
     refine wpAnyT_step (i := 13) (by kernel_rfl) rfl rfl ?_
     go_simp
     refine wpAnyT_done (by kernel_rfl) ?_ _
     (try (simp only [Act.put, List.getElem_toArray, List.getElem_cons_zero, List.getElem_cons_succ, List.setIfInBounds_toArray, List.set_cons_zero, List.set_cons_succ]))
     have hX2 : Ext W2 (W2.alloc (.cells #[.slice x1.A x1.body.length x1.c] 22)) := (Ext.refl _).alloc _
     have hT6 := hT2'.pushB x1 (hxs1.grownR (Ext.toGrown hX2 none) (by simp)) ho5 hg5 hq5
     rw [Hx1.out] at hT6
     obtain ⟨W6, hW6⟩ : ∃ W, W = W5.setCell ⟨g1, 4, none⟩ (.slice A5 (bs.length + 1) c5) := ⟨_, rfl⟩
     rw [← hW6] at hT6 ⊢
     have HT6 : Hid (TL w W6 g1 g3 base (some ⟨b, o, none⟩) A9 (k : Int) ks (r : Int) (p : Int) A5 c5 (bs ++ [x1]) Af cf fs (stB s)) := Lib.hid hT6
     have k61 := hT6.fil.c1
     have hl6 : (bs ++ [x1]).length = bs.length + 1 := by simp
     clear hT1 hT2 hT2' hT6 hF5 d45 e45 ho5 hg5 hq5 hb5 hW6 hxs1 c40 f40 hX2 hl6
     cases ks with
     | false =>
       go_wp2_with fail
       go_roundw
       case rel => exact ⟨j + 1, stB s, A5, c5, bs ++ [x1], Af, cf, fs, hlt, by go_num, HO2.out, HI2.out, HT6.out⟩
       case measure => simp [intOf]; omega
     | true =>
       have hO6 := okL_stB HO.out
       have hnr6 := hO6.u1
       have hnq6 := hO6.n1
       go_wp2_with fail
       refine wp_region_T (S := fun W => W.cell? ⟨g1, 5, none⟩ = some (.slice Af fs.length cf)) (late := fun j => j == 13) (by kernel_rfl) ?_
       refine wpAnyT_take (i := 0) (v := ?_) rfl (by kernel_rfl) (by kernel_rfl) (by kernel_rfl) (by kernel_rfl) (fun _ _ _ h => h) (Or.inl ⟨by rfl, ?_⟩) (by exact HT6.out.fil.c5) ?_
       rotate_left
       · (intro w hSw; (try dsimp only at hSw); go_simp; (try with_reducible rfl))
       (simp only [Act.put, List.getElem_toArray, List.getElem_cons_zero, List.setIfInBounds_toArray, List.set_cons_zero, List.set_cons_succ])
       refine wpAnyT_take (i := 1) (v := ?_) rfl (by kernel_rfl) (by kernel_rfl) (by kernel_rfl) (by kernel_rfl) (fun _ _ _ h => h) (Or.inl ⟨by rfl, ?_⟩) (by exact HT6.out.fil.c5) ?_
       rotate_left
       · (intro w hSw; (try dsimp only at hSw); go_simp; (try with_reducible rfl))
       (simp only [Act.put, List.getElem_toArray, List.getElem_cons_zero, List.getElem_cons_succ, List.setIfInBounds_toArray, List.set_cons_zero, List.set_cons_succ])
       refine wpAnyT_take (i := 2) (v := ?_) rfl (by kernel_rfl) (by kernel_rfl) (by kernel_rfl) (by kernel_rfl) (fun _ _ _ h => h) (Or.inl ⟨by rfl, ?_⟩) (by exact HT6.out.fil.c5) ?_
       rotate_left
       · (intro w hSw; (try dsimp only at hSw); go_simp; (try with_reducible rfl))
       (simp only [Act.put, List.getElem_toArray, List.getElem_cons_zero, List.getElem_cons_succ, List.setIfInBounds_toArray, List.set_cons_zero, List.set_cons_succ])
       refine wpAnyT_take (i := 3) (v := ?_) rfl (by kernel_rfl) (by kernel_rfl) (by kernel_rfl) (by kernel_rfl) (fun _ _ _ h => h) (Or.inl ⟨by rfl, ?_⟩) (by exact HT6.out.fil.c5) ?_
       rotate_left
       · (intro w hSw; (try dsimp only at hSw); go_simp; (try with_reducible rfl))
       (simp only [Act.put, List.getElem_toArray, List.getElem_cons_zero, List.getElem_cons_succ, List.setIfInBounds_toArray, List.set_cons_zero, List.set_cons_succ])
       refine wpAnyT_take (i := 4) (v := ?_) rfl (by kernel_rfl) (by kernel_rfl) (by kernel_rfl) (by kernel_rfl) (fun _ _ _ h => h) (Or.inl ⟨by rfl, ?_⟩) (by exact HT6.out.fil.c5) ?_
       rotate_left
       · (intro w hSw; (try dsimp only at hSw); go_simp; (try with_reducible rfl))
       (simp only [Act.put, List.getElem_toArray, List.getElem_cons_zero, List.getElem_cons_succ, List.setIfInBounds_toArray, List.set_cons_zero, List.set_cons_succ])
       refine wpAnyT_take (i := 5) (v := ?_) rfl (by kernel_rfl) (by kernel_rfl) (by kernel_rfl) (by kernel_rfl) (fun _ _ _ h => h) (Or.inl ⟨by rfl, ?_⟩) (by exact HT6.out.fil.c5) ?_
       rotate_left
       · (intro w hSw; (try dsimp only at hSw); go_simp; (try with_reducible rfl))
       (simp only [Act.put, List.getElem_toArray, List.getElem_cons_zero, List.getElem_cons_succ, List.setIfInBounds_toArray, List.set_cons_zero, List.set_cons_succ])
       refine wpAnyT_take (i := 6) (v := ?_) rfl (by kernel_rfl) (by kernel_rfl) (by kernel_rfl) (by kernel_rfl) (fun _ _ _ h => h) (Or.inl ⟨by rfl, ?_⟩) (by exact HT6.out.fil.c5) ?_
       rotate_left
       · (intro w hSw; (try dsimp only at hSw); go_simp; (try with_reducible rfl))
       (simp only [Act.put, List.getElem_toArray, List.getElem_cons_zero, List.getElem_cons_succ, List.setIfInBounds_toArray, List.set_cons_zero, List.set_cons_succ])
       refine wpAnyT_step (i := 7) (by kernel_rfl) rfl rfl ?_
       go_simp
       (with_reducible refine ((HT6.out.ext' ?_).num hnr6 hnq6 200 200 rfl (by decide)).mono ?_)
       · (repeat (first | exact Ext.refl _ | apply Ext.drew | apply Ext.alloc | fail))
       rintro e W21 ⟨rfl, hT21⟩
       refine ⟨by first | exact fun _ => hT21.fil.c5 | exact hT21.fil.c5, ?_⟩
       (try (simp only [Act.put, List.getElem_toArray, List.getElem_cons_zero, List.getElem_cons_succ, List.setIfInBounds_toArray, List.set_cons_zero, List.set_cons_succ]))
       refine wpAnyT_step (i := 8) (by kernel_rfl) rfl rfl ?_
       go_simp
       (with_reducible refine (hT21.bytR' (Nat.le_trans numR_len hnq6) _ (Nat.le_trans numR_le (by decide))).mono ?_)
       rintro e W22 ⟨x21, rfl, hx21, hxs21, hT22⟩
       have Hx21 := Lib.hid hx21
       clear hx21
       refine ⟨by first | exact fun _ => hT22.fil.c5 | exact hT22.fil.c5, ?_⟩
       (try (simp only [Act.put, List.getElem_toArray, List.getElem_cons_zero, List.getElem_cons_succ, List.setIfInBounds_toArray, List.set_cons_zero, List.set_cons_succ]))
       refine wpAnyT_step (i := 9) (by kernel_rfl) rfl rfl ?_
       have hT22' := hT22.ext' ((Ext.refl _).alloc (.cells #[.slice x21.A x21.body.length x21.c] 22))
       go_simp
       refine ⟨by first | exact fun _ => hT22'.fil.c5 | exact hT22'.fil.c5, ?_⟩
       (try (simp only [Act.put, List.getElem_toArray, List.getElem_cons_zero, List.getElem_cons_succ, List.setIfInBounds_toArray, List.set_cons_zero, List.set_cons_succ]))
       refine wpAnyT_step (i := 10) (by kernel_rfl) rfl rfl ?_
       refine wp_pushS (base := base) x21 _ _ (by rfl) hT22'.owf _ rfl (by rfl) (by rfl) (heap_alloc_new _ _) hlen6 hT22'.bas ?_
       intro A23 c23 W23 ho23 hg23 hq23 hb23
       have hF23 := hT22'.fil.grownR hg23 (fun e => by obtain ⟨q9, q8, q7⟩ := Option.map_eq_some_iff.1 e; have := (hT22'.owf.block _ q8).1; have := hT22'.lo1; have := hT22'.lo3; have := hT22'.lob; omega)
       have d423 := hF23.c5
       have e423 := hF23.fr 5
       refine ⟨by first | exact fun _ => d423 | exact d423, ?_⟩
       (try (simp only [Act.put, List.getElem_toArray, List.getElem_cons_zero, List.getElem_cons_succ, List.setIfInBounds_toArray, List.set_cons_zero, List.set_cons_succ]))
       refine wpAnyT_step (i := 11) (by kernel_rfl) rfl rfl ?_
       go_simp
       (try (simp only [Act.put, List.getElem_toArray, List.getElem_cons_zero, List.getElem_cons_succ, List.setIfInBounds_toArray, List.set_cons_zero, List.set_cons_succ]))
       refine wpAnyT_step (i := 12) (by kernel_rfl) rfl rfl ?_
       go_simp
       (try (simp only [Act.put, List.getElem_toArray, List.getElem_cons_zero, List.getElem_cons_succ, List.setIfInBounds_toArray, List.set_cons_zero, List.set_cons_succ]))
       refine wpAnyT_step (i := 13) (by kernel_rfl) rfl rfl ?_
       go_simp
       refine wpAnyT_done (by kernel_rfl) ?_ _
       (try (simp only [Act.put, List.getElem_toArray, List.getElem_cons_zero, List.getElem_cons_succ, List.setIfInBounds_toArray, List.set_cons_zero, List.set_cons_succ]))
       have hX22 : Ext W22 (W22.alloc (.cells #[.slice x21.A x21.body.length x21.c] 22)) := (Ext.refl _).alloc _
       have hT10 := hT22'.pushF x21 (hxs21.grownR (Ext.toGrown hX22 none) (by simp)) ho23 hg23 hq23
       rw [Hx21.out] at hT10
       obtain ⟨W10, hW10⟩ : ∃ W, W = W23.setCell ⟨g1, 5, none⟩ (.slice A23 (fs.length + 1) c23) := ⟨_, rfl⟩
       rw [← hW10] at hT10 ⊢
       have HT10 : Hid (TL w W10 g1 g3 base (some ⟨b, o, none⟩) A9 (k : Int) true (r : Int) (p : Int) A5 c5 (bs ++ [x1]) A23 c23 (fs ++ [x21]) (stL true s)) := Lib.hid hT10
       clear hT21 hT22 hT22' hT10 hF23 d423 e423 ho23 hg23 hq23 hb23 hW10 hxs21 hX22
       go_wp2_with fail
       go_roundw
       case rel => exact ⟨j + 1, stL true s, A5, c5, bs ++ [x1], A23, c23, fs ++ [x21], hlt, by go_num, HO2.out, HI2.out, HT10.out⟩
       case measure => simp [intOf]; omega
   · obtain rfl : q = j := by omega
     have hI := HI.out
     rw [Nat.sub_self] at hI
     have hS : s = S := hI
     subst hS
     clear HI hI
     have hE : Ext w wr := hT.out.ext
     have c45 := hT.out.fil.c5
     obtain ⟨Ar, cr, hr1, _⟩ := hT.out.rdr.ex
     obtain ⟨Al, cl, hl1, _⟩ := hT.out.lrd.ex
     have hfu : U8s (fs.map Sl.body) := by
       rw [hT.out.mf]
       exact HO.out.uf
     have h1 := doneC_any (g1 + 1) Ar s.r.length cr s.rf wr hr1
     have h2 := doneC_any g3 Al s.l.length cl s.lf wr hl1
     have h3 := riseC_any Af fs.length cf (fs.map Sl.body) wr (rdSS_of hT.out.owf (fun x hx => (hT.out.okf x hx).1)) hfu (by
       have h1 := HO.out.lf
       have h2 := congrArg List.length hT.out.mf
       rw [List.length_map] at h2
       omega)
     have hfl : fs.length = s.fs.length := by rw [← hT.out.mf, List.length_map]
     have hbl' : bs.length = s.bs.length := by rw [← hT.out.mb, List.length_map]
     have hend : endL s = ((!s.rf && decide (s.r.length = 0)) && (!s.lf && decide (s.l.length = 0)) && decide (riseP (fs.map Sl.body) fs.length)) := by
       unfold endL
       rw [hT.out.mf, hfl]
     obtain ⟨D1, hD1⟩ : ∃ D, D = (!s.rf && decide (s.r.length = 0)) := ⟨_, rfl⟩
     obtain ⟨D2, hD2⟩ : ∃ D, D = (!s.lf && decide (s.l.length = 0)) := ⟨_, rfl⟩
     obtain ⟨D3, hD3⟩ : ∃ D, D = decide (riseP (fs.map Sl.body) fs.length) := ⟨_, rfl⟩
     rw [← hD1, ← hD2, ← hD3] at hend
     rw [← hD1] at h1
     rw [← hD2] at h2
     rw [← hD3] at h3
     have HD1 := Lib.hid h1
     have HD2 := Lib.hid h2
     have HD3 := Lib.hid h3
     have hR := HR3.out
     rw [hend] at hR
     clear h1 h2 h3 hD1 hD2 hD3 hfu hr1 hl1 hend
     cases D1 with
     | false =>
       have HRn := Lib.hid (hR.trans (if_pos rfl))
       clear hR hfl hbl'
       go_wp2_with fail
       refine HD1.out.mono ?_
       rintro e V1 ⟨rfl, rfl⟩
       go_wp2_with fail
       go_ret2
       exact ⟨hE, .inl ⟨HRn.out, rfl⟩⟩
     | true =>
       cases D2 with
       | false =>
         have HRn := Lib.hid (hR.trans (if_pos rfl))
         clear hR hfl hbl'
         go_wp2_with fail
         refine HD1.out.mono ?_
         rintro e V1 ⟨rfl, rfl⟩
         go_wp2_with fail
         refine HD2.out.mono ?_
         rintro e V2 ⟨rfl, rfl⟩
         go_wp2_with fail
         go_ret2
         exact ⟨hE, .inl ⟨HRn.out, rfl⟩⟩
       | true =>
         cases D3 with
         | false =>
           have HRn := Lib.hid (hR.trans (if_pos rfl))
           clear hR hfl hbl'
           go_wp2_with fail
           refine HD1.out.mono ?_
           rintro e V1 ⟨rfl, rfl⟩
           go_wp2_with fail
           refine HD2.out.mono ?_
           rintro e V2 ⟨rfl, rfl⟩
           go_wp2_with fail
           refine HD3.out.mono ?_
           rintro e V3 ⟨rfl, he3⟩
           go_wp2_with fail
           go_ret2
           exact ⟨hE.trans he3, .inl ⟨HRn.out, rfl⟩⟩
         | true =>
           have HRs := Lib.hid (hR.trans (if_neg (by decide)))
           have Hfl := Lib.hid hfl
           have Hbl2 := Lib.hid hbl'
           clear hR hfl hbl'
           go_wp2_with fail
           refine HD1.out.mono ?_
           rintro e V1 ⟨rfl, rfl⟩
           go_wp2_with fail
           refine HD2.out.mono ?_
           rintro e V2 ⟨rfl, rfl⟩
           go_wp2_with fail
           refine HD3.out.mono ?_
           rintro e V3 ⟨rfl, he3⟩
           go_wp2_with fail
           go_ret2
           have hT2 := hT.out.ext' he3
           refine ⟨hE.trans he3, .inr ⟨_, g1, HRs.out, rfl, ⟨hT2.lo1, Ab, cb, Af, cf, bs, fs, ?_, ?_, ?_, hT2.mb, hT2.mf, fun x hx => ?_, fun x hx => ?_⟩⟩⟩
           · rw [← Hbl2.out, ← Hfl.out]
             exact hT2.fil
           · exact OwnS.mono' hT2.own (by have := hT2.lo1; have := hT2.lo3; have := hT2.lob; omega)
           · exact OwnS.mono' hT2.owf (by have := hT2.lo1; have := hT2.lo3; have := hT2.lob; omega)
           · obtain ⟨y1, y2, y3, _⟩ := hT2.okb x hx
             exact ⟨y1, y2, y3⟩
           · obtain ⟨y1, y2, y3, _⟩ := hT2.okf x hx
             exact ⟨y1, y2, y3⟩
def trn (bs : List Nat) (at_ : Int) (p : Nat) : List Nat :=
 if 0 ≤ at_ ∧ at_ < 8 * (bs.length : Int) ∧ p * 2 ^ at_.toNat < 2 ^ (8 * bs.length) then tn bs (p * 2 ^ at_.toNat) else bs
theorem trn_in {bs : List Nat} {a p : Nat} (h1 : a < 8 * bs.length) (h2 : p * 2 ^ a < 2 ^ (8 * bs.length)) : trn bs a p = tn bs (p * 2 ^ a) := by
 rw [trn, if_pos ⟨by omega, by omega, by simpa using h2⟩]
 simp
theorem trn_out {bs : List Nat} {at_ : Int} {p : Nat} (h : at_ < 0 ∨ 8 * (bs.length : Int) ≤ at_) : trn bs at_ p = bs := by
 rw [trn, if_neg (by omega)]
theorem trn_far {bs : List Nat} {a p : Nat} (h : 2 ^ (8 * bs.length) ≤ p * 2 ^ a) : trn bs a p = bs := by
 rw [trn, if_neg]
 rintro ⟨_, _, h3⟩
 rw [Int.toNat_natCast] at h3
 omega
theorem trn_len (bs : List Nat) (at_ : Int) (p : Nat) : (trn bs at_ p).length = bs.length := by
 unfold trn
 split
 · exact tn_len _ _
 · rfl
theorem trn_u8 {bs : List Nat} (h : U8 bs) (at_ : Int) (p : Nat) : U8 (trn bs at_ p) := by
 unfold trn
 split
 · exact tn_u8 _ _
 · exact h
theorem run_even {p t : Nat} (h : p / 2 ^ t % 2 = 0) : p % 2 ^ (t + 1) = p % 2 ^ t := by
 rw [Nat.pow_succ, Nat.mod_mul, h, Nat.mul_zero, Nat.add_zero]
theorem run_odd {p t a : Nat} (h : p / 2 ^ t % 2 = 1) : (p % 2 ^ (t + 1)) * 2 ^ a = (p % 2 ^ t * 2 ^ a) ^^^ 2 ^ (a + t) := by
 have h1 : p % 2 ^ t * 2 ^ a < 2 ^ (a + t) := by
   rw [Nat.pow_add, Nat.mul_comm]
   exact Nat.mul_lt_mul_of_pos_left (Nat.mod_lt _ (Nat.two_pow_pos t)) (Nat.two_pow_pos a)
 have h2 := lowhigh (x := 1) h1
 rw [Nat.mul_one] at h2
 rw [Nat.pow_succ, Nat.mod_mul, h, Nat.mul_one, Nat.add_mul, ← h2, ← Nat.pow_add, Nat.add_comm t a]
theorem tn_more {bs : List Nat} {e k : Nat} (h : k < 8 * bs.length) : tn bs (e ^^^ 2 ^ k) = (tn bs e).set (k / 8) ((tn bs e).getD (k / 8) 0 ^^^ pw (k % 8)) := by
 unfold tn pw
 rw [← Nat.xor_assoc, upk_bit h]
theorem run_end {p t a m : Nat} (h : p / 2 ^ t = 0) (hm : a + t ≤ m) : p % 2 ^ t = p ∧ p * 2 ^ a < 2 ^ m := by
 have h1 : p < 2 ^ t := by
   rcases Nat.lt_or_ge p (2 ^ t) with h2 | h2
   · exact h2
   · have := Nat.div_pos h2 (Nat.two_pow_pos t); omega
 refine ⟨Nat.mod_eq_of_lt h1, ?_⟩
 calc p * 2 ^ a < 2 ^ t * 2 ^ a := Nat.mul_lt_mul_of_pos_right h1 (Nat.two_pow_pos a)
   _ = 2 ^ (a + t) := by rw [← Nat.pow_add, Nat.add_comm]
   _ ≤ 2 ^ m := Nat.pow_le_pow_right (by omega) hm
theorem run_far {p t a m : Nat} (h : 0 < p / 2 ^ t) (hm : m ≤ a + t) : 2 ^ m ≤ p * 2 ^ a := by
 have h1 : 2 ^ t ≤ p := by
   rcases Nat.lt_or_ge p (2 ^ t) with h2 | h2
   · rw [Nat.div_eq_of_lt h2] at h; omega
   · exact h2
 calc 2 ^ m ≤ 2 ^ (a + t) := Nat.pow_le_pow_right (by omega) hm
   _ = 2 ^ t * 2 ^ a := by rw [← Nat.pow_add, Nat.add_comm]
   _ ≤ p * 2 ^ a := Nat.mul_le_mul_right _ h1
set_option maxHeartbeats 1000000 in
theorem turn_any (A : Option Addr) (n c p : Nat) (at_ : Int) (bs : List Nat) (w : World) (hx : Rd .u8 w A n bs) (hu : U8 bs) (hn : n ≤ 140737488355328) (hp : p < 4294967296) :
   Calls Tryz.prog 34 #[.slice A n c, .int .i64 at_, .int .u32 p] w fun e w' => ∃ A' c', e = .returned (.slice A' n c') ∧ Own .u8 5 w' w.heap.size A' c' (trn bs at_ p) ∧ Ext w w' := by
 have hl := hx.len
 have Hl := Lib.hid hl
 by_cases hneg : at_ < 0
 · have HT := Lib.hid (trn_out (bs := bs) (p := p) (.inl hneg))
   clear hl
   go_enter Tryz.func34, Tryz.ntmps34
   go_wp2_with fail
   refine (copy_any _ _ _ _ _ hx hn).mono ?_
   rintro e w1 ⟨A1, c1, rfl, hown1, he1⟩
   go_wp2
   go_ret
   exact ⟨_, _, rfl, by rw [HT.out]; exact hown1, he1⟩
 · obtain ⟨a, rfl⟩ := Int.eq_ofNat_of_zero_le (show 0 ≤ at_ by omega)
   have b1 : decide ((a : Int) < 0) = false := by simp
   by_cases hfar : 8 * n ≤ a
   · have HT := Lib.hid (trn_out (bs := bs) (p := p) (at_ := (a : Int)) (.inr (by omega)))
     clear hl
     go_enter Tryz.func34, Tryz.ntmps34
     go_wp2_with fail
     refine (copy_any _ _ _ _ _ hx hn).mono ?_
     rintro e w1 ⟨A1, c1, rfl, hown1, he1⟩
     go_wp2
     go_ret
     exact ⟨_, _, rfl, by rw [HT.out]; exact hown1, he1⟩
   · clear hl
     go_enter Tryz.func34, Tryz.ntmps34
     go_wp2_with fail
     refine (copy_any _ _ _ _ _ hx hn).mono ?_
     rintro e w1 ⟨A1, c1, rfl, hown1, he1⟩
     go_wp2_with fail
     go_loopw [8, 9, 10, 11] (fun y k _ _ wr => ∃ t : Nat, a + t ≤ 8 * n ∧ y = .int .u64 (p / 2 ^ t : Nat) ∧ k = .int .i64 (a + t : Nat) ∧ Own .u8 5 wr w.heap.size A1 c1 (tn bs (p % 2 ^ t * 2 ^ a)) ∧ Ext w wr) (fun y _ _ _ _ => (intOf y).toNat)
     case atStart => exact ⟨0, by omega, by rw [Nat.pow_zero, Nat.div_one], rfl, by rw [Nat.pow_zero, Nat.mod_one, Nat.zero_mul, tn_zero hu]; exact hown1, he1⟩
     case round =>
       clear hown1 he1
       obtain ⟨t, ht, rfl, rfl, hown, he⟩ := hrel
       have hle : p / 2 ^ t < 4294967296 := Nat.lt_of_le_of_lt (Nat.div_le_self _ _) hp
       have hnx : p / 2 ^ (t + 1) = p / 2 ^ t / 2 := by rw [Nat.div_div_eq_div_mul, ← Nat.pow_succ]
       by_cases hpos : 0 < p / 2 ^ t
       · by_cases hend : 8 * n ≤ a + t
         · have HT := Lib.hid (trn_far (bs := bs) (run_far (a := a) (m := 8 * bs.length) hpos (by have := Hl.out; omega)))
           obtain ⟨y, hy⟩ : ∃ y, y = p / 2 ^ t := ⟨_, rfl⟩
           rw [← hy] at hpos hle ⊢
           clear hy hnx
           go_wp2_with fail
           refine (copy_any _ _ _ _ _ (hx.ext he) hn).mono ?_
           rintro e w2 ⟨A2, c2, rfl, hown2, he2⟩
           go_wp2
           go_ret
           exact ⟨_, _, rfl, by rw [HT.out]; exact hown2.mono he.size, he.trans he2⟩
         · have hkn : (a + t) / 8 < n := by omega
           have hev := fun h => congrArg (fun q => tn bs (q * 2 ^ a)) (run_even (p := p) (t := t) h)
           have hod := fun h => (congrArg (tn bs) (run_odd (p := p) (t := t) (a := a) h)).trans (tn_more (by have := Hl.out; omega))
           obtain ⟨D, hD⟩ : ∃ D, D = tn bs (p % 2 ^ t * 2 ^ a) := ⟨_, rfl⟩
           have hDl : D.length = n := by rw [hD, tn_len]; exact Hl.out
           have hDu : U8 D := by rw [hD]; exact tn_u8 _ _
           have hev2 : p / 2 ^ t % 2 = 0 → tn bs (p % 2 ^ (t + 1) * 2 ^ a) = D := fun h => (hev h).trans hD.symm
           clear hev
           rw [← hD] at hod hown
           have hv := hDu.at_ ((a + t) / 8)
           obtain ⟨y, hy⟩ : ∃ y, y = p / 2 ^ t := ⟨_, rfl⟩
           obtain ⟨k, hk⟩ : ∃ k, k = a + t := ⟨_, rfl⟩
           have hk1 : a + (t + 1) = k + 1 := by omega
           rw [← hy] at hpos hle hnx hev2 hod ⊢
           rw [← hk] at hkn hod hend hv ⊢
           have Hnx := Lib.hid hnx
           have Hk1 := Lib.hid hk1
           have Hev := Lib.hid hev2
           have Hod := Lib.hid hod
           have hk8 : k < 8 * n := by omega
           have ht1 : a + (t + 1) ≤ 8 * n := by omega
           clear hy hnx hk hk1 hev2 hod hD hDu ht hend
           by_cases hbit : y % 2 = 1
           · go_wp2_with fail
             go_loop [10, 11] (fun z j => ∃ q : Nat, q ≤ k % 8 ∧ j = .int .i64 q ∧ z = .int .u8 (pw q : Nat)) (fun _ j => k % 8 - (intOf j).toNat)
             case atStart => exact ⟨0, by omega, rfl, rfl⟩
             case round =>
               obtain ⟨q, hq, rfl, rfl⟩ := hrel
               have w3 : (k : Int).tmod 8 = (k : Int) % 8 := Int.tmod_eq_emod_of_nonneg (by omega)
               by_cases hq8 : q < k % 8
               · have hps := pw_succ q
                 have hpl := pw_le (show q + 1 ≤ 7 by omega)
                 rw [show pw 7 = 128 from rfl] at hpl
                 have Hps := Lib.hid hps
                 clear hps
                 have hpl2 : pw q * 2 ≤ 128 := by rw [← Hps.out]; exact hpl
                 go_wp2
                 go_round
                 case rel => exact ⟨q + 1, by omega, by go_num, by rw [Hps.out]; go_num⟩
                 case measure => simp [intOf]; omega
               · obtain rfl : q = k % 8 := by omega
                 obtain ⟨b, rfl, hbb, hbl, hc, hf, hset⟩ := hown.at_ (show k / 8 < D.length by rw [hDl]; exact hkn)
                 have hpl := pw_le (show k % 8 ≤ 7 by omega)
                 rw [show pw 7 = 128 from rfl] at hpl
                 have hnew := Hod.out hbit
                 obtain ⟨z, hz⟩ : ∃ z, z = pw (k % 8) := ⟨_, rfl⟩
                 obtain ⟨v, hv'⟩ : ∃ v, v = D.getD (k / 8) 0 := ⟨_, rfl⟩
                 rw [← hz] at hpl hnew ⊢
                 rw [← hv'] at hc hv hnew
                 have hxor : bits .xor .u8 (v : Int) (z : Int) = ((v ^^^ z : Nat) : Int) := u8_xor_nat _ _ hv (by omega)
                 obtain ⟨hs1, hs2⟩ := hset (v ^^^ z)
                 rw [← hnew] at hs1
                 have Hs1 := Lib.hid hs1
                 have He := Lib.hid (grownBy_ext he hs2 (fun g hg => by injection hg with hg; omega))
                 have f1 : IntKind.i64.wrap ((k : Int) / 8) = (k : Int) / 8 := IntWalk.i64_in _ (by omega)
                 have f2 : ((k : Int) / 8).toNat = k / 8 := by omega
                 have f3 : (0 : Int) ≤ (k : Int) / 8 := by omega
                 have f4 : (k : Int) / 8 < (n : Int) := by omega
                 clear hnew hset hs1 hs2 hz hv' hown he
                 go_wp2
                 go_roundw
                 case rel => exact ⟨t + 1, ht1, by rw [Hnx.out]; go_num, by rw [Hk1.out]; go_num, Hs1.out, He.out⟩
                 case measure => simp [intOf]; omega
           · go_wp2
             go_roundw
             case rel => exact ⟨t + 1, ht1, by rw [Hnx.out]; go_num, by rw [Hk1.out]; go_num, by rw [show tn bs (p % 2 ^ (t + 1) * 2 ^ a) = D from Hev.out (by omega)]; exact hown, he⟩
             case measure => simp [intOf]; omega
       · have h0 : p / 2 ^ t = 0 := Nat.eq_zero_of_not_pos hpos
         obtain ⟨h1, h2⟩ := run_end (a := a) (m := 8 * bs.length) h0 (by have := Hl.out; omega)
         rw [h1, ← trn_in (by have := Hl.out; omega) h2] at hown
         rw [h0]
         clear h0 h1 h2 hle hnx hpos
         go_wp2
         go_ret
         exact ⟨_, _, rfl, hown, he⟩
def fhead (kind n : Nat) : List Nat := upk 8 1 kind ++ upk 8 4 n
def fr (kind : Nat) (body : List Nat) : List Nat := sl (fhead kind body.length) ++ sl body
def fputE (kind : Int) (body : List Nat) : Int := if kind < 1 ∨ 255 < kind then 1 else if 65536 < body.length then 4 else 0
def fputL (kind : Int) (body : List Nat) : List Nat := if fputE kind body = 0 then fr kind.toNat body else []
theorem fhead_len (k n : Nat) : (fhead k n).length = 5 := by rw [fhead, List.length_append, upk_len, upk_len]
theorem fhead_u8 (k n : Nat) : U8 (fhead k n) := u8_append (U8_wd.2 (upk_wd _ _ _)) (U8_wd.2 (upk_wd _ _ _))
theorem fr_len (k : Nat) (b : List Nat) : (fr k b).length = b.length + 13 := by rw [fr, List.length_append, sl_len, sl_len, fhead_len]; omega
theorem fr_u8 {b : List Nat} (h : U8 b) (k : Nat) : U8 (fr k b) := u8_append (sl_u8 (fhead_u8 _ _)) (sl_u8 h)
def FPutPost (kind : Int) (body : List Nat) (w : World) (e : Ending) (w' : World) : Prop :=
 ∃ A' c', e = .returned (.tuple #[.slice A' (fputL kind body).length c', .int .i64 (fputE kind body)]) ∧ Own .u8 5 w' w.heap.size A' c' (fputL kind body) ∧ Ext w w'
theorem FPutPost.err {kind r : Int} {b : List Nat} {w w' : World} (h : fputE kind b = r) (hr : r ≠ 0) (he : Ext w w') : FPutPost kind b w (.returned (.tuple #[.slice none 0 0, .int .i64 r])) w' := by
 have h0 : fputL kind b = [] := by unfold fputL; rw [h, if_neg hr]
 refine ⟨none, 0, ?_, ?_, he⟩
 · rw [h0, h]; rfl
 · rw [h0]; exact Own.nil ..
theorem FPutPost.ok {kind m : Nat} {b : List Nat} {w w' : World} {A : Option Addr} {c : Nat} (h : fputE kind b = 0) (hm : m = (fr kind b).length) (ho : Own .u8 5 w' w.heap.size A c (fr kind b)) (he : Ext w w') :
   FPutPost kind b w (.returned (.tuple #[.slice A m c, .int .i64 0])) w' := by
 have h0 : fputL kind b = fr kind b := by unfold fputL; rw [h, if_pos rfl]; rfl
 refine ⟨A, c, ?_, ?_, he⟩
 · rw [h0, h, hm]
 · rw [h0]; exact ho
theorem fputE_arg {kind : Int} {b : List Nat} (h : kind < 1 ∨ 255 < kind) : fputE kind b = 1 := if_pos h
theorem fputE_long {kind : Int} {b : List Nat} (h : ¬ (kind < 1 ∨ 255 < kind)) (h2 : 65536 < b.length) : fputE kind b = 4 := by unfold fputE; rw [if_neg h, if_pos h2]
theorem fputE_ok {kind : Int} {b : List Nat} (h : ¬ (kind < 1 ∨ 255 < kind)) (h2 : ¬ 65536 < b.length) : fputE kind b = 0 := by unfold fputE; rw [if_neg h, if_neg h2]
set_option maxHeartbeats 800000 in
theorem refFPut_any (kind : Int) (A : Option Addr) (n c : Nat) (bs : List Nat) (w : World) (hx : Rd .u8 w A n bs) (hu : U8 bs) :
   Calls Tryz.prog 96 #[.int .i64 kind, .slice A n c] w (FPutPost kind bs w) := by
 have hl := hx.len
 by_cases hk : kind < 1 ∨ 255 < kind
 · have HE := Lib.hid (fputE_arg (b := bs) hk)
   clear hl
   go_enter Tryz.func96, Tryz.ntmps96
   rcases hk with h | h
   · go_wp2
     go_ret2
     exact FPutPost.err HE.out (by decide) (Ext.refl _)
   · by_cases h2 : kind < 1
     all_goals
       go_wp2
       go_ret2
       exact FPutPost.err HE.out (by decide) (Ext.refl _)
 · have h1 : 1 ≤ kind := by omega
   have h2 : kind ≤ 255 := by omega
   have b1 : decide (kind < 1) = false := by simp; omega
   have b2 : decide (255 < kind) = false := by simp; omega
   by_cases hlong : 65536 < n
   · have HE := Lib.hid (fputE_long (b := bs) hk (by omega))
     clear hl hk
     go_enter Tryz.func96, Tryz.ntmps96
     go_wp2
     go_ret2
     exact FPutPost.err HE.out (by decide) (Ext.refl _)
   · have HE := Lib.hid (fputE_ok (b := bs) hk (by omega))
     obtain ⟨k, rfl⟩ := Int.eq_ofNat_of_zero_le (show 0 ≤ kind by omega)
     have hfl := fr_len k bs
     rw [hl] at hfl
     have b3 : decide (65536 < (n : Int)) = false := by simp; omega
     have Hf := Lib.hid hfl
     have Hl := Lib.hid hl
     clear hl hk hfl
     go_enter Tryz.func96, Tryz.ntmps96
     go_wp2_with fail
     refine (low_any k 1 _ (by omega) (by omega)).mono ?_
     rintro e w1 ⟨A1, c1, rfl, hown1, he1⟩
     go_wp2_with fail
     refine (low_any n 4 _ (by omega) (by omega)).mono ?_
     rintro e w2 ⟨A2, c2, rfl, hown2, he2⟩
     go_wp2_with fail
     refine (cat_any _ _ 1 _ 4 _ _ _ _ ((hown1.ext he2).rd' (upk_len _ _ _)) (hown2.rd' (upk_len _ _ _)) (by omega)).mono ?_
     rintro e w3 ⟨A3, c3, rfl, hown3, he3⟩
     rw [show upk 8 1 k ++ upk 8 4 n = fhead k bs.length from by rw [Hl.out]; rfl] at hown3
     go_wp2_with fail
     refine (refSeal_any _ 5 _ _ _ (hown3.rd' (fhead_len _ _)) (fhead_u8 _ _) (by omega)).mono ?_
     rintro e w4 ⟨A4, c4, rfl, hown4, he4⟩
     have hE3 := (he1.trans he2).trans he3
     go_wp2_with fail
     refine (refSeal_any _ _ _ _ _ ((hx.ext hE3).ext he4) hu (by omega)).mono ?_
     rintro e w5 ⟨A5, c5, rfl, hown5, he5⟩
     go_wp2_with fail
     refine (cat_any _ _ 9 _ (n + 4) _ _ _ _ ((hown4.ext he5).rd' (by rw [sl_len, fhead_len])) (hown5.rd' (by rw [sl_len, Hl.out])) (by omega)).mono ?_
     rintro e w6 ⟨A6, c6, rfl, hown6, he6⟩
     have hE6 := ((hE3.trans he4).trans he5).trans he6
     have hb : w.heap.size ≤ w5.heap.size := by have := hE3.size; have := he4.size; have := he5.size; omega
     go_wp2
     go_ret2
     exact FPutPost.ok HE.out (by rw [Hf.out]; omega) (hown6.mono hb) hE6
end Go.Proofs.YthibbgmicmfkfaaGreat
