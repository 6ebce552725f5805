import Derived.Test.YtkmnhapeohlooaaG18

/-
  Layer 18: every call in every order: walked.
-/
namespace Go.Proofs.Ytkmnhapeohlooaa
open Go.RowKit
set_option maxRecDepth 100000

set_option maxHeartbeats 6400000 in
theorem walk_SkipPlays (A1 : Option Addr) (n1 c1 : Nat) (xs1 : List Int) (A2 : Option Addr) (n2 c2 : Nat) (os : List O18) (w : World)
    (r1 : RdG shZ w A1 n1 xs1) (z1 : n1 ≤ 17592186044416) (r2 : RdG shO w A2 n2 os ∧ ∀ o ∈ os, (TxI w o.key ∧ o.key.body.length ≤ 1048576) ∧ (TxI w o.hi ∧ o.hi.body.length ≤ 1048576)) (z2 : n2 ≤ 1048575) :
    Calls Try.prog 7 #[.slice A1 n1 c1, .slice A2 n2 c2] w fun e w' => e = .returned (.bool true) ∧ Ext w w' := by
  have C1 := Lib.hid (snew_any A1 n1 c1 xs1 w r1 z1)
  have R1 := Lib.hid r1
  have R2 := Lib.hid r2
  obtain ⟨H, hH⟩ : ∃ H, H = hts xs1 := ⟨_, rfl⟩
  rw [← hH] at C1
  have HHH := Lib.hid hH
  clear r1 r2 hH
  go_enter Try.func7, Try.ntmps7
  go_wp2_with fail
  refine C1.out.mono ?_
  rintro e w1 ⟨sb, rfl, k1, he1⟩
  go_wp2_with fail
  refine (alive18_any _).mono ?_
  rintro e w2 ⟨rfl, he2⟩
  go_wp2_with fail
  obtain ⟨Bm, hBm⟩ : ∃ Bm, Bm = w2.heap.size := ⟨_, rfl⟩
  have hz1 := he1.size
  have hz2 := he2.size
  have HAS0 : Hid (AS w (w2.alloc (.cells #[.slice none 0 0, .slice none 0 0] 51)) sb H none 0 none [] [] (fun q => w.heap.size ≤ q ∧ q < w1.heap.size) w.heap.size) := Lib.hid
    ⟨(k1.ext he2).ext ((Ext.refl w2).alloc _), Nat.le_refl _, (he1.trans he2).alloc _, ⟨rfl, fun h => absurd h (by decide)⟩, ⟨rfl, fun h => absurd h (by decide)⟩, fun s hs => by (cases hs), fun a ha => by (cases ha), fun a ha => by (cases ha), fun s hs => by (cases hs)⟩
  have Hbm0 := Lib.hid (heap_alloc_new w2 (.cells #[.slice none 0 0, .slice none 0 0] 51))
  rw [← hBm] at Hbm0
  have HFr0 : Hid (Fre (fun q => w.heap.size ≤ q ∧ q < w1.heap.size) none none [] Bm) := Lib.hid ⟨fun h => by omega, fun a ha => by (cases ha), fun a ha => by (cases ha), fun s hs => by (cases hs)⟩
  have HBm := Lib.hid (show w.heap.size ≤ Bm from by omega)
  have hBm2 : w2.heap.size = Bm := hBm.symm
  clear k1 he1 C1 hz1 hz2 he2
  rw [hBm2]
  clear hBm2 hBm
  go_loopw [24] (fun i wr => ∃ (j : Nat) (Ak : Option Addr) (n ck : Nat) (Av : Option Addr) (cv : Nat) (ss : List Sl) (V : List Int) (X : Nat → Prop) (base : Nat), j ≤ n2 ∧ i = .int .i64 (j : Int) ∧ n ≤ j ∧ Hid (AS w wr sb H Ak n Av ss V X base) ∧ Hid (wr.heap[Bm]? = some (.cells #[.slice Ak n ck, .slice Av n cv] 51 (0, 0))) ∧ Hid (Fre X Ak Av ss Bm)) (fun i _ => n2 - (intOf i).toNat)
  case atStart => exact ⟨0, none, 0, 0, none, 0, [], [], _, _, Nat.zero_le _, rfl, Nat.le_refl _, HAS0, Hbm0, HFr0⟩
  case round =>
    clear HAS0 Hbm0 HFr0
    obtain ⟨j, Ak, n, ck, Av, cv, ss, V, X, base, hj, rfl, hnj, HA, HB, HF⟩ := hrel
    have m0 : wr.cell? ⟨Bm, 0, none⟩ = some (.slice Ak n ck) := cell_of_row wr Bm 0 _ _ (0, 0) HB.out
    have m1 : wr.cell? ⟨Bm, 1, none⟩ = some (.slice Av n cv) := cell_of_row wr Bm 1 _ _ (0, 0) HB.out
    have hBl := (Array.getElem?_eq_some_iff.1 HB.out).1
    by_cases hlt : j < n2
    · obtain ⟨b, ob, o, rfl, hbl, ho, hc⟩ := (R2.out.1.ext HA.out.ext).at_ hlt
      have ht := R2.out.2 o (List.mem_of_getElem? ho)
      have c0 : wr.cell? ⟨b, ob + j * 4, none⟩ = some (.int .i64 o.k) := hc 0 _ rfl
      have cc1 : wr.cell? ⟨b, ob + j * 4 + 1, none⟩ = some o.key.v := hc 1 _ rfl
      have cc2 : wr.cell? ⟨b, ob + j * 4 + 2, none⟩ = some o.hi.v := hc 2 _ rfl
      have cc3 : wr.cell? ⟨b, ob + j * 4 + 3, none⟩ = some (.int .i64 o.v) := hc 3 _ rfl
      obtain ⟨ok_, ⟨kA, kc, key⟩, ⟨hA, hc2, hi⟩, ov⟩ := o
      unfold Sl.v at cc1 cc2
      simp only at c0 cc1 cc2 cc3 ht
      have hXb : ∀ q, X q → w.heap.size ≤ q := fun q hq => by have h1 := (HA.out.ls.bd' q hq).1; have := HA.out.low; omega
      have CA := asks_any (HA.out.to ((Ext.refl wr).alloc (.cells #[.int .i64 ok_, .slice kA key.length kc, .slice hA hi.length hc2, .int .i64 ov] 54))) (by omega) ck cv ok_ ov kA key.length kc key ((ht.1.1.rd.ext HA.out.ext).ext ((Ext.refl wr).alloc _)) ht.1.1.u8 ht.1.2 hA hi.length hc2 hi ((ht.2.1.rd.ext HA.out.ext).ext ((Ext.refl wr).alloc _)) ht.2.1.u8 ht.2.2 (fun h0 a ha hx => by
        have h1 := ht.1.1.rd.lt h0 a ha
        have := hXb _ hx
        omega)
      obtain ⟨kn, hkn⟩ : ∃ kn, kn = key.length := ⟨_, rfl⟩
      obtain ⟨hn, hhn⟩ : ∃ hn, hn = hi.length := ⟨_, rfl⟩
      rw [← hkn] at cc1
      rw [← hhn] at cc2
      rw [← hkn, ← hhn] at CA
      have CA := Lib.hid CA
      have HB2 : Hid ((wr.alloc (.cells #[.int .i64 ok_, .slice kA kn kc, .slice hA hn hc2, .int .i64 ov] 54)).heap[Bm]? = some (.cells #[.slice Ak n ck, .slice Av n cv] 51 (0, 0))) := Lib.hid ((Below.heap_alloc _ _ _ hBl).trans HB.out)
      have hji : (j : Int) < (n2 : Int) := by omega
      clear hkn hhn ht hc ho hXb m0 m1
      go_wp2_with (first
        | (refine wpList_load_row rfl 51 _ rfl Bm rfl 51 #[.slice Ak n ck, .slice Av n cv] (0, 0) _ HB2.out Try.underlying51 rfl (by kernel_rfl) ?_)
        | fail)
      refine CA.out.mono ?_
      rintro e w5 ⟨Ak', n', ck', Av', cv', ss', V', X', base', rfl, hn', hA5, hz5, hfr5⟩
      have hBlt : Bm < (wr.alloc (.cells #[.int .i64 ok_, .slice kA kn kc, .slice hA hn hc2, .int .i64 ov] 54)).heap.size := by rw [World.size_alloc]; omega
      obtain ⟨hF5, hh5⟩ := hfr5 Bm hBlt HF.out
      have hb5 := hh5.trans HB2.out
      have HB5 : Hid ((w5.alloc (.cells #[.slice Ak' n' ck', .slice Av' n' cv'] 51)).heap[Bm]? = some (.cells #[.slice Ak n ck, .slice Av n cv] 51 (0, 0))) := Lib.hid ((Below.heap_alloc _ _ _ (Array.getElem?_eq_some_iff.1 hb5).1).trans hb5)
      have HN5 := Lib.hid (heap_alloc_new w5 (.cells #[.slice Ak' n' ck', .slice Av' n' cv'] 51))
      obtain ⟨W6, hW6⟩ : ∃ W6, W6 = (w5.alloc (.cells #[.slice Ak' n' ck', .slice Av' n' cv'] 51)).setRow Bm #[.slice Ak' n' ck', .slice Av' n' cv'] := ⟨_, rfl⟩
      have hA6 : AS w W6 sb H Ak' n' Av' ss' V' X' base' := by
        rw [hW6]
        exact (hA5.to ((Ext.refl w5).alloc _)).fr (grownBy_frX (grown_setRow _ _ _) (.inl rfl)) hF5 HBm.out
      have hb6 : W6.heap[Bm]? = some (.cells #[.slice Ak' n' ck', .slice Av' n' cv'] 51 (0, 0)) := by rw [hW6]; exact setRow_heap _ Bm _ _ 51 (0, 0) HB5.out
      have HA6 := Lib.hid hA6
      have HB6 := Lib.hid hb6
      have HF6 := Lib.hid hF5
      clear CA hA5 hz5 hfr5 hBlt hF5 hh5 hb5 hA6 hb6 HA HB HF HB2 c0 cc1 cc2 cc3 hbl
      go_wp2_with (first
        | (refine wpList_load_row rfl 51 _ rfl w5.heap.size rfl 51 #[.slice Ak' n' ck', .slice Av' n' cv'] (0, 0) _ HN5.out Try.underlying51 rfl (by kernel_rfl) ?_)
        | (refine wpList_store_row rfl 51 _ _ rfl Bm #[.slice Ak' n' ck', .slice Av' n' cv'] rfl rfl 51 #[.slice Ak n ck, .slice Av n cv] HB5.out (by kernel_rfl) rfl (by simp [Value.oneCell']) ?_)
        | fail)
      rw [← hW6]
      clear hW6 HB5 HN5
      have hl6 := (HA6.out.to ((Ext.refl W6).drew)).ls
      have hlen6 := HA6.out.len
      have CLen := lslen_any hl6 (by rw [hlen6]; omega)
      have CHei := lsheight_any hl6
      have CRhe := rheight_any A1 n1 c1 xs1 n' W6.drew ((R1.out.ext HA6.out.ext).ext (Ext.refl W6).drew) (by omega) (by omega)
      rw [hlen6] at CLen CHei
      rw [← HHH.out] at CRhe
      have CLen := Lib.hid CLen
      have CHei := Lib.hid CHei
      have CRhe := Lib.hid CRhe
      have d0 : W6.drew.cell? ⟨Bm, 0, none⟩ = some (.slice Ak' n' ck') := cell_of_row W6 Bm 0 _ _ (0, 0) HB6.out
      clear hl6 hlen6
      refine wp_region_held_drew (S := fun W9 => W9.cell? ⟨Bm, 0, none⟩ = some (.slice Ak' n' ck')) (by kernel_rfl) ?_ (fun hHeld => ?_)
      · exact d0
      refine wpAnyH_take (i := 0) (v := ?_) rfl (by kernel_rfl) (by kernel_rfl) (by kernel_rfl) (fun _ _ _ h => h) (Or.inl ⟨by rfl, ?_⟩) hHeld ?_
      rotate_left
      · (intro w hSw; (try dsimp only at hSw); skip; go_simp; (try with_reducible rfl))
      (try (simp only [Act.put, List.getElem_toArray, List.getElem_cons_zero, List.setIfInBounds_toArray, List.set_cons_zero, List.set_cons_succ]))
      refine wpAnyH_take (i := 1) (v := ?_) rfl (by kernel_rfl) (by kernel_rfl) (by kernel_rfl) (fun _ _ _ h => h) (Or.inl ⟨by rfl, ?_⟩) hHeld ?_
      rotate_left
      · (intro w hSw; (try dsimp only at hSw); skip; go_simp; (try with_reducible rfl))
      (try (simp only [Act.put, List.getElem_toArray, List.getElem_cons_zero, List.getElem_cons_succ, List.setIfInBounds_toArray, List.set_cons_zero, List.set_cons_succ]))
      refine wpAnyH_take (i := 2) (v := ?_) rfl (by kernel_rfl) (by kernel_rfl) (by kernel_rfl) (fun _ _ _ h => h) (Or.inl ⟨by rfl, ?_⟩) hHeld ?_
      rotate_left
      · (intro w hSw; (try dsimp only at hSw); skip; go_simp; (try with_reducible rfl))
      (try (simp only [Act.put, List.getElem_toArray, List.getElem_cons_zero, List.getElem_cons_succ, List.setIfInBounds_toArray, List.set_cons_zero, List.set_cons_succ]))
      refine wpAnyH_take (i := 3) (v := ?_) rfl (by kernel_rfl) (by kernel_rfl) (by kernel_rfl) (fun _ _ _ h => h) (Or.inl ⟨by rfl, ?_⟩) hHeld ?_
      rotate_left
      · (intro w hSw; (try dsimp only at hSw); skip; go_simp; (try with_reducible rfl))
      (try (simp only [Act.put, List.getElem_toArray, List.getElem_cons_zero, List.getElem_cons_succ, List.setIfInBounds_toArray, List.set_cons_zero, List.set_cons_succ]))
      refine wpAnyH_take (i := 5) (v := ?_) rfl (by kernel_rfl) (by kernel_rfl) (by kernel_rfl) (fun _ _ _ h => h) (Or.inl ⟨by rfl, ?_⟩) hHeld ?_
      rotate_left
      · (intro w hSw; (try dsimp only at hSw); skip; go_simp; (try with_reducible rfl))
      (try (simp only [Act.put, List.getElem_toArray, List.getElem_cons_zero, List.getElem_cons_succ, List.setIfInBounds_toArray, List.set_cons_zero, List.set_cons_succ]))
      refine wpAnyH_take (i := 6) (v := ?_) rfl (by kernel_rfl) (by kernel_rfl) (by kernel_rfl) (fun _ _ _ h => h) (Or.inl ⟨by rfl, ?_⟩) hHeld ?_
      rotate_left
      · (intro w hSw; (try dsimp only at hSw); skip; go_simp; (try with_reducible rfl))
      (try (simp only [Act.put, List.getElem_toArray, List.getElem_cons_zero, List.getElem_cons_succ, List.setIfInBounds_toArray, List.set_cons_zero, List.set_cons_succ]))
      refine wpAnyH_take (i := 7) (v := ?_) rfl (by kernel_rfl) (by kernel_rfl) (by kernel_rfl) (fun _ _ _ h => h) (Or.inl ⟨by rfl, ?_⟩) hHeld ?_
      rotate_left
      · (intro w hSw; (try dsimp only at hSw); skip; go_simp; (try with_reducible rfl))
      (try (simp only [Act.put, List.getElem_toArray, List.getElem_cons_zero, List.getElem_cons_succ, List.setIfInBounds_toArray, List.set_cons_zero, List.set_cons_succ]))
      refine wpAnyH_ready (rs := [4]) (by kernel_rfl) (by simp) ?_
      refine AllReadyH.cons rfl (fun K9 hK9 => ?_) AllReadyH.nil
      go_simp
      refine CLen.out.mono ?_
      rintro e W9 ⟨rfl, rfl⟩
      refine hK9.out _ _ ?_ (fun hHeld => ?_)
      · exact hHeld
      clear hK9 K9
      (try (simp only [Act.put, List.getElem_toArray, List.getElem_cons_zero, List.getElem_cons_succ, List.setIfInBounds_toArray, List.set_cons_zero, List.set_cons_succ]))
      refine wpAnyH_take (i := 8) (v := ?_) rfl (by kernel_rfl) (by kernel_rfl) (by kernel_rfl) (fun _ _ _ h => h) (Or.inl ⟨by rfl, ?_⟩) hHeld ?_
      rotate_left
      · (intro w hSw; (try dsimp only at hSw); skip; go_simp; (try with_reducible rfl))
      (try (simp only [Act.put, List.getElem_toArray, List.getElem_cons_zero, List.getElem_cons_succ, List.setIfInBounds_toArray, List.set_cons_zero, List.set_cons_succ]))
      refine wpAnyH_take (i := 9) (v := ?_) rfl (by kernel_rfl) (by kernel_rfl) (by kernel_rfl) (fun _ _ _ h => h) (Or.inl ⟨by rfl, ?_⟩) hHeld ?_
      rotate_left
      · (intro w hSw; (try dsimp only at hSw); skip; go_simp; (try with_reducible rfl))
      (try (simp only [Act.put, List.getElem_toArray, List.getElem_cons_zero, List.getElem_cons_succ, List.setIfInBounds_toArray, List.set_cons_zero, List.set_cons_succ]))
      refine wpAnyH_take (i := 10) (v := ?_) rfl (by kernel_rfl) (by kernel_rfl) (by kernel_rfl) (fun _ _ _ h => h) (Or.inl ⟨by rfl, ?_⟩) hHeld ?_
      rotate_left
      · (intro w hSw; (try dsimp only at hSw); skip; go_simp; (try with_reducible rfl))
      (try (simp only [Act.put, List.getElem_toArray, List.getElem_cons_zero, List.getElem_cons_succ, List.setIfInBounds_toArray, List.set_cons_zero, List.set_cons_succ]))
      refine wpAnyH_take (i := 11) (v := ?_) rfl (by kernel_rfl) (by kernel_rfl) (by kernel_rfl) (fun _ _ _ h => h) (Or.inl ⟨by rfl, ?_⟩) hHeld ?_
      rotate_left
      · (intro w hSw; (try dsimp only at hSw); skip; go_simp; (try with_reducible rfl))
      (try (simp only [Act.put, List.getElem_toArray, List.getElem_cons_zero, List.getElem_cons_succ, List.setIfInBounds_toArray, List.set_cons_zero, List.set_cons_succ]))
      refine wpAnyH_take (i := 13) (v := ?_) rfl (by kernel_rfl) (by kernel_rfl) (by kernel_rfl) (fun _ _ _ h => h) (Or.inl ⟨by rfl, ?_⟩) hHeld ?_
      rotate_left
      · (intro w hSw; (try dsimp only at hSw); skip; go_simp; (try with_reducible rfl))
      (try (simp only [Act.put, List.getElem_toArray, List.getElem_cons_zero, List.getElem_cons_succ, List.setIfInBounds_toArray, List.set_cons_zero, List.set_cons_succ]))
      refine wpAnyH_take (i := 14) (v := ?_) rfl (by kernel_rfl) (by kernel_rfl) (by kernel_rfl) (fun _ _ _ h => h) (Or.inl ⟨by rfl, ?_⟩) hHeld ?_
      rotate_left
      · (intro w hSw; (try dsimp only at hSw); skip; go_simp; (try with_reducible rfl))
      (try (simp only [Act.put, List.getElem_toArray, List.getElem_cons_zero, List.getElem_cons_succ, List.setIfInBounds_toArray, List.set_cons_zero, List.set_cons_succ]))
      refine wpAnyH_take (i := 15) (v := ?_) rfl (by kernel_rfl) (by kernel_rfl) (by kernel_rfl) (fun _ _ _ h => h) (Or.inl ⟨by rfl, ?_⟩) hHeld ?_
      rotate_left
      · (intro w hSw; (try dsimp only at hSw); skip; go_simp; (try with_reducible rfl))
      (try (simp only [Act.put, List.getElem_toArray, List.getElem_cons_zero, List.getElem_cons_succ, List.setIfInBounds_toArray, List.set_cons_zero, List.set_cons_succ]))
      refine wpAnyH_take (i := 16) (v := ?_) rfl (by kernel_rfl) (by kernel_rfl) (by kernel_rfl) (fun _ _ _ h => h) (Or.inl ⟨by rfl, ?_⟩) hHeld ?_
      rotate_left
      · (intro w hSw; (try dsimp only at hSw); skip; go_simp; (try with_reducible rfl))
      (try (simp only [Act.put, List.getElem_toArray, List.getElem_cons_zero, List.getElem_cons_succ, List.setIfInBounds_toArray, List.set_cons_zero, List.set_cons_succ]))
      refine wpAnyH_ready (rs := [12]) (by kernel_rfl) (by simp) ?_
      refine AllReadyH.cons rfl (fun K9 hK9 => ?_) AllReadyH.nil
      go_simp
      refine CHei.out.mono ?_
      rintro e W9 ⟨rfl, rfl⟩
      refine hK9.out _ _ ?_ (fun hHeld => ?_)
      · exact hHeld
      clear hK9 K9
      (try (simp only [Act.put, List.getElem_toArray, List.getElem_cons_zero, List.getElem_cons_succ, List.setIfInBounds_toArray, List.set_cons_zero, List.set_cons_succ]))
      refine wpAnyH_ready (rs := [17]) (by kernel_rfl) (by simp) ?_
      refine AllReadyH.cons rfl (fun K9 hK9 => ?_) AllReadyH.nil
      go_simp
      refine CRhe.out.mono ?_
      rintro e W9 ⟨rfl, rfl⟩
      refine hK9.out _ _ ?_ (fun hHeld => ?_)
      · exact hHeld
      clear hK9 K9
      (try (simp only [Act.put, List.getElem_toArray, List.getElem_cons_zero, List.getElem_cons_succ, List.setIfInBounds_toArray, List.set_cons_zero, List.set_cons_succ]))
      refine wpAnyH_take (i := 18) (v := ?_) rfl (by kernel_rfl) (by kernel_rfl) (by kernel_rfl) (fun _ _ _ h => h) (Or.inl ⟨by rfl, ?_⟩) hHeld ?_
      rotate_left
      · (intro w hSw; (try dsimp only at hSw); skip; go_simp; (try with_reducible rfl))
      (try (simp only [Act.put, List.getElem_toArray, List.getElem_cons_zero, List.getElem_cons_succ, List.setIfInBounds_toArray, List.set_cons_zero, List.set_cons_succ]))
      refine wpAnyH_take (i := 19) (v := ?_) rfl (by kernel_rfl) (by kernel_rfl) (by kernel_rfl) (fun _ _ _ h => h) (Or.inl ⟨by rfl, ?_⟩) hHeld ?_
      rotate_left
      · (intro w hSw; (try dsimp only at hSw); skip; go_simp; (try with_reducible rfl))
      (try (simp only [Act.put, List.getElem_toArray, List.getElem_cons_zero, List.getElem_cons_succ, List.setIfInBounds_toArray, List.set_cons_zero, List.set_cons_succ]))
      refine wpAnyH_done (by kernel_rfl) ?_ _
      go_wp2_with fail
      go_roundw
      case rel => exact ⟨j + 1, Ak', n', ck', Av', cv', ss', V', X', base', by omega, by go_num, by omega, Lib.hid (HA6.out.to (Ext.refl W6).drew), HB6, HF6⟩
      case measure => simp [intOf]; omega
    · obtain rfl : j = n2 := by omega
      have CR := srange_any HA.out.ls (by rw [HA.out.len]; omega) none 0 0 [] ⟨rfl, fun h => absurd h (by decide)⟩ (by decide) (by decide) none 0 0 [] ⟨rfl, fun h => absurd h (by decide)⟩ (by decide)
      obtain ⟨g1, g2⟩ := rng_whole (bodies ss) V (HA.out.ls.vlen).1
      unfold RngPost at CR
      rw [g1, g2] at CR
      have CR := Lib.hid CR
      have hji : ¬ (j : Int) < (j : Int) := by omega
      clear g1 g2
      go_wp2_with fail
      refine CR.out.mono ?_
      rintro e w5 ⟨A7, c7, ts, Av7, cv7, rfl, hb7, hk7, ht7, hv7, he7⟩
      have htl : ts.length = n := by rw [← bodies_len, hb7, HA.out.len]
      have hvl : V.length = n := by rw [(HA.out.ls.vlen).1, HA.out.len]
      rw [htl, hvl]
      have hbm := (he7.block Bm hBl).trans HB.out
      have e0 : w5.cell? ⟨Bm, 0, none⟩ = some (.slice Ak n ck) := cell_of_row w5 Bm 0 _ _ (0, 0) hbm
      have hr7 := OwnG.rdL hk7
      rw [htl] at hr7
      have CT := Lib.hid (sameT_yes A7 Ak n c7 n ck ts ss w5 hr7 (HA.out.rk.ext he7) hb7 (by omega) (fun s hs => ⟨ht7.rd s hs, by
        have h1 : s.body ∈ bodies ss := by rw [← hb7]; exact List.mem_map_of_mem hs
        obtain ⟨q, hq, e⟩ := List.mem_map.1 h1
        rw [← e]
        have := (HA.out.tx q hq).2.2
        omega⟩) (fun t ht => (HA.out.tx t ht).1.ext he7))
      have HV7 := Lib.hid (show RdG shZ w5 Av7 n V ∧ RdG shZ w5 Av n V from ⟨hv7.rd' hvl, HA.out.rv.ext he7⟩)
      have HE7 := Lib.hid (HA.out.ext.trans he7)
      have Hbm := Lib.hid hbm
      clear htl hvl hbm hr7 hb7 hk7 ht7 hv7 he7 CR m0 m1
      go_wp2_with fail
      refine CT.out.mono ?_
      rintro e w6 ⟨rfl, q6, hw6⟩
      have hE6 : Ext w5 w6 := by rw [hw6]; exact (Ext.refl w5).drewN q6
      clear hw6
      have e1 : w6.cell? ⟨Bm, 1, none⟩ = some (.slice Av n cv) := cell_of_row w6 Bm 1 _ _ (0, 0) ((hE6.block Bm (Array.getElem?_eq_some_iff.1 Hbm.out).1).trans Hbm.out)
      have CI := Lib.hid (sameInts_yes Av7 Av n cv7 cv V w6 (HV7.out.1.ext hE6) (HV7.out.2.ext hE6) (by omega))
      have HE6 := Lib.hid (HE7.out.trans hE6)
      clear hE6 e0 CT
      go_wp2_with fail
      refine CI.out.mono ?_
      rintro e w7 ⟨rfl, q7, hw7⟩
      have HE8 := Lib.hid (show Ext w w7 from by rw [hw7]; exact HE6.out.drewN q7)
      clear hw7
      go_wp2_with fail
      go_ret
      exact ⟨rfl, HE8.out⟩

end Go.Proofs.Ytkmnhapeohlooaa
