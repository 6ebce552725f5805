/-
  Layer 10: the walk of DictIndexes.
-/
import Derived.Test.YtpdppldkebfikaaOZN
import Derived.Test.YtpdppldkebfikaaD10m
import Derived.BigQuiet
namespace Go.Proofs.Ytpdppldkebfikaa
open Go.RowKit

theorem idxR_fine {ss : List (List Nat)} (h : ∀ s ∈ ss, U8 s) : (idxR ss).1.length ≤ 4096 ∧ (∀ s ∈ (idxR ss).1, U8 s ∧ s.length ≤ 1048576) ∧ (idxR ss).2.1.length ≤ 4096 := by
  by_cases hb : 4096 < ss.length ∨ anyLong ss = true
  · rw [idxR_bad hb]
    simp
  · obtain ⟨h1, h2⟩ := not_bad10 hb
    rw [idxR_good h1 h2]
    refine ⟨?_, fun s hs => ⟨h s (dents_mem.1 hs), ?_⟩, by simpa using h1⟩
    · have := dents_len _ ss rfl
      simp only
      omega
    · have := dents_short h2 s hs
      omega

set_option maxHeartbeats 800000 in
theorem sameInts_yes (A A' : Option Addr) (n c c' : Nat) (xs : List Nat) (w : World) (hx : Rd .i64 w A n xs) (hy : Rd .i64 w A' n xs) (hn : n ≤ 1000000) :
    Calls Try.prog 15 #[.slice A n c, .slice A' n c'] w fun e w' => e = .returned (.bool true) ∧ ∃ q, w' = w.drewN q := by
  go_enter Try.func15, Try.ntmps15
  go_wp2_with fail
  go_loopw [5, 13] (fun _ i wr => ∃ j q : Nat, j ≤ n ∧ i = .int .i64 j ∧ wr = w.drewN q) (fun _ i _ => n - (intOf i).toNat)
  case atStart => exact ⟨0, 0, Nat.zero_le _, rfl, rfl⟩
  case round =>
    obtain ⟨j, q, hj, rfl, rfl⟩ := hrel
    by_cases hlt : j < n
    · obtain ⟨b, o, rfl, _, hc⟩ := hx.at_ hlt
      obtain ⟨b', o', rfl, _, hc'⟩ := hy.at_ hlt
      obtain ⟨u, hu⟩ : ∃ u, u = xs.getD j 0 := ⟨_, rfl⟩
      rw [← hu] at hc hc'
      have hji : (j : Int) < (n : Int) := by omega
      have i0 : (0 : Int) ≤ (j : Int) := by omega
      have hne : ((u : Int) != (u : Int)) = false := by simp
      clear hu
      go_wp2_with fail
      go_quiet (fail)
      go_wp2
      go_roundw
      case rel => exact ⟨j + 1, _, by omega, by go_num, by first | rfl | rw [World.drewN_drewN]⟩
      case measure => simp [intOf]; omega
    · obtain rfl : j = n := by omega
      go_wp2
      go_ret
      exact ⟨rfl, q, rfl⟩

section
variable {w w' : World} {base c : Nat} {A : Option Addr} {ts : List Sl}
theorem TxtsM.unlike (h : TxtsM w base ts) : Unlike ts := by
  have hp := List.pairwise_iff_getElem.1 h.apart
  intro i j s t hi hj hne p q hA hB e
  obtain ⟨hi', rfl⟩ := List.getElem?_eq_some_iff.1 hi
  obtain ⟨hj', rfl⟩ := List.getElem?_eq_some_iff.1 hj
  rcases Nat.lt_or_gt_of_ne hne with hl | hl
  · have := hp i j hi' hj' hl p q hA hB; omega
  · have := hp j i hj' hi' hl q p hB hA; omega
theorem TxtsM.farT (h : TxtsM w base ts) {base' : Nat} {us : List Sl} (k : OwnT w base' A c us) : Far ts A := by
  intro s hs p q hp hq e
  have := own_neM k (h.own s hs) p hp
  subst hq
  simp [Value.ownBlock] at this
  rcases k.2 with ⟨hv, _⟩ | ⟨g, cap, cur, hv, _⟩
  · cases hv
  · injection hv with hA
    injection hA with hA
    subst hA
    exact this e
theorem TxtsM.above (h : TxtsM w base ts) : ∀ t ∈ ts, ∀ p, t.A = some p → base ≤ p.block := fun t ht p hp => ((h.own t ht).block p hp).1
end

/-- The program's entries beside the document's. -/
theorem apartAllM {w1 w2 w3 w4 : World} {A A' : Option Addr} {c c' n : Nat} {ss ts : List Sl} (h1 : OwnT w2 w1.heap.size A c ss) (k1 : TxtsM w2 w1.heap.size ss) (h2 : Ents w3 w2.heap.size A' n ts) (e2 : Ext w2 w3) (e4 : Ext w3 w4)
    (hb : bodies ss = bodies ts) (hn : ss.length = n) (hn2 : n ≤ 1048576) (hu : ∀ s ∈ ss, U8 s.body ∧ s.body.length ≤ 1048576) :
    Calls Try.prog 17 #[.slice A n c, .slice A' n c'] w4 fun e w' => e = .returned (.bool true) ∧ Kept w4 w' ss := by
  have r1 := h1.rdL
  rw [hn] at r1
  refine apartAllZ_any A A' n c c' ss ts w4 ((r1.ext e2).ext e4) (h2.rd.ext e4) hb hn2 (fun s hs => .inr (((k1.ext e2).ext e4).mono (Nat.zero_le _) |>.own s hs)) (fun s hs => (hu s hs).1) (fun s hs => (hu s hs).2) (fun t ht => ((h2.own t ht).rd).ext e4) k1.unlike ?_ ?_ ?_
  · intro _
    exact k1.farT h1
  · intro _
    exact far_above (base := w2.heap.size) (fun t ht p hp => k1.lt t ht p hp) h2.row
  · intro t ht _
    exact far_above (base := w2.heap.size) (fun t ht p hp => k1.lt t ht p hp) (fun q hq => ((h2.own t ht).block q hq).1)

set_option maxHeartbeats 1600000 in
theorem walk_DictIndexes (A : Option Addr) (n c : Nat) (ss : List Sl) (w : World) (hx : TxL w A n ss) (hn : n ≤ 5900000000000) :
    Calls Try.prog 3 #[.slice A n c] w fun e w' => e = .returned (.bool true) ∧ Ext w w' := by
  have hfine := idxR_fine (ss := bodies ss) (bodies_mem_of hx)
  obtain ⟨⟨L, N, F⟩, hR⟩ : ∃ R, R = idxR (bodies ss) := ⟨_, rfl⟩
  rw [← hR] at hfine
  simp only at hfine
  obtain ⟨hf1, hf2, hf3⟩ := hfine
  obtain ⟨m, hm⟩ : ∃ m, m = L.length := ⟨_, rfl⟩
  obtain ⟨k, hk⟩ : ∃ k, k = N.length := ⟨_, rfl⟩
  rw [← hm] at hf1
  rw [← hk] at hf3
  have hmb : ∀ (us : List Sl), bodies us = L → us.length = m := fun us h => by rw [hm, ← h, bodies_len]
  have HE1 : Hid (∀ (B : Option Addr) (cb : Nat) (ts : List Sl) (W : World), TxL W B n ts → bodies ts = bodies ss → Calls Try.prog 13 #[.slice B n cb] W fun e w' => ∃ A' c' us B' cB', e = .returned (.tuple #[.slice A' m c', .slice B' k cB', .int .i64 F]) ∧ bodies us = L ∧ OwnT w' W.heap.size A' c' us ∧ TxtsM w' W.heap.size us ∧ Rd .i64 w' B' k N ∧ Ext W w') := Lib.hid (fun B cb ts W h1 h2 => by
    have h := pindex_any B n cb ts W h1 (by omega)
    unfold IdxPost at h
    rw [h2, ← hR] at h
    exact h.mono fun e w' ⟨A', c', us, B', cB', q1, q2, q3, q4, q5, q6⟩ => ⟨A', c', us, B', cB', by rw [q1, hmb _ q2, ← hk], q2, q3, q4, q5.rd' hk.symm, q6⟩)
  have HE2 : Hid (∀ (B : Option Addr) (cb : Nat) (ts : List Sl) (W : World), TxL W B n ts → bodies ts = bodies ss → Calls Try.prog 14 #[.slice B n cb] W fun e w' => ∃ A' c' us B' cB', e = .returned (.tuple #[.slice A' m c', .slice B' k cB', .int .i64 F]) ∧ bodies us = L ∧ Ents w' W.heap.size A' m us ∧ Rd .i64 w' B' k N ∧ Ext W w') := Lib.hid (fun B cb ts W h1 h2 => by
    have h := refIndex_any B n cb ts W h1 (by omega)
    unfold RIdxPost at h
    rw [h2, ← hR] at h
    exact h.mono fun e w' ⟨A', c', us, B', cB', q1, q2, q3, q4, q6⟩ => ⟨A', c', us, B', cB', by rw [q1, hmb _ q2, ← hk], q2, by rw [hmb _ q2] at q3; exact q3, rd_zs (q4.rd' (by rw [zs_len]; exact hk.symm)), q6⟩)
  have k2 : (F != F) = false := by simp
  have Hx := Lib.hid hx
  have Hf2 := Lib.hid hf2
  have Hmb := Lib.hid hmb
  clear hm hk hR hf2 hmb hx
  go_enter Try.func3, Try.ntmps3
  go_wp2_with fail
  refine (alive10 _).mono ?_
  rintro e w1 ⟨rfl, he1⟩
  go_wp2_with fail
  refine (copyT_any A n c ss _ (Hx.out.ext he1) hn).mono ?_
  rintro e w2 ⟨A2, c2, ts, rfl, hb2, hown2, htx2, he2⟩
  have hl2 : ts.length = n := by rw [← bodies_len, hb2, bodies_len, Hx.out.len]
  have hall := bodies_all hb2 (P := fun b => U8 b ∧ b.length ≤ 140737488355328) Hx.out.all
  have Hm := Lib.hid (TxL.of_own hown2 htx2 hl2 hall)
  have hE2 := he1.trans he2
  have Hb2 := Lib.hid hb2
  clear hown2 htx2 hl2 hall hb2
  go_wp2_with fail
  refine (HE1.out _ _ _ _ Hm.out Hb2.out).mono ?_
  rintro e w3 ⟨A3, c3, us, B3, cB3, rfl, hb3, hown3, htx3, hr3, he3⟩
  go_wp2_with fail
  refine (HE2.out _ _ _ _ ((Hx.out.ext hE2).ext he3) rfl).mono ?_
  rintro e w4 ⟨A4, c4, vs, B4, cB4, rfl, hb4, hent4, hr4, he4⟩
  have HAp := Lib.hid (fun (W : World) (hW : Ext w4 W) => apartAllM (c' := c4) hown3 htx3 hent4 he4 hW (hb3.trans hb4.symm) (Hmb.out _ hb3) (by omega) (bodies_mem hb3 Hf2.out))
  have Habove := Lib.hid htx3.above
  have hr3' := hr3.ext he4
  have HE24 := Lib.hid (he3.trans he4)
  clear hb3 hb4 hown3 htx3 hent4 hr3
  go_wp2_with fail
  refine (sameInts_yes B3 B4 k cB3 cB4 N _ hr3' hr4 (by omega)).mono ?_
  rintro e w5 ⟨rfl, q5, rfl⟩
  have hE25 := HE24.out.drewN q5
  go_wp2_with fail
  refine (sameT_yes _ _ n _ n _ ts ss _ (Hm.out.ext hE25).rd ((Hx.out.ext hE2).ext hE25).rd Hb2.out (by omega) (Hm.out.ext hE25).same ((Hx.out.ext hE2).ext hE25).rds).mono ?_
  rintro e w6 ⟨rfl, q6, rfl⟩
  have hE45 : Ext w4 (w4.drewN (q5 + q6)) := Ext.of_drewN _ _
  have hE26 := HE24.out.trans hE45
  go_wp2_with fail
  refine (HAp.out _ hE45).mono ?_
  rintro e w7 ⟨rfl, hk7⟩
  have hE27 := hk7.ext0 hE26 Habove.out
  clear hk7
  go_wp2_with fail
  refine (sameT_yes _ _ n _ n _ ts ss _ (Hm.out.ext hE27).rd ((Hx.out.ext hE2).ext hE27).rd Hb2.out (by omega) (Hm.out.ext hE27).same ((Hx.out.ext hE2).ext hE27).rds).mono ?_
  rintro e w8 ⟨rfl, q8, rfl⟩
  go_wp2_with fail
  go_ret
  exact ⟨rfl, (hE2.trans hE27).drewN _⟩

end Go.Proofs.Ytpdppldkebfikaa
