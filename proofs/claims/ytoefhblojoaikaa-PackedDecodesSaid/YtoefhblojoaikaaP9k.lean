/-
  Layer 9: the statement PackedDecodes, walked.
-/
import Derived.Test.YtoefhblojoaikaaP9j
namespace Go.Proofs.Ytoefhblojoaikaa
open Go.RowKit

set_option maxHeartbeats 800000 in
/-- Both answers are as wanted and lie apart; what was wanted stays. -/
theorem apartZ2_any (A A2 A3 : Option Addr) (n c c2 c3 base : Nat) (xs : List Int) (w0 w : World) (hx : OwnG shZ 2 w base A c xs) (hl : xs.length = n)
    (hy : RdG shZ w A2 n xs) (hz : RdG shZ w A3 n xs) (ne2 : ∀ a a2, A = some a → A2 = some a2 → a2.block ≠ a.block) (ne3 : ∀ a a3, A = some a → A3 = some a3 → a3.block ≠ a.block)
    (hE : Ext w0 w) (hbase : w0.heap.size ≤ base) (hn : n ≤ 281474976710656) :
    Calls Try.prog 23 #[.slice A n c, .slice A2 n c2, .slice A3 n c3] w fun e w' => e = .returned (.bool true) ∧ Ext w0 w' ∧ RdG shZ w' A3 n xs := by
  have Hl := Lib.hid hl
  clear hl
  have hx1 := hx.rd' Hl.out
  go_enter Try.func23, Try.ntmps23
  go_wp2_with fail
  refine (sameZ_yes hx1 hz (by omega)).mono ?_
  rintro e w1 ⟨rfl, q1, rfl⟩
  go_wp2_with fail
  refine (sameZ_yes (hy.drewN q1) (hz.drewN q1) (by omega)).mono ?_
  rintro e w1 ⟨rfl, q2, rfl⟩
  have h0 : ∃ ys : List Int, ys.length = n ∧ OwnG shZ 2 (w.drewN (q1 + q2)) base A c ys ∧ RdG shZ (w.drewN (q1 + q2)) A2 n xs ∧ RdG shZ (w.drewN (q1 + q2)) A3 n xs ∧ Ext w0 (w.drewN (q1 + q2)) :=
    ⟨xs, Hl.out, hx.ext ((Ext.refl w).drewN _), hy, hz, hE.drewN _⟩
  clear hx hy hz hx1 hE
  have Hb := Lib.hid hbase
  clear hbase
  go_wp2_with fail
  go_loopw [7] (fun i wr => ∃ (j : Nat) (ys : List Int), j ≤ n ∧ i = .int .i64 j ∧ ys.length = n ∧ OwnG shZ 2 wr base A c ys ∧ RdG shZ wr A2 n xs ∧ RdG shZ wr A3 n xs ∧ Ext w0 wr) (fun i _ => n - (intOf i).toNat)
  case atStart => obtain ⟨ys, h1, h2⟩ := h0; exact ⟨0, ys, Nat.zero_le _, rfl, h1, h2⟩
  case round =>
    clear h0
    obtain ⟨j, ys, hj, rfl, hyl, hown, hy, hz, hE⟩ := hrel
    by_cases hlt : j < n
    · obtain ⟨b, x, rfl, hbb, hbl, hxj, hc, hfr, hst⟩ := hown.at_ (j := j) (by omega)
      have hc0 := hc 0 _ rfl
      have hf0 := hfr j
      rw [show j * shZ.sz + 0 = j from by show j * 1 + 0 = j; omega] at hc0
      obtain ⟨h1, h2⟩ := hst 0 (bits .xor .i64 x 5) (.int .i64 (bits .xor .i64 x 5)) (by decide) rfl
      rw [show j * shZ.sz + 0 = j from by show j * 1 + 0 = j; omega] at h1 h2
      have hY := hy.grown h2 (fun _ a ha e => ne2 _ a rfl ha (by simpa using e))
      have hZ := hz.grown h2 (fun _ a ha e => ne3 _ a rfl ha (by simpa using e))
      have hX := grownBy_ext hE h2 (by intro g hg; injection hg with hg; subst hg; exact Nat.le_trans Hb.out hbb)
      have Hyl := Lib.hid hyl
      clear hst hc hfr hyl hown hy hz hE h2
      go_wp2_with fail
      go_roundw
      case rel => exact ⟨j + 1, _, by omega, by go_num, (by rw [List.length_set]; exact Hyl.out), h1, hY, hZ, hX⟩
      case measure => simp [intOf]; omega
    · obtain rfl : j = n := by omega
      go_wp2_with fail
      refine (sameZ_yes hy hz (by omega)).mono ?_
      rintro e w1 ⟨rfl, q3, rfl⟩
      go_wp2
      go_ret
      exact ⟨rfl, hE.drewN q3, hz.drewN q3⟩

set_option maxHeartbeats 6400000 in
theorem walk_PackedDecodes (A : Option Addr) (n c : Nat) (bs : List Nat) (w : World) (hx : Rd .u8 w A n bs) (hu : U8 bs) (hn : n * 1 ≤ 140737488351232) :
    Calls Try.prog 9 #[.slice A n c] w fun e w' => e = .returned (.bool true) ∧ Ext w w' := by
  have Hl := Lib.hid hx.len
  have hE8 := decode9_len bs
  obtain ⟨S, hS⟩ : ∃ S, S = rangeR bs := ⟨_, rfl⟩
  have HG : Hid (∀ (B : Option Addr) (cb : Nat) (W : World), Rd .u8 W B n bs → n ≤ cb → cb ≤ 9223372036854775807 → Calls Try.prog 36 #[.slice B n cb] W fun e w' => e = .returned (.tuple #[.int .i64 S.1, .int .i64 S.2.1, .int .i64 S.2.2.1, .int .i64 S.2.2.2]) ∧ Ext W w') := Lib.hid (fun B cb W h1 h2 h3 => by
    rw [hS]
    exact prange_any B n cb bs W h1 hu (by omega) h2 h3)
  unfold rangeR at hS
  obtain ⟨⟨L, E⟩, hR⟩ : ∃ R, R = decode9 bs := ⟨_, rfl⟩
  rw [← hR] at hE8 hS
  simp only at hE8 hS
  obtain ⟨m, hm⟩ : ∃ m, m = L.length := ⟨_, rfl⟩
  rw [← hm] at hE8 hS
  have Hm := Lib.hid hm.symm
  have HP : Hid (∀ (B : Option Addr) (cb : Nat) (W : World), Rd .u8 W B n bs → n ≤ cb → cb ≤ 9223372036854775807 → Calls Try.prog 34 #[.slice B n cb] W fun e w' => ∃ A' c', e = .returned (.tuple #[.slice A' m c', .int .i64 E]) ∧ OwnG shZ 2 w' W.heap.size A' c' L ∧ Ext W w') := Lib.hid (fun B cb W h1 h2 h3 => by
    have h := pdecode_any B n cb bs W h1 hu (by omega) h2 h3
    unfold Dec9Post at h
    rw [← hR] at h
    simp only [← hm] at h
    exact h)
  have HR : Hid (∀ (B : Option Addr) (cb : Nat) (W : World), Rd .u8 W B n bs → Calls Try.prog 35 #[.slice B n cb] W fun e w' => ∃ A' c', e = .returned (.tuple #[.slice A' m c', .int .i64 E]) ∧ OwnG shZ 2 w' W.heap.size A' c' L ∧ Ext W w') := Lib.hid (fun B cb W h1 => by
    have h := refPdecode_any B n cb bs W h1 hu (by omega)
    unfold Dec9Post at h
    rw [← hR] at h
    simp only [← hm] at h
    exact h)
  have k1 : (E != E) = false := by simp
  have k2 : (E == E) = true := by simp
  obtain ⟨s1, s2, s3, s4⟩ := S
  simp only at HG
  have HS := Lib.hid hS
  clear hm hR hu hS
  go_enter Try.func9, Try.ntmps9
  go_wp2_with fail
  refine (alive9 _).mono ?_
  rintro e w1 ⟨rfl, he1⟩
  go_wp2_with fail
  refine (wide_any A n c bs _ (hx.ext he1) (by omega)).mono ?_
  rintro e w2 ⟨A2, c2, rfl, hown2, he2⟩
  have hr2 := hown2.rd_take (n := n) (by rw [List.length_append, hx.len]; omega)
  rw [List.take_left' hx.len] at hr2
  have hri := hown2.rd' (n := n + 64) (by rw [List.length_append, hx.len]; rfl)
  obtain ⟨b, rfl, _, hb, hcap, hcm⟩ := hown2.form (by rw [List.length_append, marks_len]; omega)
  rw [List.length_append, hx.len, marks_len] at hcap
  have hx2 := (hx.ext he1).ext he2
  have hE2 := he1.trans he2
  have hcn : n ≤ c2 := by omega
  clear hown2 he1 he2
  go_wp2_with fail
  refine (HP.out _ _ _ hr2 hcn hcm).mono ?_
  rintro e w3 ⟨A3, c3, rfl, hown3, he3⟩
  go_wp2_with fail
  refine (HP.out _ _ _ (hr2.ext he3) hcn hcm).mono ?_
  rintro e w4 ⟨A4, c4, rfl, hown4, he4⟩
  go_wp2_with fail
  refine (HR.out _ _ _ ((hx2.ext he3).ext he4)).mono ?_
  rintro e w5 ⟨A5, c5, rfl, hown5, he5⟩
  go_wp2_with fail
  refine (apartZ2_any A3 A4 A5 m c3 c4 c5 w2.heap.size L w2 w5 ((hown3.ext he4).ext he5) Hm.out ((hown4.ext he5).rd' Hm.out) (hown5.rd' Hm.out) ?ne1 ?ne2 ((he3.trans he4).trans he5) (Nat.le_refl _) (by omega)).mono ?_
  case ne1 =>
    intro a a2 ha ha2
    have := (hown3.block a ha).2
    have := (hown4.block a2 ha2).1
    omega
  case ne2 =>
    intro a a3 ha ha3
    have := (hown3.block a ha).2
    have := (hown5.block a3 ha3).1
    have := he4.size
    omega
  rintro e w6 ⟨rfl, he6, hw6⟩
  clear hown3 hown4 hown5 he3 he4 he5
  go_wp2_with fail
  refine (HG.out _ _ _ (hr2.ext he6) hcn hcm).mono ?_
  rintro e w7 ⟨rfl, he7⟩
  have hE7 := he6.trans he7
  have hw7 := hw6.ext he7
  clear he6 he7 hw6
  by_cases h0 : E = 0
  · subst h0
    rcases Nat.eq_zero_or_pos m with hm0 | hmp
    · subst hm0
      have hS := HS.out
      rw [if_neg (by simp), if_pos rfl] at hS
      simp only [Prod.mk.injEq] at hS
      obtain ⟨rfl, rfl, rfl, rfl⟩ := hS
      go_wp2_with fail
      refine (intact_yes (hri.ext hE7) (hx2.ext hE7) (by omega) (by omega)).mono ?_
      rintro e w9 ⟨rfl, q, rfl⟩
      go_wp2_with fail
      go_ret
      exact ⟨rfl, (hE2.trans hE7).drewN _⟩
    · have hS := HS.out
      rw [if_neg (by simp), if_neg (by omega)] at hS
      simp only [Prod.mk.injEq] at hS
      obtain ⟨rfl, rfl, rfl, rfl⟩ := hS
      obtain ⟨x, hx'⟩ : ∃ x, x = lo L := ⟨_, rfl⟩
      obtain ⟨y, hy'⟩ : ∃ y, y = hi L := ⟨_, rfl⟩
      have Hx' := Lib.hid hx'
      have Hy' := Lib.hid hy'
      rw [← hx', ← hy']
      have e1 : (x == x) = true := by simp
      have e2 : (y == y) = true := by simp
      have hm0 : ((m : Int) == 0) = false := by rw [beq_eq_false_iff_ne]; omega
      clear hx' hy' HS
      go_wp2_with fail
      refine (intact_yes (hri.ext hE7) (hx2.ext hE7) (by omega) (by omega)).mono ?_
      rintro e w9 ⟨rfl, q, rfl⟩
      go_wp2_with fail
      refine (least_any A5 m c5 L _ (hw7.drewN q) hmp (by omega)).mono ?_
      rintro e w10 ⟨rfl, rfl⟩
      rw [← Hx'.out]
      go_wp2_with fail
      refine (greatest_any A5 m c5 L _ (hw7.drewN q) hmp (by omega)).mono ?_
      rintro e w10 ⟨rfl, rfl⟩
      rw [← Hy'.out]
      go_wp2_with fail
      go_ret
      exact ⟨rfl, (hE2.trans hE7).drewN _⟩
  · have hS := HS.out
    rw [if_pos h0] at hS
    simp only [Prod.mk.injEq] at hS
    obtain ⟨rfl, rfl, rfl, rfl⟩ := hS
    have hb0 : (s4 != 0) = true := by simpa using h0
    clear h0 HS
    go_wp2_with fail
    refine (intact_yes (hri.ext hE7) (hx2.ext hE7) (by omega) (by omega)).mono ?_
    rintro e w9 ⟨rfl, q, rfl⟩
    go_wp2_with fail
    go_ret
    exact ⟨rfl, (hE2.trans hE7).drewN _⟩

end Go.Proofs.Ytoefhblojoaikaa
