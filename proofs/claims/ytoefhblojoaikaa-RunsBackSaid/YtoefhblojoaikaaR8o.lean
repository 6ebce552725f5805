/-
  Layer 8: the statement RunsBack, walked.
-/
import Derived.Test.YtoefhblojoaikaaR8n
namespace Go.Proofs.Ytoefhblojoaikaa
open Go.RowKit

theorem flat_r64 {l : Option Int} {rs : List (Int × Int)} (h : GoodR l rs) : R64s (flat rs) := by
  intro v hv
  obtain ⟨q, hq, hv⟩ := List.mem_flatten.1 hv
  obtain ⟨r, hr, rfl⟩ := List.mem_map.1 hq
  obtain ⟨_, rfl⟩ := List.mem_replicate.1 hv
  exact (h.mem r hr).2

/-- Bytes that are decoded are those of their numbers. -/
theorem back8 {bs : List Nat} (hb : U8 bs) (h : (decode8 bs).2 = 0) : encode8 (decode8 bs).1 = (bs, 0) ∧ R64s (decode8 bs).1 := by
  rcases hd : decode8 bs with ⟨zs, e⟩
  rw [hd] at h
  simp only at h
  subst h
  obtain ⟨rs, h1, h2, h3, h4, h5⟩ := decode8_only hb hd
  refine ⟨?_, by show R64s zs; rw [h2]; exact flat_r64 h1⟩
  show encode8 zs = (bs, 0)
  unfold encode8
  rw [if_neg (by omega), ← h5, h3]

set_option maxHeartbeats 6400000 in
theorem walk_RunsBack (A : Option Addr) (n c : Nat) (vs : List Int) (A2 : Option Addr) (n2 c2 : Nat) (bs : List Nat) (w : World) (hx : RdG shZ w A n vs) (hv : R64s vs) (hn : n * 8 ≤ 140737488351232) (hy : Rd .u8 w A2 n2 bs) (hu : U8 bs) (hn2 : n2 * 1 ≤ 140737488351232) :
    Calls Try.prog 6 #[.slice A n c, .slice A2 n2 c2] w fun e w' => e = .returned (.bool true) ∧ Ext w w' := by
  have Hl := Lib.hid hx.len
  have Hl2 := Lib.hid hy.len
  by_cases hbig : 4096 < n
  · have hs : split8 vs = ([], 4) := by unfold split8; rw [if_pos (by have := Hl.out; omega)]
    have hs2 : encode8 vs = ([], 4) := by unfold encode8; rw [if_pos (by have := Hl.out; omega)]
    have HS1 : Hid (∀ (B : Option Addr) (cb : Nat) (W : World), RdG shZ W B n vs → Calls Try.prog 14 #[.slice B n cb] W fun e w' => ∃ A' c', e = .returned (.tuple #[.slice A' 0 c', .int .i64 4]) ∧ Ext W w') := Lib.hid (fun B cb W h1 => by
      have h := split_any B n cb vs W h1 hv
      unfold SplitPost at h
      rw [hs] at h
      exact h.mono fun e w' ⟨A', c', h1, _, h2⟩ => ⟨A', c', h1, h2⟩)
    have HE1 : Hid (∀ (B : Option Addr) (cb : Nat) (W : World), RdG shZ W B n vs → Calls Try.prog 17 #[.slice B n cb] W fun e w' => ∃ A' c', e = .returned (.tuple #[.slice A' 0 c', .int .i64 4]) ∧ Ext W w') := Lib.hid (fun B cb W h1 => by
      have h := encode_any B n cb vs W h1 hv
      unfold EncPost at h
      rw [hs2] at h
      exact h.mono fun e w' ⟨A', c', h1, _, h2⟩ => ⟨A', c', h1, h2⟩)
    clear hs hs2 hv hu
    go_enter Try.func6, Try.ntmps6
    go_wp2_with fail
    refine (alive8 _).mono ?_
    rintro e w1 ⟨rfl, he1⟩
    go_wp2_with fail
    refine (HS1.out _ _ _ (hx.ext he1)).mono ?_
    rintro e w3 ⟨A3, c3, rfl, he3⟩
    go_wp2_with fail
    refine (HE1.out _ _ _ ((hx.ext he1).ext he3)).mono ?_
    rintro e w4 ⟨A4, c4, rfl, he4⟩
    go_wp2_with fail
    go_ret
    exact ⟨rfl, (he1.trans he3).trans he4⟩
  · have hl4 : vs.length ≤ 4096 := by have := Hl.out; omega
    have hs : split8 vs = (rsp vs, 0) := by unfold split8; rw [if_neg (by omega)]
    have hs2 : encode8 vs = (encR (rsp vs), 0) := by unfold encode8; rw [if_neg (by omega)]
    have hgood := rsp_good hv
    have hflat := rsp_flat hv
    have hj := join_rsp hv hl4
    have hd1 : decode8 (encR (rsp vs)) = (vs, 0) := by
      have := decode8_enc (rs := rsp vs) [] hgood (by rw [hflat]; exact hl4)
      rw [List.append_nil, if_pos rfl, hflat] at this
      exact this
    have hd2 : decode8 (encR (rsp vs) ++ [1]) = ([], 3) := by
      rw [decode8_enc (rs := rsp vs) [1] hgood (by rw [hflat]; exact hl4), if_neg (by simp)]
    have hpl := encode8_len hv
    rw [hs2] at hpl
    have hr64 : ∀ r ∈ rsp vs, R64 r.2 := fun r hr => by
      have := (rsp_each hv hl4 r hr).2
      exact ⟨by omega, by omega⟩
    have hrl := (rsp_len hv).1
    have hpu := encR_u8 (rsp vs)
    obtain ⟨L, hL⟩ : ∃ L, L = rsp vs := ⟨_, rfl⟩
    obtain ⟨P, hP⟩ : ∃ P, P = encR (rsp vs) := ⟨_, rfl⟩
    rw [← hP] at hd1 hd2 hs2 hpl hpu
    rw [← hL] at hs hj hr64 hrl
    simp only at hpl
    obtain ⟨m, hm⟩ : ∃ m, m = L.length := ⟨_, rfl⟩
    obtain ⟨p, hp⟩ : ∃ p, p = P.length := ⟨_, rfl⟩
    rw [← hm] at hrl
    rw [← hp] at hpl
    have Hm := Lib.hid hm.symm
    have Hp := Lib.hid hp.symm
    have HS1 : Hid (∀ (B : Option Addr) (cb : Nat) (W : World), RdG shZ W B n vs → Calls Try.prog 14 #[.slice B n cb] W fun e w' => ∃ A' c', e = .returned (.tuple #[.slice A' m c', .int .i64 0]) ∧ OwnG shR 33 w' W.heap.size A' c' L ∧ Ext W w') := Lib.hid (fun B cb W h1 => by
      have h := split_any B n cb vs W h1 hv
      unfold SplitPost at h
      rw [hs] at h
      simp only [← hm] at h
      exact h)
    have HE1 : Hid (∀ (B : Option Addr) (cb : Nat) (W : World), RdG shZ W B n vs → Calls Try.prog 17 #[.slice B n cb] W fun e w' => ∃ A' c', e = .returned (.tuple #[.slice A' p c', .int .i64 0]) ∧ Own .u8 5 w' W.heap.size A' c' P ∧ Ext W w') := Lib.hid (fun B cb W h1 => by
      have h := encode_any B n cb vs W h1 hv
      unfold EncPost at h
      rw [hs2] at h
      simp only [← hp] at h
      exact h)
    have HJ : Hid (∀ (B : Option Addr) (cb : Nat) (W : World), RdG shR W B m L → Calls Try.prog 21 #[.slice B m cb] W fun e w' => ∃ A' c', e = .returned (.tuple #[.slice A' n c', .int .i64 0]) ∧ OwnG shZ 2 w' W.heap.size A' c' vs ∧ Ext W w') := Lib.hid (fun B cb W h1 => by
      have h := join_any B m cb L W h1 hr64 (by omega)
      unfold JoinPost at h
      rw [hj] at h
      simp only [Hl.out] at h
      exact h)
    have HD1 : Hid (∀ (B : Option Addr) (cb : Nat) (W : World), Rd .u8 W B p P → p ≤ cb → cb ≤ 9223372036854775807 → Calls Try.prog 25 #[.slice B p cb] W fun e w' => ∃ A' c', e = .returned (.tuple #[.slice A' n c', .int .i64 0]) ∧ OwnG shZ 2 w' W.heap.size A' c' vs ∧ Ext W w') := Lib.hid (fun B cb W h1 h2 h3 => by
      have h := decode_any B p cb P W h1 hpu (by omega) h2 h3
      unfold JoinPost at h
      rw [hd1] at h
      simp only [Hl.out] at h
      exact h)
    have HD2 : Hid (∀ (B : Option Addr) (cb : Nat) (W : World), Rd .u8 W B (p + 1) (P ++ [1]) → p + 1 ≤ cb → cb ≤ 9223372036854775807 → Calls Try.prog 25 #[.slice B (p + 1 : Nat) cb] W fun e w' => ∃ A' c', e = .returned (.tuple #[.slice A' 0 c', .int .i64 3]) ∧ Ext W w') := Lib.hid (fun B cb W h1 h2 h3 => by
      have h := decode_any B (p + 1) cb (P ++ [1]) W h1 (by intro v hv; rcases List.mem_append.1 hv with h | h; exact hpu v h; simp at h; omega) (by omega) h2 h3
      unfold JoinPost at h
      rw [hd2] at h
      exact h.mono fun e w' ⟨A', c', h1, _, h2⟩ => ⟨A', c', h1, h2⟩)
    have hz := fun h => (back8 hu h)
    have hze := decode8_err (bs := bs)
    have hzl := decode8_len bs
    obtain ⟨⟨Z, E⟩, hZ⟩ : ∃ R, R = decode8 bs := ⟨_, rfl⟩
    rw [← hZ] at hz hze hzl
    simp only at hz hze hzl
    obtain ⟨z, hzz⟩ : ∃ z, z = Z.length := ⟨_, rfl⟩
    rw [← hzz] at hzl
    have Hz := Lib.hid hzz.symm
    have HD3 : Hid (∀ (B : Option Addr) (cb : Nat) (W : World), Rd .u8 W B n2 bs → n2 ≤ cb → cb ≤ 9223372036854775807 → Calls Try.prog 25 #[.slice B n2 cb] W fun e w' => ∃ A' c', e = .returned (.tuple #[.slice A' z c', .int .i64 E]) ∧ OwnG shZ 2 w' W.heap.size A' c' Z ∧ Ext W w') := Lib.hid (fun B cb W h1 h2 h3 => by
      have h := decode_any B n2 cb bs W h1 hu (by omega) h2 h3
      unfold JoinPost at h
      rw [← hZ] at h
      simp only [← hzz] at h
      exact h)
    have HE3 : E = 0 → Hid (∀ (B : Option Addr) (cb : Nat) (W : World), RdG shZ W B z Z → Calls Try.prog 17 #[.slice B z cb] W fun e w' => ∃ A' c', e = .returned (.tuple #[.slice A' n2 c', .int .i64 0]) ∧ Own .u8 5 w' W.heap.size A' c' bs ∧ Ext W w') := fun h0 => Lib.hid (fun B cb W h1 => by
      have h := encode_any B z cb Z W h1 (hz h0).2
      unfold EncPost at h
      rw [(hz h0).1] at h
      simp only [Hl2.out] at h
      exact h)
    have HZE := Lib.hid hze
    have HBig := Lib.hid hbig
    have hb4 : decide ((4096 : Int) < (n : Int)) = false := decide_eq_false (by omega)
    clear hs hs2 hgood hflat hj hd1 hd2 hr64 hpu hL hP hm hp hz hze hZ hzz hv hu hl4 hbig
    go_enter Try.func6, Try.ntmps6
    go_wp2_with fail
    refine (alive8 _).mono ?_
    rintro e w1 ⟨rfl, he1⟩
    have hx1 := hx.ext he1
    go_wp2_with fail
    refine (HS1.out _ _ _ hx1).mono ?_
    rintro e w3 ⟨A3, c3, rfl, hown3, he3⟩
    have hr3 := hown3.rd' Hm.out
    go_wp2_with fail
    refine (HE1.out _ _ _ (hx1.ext he3)).mono ?_
    rintro e w4 ⟨A4, c4, rfl, hown4, he4⟩
    have hr4 := hown4.rd' Hp.out
    obtain ⟨q1, q2⟩ := hown4.cap
    rw [Hp.out] at q1
    clear hown3 hown4
    go_wp2_with fail
    refine (HJ.out _ _ _ (hr3.ext he4)).mono ?_
    rintro e w5 ⟨A5, c5, rfl, hown5, he5⟩
    go_wp2_with fail
    refine (HD1.out _ _ _ (hr4.ext he5) q1 q2).mono ?_
    rintro e w6 ⟨A6, c6, rfl, hown6, he6⟩
    go_wp2_with fail
    refine (cat_any _ _ p _ 1 _ P [1] _ (((hr4.ext he5).ext he6).ext ((Ext.refl w6).alloc _)) (Rd.lit_at .u8 5 w6 [1] rfl rfl) (by omega)).mono ?_
    rintro e w7 ⟨A7, c7, rfl, hown7, he7⟩
    obtain ⟨q3, q4⟩ := hown7.cap
    have hl7 : (P ++ [1]).length = p + 1 := by rw [List.length_append, Hp.out]; rfl
    rw [hl7] at q3
    have hr7 := hown7.rd' hl7
    have he67 := ((Ext.refl w6).alloc (.cells #[.int .u8 1] 5)).trans he7
    clear hl7 hown7
    go_wp2_with fail
    refine (HD2.out _ _ _ hr7 q3 q4).mono ?_
    rintro e w8 ⟨A8, c8, rfl, he8⟩
    have e58 := (he6.trans he67).trans he8
    have hx5 := (((hx1.ext he3).ext he4).ext he5)
    go_wp2_with fail
    refine (sameZ_yes ((hown5.rd' Hl.out).ext e58) (hx5.ext e58) (by omega)).mono ?_
    rintro e w9 ⟨rfl, q9, rfl⟩
    go_wp2_with fail
    refine (sameZ_yes (((hown6.rd' Hl.out).ext (he67.trans he8)).drewN q9) ((hx5.ext e58).drewN q9) (by omega)).mono ?_
    rintro e w10 ⟨rfl, q10, rfl⟩
    have hE10 : Ext w1 (w8.drewN (q9 + q10)) := ((((he3.trans he4).trans he5).trans e58)).drewN _
    have hy10 := (hy.ext he1).ext hE10
    have hE11 := he1.trans hE10
    clear hown5 hown6 e58 hx5 hE10 he67 he8 he6 he5 he4 he3
    go_wp2_with fail
    refine (copy_any _ _ _ bs _ hy10 (by omega)).mono ?_
    rintro e w11 ⟨A11, c11, rfl, hown11, he11⟩
    obtain ⟨q5, q6⟩ := hown11.cap
    rw [Hl2.out] at q5
    go_wp2_with fail
    refine (HD3.out _ _ _ (hown11.rd' Hl2.out) q5 q6).mono ?_
    rintro e w12 ⟨A12, c12, rfl, hown12, he12⟩
    by_cases h0 : E = 0
    · have HE4 := HE3 h0
      subst h0
      go_wp2_with fail
      refine (HE4.out _ _ _ (hown12.rd' Hz.out)).mono ?_
      rintro e w13 ⟨A13, c13, rfl, hown13, he13⟩
      go_wp2_with fail
      refine (same_any _ _ n2 _ n2 _ bs bs _ (hown13.rd' Hl2.out) (((hy10.ext he11).ext he12).ext he13) (by omega) (by omega)).mono ?_
      rintro e w14 ⟨rfl, q14, rfl⟩
      rw [decide_eq_true rfl]
      go_wp2_with fail
      go_ret
      exact ⟨rfl, (((hE11.trans he11).trans he12).trans he13).drewN _⟩
    · have hz0 := HZE.out h0
      have hzn : z = 0 := by rw [← Hz.out, hz0]; rfl
      subst hzn
      have hb0 : (E != 0) = true := by simpa using h0
      clear h0 hz0
      go_wp2_with fail
      go_ret
      exact ⟨rfl, (hE11.trans he11).trans he12⟩

end Go.Proofs.Ytoefhblojoaikaa
