import Derived.Test.YtdndhogpcdhamaaV3
namespace Go.Proofs.Ytdndhogpcdhamaa
open Go.RowKit

set_option maxHeartbeats 1600000 in
/-- The document's examples hold. -/
theorem alive2 (w : World) :
    Calls Try.prog 37 #[] w fun e w' => e = .returned (.bool true) ∧ Ext w w' := by
  go_enter Try.func37, Try.ntmps37
  go_wp2_with fail
  have r1 : Rd .u8 _ _ 2 _ := Rd.lit .u8 5 w [172, 2]
  refine (get_any _ _ _ _ [172, 2] _ r1 (by decide) (by decide) (by decide) (by decide)).mono ?_
  rintro e w1 ⟨rfl, rfl⟩
  rw [show vget [172, 2] 0 = (300, 2, 0) from by decide]
  go_wp2_with fail
  have r2 := Rd.lit_at .u8 5 (w.alloc (.cells #[.int .u8 172, .int .u8 2] 5)) [2, 1, 172, 2] (b := w.heap.size + 1) (n := 4) (by simp) rfl
  refine (getList_any _ _ _ _ _ [2, 1, 172, 2] _ r2 (by decide) (by decide) (by decide) (by decide) (by decide) (by decide)).mono ?_
  rintro e w2 ⟨A2, c2, rfl, hown2, he2⟩
  rw [show vgl [2, 1, 172, 2] 0 2 = ([1, 300], 4, 0) from by decide] at hown2 ⊢
  go_wp2_with fail
  refine (put_any 300 _ (by decide)).mono ?_
  rintro e w3 ⟨A3, c3, rfl, hown3, he3⟩
  rw [show vput 300 = [172, 2] from by decide] at hown3 ⊢
  go_wp2_with fail
  have r4 : Rd .u8 _ _ 2 _ := Rd.lit .u8 5 w3 [172, 2]
  refine (same_yes (hown3.rd.ext ((Ext.refl _).alloc _)) r4 (by decide)).mono ?_
  rintro e w4 ⟨rfl, q, rfl⟩
  go_wp2_with fail
  refine (size_any 300 _ (by decide)).mono ?_
  rintro e w4 ⟨rfl, rfl⟩
  rw [show vsize 300 = 2 from by decide]
  go_wp2_with fail
  have r5 := Rd.lit_at .u64 41 ((w3.alloc (.cells #[.int .u8 172, .int .u8 2] 5)).drewN q) [1, 300] (b := w3.heap.size + 1) (n := 2) (by simp) rfl
  refine (putList_any _ _ _ [1, 300] _ r5 (by decide) (by decide)).mono ?_
  rintro e w5 ⟨A5, c5, rfl, hown5, he5⟩
  rw [show vlist [1, 300] = [2, 1, 172, 2] from by decide] at hown5 ⊢
  go_wp2_with fail
  have r6 : Rd .u8 _ _ 4 _ := Rd.lit .u8 5 w5 [2, 1, 172, 2]
  refine (same_yes (hown5.rd.ext ((Ext.refl _).alloc _)) r6 (by decide)).mono ?_
  rintro e w6 ⟨rfl, q2, rfl⟩
  go_wp2_with fail
  go_ret
  have hE := ((((((((Ext.refl w).alloc _).alloc _).trans he2).trans he3).alloc (.cells #[.int .u8 172, .int .u8 2] 5)).drewN q).alloc (.cells #[.int .u64 1, .int .u64 300] 41)).trans he5
  exact ⟨rfl, (hE.alloc _).drewN _⟩

set_option maxHeartbeats 1600000 in
theorem walk_VintGets (A : Option Addr) (n c : Nat) (bs : List Nat) (at_ : Int) (w : World) (hx : Rd .u8 w A n bs) (hu : U8 bs) (hz : n * 1 ≤ 140737488351232) (_h1 : -9223372036854775808 ≤ at_) (_h2 : at_ ≤ 9223372036854775807) :
    Calls Try.prog 10 #[.slice A n c, .int .i64 at_] w fun e w' => e = .returned (.bool true) ∧ Ext w w' := by
  go_enter Try.func10, Try.ntmps10
  go_wp2_with fail
  refine (alive2 _).mono ?_
  rintro e w1 ⟨rfl, he1⟩
  go_wp2_with fail
  refine (wide_any _ _ _ _ _ (hx.ext he1) (by omega)).mono ?_
  rintro e w2 ⟨A2, c2, rfl, hown2, he2⟩
  have hr2 := hown2.rd_take (n := n) (by rw [List.length_append, hx.len]; omega)
  rw [List.take_left' hx.len] at hr2
  have hri := hown2.rd' (n := n + 64) (by rw [List.length_append, hx.len]; rfl)
  obtain ⟨b, rfl, _, hb, hcap, hcm⟩ := hown2.form (by rw [List.length_append, marks_len]; omega)
  rw [List.length_append, hx.len, marks_len] at hcap
  have hx2 := (hx.ext he1).ext he2
  go_wp2_with fail
  refine (get_any _ _ _ _ bs _ hr2 hu (by omega) (by omega) (by omega)).mono ?_
  rintro e w3 ⟨rfl, rfl⟩
  go_wp2_with fail
  refine (refGet_any _ _ _ _ bs _ hx2 hu (by omega)).mono ?_
  rintro e w3 ⟨rfl, rfl⟩
  generalize vget bs at_ = x
  have t1 : (((x.1 : Nat) : Int) == ((x.1 : Nat) : Int)) = true := by simp
  have t2 : (x.2.1 == x.2.1) = true := by simp
  have t3 : (x.2.2 == x.2.2) = true := by simp
  go_wp2_with fail
  refine (intact_yes hri hx2 (by omega) (by omega)).mono ?_
  rintro e w3 ⟨rfl, q2, rfl⟩
  go_wp2_with fail
  go_ret
  exact ⟨rfl, (he1.trans he2).drewN _⟩

set_option maxHeartbeats 3200000 in
theorem walk_VintPuts (A : Option Addr) (n c : Nat) (us : List Nat) (w : World) (hx : Rd .u64 w A n us) (hu : U64 us) (hz : n ≤ 17592186044416) :
    Calls Try.prog 9 #[.slice A n c] w fun e w' => e = .returned (.bool true) ∧ Ext w w' := by
  have hl := hx.len
  have hL := vlist_len hu (show us.length < 18446744073709551616 by omega)
  have hU := vlist_u8 us
  have Hl := Lib.hid hl
  have HL := Lib.hid hL
  clear hl hL
  go_enter Try.func9, Try.ntmps9
  go_wp2_with fail
  refine (alive2 _).mono ?_
  rintro e w1 ⟨rfl, he1⟩
  go_wp2_with fail
  refine (copyNumbers_any _ _ _ _ _ (hx.ext he1) (by omega)).mono ?_
  rintro e w2 ⟨A2, c2, rfl, hown2, he2⟩
  have hr2 := hown2.rd' Hl.out
  go_wp2_with fail
  refine (putList_any _ _ _ _ _ hr2 hu hz).mono ?_
  rintro e w3 ⟨A3, c3, rfl, hown3, he3⟩
  go_wp2_with fail
  refine (putList_any _ _ _ _ _ (hr2.ext he3) hu hz).mono ?_
  rintro e w4 ⟨A4, c4, rfl, hown4, he4⟩
  go_wp2_with fail
  refine (refPutList_any _ _ _ _ _ ((((hx.ext he1).ext he2).ext he3).ext he4) hu hz).mono ?_
  rintro e w5 ⟨A5, c5, rfl, hown5, he5⟩
  have hx2 := (hx.ext he1).ext he2
  have hE2 := he1.trans he2
  have hE5 : Ext w2 w5 := (he3.trans he4).trans he5
  have n4 : ∀ a a2, A3 = some a → A4 = some a2 → a2.block ≠ a.block := fun a a2 ha ha2 => by have := (hown3.block a ha).2; have := (hown4.block a2 ha2).1; omega
  have n5 : ∀ a a2, A3 = some a → A5 = some a2 → a2.block ≠ a.block := fun a a2 ha ha2 => by have := (hown3.block a ha).2; have := (hown5.block a2 ha2).1; have := he4.size; omega
  go_wp2_with fail
  refine (apart_any _ _ _ (vlist us).length _ _ _ w2.heap.size (vlist us) w2 w5 ((hown3.ext he4).ext he5) rfl hU (hown4.rd.ext he5) hown5.rd n4 n5 hE5 (Nat.le_refl _) hE5.size (by have := HL.out; have := Hl.out; omega)).mono ?_
  rintro e w6 ⟨rfl, he6⟩
  have hr6 := hr2.ext he6
  have hx6 := hx2.ext he6
  have hE6 := hE2.trans he6
  clear hown2 hown3 hown4 hown5 hr2 he1 he2 he3 he4 he5 n4 n5 hE5 he6 hE2 hx2
  go_wp2_with fail
  refine (sameNumbers_yes hr6 hx6 (by omega)).mono ?_
  rintro e w7 ⟨rfl, q, rfl⟩
  have hE7 := hE6.drewN q
  clear hr6 hx6 hE6
  go_wp2_with fail
  generalize w6.drewN q = w7 at *
  go_loopw [27] (fun i wr => ∃ j : Nat, j ≤ n ∧ i = .int .i64 j ∧ Ext w wr) (fun i _ => n - (intOf i).toNat)
  case atStart => exact ⟨0, Nat.zero_le _, rfl, hE7⟩
  case round =>
    clear hE7
    obtain ⟨j, hj, rfl, hE⟩ := hrel
    by_cases hlt : j < n
    · obtain ⟨b, o, rfl, hb, hc⟩ := (hx.ext hE).at_ hlt
      have hv := hu.at_ j
      obtain ⟨x, hx'⟩ : ∃ x, x = us.getD j 0 := ⟨_, rfl⟩
      rw [← hx'] at hc hv
      have hs := vsize_le hv
      have hvl := vput_len x
      have hVu := vput_u8 x
      have Hv := Lib.hid hv
      have Hs := Lib.hid hs
      have Hvl := Lib.hid hvl
      clear hx' hv hs hvl
      go_wp2_with fail
      refine (refPut_any _ _ Hv.out).mono ?_
      rintro e w8 ⟨A8, c8, rfl, hown8, he8⟩
      rw [Hvl.out]
      go_wp2_with fail
      refine (size_any _ _ Hv.out).mono ?_
      rintro e w9 ⟨rfl, hw⟩
      subst hw
      have hne : (((vsize x : Nat) : Int) != ((vsize x : Nat) : Int)) = false := by simp
      go_wp2_with fail
      refine (put_any _ _ Hv.out).mono ?_
      rintro e w9 ⟨A9, c9, rfl, hown9, he9⟩
      rw [Hvl.out]
      go_wp2_with fail
      refine (put_any _ _ Hv.out).mono ?_
      rintro e w10 ⟨A10, c10, rfl, hown10, he10⟩
      rw [Hvl.out]
      have n10 : ∀ a a2, A9 = some a → A10 = some a2 → a2.block ≠ a.block := fun a a2 ha ha2 => by have := (hown9.block a ha).2; have := (hown10.block a2 ha2).1; omega
      have n8 : ∀ a a2, A9 = some a → A8 = some a2 → a2.block ≠ a.block := fun a a2 ha ha2 => by have := (hown9.block a ha).1; have := (hown8.block a2 ha2).2; omega
      go_wp2_with fail
      refine (apart_any _ _ _ (vsize x) _ _ _ w8.heap.size (vput x) w8 w10 (hown9.ext he10) Hvl.out hVu ((hown10.rd' Hvl.out)) (((hown8.ext he9).ext he10).rd' Hvl.out) n10 n8 (he9.trans he10) (Nat.le_refl _) (he9.trans he10).size (by have := Hs.out; omega)).mono ?_
      rintro e w11 ⟨rfl, he11⟩
      have hE11 := (hE.trans he8).trans he11
      clear hown8 hown9 hown10 he8 he9 he10 n10 n8 hE he11
      go_wp2_with fail
      go_roundw
      case rel => exact ⟨j + 1, by omega, by go_num, hE11⟩
      case measure => simp [intOf]; omega
    · go_wp2_with fail
      go_ret
      exact ⟨rfl, hE⟩

theorem piece_cut (p : List Nat) : piece p 0 ((p.length : Int) - 1) = p.take (p.length - 1) := by
  unfold piece
  rw [show ((p.length : Int) - 1).toNat = p.length - 1 from by omega]
  rfl

set_option maxHeartbeats 3200000 in
theorem walk_VintBack (u v : Int) (A : Option Addr) (n c : Nat) (xs : List Nat) (A2 : Option Addr) (n2 c2 : Nat) (ys : List Nat) (w : World) (hu0 : 0 ≤ u) (hu1 : u ≤ 18446744073709551615) (hv0 : 0 ≤ v) (hv1 : v ≤ 18446744073709551615) (hx : Rd .u8 w A n xs) (hxu : U8 xs) (hz : n ≤ 1048576) (hy : Rd .u8 w A2 n2 ys) (hyu : U8 ys) (hz2 : n2 ≤ 1048576) :
    Calls Try.prog 12 #[.int .u64 u, .int .u64 v, .slice A n c, .slice A2 n2 c2] w fun e w' => e = .returned (.bool true) ∧ Ext w w' := by
  obtain ⟨U, rfl⟩ := Int.eq_ofNat_of_zero_le hu0
  obtain ⟨V, rfl⟩ := Int.eq_ofNat_of_zero_le hv0
  have hU : U < 18446744073709551616 := by omega
  have hV : V < 18446744073709551616 := by omega
  have hs := vsize_le hU
  have hs1 : 1 ≤ vsize U := by unfold vsize; omega
  have hpl := vput_len U
  have hpu := vput_u8 U
  have hxl := hx.len
  have hyl := hy.len
  have hcat : U8 ((xs ++ vput U) ++ ys) := by
    intro z hz
    rcases List.mem_append.1 hz with h | h
    · rcases List.mem_append.1 h with h | h
      · exact hxu z h
      · exact hpu z h
    · exact hyu z h
  have hcl : ((xs ++ vput U) ++ ys).length = n + vsize U + n2 := by rw [List.length_append, List.length_append, hxl, hpl, hyl]
  have hg : vget ((xs ++ vput U) ++ ys) (n : Int) = (U, (n : Int) + (vsize U : Int), 0) := by
    refine vget_ok (by omega) ?_
    rw [List.append_assoc, ← hxl, List.drop_left]
    exact vgetF_vput hU ys
  have hcut : vget ((vput U).take (vsize U - 1)) 0 = (0, 0, 2) := by
    have := vget_err (bs := (vput U).take (vsize U - 1)) (a := 0) (k := 2) (by omega) (by rw [List.drop_zero]; exact vget_cut hU) (by decide)
    exact this
  have hmono : U ≤ V → vsize U ≤ vsize V := fun h => by unfold vsize; have : bl U ≤ bl V := bl_le.2 (Nat.lt_of_le_of_lt h (bl_le.1 (Nat.le_refl _))); omega
  have hmono2 : V ≤ U → vsize V ≤ vsize U := fun h => by unfold vsize; have : bl V ≤ bl U := bl_le.2 (Nat.lt_of_le_of_lt h (bl_le.1 (Nat.le_refl _))); omega
  have HU := Lib.hid hU
  have HV := Lib.hid hV
  have Hpl := Lib.hid hpl
  have Hg := Lib.hid hg
  have Hcut := Lib.hid hcut
  have Hcl := Lib.hid hcl
  have Hm := Lib.hid hmono
  have Hm2 := Lib.hid hmono2
  have hsb : vsize U ≤ 10 := hs
  clear hU hV hpl hg hcut hcl hxl hyl hmono hmono2 hs hu1 hv1
  go_enter Try.func12, Try.ntmps12
  go_wp2_with fail
  refine (alive2 _).mono ?_
  rintro e w1 ⟨rfl, he1⟩
  go_wp2_with fail
  refine (put_any _ _ HU.out).mono ?_
  rintro e w3 ⟨A3, c3, rfl, hown3, he3⟩
  rw [Hpl.out]
  go_wp2_with fail
  refine (cat_any _ _ _ _ _ _ xs (vput U) _ ((hx.ext he1).ext he3) (hown3.rd' Hpl.out) (by omega)).mono ?_
  rintro e w4 ⟨A4, c4, rfl, hown4, he4⟩
  go_wp2_with fail
  refine (cat_any _ _ _ _ _ _ (xs ++ vput U) ys _ (hown4.rd' (by rw [List.length_append, hx.len, Hpl.out])) (((hy.ext he1).ext he3).ext he4) (by omega)).mono ?_
  rintro e w5 ⟨A5, c5, rfl, hown5, he5⟩
  have hc5 := hown5.cap
  rw [Hcl.out] at hc5
  go_wp2_with fail
  refine (get_any _ _ _ _ ((xs ++ vput U) ++ ys) _ (hown5.rd' Hcl.out) hcat (by omega) (by omega) (by omega)).mono ?_
  rintro e w6 ⟨rfl, rfl⟩
  rw [Hg.out]
  go_wp2_with fail
  refine (piece_any _ _ _ _ _ (vput U) _ (((hown3.ext he4).ext he5).rd' Hpl.out) (by omega) (by omega)).mono ?_
  rintro e w7 ⟨A7, c7, rfl, hown7, he7⟩
  rw [← Hpl.out, piece_cut, Hpl.out] at hown7 ⊢
  have hc7 := hown7.cap
  have hl7 : ((vput U).take (vsize U - 1)).length = vsize U - 1 := by rw [List.length_take, Hpl.out]; omega
  rw [hl7] at hc7 ⊢
  go_wp2_with fail
  refine (get_any _ _ _ _ ((vput U).take (vsize U - 1)) _ (hown7.rd' hl7) (fun z hz => hpu z (List.mem_of_mem_take hz)) (by omega) (by omega) (by omega)).mono ?_
  rintro e w8 ⟨rfl, rfl⟩
  rw [Hcut.out]
  have hE := ((((he1.trans he3).trans he4).trans he5).trans he7)
  have t1 : (((U : Nat) : Int) != ((U : Nat) : Int)) = false := by simp
  have t2 : ((n : Int) + (vsize U : Int) != (n : Int) + (vsize U : Int)) = false := by simp
  clear hown3 hown4 hown5 hown7 he1 he3 he4 he5 he7 hc5 hc7 hl7 hx hy hcat hxu hyu hpu
  by_cases hle : V ≤ U
  · have hm := Hm2.out hle
    go_wp2_with fail
    refine (size_any _ _ HV.out).mono ?_
    rintro e w9 ⟨rfl, rfl⟩
    go_wp2_with fail
    refine (size_any _ _ HU.out).mono ?_
    rintro e w9 ⟨rfl, rfl⟩
    go_wp2_with fail
    go_ret
    exact ⟨rfl, hE⟩
  · have hm := Hm.out (by omega)
    have hlt : U < V := by omega
    go_wp2_with fail
    refine (size_any _ _ HV.out).mono ?_
    rintro e w9 ⟨rfl, rfl⟩
    go_wp2_with fail
    refine (size_any _ _ HU.out).mono ?_
    rintro e w9 ⟨rfl, rfl⟩
    go_wp2_with fail
    go_ret
    exact ⟨rfl, hE⟩

/-- Numbers that were got: as what they stand. -/
theorem vmany_at {bs : List Nat} (hb : U8 bs) : ∀ {k : Nat} {a n : Int} {us : List Nat}, 0 ≤ a → a ≤ bs.length → vmany bs k a = (us, n, 0) →
    a ≤ n ∧ n ≤ bs.length ∧ us.length = k ∧ U64 us ∧ vall us = (bs.drop a.toNat).take (n.toNat - a.toNat) := by
  intro k
  induction k with
  | zero =>
    intro a n us h0 h1 h
    injection h with e1 h
    injection h with e2 _
    subst e1
    subst e2
    exact ⟨Int.le_refl _, h1, rfl, (by intro v hv; cases hv), by rw [Nat.sub_self, List.take_zero]; rfl⟩
  | succ k ih =>
    intro a n us h0 h1 h
    rw [vmany] at h
    rcases hg : vget bs a with ⟨v, a2, e⟩
    rw [hg] at h
    simp only at h
    by_cases he : e = 0
    · rw [if_pos he] at h
      subst he
      obtain ⟨_, q2, q3, q4, q5⟩ := vget_at hb hg
      rcases hm : vmany bs k a2 with ⟨r, n2, e2⟩
      rw [hm] at h
      simp only at h
      by_cases he2 : e2 = 0
      · rw [if_pos he2] at h
        subst he2
        injection h with e1 h
        injection h with e3 _
        subst e1
        subst e3
        obtain ⟨p1, p2, p3, p4, p5⟩ := ih (by omega) q3 hm
        refine ⟨by omega, p2, by rw [List.length_cons, p3], ?_, ?_⟩
        · intro x hx
          rcases List.mem_cons.1 hx with rfl | hx
          · exact q4
          · exact p4 x hx
        · rw [vall, q5, p5]
          have e4 : bs.drop a2.toNat = (bs.drop a.toNat).drop (a2.toNat - a.toNat) := by rw [List.drop_drop]; congr 1; omega
          rw [e4, show n2.toNat - a.toNat = (a2.toNat - a.toNat) + (n2.toNat - a2.toNat) from by omega, List.take_add]
      · rw [if_neg he2] at h
        injection h with _ h
        injection h with _ h
        exact absurd h he2
    · rw [if_neg he] at h
      injection h with _ h
      injection h with _ h
      exact absurd h he

theorem piece_of (bs : List Nat) (a n : Int) : piece bs a n = (bs.drop a.toNat).take (n.toNat - a.toNat) := by
  unfold piece
  rw [List.drop_take]

theorem vget_zero {bs : List Nat} {a n e : Int} {v : Nat} (h : vget bs a = (v, n, e)) (he : e ≠ 0) : v = 0 ∧ n = 0 := by
  unfold vget at h
  split at h
  · injection h with h1 h; injection h with h2 _; exact ⟨h1.symm, h2.symm⟩
  · split at h
    · injection h with _ h; injection h with _ h; exact absurd h.symm he
    · injection h with h1 h; injection h with h2 _; exact ⟨h1.symm, h2.symm⟩

theorem vgl_err {bs us : List Nat} {a m t e : Int} (h : vgl bs a m = (us, t, e)) (he : e ≠ 0) : us = [] ∧ t = 0 := by
  unfold vgl at h
  split at h
  · split at h
    · injection h with h1 h; injection h with h2 _; exact ⟨h1.symm, h2.symm⟩
    · have h0 : (vmany bs (vget bs a).1 (vget bs a).2.1).2.2 ≠ 0 := by rw [h]; exact he
      have h2 := vmany_err bs _ _ h0
      rw [h] at h2
      injection h2 with h3 h2
      injection h2 with h4 _
      exact ⟨h3, h4⟩
  · injection h with h1 h; injection h with h2 _; exact ⟨h1.symm, h2.symm⟩

theorem vgl_at {bs us : List Nat} {a m t : Int} (hb : U8 bs) (h : vgl bs a m = (us, t, 0)) : a < t ∧ t ≤ bs.length ∧ U64 us ∧ (us.length : Int) ≤ max m 0 ∧ vlist us = piece bs a t := by
  unfold vgl at h
  rcases hg : vget bs a with ⟨N, a0, e⟩
  rw [hg] at h
  simp only at h
  by_cases he : e = 0
  · rw [if_pos he] at h
    subst he
    by_cases hl : max m 0 < (N : Int)
    · rw [if_pos hl] at h
      injection h with _ h
      injection h with _ h
      omega
    · rw [if_neg hl] at h
      obtain ⟨q1, q2, q3, q4, q5⟩ := vget_at hb hg
      obtain ⟨p1, p2, p3, p4, p5⟩ := vmany_at hb (by omega) q3 h
      refine ⟨by omega, p2, p4, by omega, ?_⟩
      rw [vlist, p3, q5, p5, piece_of]
      have e4 : bs.drop a0.toNat = (bs.drop a.toNat).drop (a0.toNat - a.toNat) := by rw [List.drop_drop]; congr 1; omega
      rw [e4, show t.toNat - a.toNat = (a0.toNat - a.toNat) + (t.toNat - a0.toNat) from by omega, List.take_add]
  · rw [if_neg he] at h
    injection h with _ h
    injection h with _ h
    exact absurd h he

set_option maxHeartbeats 3200000 in
theorem walk_VintOnly (A : Option Addr) (n c : Nat) (bs : List Nat) (at_ : Int) (w : World) (hx : Rd .u8 w A n bs) (hu : U8 bs) (hz : n ≤ 1048576) (_h1 : -9223372036854775808 ≤ at_) (h2 : at_ ≤ 9223372036854775807) :
    Calls Try.prog 13 #[.slice A n c, .int .i64 at_] w fun e w' => e = .returned (.bool true) ∧ Ext w w' := by
  have hl := hx.len
  have Hl := Lib.hid hl
  clear hl
  go_enter Try.func13, Try.ntmps13
  go_wp2_with fail
  refine (alive2 _).mono ?_
  rintro e w1 ⟨rfl, he1⟩
  go_wp2_with fail
  refine (copy_any _ _ _ _ _ (hx.ext he1) (by omega)).mono ?_
  rintro e w2 ⟨A2, c2, rfl, hown2, he2⟩
  have hc2 := hown2.cap
  rw [Hl.out] at hc2
  go_wp2_with fail
  refine (get_any _ _ _ _ bs _ (hown2.rd' Hl.out) hu (by omega) hc2.1 hc2.2).mono ?_
  rintro e w3 ⟨rfl, rfl⟩
  have hx2 := (hx.ext he1).ext he2
  have hE2 := he1.trans he2
  clear hown2 hc2 hx he1 he2
  rcases hg : vget bs at_ with ⟨v, nx, e0⟩
  have Hg := Lib.hid hg
  clear hg
  by_cases he : e0 = 0
  · subst he
    obtain ⟨q1, q2, q3, q4, q5⟩ := vget_at hu Hg.out
    have hq3 : nx ≤ n := by have := Hl.out; omega
    have hp : piece bs at_ nx = vput v := by rw [piece_of, q5]
    have hs := vsize_le q4
    have Hp := Lib.hid hp
    have Hq4 := Lib.hid q4
    have Hpl := Lib.hid (vput_len v)
    clear hp q5 q4
    go_wp2_with fail
    refine (put_any _ _ Hq4.out).mono ?_
    rintro e w4 ⟨A4, c4, rfl, hown4, he4⟩
    go_wp2_with fail
    refine (piece_any _ _ _ _ _ bs _ (hx2.ext he4) (by omega) (by omega)).mono ?_
    rintro e w5 ⟨A5, c5, rfl, hown5, he5⟩
    rw [Hp.out] at hown5 ⊢
    go_wp2_with fail
    refine (same_yes (hown4.rd.ext he5) hown5.rd (by rw [Hpl.out]; omega)).mono ?_
    rintro e w6 ⟨rfl, q, rfl⟩
    have hxW := ((hx2.ext he4).ext he5).drewN q
    have hEW := ((hE2.trans he4).trans he5).drewN q
    clear hown4 hown5 he4 he5 hx2 hE2
    have hnn : ¬ (nx ≤ at_) := by omega
    go_wp2_with fail
    generalize w5.drewN q = W at *
    refine (copy_any _ _ _ _ _ hxW (by omega)).mono ?_
    rintro e w7 ⟨A7, c7, rfl, hown7, he7⟩
    have hc7 := hown7.cap
    rw [Hl.out] at hc7
    go_wp2_with fail
    refine (getList_any _ _ _ _ _ bs _ (hown7.rd' Hl.out) hu (by omega) hc7.1 hc7.2 (by omega) (by omega)).mono ?_
    rintro e w8 ⟨A8, c8, rfl, hown8, he8⟩
    have hx8 := (hxW.ext he7).ext he8
    have hE8 := (hEW.trans he7).trans he8
    clear hown7 hc7 hxW hEW he7
    rcases hgl : vgl bs at_ n with ⟨us, t, f⟩
    rw [hgl] at hown8
    simp only at hown8
    have Hgl := Lib.hid hgl
    clear hgl
    by_cases hf : f = 0
    · subst hf
      obtain ⟨p1, p2, p3, p4, p5⟩ := vgl_at hu Hgl.out
      have hp2 : t ≤ n := by have := Hl.out; omega
      have hul : us.length ≤ 1048576 := by omega
      have hll := vlist_len p3 (by omega)
      have P5 := Lib.hid p5
      have Hll := Lib.hid hll
      clear p2 p4 p5 hll
      go_wp2_with fail
      refine (putList_any _ _ _ _ _ hown8.rd p3 (Nat.le_trans hul (by decide))).mono ?_
      rintro e w9 ⟨A9, c9, rfl, hown9, he9⟩
      go_wp2_with fail
      refine (piece_any _ _ _ _ _ bs _ (hx8.ext he9) (by omega) (by omega)).mono ?_
      rintro e w10 ⟨A10, c10, rfl, hown10, he10⟩
      rw [← P5.out] at hown10 ⊢
      go_wp2_with fail
      refine (same_yes (hown9.rd.ext he10) hown10.rd (by have := Hll.out; omega)).mono ?_
      rintro e w11 ⟨rfl, q2, rfl⟩
      go_wp2_with fail
      go_ret
      exact ⟨rfl, ((hE8.trans he9).trans he10).drewN _⟩
    · obtain ⟨rfl, rfl⟩ := vgl_err Hgl.out hf
      have hnf : (f != 0) = true := by rw [bne_iff_ne]; exact hf
      clear hf
      go_wp2_with fail
      go_ret
      exact ⟨rfl, hE8⟩
  · obtain ⟨rfl, rfl⟩ := vget_zero Hg.out he
    have hne : (e0 != 0) = true := by rw [bne_iff_ne]; exact he
    have heq : (e0 == 0) = false := by rw [beq_eq_false_iff_ne]; exact he
    have hxW := hx2
    have hEW := hE2
    clear he hx2 hE2
    go_wp2_with fail
    refine (copy_any _ _ _ _ _ hxW (by omega)).mono ?_
    rintro e w7 ⟨A7, c7, rfl, hown7, he7⟩
    have hc7 := hown7.cap
    rw [Hl.out] at hc7
    go_wp2_with fail
    refine (getList_any _ _ _ _ _ bs _ (hown7.rd' Hl.out) hu (by omega) hc7.1 hc7.2 (by omega) (by omega)).mono ?_
    rintro e w8 ⟨A8, c8, rfl, hown8, he8⟩
    have hx8 := (hxW.ext he7).ext he8
    have hE8 := (hEW.trans he7).trans he8
    clear hown7 hc7 hxW hEW he7
    rcases hgl : vgl bs at_ n with ⟨us, t, f⟩
    rw [hgl] at hown8
    simp only at hown8
    have Hgl := Lib.hid hgl
    clear hgl
    by_cases hf : f = 0
    · subst hf
      obtain ⟨p1, p2, p3, p4, p5⟩ := vgl_at hu Hgl.out
      have hp2 : t ≤ n := by have := Hl.out; omega
      have hul : us.length ≤ 1048576 := by omega
      have hll := vlist_len p3 (by omega)
      have P5 := Lib.hid p5
      have Hll := Lib.hid hll
      clear p2 p4 p5 hll
      go_wp2_with fail
      refine (putList_any _ _ _ _ _ hown8.rd p3 (Nat.le_trans hul (by decide))).mono ?_
      rintro e w9 ⟨A9, c9, rfl, hown9, he9⟩
      go_wp2_with fail
      refine (piece_any _ _ _ _ _ bs _ (hx8.ext he9) (by omega) (by omega)).mono ?_
      rintro e w10 ⟨A10, c10, rfl, hown10, he10⟩
      rw [← P5.out] at hown10 ⊢
      go_wp2_with fail
      refine (same_yes (hown9.rd.ext he10) hown10.rd (by have := Hll.out; omega)).mono ?_
      rintro e w11 ⟨rfl, q2, rfl⟩
      go_wp2_with fail
      go_ret
      exact ⟨rfl, ((hE8.trans he9).trans he10).drewN _⟩
    · obtain ⟨rfl, rfl⟩ := vgl_err Hgl.out hf
      have hnf : (f != 0) = true := by rw [bne_iff_ne]; exact hf
      clear hf
      go_wp2_with fail
      go_ret
      exact ⟨rfl, hE8⟩

end Go.Proofs.Ytdndhogpcdhamaa
