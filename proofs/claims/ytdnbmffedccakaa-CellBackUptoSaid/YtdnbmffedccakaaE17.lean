/-
  Layer 5: the statements CellGets, CellOnly and CellBack, walked.
-/
import Derived.Test.YtdnbmffedccakaaE16
namespace Go.Proofs.Ytdnbmffedccakaa
open Go.RowKit

set_option maxHeartbeats 6400000 in
set_option maxRecDepth 100000 in
theorem walk_CellGets (k : Int) (A : Option Addr) (n c : Nat) (bs : List Nat) (at_ : Int) (w : World) (hx : Rd .u8 w A n bs) (hu : U8 bs) (hz : n * 1 ≤ 140737488351232) :
    Calls Try.prog 5 #[.int .i64 k, .slice A n c, .int .i64 at_] w fun e w' => e = .returned (.bool true) ∧ Ext w w' := by
  have hn : n ≤ 140737488355328 := by omega
  obtain ⟨ht1, ht2⟩ := cget_txt (k := k) (at_ := at_) hu
  obtain ⟨r, hr⟩ : ∃ r, r = cget k bs at_ := ⟨_, rfl⟩
  rw [← hr] at ht1 ht2
  have HP : Hid (∀ (B : Option Addr) (cb : Nat) (W : World), Rd .u8 W B n bs → n ≤ cb → cb ≤ 9223372036854775807 → Calls Try.prog 25 #[.int .i64 k, .slice B n cb, .int .i64 at_] W (CGetPost r W)) := Lib.hid (fun B cb W h1 h2 h3 => by
    rw [hr]; exact cget_any B n cb at_ k bs W h1 hu hn h2 h3)
  have HR : Hid (∀ (B : Option Addr) (cb : Nat) (W : World), Rd .u8 W B n bs → Calls Try.prog 26 #[.int .i64 k, .slice B n cb, .int .i64 at_] W (CGetPost r W)) := Lib.hid (fun B cb W h1 => by
    rw [hr]; exact refCGet_any B n cb at_ k bs W h1 hu hn)
  clear hr
  obtain ⟨nul, num, txt, next, err⟩ := r
  simp only at ht1 ht2
  obtain ⟨m, hm⟩ : ∃ m, txt.length = m := ⟨_, rfl⟩
  have Hm := Lib.hid hm
  rw [hm] at ht2
  have HP2 : Hid (∀ (B : Option Addr) (cb : Nat) (W : World), Rd .u8 W B n bs → n ≤ cb → cb ≤ 9223372036854775807 → Calls Try.prog 25 #[.int .i64 k, .slice B n cb, .int .i64 at_] W fun e w' => ∃ A' c', e = .returned (.tuple #[.agg #[.bool nul, .int .i64 num, .slice A' m c'], .int .i64 next, .int .i64 err]) ∧ Own .u8 5 w' W.heap.size A' c' txt ∧ Ext W w') := Lib.hid (fun B cb W h1 h2 h3 => by
    have h := HP.out B cb W h1 h2 h3
    unfold CGetPost at h
    simp only [hm] at h
    exact h)
  have HR2 : Hid (∀ (B : Option Addr) (cb : Nat) (W : World), Rd .u8 W B n bs → Calls Try.prog 26 #[.int .i64 k, .slice B n cb, .int .i64 at_] W fun e w' => ∃ A' c', e = .returned (.tuple #[.agg #[.bool nul, .int .i64 num, .slice A' m c'], .int .i64 next, .int .i64 err]) ∧ Own .u8 5 w' W.heap.size A' c' txt ∧ Ext W w') := Lib.hid (fun B cb W h1 => by
    have h := HR.out B cb W h1
    unfold CGetPost at h
    simp only [hm] at h
    exact h)
  clear hm HP HR
  have k1 : (next != next) = false := by simp
  have k2 : (err != err) = false := by simp
  have hm2 : m ≤ 281474976710656 := by omega
  go_enter Try.func5, Try.ntmps5
  go_wp2_with fail
  refine (alive5 _).mono ?_
  rintro e w1 ⟨rfl, he1⟩
  go_wp2_with fail
  refine (wide_any _ _ _ _ _ (hx.ext he1) (by omega)).mono ?_
  rintro e w2 ⟨A2, c2, rfl, hown2, he2⟩
  have hr2 := hown2.rd_take (n := n) (by rw [List.length_append, hx.len]; omega)
  rw [List.take_left' hx.len] at hr2
  have hri := hown2.rd' (n := n + 64) (by rw [List.length_append, hx.len]; rfl)
  obtain ⟨b, rfl, _, hb, hcap, hcm⟩ := hown2.form (by rw [List.length_append, marks_len]; omega)
  rw [List.length_append, hx.len, marks_len] at hcap
  have hx2 := (hx.ext he1).ext he2
  have hE2 := he1.trans he2
  have hcn : n ≤ c2 := by omega
  clear hown2 he1 he2
  go_wp2_with fail
  refine (HP2.out _ _ _ hr2 hcn hcm).mono ?_
  rintro e w3 ⟨A3, c3, rfl, hown3, he3⟩
  have hX3 : Ext w3 (w3.alloc (.cells #[.bool nul, .int .i64 num, .slice A3 m c3] 24)) := (Ext.refl w3).alloc _
  have q8 := AtC.box w3 nul num A3 m c3
  go_wp2_with fail
  refine (HP2.out _ _ _ ((hr2.ext he3).ext hX3) hcn hcm).mono ?_
  rintro e w4 ⟨A4, c4, rfl, hown4, he4⟩
  have hX4 : Ext w4 (w4.alloc (.cells #[.bool nul, .int .i64 num, .slice A4 m c4] 24)) := (Ext.refl w4).alloc _
  have q11 := AtC.box w4 nul num A4 m c4
  go_wp2_with fail
  refine (HR2.out _ _ _ ((((hx2.ext he3).ext hX3).ext he4).ext hX4)).mono ?_
  rintro e w5 ⟨A5, c5, rfl, hown5, he5⟩
  have hX5 : Ext w5 (w5.alloc (.cells #[.bool nul, .int .i64 num, .slice A5 m c5] 24)) := (Ext.refl w5).alloc _
  have q14 := AtC.box w5 nul num A5 m c5
  have p8 := (((q8.ext he4).ext hX4).ext he5).ext hX5
  have p11 := (q11.ext he5).ext hX5
  have r3 := ((((hown3.ext hX3).ext he4).ext hX4).ext he5).ext hX5
  have r4 := ((hown4.ext hX4).ext he5).ext hX5
  have r5 := hown5.ext hX5
  have hE5 : Ext w2 (w5.alloc (.cells #[.bool nul, .int .i64 num, .slice A5 m c5] 24)) := ((((he3.trans hX3).trans he4).trans hX4).trans he5).trans hX5
  have n4 : ∀ a a2, A3 = some a → A4 = some a2 → a2.block ≠ a.block := fun a a2 ha ha2 => by have := (hown3.block a ha).2; have := (hown4.block a2 ha2).1; simp at this; omega
  have n5 : ∀ a a2, A3 = some a → A5 = some a2 → a2.block ≠ a.block := fun a a2 ha ha2 => by have := (hown3.block a ha).2; have := (hown5.block a2 ha2).1; have := he4.size; simp at *; omega
  clear q8 q11 he3 he4 he5 hX3 hX4 hX5 hown3 hown4 hown5
  obtain ⟨x0, x1, x2, x3⟩ := p8
  obtain ⟨y0, y1, y2, y3⟩ := p11
  obtain ⟨z0, z1, z2, z3⟩ := q14
  go_wp2_with fail
  refine (alike_yes nul num A3 m c3 txt A5 m c5 _ (r3.rd' Hm.out) (r5.rd' Hm.out) hm2).mono ?_
  rintro e w6 ⟨rfl, he6⟩
  have p8 := (AtC.mk x0 x1 x2 x3).ext he6
  have p11 := (AtC.mk y0 y1 y2 y3).ext he6
  have p14 := (AtC.mk z0 z1 z2 z3).ext he6
  clear x0 x1 x2 x3 y0 y1 y2 y3 z0 z1 z2 z3
  obtain ⟨x0, x1, x2, x3⟩ := p8
  obtain ⟨y0, y1, y2, y3⟩ := p11
  obtain ⟨z0, z1, z2, z3⟩ := p14
  go_wp2_with fail
  refine (alike_yes nul num A4 m c4 txt A5 m c5 _ ((r4.ext he6).rd' Hm.out) ((r5.ext he6).rd' Hm.out) hm2).mono ?_
  rintro e w7 ⟨rfl, he7⟩
  have p8 := (AtC.mk x0 x1 x2 x3).ext he7
  have p11 := (AtC.mk y0 y1 y2 y3).ext he7
  have p14 := (AtC.mk z0 z1 z2 z3).ext he7
  clear x0 x1 x2 x3 y0 y1 y2 y3 z0 z1 z2 z3
  obtain ⟨x0, x1, x2, x3⟩ := p8
  obtain ⟨y0, y1, y2, y3⟩ := p11
  obtain ⟨z0, z1, z2, z3⟩ := p14
  have hE7 := (hE5.trans he6).trans he7
  go_wp2_with fail
  refine (apart_any A3 A4 A5 m c3 c4 c5 w2.heap.size txt w2 w7 ((r3.ext he6).ext he7) Hm.out ht1 (((r4.ext he6).ext he7).rd' Hm.out) (((r5.ext he6).ext he7).rd' Hm.out) n4 n5 hE7 (Nat.le_refl _) hE7.size (by omega)).mono ?_
  rintro e w8 ⟨rfl, he8⟩
  go_wp2_with fail
  refine (intact_yes (hri.ext he8) (hx2.ext he8) (by omega) (by omega)).mono ?_
  rintro e w9 ⟨rfl, q, rfl⟩
  go_wp2
  go_ret
  exact ⟨rfl, (hE2.trans he8).drewN _⟩

set_option maxHeartbeats 6400000 in
set_option maxRecDepth 100000 in
theorem walk_CellOnly (k : Int) (A : Option Addr) (n c : Nat) (bs : List Nat) (at_ : Int) (w : World) (hx : Rd .u8 w A n bs) (hu : U8 bs) (hz : n * 1 ≤ 140737488351232) (hat1 : at_ ≤ 9223372036854775807) :
    Calls Try.prog 7 #[.int .i64 k, .slice A n c, .int .i64 at_] w fun e w' => e = .returned (.bool true) ∧ Ext w w' := by
  have hn : n ≤ 140737488355328 := by omega
  have hl := hx.len
  obtain ⟨ht1, ht2⟩ := cget_txt (k := k) (at_ := at_) hu
  have hok := cget_ok (k := k) (at_ := at_) hu
  have hbad := cget_crE (k := k) (bs := bs) (at_ := at_)
  obtain ⟨r, hr⟩ : ∃ r, r = cget k bs at_ := ⟨_, rfl⟩
  rw [← hr] at ht1 ht2 hok hbad
  have HP : Hid (∀ (B : Option Addr) (cb : Nat) (W : World), Rd .u8 W B n bs → n ≤ cb → cb ≤ 9223372036854775807 → Calls Try.prog 25 #[.int .i64 k, .slice B n cb, .int .i64 at_] W (CGetPost r W)) := Lib.hid (fun B cb W h1 h2 h3 => by
    rw [hr]; exact cget_any B n cb at_ k bs W h1 hu hn h2 h3)
  clear hr
  by_cases hE0 : r.err = 0
  · obtain ⟨a, q, rfl, e1, e2, e3, e4, e5, e6, e7, e8, e9⟩ := hok hE0
    obtain ⟨nul, num, txt, next, err⟩ := r
    simp only at *
    subst hE0 e1
    obtain ⟨m, hm⟩ : ∃ m, txt.length = m := ⟨_, rfl⟩
    have Hm := Lib.hid hm
    rw [hm] at ht2
    have hLl : (cputL k nul num txt).length = q - a := by
      unfold cputL; rw [if_pos e5, e6, List.length_take, List.length_drop]; omega
    have hL : cputL k nul num txt = piece bs (a : Int) (q : Int) := by
      unfold cputL; rw [if_pos e5, e6, piece_of]; simp
    have Hck := Lib.hid e5
    have HL := Lib.hid hL
    have HLl := Lib.hid hLl
    have HP2 : Hid (∀ (B : Option Addr) (cb : Nat) (W : World), Rd .u8 W B n bs → n ≤ cb → cb ≤ 9223372036854775807 → Calls Try.prog 25 #[.int .i64 k, .slice B n cb, .int .i64 (a : Int)] W fun e w' => ∃ A' c', e = .returned (.tuple #[.agg #[.bool nul, .int .i64 num, .slice A' m c'], .int .i64 (q : Int), .int .i64 0]) ∧ Own .u8 5 w' W.heap.size A' c' txt ∧ Ext W w') := Lib.hid (fun B cb W h1 h2 h3 => by
      have h := HP.out B cb W h1 h2 h3
      unfold CGetPost at h
      simp only [hm] at h
      exact h)
    have Hl := Lib.hid hl
    have hqn : q ≤ n := by omega
    have b1 : decide ((a : Int) < (q : Int)) = true := decide_eq_true (by omega)
    have b2 : decide ((q : Int) ≤ (n : Int)) = true := decide_eq_true (by omega)
    clear hm HP hL hLl e5 e6 e3 hl hok hbad
    go_enter Try.func7, Try.ntmps7
    go_wp2_with fail
    refine (alive5 _).mono ?_
    rintro e w1 ⟨rfl, he1⟩
    go_wp2_with fail
    refine (copy_any _ _ _ _ _ (hx.ext he1) hn).mono ?_
    rintro e w2 ⟨A2, c2, rfl, hown2, he2⟩
    have hcap := hown2.cap
    rw [Hl.out] at hcap
    go_wp2_with fail
    refine (HP2.out _ _ _ (hown2.rd' Hl.out) hcap.1 hcap.2).mono ?_
    rintro e w3 ⟨A3, c3, rfl, hown3, he3⟩
    have hX3 : Ext w3 (w3.alloc (.cells #[.bool nul, .int .i64 num, .slice A3 m c3] 24)) := (Ext.refl w3).alloc _
    have q8 := AtC.box w3 nul num A3 m c3
    have r3 := (hown3.ext hX3).rd' Hm.out
    have hE3 := ((he1.trans he2).trans he3).trans hX3
    clear he1 he2 he3 hX3 hown2 hown3 hcap
    go_wp2_with fail
    refine (cput_any k nul num A3 m c3 txt _ r3 ht1 (by omega) e8 e9).mono ?_
    rintro e w4 ⟨A4, c4, rfl, hown4, he4⟩
    rw [Hck.out]
    have p8 := q8.ext he4
    have hE4 := hE3.trans he4
    obtain ⟨x0, x1, x2, x3⟩ := p8
    go_wp2_with fail
    refine (piece_any A n c (a : Int) (q : Int) bs _ (hx.ext hE4) hn hat1).mono ?_
    rintro e w5 ⟨A5, c5, rfl, hown5, he5⟩
    have p8 := (AtC.mk x0 x1 x2 x3).ext he5
    clear x0 x1 x2 x3
    obtain ⟨x0, x1, x2, x3⟩ := p8
    rw [← HL.out] at hown5 ⊢
    go_wp2_with fail
    refine (same_yes (hown4.rd.ext he5) hown5.rd (by rw [HLl.out]; omega)).mono ?_
    rintro e w6 ⟨rfl, q6, rfl⟩
    go_wp2_with fail
    refine (check_any k true nul num A3 m c3 txt _ (((r3.ext he4).ext he5).drewN q6) ht1 e8 e9 (by omega)).mono ?_
    rintro e w7 ⟨rfl, he7⟩
    rw [Hck.out]
    go_wp2
    go_ret
    exact ⟨rfl, ((hE4.trans he5).drewN _).trans he7⟩
  · have hcr := hbad hE0
    obtain ⟨err, herr⟩ : ∃ err, err = r.err := ⟨_, rfl⟩
    rw [← herr] at hE0 hcr
    have HP2 : Hid (∀ (B : Option Addr) (cb : Nat) (W : World), Rd .u8 W B n bs → n ≤ cb → cb ≤ 9223372036854775807 → Calls Try.prog 25 #[.int .i64 k, .slice B n cb, .int .i64 at_] W fun e w' => ∃ A' c', e = .returned (.tuple #[.agg #[.bool false, .int .i64 0, .slice A' 0 c'], .int .i64 0, .int .i64 err]) ∧ Own .u8 5 w' W.heap.size A' c' [] ∧ Ext W w') := Lib.hid (fun B cb W h1 h2 h3 => by
      have h := HP.out B cb W h1 h2 h3
      rw [hcr] at h
      exact h)
    have Hl := Lib.hid hl
    have b1 : (err != 0) = true := by rw [bne_iff_ne]; exact hE0
    clear hE0 hcr herr HP hl hok hbad ht1 ht2
    go_enter Try.func7, Try.ntmps7
    go_wp2_with fail
    refine (alive5 _).mono ?_
    rintro e w1 ⟨rfl, he1⟩
    go_wp2_with fail
    refine (copy_any _ _ _ _ _ (hx.ext he1) hn).mono ?_
    rintro e w2 ⟨A2, c2, rfl, hown2, he2⟩
    have hcap := hown2.cap
    rw [Hl.out] at hcap
    go_wp2_with fail
    refine (HP2.out _ _ _ (hown2.rd' Hl.out) hcap.1 hcap.2).mono ?_
    rintro e w3 ⟨A3, c3, rfl, hown3, he3⟩
    have hX3 : Ext w3 (w3.alloc (.cells #[.bool false, .int .i64 0, .slice A3 0 c3] 24)) := (Ext.refl w3).alloc _
    go_wp2_with fail
    refine (alike_yes false 0 A3 0 c3 [] none 0 0 _ ((hown3.ext hX3).rd' rfl) (Rd.nil ..) (by decide)).mono ?_
    rintro e w4 ⟨rfl, he4⟩
    go_wp2
    go_ret
    exact ⟨rfl, (((he1.trans he2).trans he3).trans hX3).trans he4⟩

end Go.Proofs.Ytdnbmffedccakaa
