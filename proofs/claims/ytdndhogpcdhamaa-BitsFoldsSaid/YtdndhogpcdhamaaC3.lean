import Derived.Test.YtdndhogpcdhamaaC2
namespace Go.Proofs.Ytdndhogpcdhamaa
open Go.RowKit

theorem packB_u8 (wd : Nat) (vs : List Nat) : U8 (packB wd vs) := U8_wd.2 (upk_wd 8 _ _)
theorem packL_u8 (wd : Int) (vs : List Nat) : U8 (packL wd vs) := by
  unfold packL
  split
  · exact packB_u8 wd.toNat vs
  · intro v hv; cases hv
theorem packE_bounds {wd : Int} {vs : List Nat} (h : packE wd vs = 0) : 0 ≤ wd ∧ wd ≤ 64 ∧ vs.length ≤ 4096 ∧ Wd wd.toNat vs := by
  unfold packE at h
  by_cases h1 : wd < 0 ∨ 64 < wd
  · rw [if_pos h1] at h; omega
  · rw [if_neg h1] at h
    by_cases h2 : 4096 < vs.length
    · rw [if_pos h2] at h; omega
    · rw [if_neg h2] at h
      by_cases h3 : wd < (wdt vs : Int)
      · rw [if_pos h3] at h; omega
      · exact ⟨by omega, by omega, by omega, wdt_le.1 (by omega)⟩
theorem packL_len (wd : Int) (vs : List Nat) : (packL wd vs).length ≤ 32768 := by
  unfold packL
  split
  · rename_i h
    obtain ⟨h1, h2, h3, _⟩ := packE_bounds h
    unfold packB
    rw [upk_len]
    have := Nat.mul_le_mul (show wd.toNat ≤ 64 by omega) h3
    omega
  · simp

set_option maxHeartbeats 1600000 in
theorem walk_BitsPacks (wd : Int) (A : Option Addr) (n c : Nat) (vs : List Nat) (w : World) (_h1 : -9223372036854775808 ≤ wd) (_h2 : wd ≤ 9223372036854775807) (hx : Rd .u64 w A n vs) (hu : U64 vs) (hz : n * 8 ≤ 140737488351232) :
    Calls Try.prog 3 #[.int .i64 wd, .slice A n c] w fun e w' => e = .returned (.bool true) ∧ Ext w w' := by
  go_enter Try.func3, Try.ntmps3
  go_wp2_with fail
  refine (alive1 _).mono ?_
  rintro e w1 ⟨rfl, he1⟩
  go_wp2_with fail
  refine (copyNumbers_any _ _ _ _ _ (hx.ext he1) (by omega)).mono ?_
  rintro e w2 ⟨A2, c2, rfl, hown2, he2⟩
  have hr2 := hown2.rd' hx.len
  go_wp2_with fail
  refine (refPack_any _ _ _ _ _ _ ((hx.ext he1).ext he2) hu (by omega)).mono ?_
  rintro e w3 ⟨A3, c3, rfl, hown3, he3⟩
  go_wp2_with fail
  refine (pack_any _ _ _ _ _ _ (hr2.ext he3) hu (by omega)).mono ?_
  rintro e w4 ⟨A4, c4, rfl, hown4, he4⟩
  go_wp2_with fail
  refine (pack_any _ _ _ _ _ _ ((hr2.ext he3).ext he4) hu (by omega)).mono ?_
  rintro e w5 ⟨A5, c5, rfl, hown5, he5⟩
  have hr2' := ((hr2.ext he3).ext he4).ext he5
  have hx' := ((((hx.ext he1).ext he2).ext he3).ext he4).ext he5
  have hr3 := hr2.ext he3
  have hx3 := ((hx.ext he1).ext he2).ext he3
  have hE3 := (he1.trans he2).trans he3
  have n4 : ∀ a a2, A4 = some a → A5 = some a2 → a2.block ≠ a.block := fun a a2 ha ha2 => by have := (hown4.block a ha).2; have := (hown5.block a2 ha2).1; omega
  have n3 : ∀ a a3, A4 = some a → A3 = some a3 → a3.block ≠ a.block := fun a a3 ha ha3 => by have := (hown4.block a ha).1; have := (hown3.block a3 ha3).2; omega
  have hL := packL_len wd vs
  have hU := packL_u8 wd vs
  have o4 := hown4.ext he5
  have r5 := hown5.rd
  have r3 := (hown3.ext he4).ext he5
  have s4 : w3.heap.size ≤ w5.heap.size := Nat.le_trans he4.size he5.size
  obtain ⟨L, hLe⟩ : ∃ L, L = packL wd vs := ⟨_, rfl⟩
  obtain ⟨E, hEe⟩ : ∃ E, E = packE wd vs := ⟨_, rfl⟩
  obtain ⟨W, hWe⟩ : ∃ W, W = wdt vs := ⟨_, rfl⟩
  rw [← hLe] at hL hU o4 r5 r3 ⊢
  rw [← hEe]
  have hEn : (E != E) = false := by simp
  have hWn : (((W : Nat) : Int) != ((W : Nat) : Int)) = false := by simp
  clear hown2 hown3 hown4 hown5 hr2 hx he1 he2 hLe hEe
  go_wp2_with fail
  refine (width_any _ _ _ _ _ hr2' hu (by omega)).mono ?_
  rintro e w6 ⟨rfl, rfl⟩
  rw [← hWe]
  go_wp2_with fail
  refine (refWidth_any _ _ _ _ _ hx' hu (by omega)).mono ?_
  rintro e w6 ⟨rfl, rfl⟩
  rw [← hWe]
  clear hWe
  go_wp2_with fail
  refine (sameNumbers_yes hr2' hx' (by omega)).mono ?_
  rintro e w6 ⟨rfl, q1, rfl⟩
  go_wp2_with fail
  have hEq := (he4.trans he5).drewN q1
  refine (apart_any _ _ _ L.length _ _ _ w3.heap.size L w3 _ (o4.ext ((Ext.refl _).drewN q1)) rfl hU (r5.drewN q1) (r3.rd.drewN q1) n4 n3 hEq (Nat.le_refl _) (by simpa using s4) (by omega)).mono ?_
  rintro e w6 ⟨rfl, he6⟩
  go_wp2_with fail
  refine (sameNumbers_yes (hr3.ext he6) (hx3.ext he6) (by omega)).mono ?_
  rintro e w7 ⟨rfl, q2, rfl⟩
  go_wp2_with fail
  go_ret
  exact ⟨rfl, (hE3.trans he6).drewN _⟩

theorem unpE_bounds {N len : Nat} {wd cnt : Int} (h : unpE N len wd cnt = 0) : 0 ≤ wd ∧ wd ≤ 64 ∧ 0 ≤ cnt ∧ cnt ≤ 4096 ∧ wd * cnt ≤ 8 * (len : Int) ∧ 8 * (len : Int) - wd * cnt < 8 ∧ N < 2 ^ (wd * cnt).toNat := by
  unfold unpE at h
  by_cases h1 : wd < 0 ∨ 64 < wd ∨ cnt < 0 ∨ 4096 < cnt
  · rw [if_pos h1] at h; omega
  · rw [if_neg h1] at h
    by_cases h2 : 8 * (len : Int) < wd * cnt
    · rw [if_pos h2] at h; omega
    · rw [if_neg h2] at h
      by_cases h3 : 8 ≤ 8 * (len : Int) - wd * cnt
      · rw [if_pos h3] at h; omega
      · rw [if_neg h3] at h
        by_cases h4 : 2 ^ (wd * cnt).toNat ≤ N
        · rw [if_pos h4] at h; omega
        · exact ⟨by omega, by omega, by omega, by omega, by omega, by omega, by omega⟩
theorem unpL_len (N len : Nat) (wd cnt : Int) : (unpL N len wd cnt).length ≤ 4096 := by
  unfold unpL
  split
  · rename_i h
    obtain ⟨_, _, h3, h4, _⟩ := unpE_bounds h
    rw [upk_len]; omega
  · simp
theorem unpL_u64 (N len : Nat) (wd cnt : Int) : U64 (unpL N len wd cnt) := by
  unfold unpL
  split
  · rename_i h
    obtain ⟨h1, h2, _⟩ := unpE_bounds h
    intro v hv
    have := upk_wd wd.toNat cnt.toNat N v hv
    exact Nat.lt_of_lt_of_le this (Nat.pow_le_pow_right (n := 2) (by omega) (show wd.toNat ≤ 64 by omega))
  · intro v hv; cases hv

/-- Each number and one more, modulo 2 to the 64th. -/
def bump (j : Nat) (xs : List Nat) : List Nat := (xs.take j).map (fun x => (x + 1) % 18446744073709551616) ++ xs.drop j
theorem bump_len (j : Nat) (xs : List Nat) : (bump j xs).length = xs.length := by simp [bump]; omega
theorem bump_zero (xs : List Nat) : bump 0 xs = xs := by simp [bump]
theorem bump_at {j : Nat} {xs : List Nat} (h : j < xs.length) : (bump j xs).getD j 0 = xs.getD j 0 := by
  unfold bump
  rw [List.getD, List.getElem?_append_right (by simp; omega)]
  simp [List.getD, Nat.min_eq_left (Nat.le_of_lt h)]
theorem bump_succ {j : Nat} {xs : List Nat} (h : j < xs.length) : bump (j + 1) xs = (bump j xs).set j ((xs.getD j 0 + 1) % 18446744073709551616) := by
  unfold bump
  rw [List.set_append_right _ _ (by simp; omega), take_next _ _ h]
  have hd : xs.drop j = xs.getD j 0 :: xs.drop (j + 1) := by rw [List.drop_eq_getElem_cons h]; simp [List.getD, h]
  rw [hd]
  simp [Nat.min_eq_left (Nat.le_of_lt h)]

set_option maxHeartbeats 1600000 in
theorem walk_BitsUnpacks (A : Option Addr) (n c : Nat) (bs : List Nat) (wd cnt : Int) (w : World) (hx : Rd .u8 w A n bs) (hu : U8 bs) (hz : n * 1 ≤ 140737488351232) (_h1 : -9223372036854775808 ≤ wd) (_h2 : wd ≤ 9223372036854775807) (_h3 : -9223372036854775808 ≤ cnt) (_h4 : cnt ≤ 9223372036854775807) :
    Calls Try.prog 4 #[.slice A n c, .int .i64 wd, .int .i64 cnt] w fun e w' => e = .returned (.bool true) ∧ Ext w w' := by
  go_enter Try.func4, Try.ntmps4
  go_wp2_with fail
  refine (alive1 _).mono ?_
  rintro e w1 ⟨rfl, he1⟩
  go_wp2_with fail
  refine (wide_any _ _ _ _ _ (hx.ext he1) (by omega)).mono ?_
  rintro e w2 ⟨A2, c2, rfl, hown2, he2⟩
  have hr2 := hown2.rd_take (n := n) (by rw [List.length_append, hx.len]; omega)
  rw [List.take_left' hx.len] at hr2
  have hri := hown2.rd' (n := n + 64) (by rw [List.length_append, hx.len]; rfl)
  obtain ⟨b, rfl, _, hb, hcap, hcm⟩ := hown2.form (by rw [List.length_append, marks_len]; omega)
  rw [List.length_append, hx.len, marks_len] at hcap
  have hx2 := (hx.ext he1).ext he2
  go_wp2_with fail
  refine (refUnpack_any _ _ _ _ _ bs _ hx2 hu (by omega)).mono ?_
  rintro e w3 ⟨A3, c3, rfl, hown3, he3⟩
  go_wp2_with fail
  refine (unpack_any _ _ _ _ _ bs _ (hr2.ext he3) hu (by omega)).mono ?_
  rintro e w4 ⟨A4, c4, rfl, hown4, he4⟩
  go_wp2_with fail
  refine (unpack_any _ _ _ _ _ bs _ ((hr2.ext he3).ext he4) hu (by omega)).mono ?_
  rintro e w5 ⟨A5, c5, rfl, hown5, he5⟩
  have n5 : ∀ a a2, A4 = some a → A5 = some a2 → a2.block ≠ a.block := fun a a2 ha ha2 => by have := (hown4.block a ha).2; have := (hown5.block a2 ha2).1; omega
  have n3 : ∀ a a3, A4 = some a → A3 = some a3 → a3.block ≠ a.block := fun a a3 ha ha3 => by have := (hown4.block a ha).1; have := (hown3.block a3 ha3).2; omega
  have n2 : ∀ a a2, A4 = some a → some (⟨b, 0, none⟩ : Addr) = some a2 → a2.block ≠ a.block := fun a a2 ha ha2 => by
    have := (hown4.block a ha).1
    have := he3.size
    injection ha2 with ha2
    subst ha2
    show b ≠ _
    omega
  have hxl : ∀ a a2, 0 < n → A4 = some a → A = some a2 → a2.block ≠ a.block := fun a a2 hn ha ha2 => by
    have h1 := (hown4.block a ha).1
    have h2 := hx2.lt hn a2 ha2
    have := he3.size
    omega
  have hL := unpL_len (pk 8 bs) n wd cnt
  have hU := unpL_u64 (pk 8 bs) n wd cnt
  have o4 := hown4.ext he5
  have r5 := hown5.rd
  have r3 := ((hown3.ext he4).ext he5).rd
  have r2 := ((hri.ext he3).ext he4).ext he5
  have rx := ((hx2.ext he3).ext he4).ext he5
  have hE3 : Ext w w3 := (he1.trans he2).trans he3
  have hE5 : Ext w3 w5 := he4.trans he5
  obtain ⟨L, hLe⟩ : ∃ L, L = unpL (pk 8 bs) n wd cnt := ⟨_, rfl⟩
  obtain ⟨E, hEe⟩ : ∃ E, E = unpE (pk 8 bs) n wd cnt := ⟨_, rfl⟩
  rw [← hLe] at hL hU o4 r5 r3 ⊢
  rw [← hEe]
  have hEn : (E != E) = false := by simp
  have hbase : w3.heap.size ≤ w3.heap.size := Nat.le_refl _
  have hne : ∀ (X : Option Addr), (∀ a a2, A4 = some a → X = some a2 → a2.block ≠ a.block) → ∀ a, X = some a → some a.block ≠ A4.map (·.block) := by
    intro X hX a ha e
    cases hA : A4 with
    | none => rw [hA] at e; simp at e
    | some a1 => rw [hA] at e; simp at e; exact hX a1 a hA ha e
  have hgE : ∀ (wa wb : World), Ext w3 wa → wa.grownBy wb (A4.map (·.block)) → Ext w3 wb := fun _ _ hE hg => grownBy_ext hE hg (by
    intro g hg
    cases hA : A4 with
    | none => rw [hA] at hg; simp at hg
    | some a => rw [hA] at hg; simp at hg; subst hg; exact (hown4.block a hA).1)
  have Hne := Lib.hid hne
  have HgE := Lib.hid hgE
  have N5 := Lib.hid n5
  have N3 := Lib.hid n3
  have N2 := Lib.hid n2
  have Nx := Lib.hid hxl
  clear hown2 hown3 hown4 hown5 hr2 hx he1 he2 hLe hEe hne hgE n5 n3 n2 hxl hri hx2 he3 he4 he5
  go_wp2_with fail
  refine (sameNumbers_yes o4.rd r3 (by omega)).mono ?_
  rintro e w6 ⟨rfl, q1, rfl⟩
  go_wp2_with fail
  refine (sameNumbers_yes (r5.drewN q1) (r3.drewN q1) (by omega)).mono ?_
  rintro e w6 ⟨rfl, q2, rfl⟩
  go_wp2_with fail
  have o6 := o4.ext ((Ext.refl _).drewN (q1 + q2))
  have r5' := r5.drewN (q1 + q2)
  have r3' := r3.drewN (q1 + q2)
  have r2' := r2.drewN (q1 + q2)
  have rx' := rx.drewN (q1 + q2)
  have hE6 := hE5.drewN (q1 + q2)
  generalize w5.drewN (q1 + q2) = w6 at *
  clear o4 r5 r3 r2 rx hE5
  have h0 : Own .u64 41 w6 w3.heap.size A4 c4 (bump 0 L) := by rw [bump_zero]; exact o6
  clear o6
  go_loopw [68] (fun i wr => ∃ j : Nat, j ≤ L.length ∧ i = .int .i64 j ∧ Own .u64 41 wr w3.heap.size A4 c4 (bump j L) ∧ w6.grownBy wr (A4.map (·.block))) (fun i _ => L.length - (intOf i).toNat)
  case atStart => exact ⟨0, Nat.zero_le _, rfl, h0, World.grownBy.refl _ _⟩
  case round =>
    clear h0
    obtain ⟨j, hj, rfl, hown, hg⟩ := hrel
    by_cases hlt : j < L.length
    · obtain ⟨b4, rfl, hbb, hbl, hc, hf, hset⟩ := hown.at_ (show j < (bump j L).length by rw [bump_len]; exact hlt)
      have hvb := hU.at_ j
      rw [bump_at hlt] at hc
      obtain ⟨h1, h2⟩ := hset ((L.getD j 0 + 1) % 18446744073709551616)
      rw [← bump_succ hlt] at h1
      obtain ⟨v, hv⟩ : ∃ v, v = L.getD j 0 := ⟨_, rfl⟩
      rw [← hv] at hc hvb h1 h2
      have hsum : IntKind.u64.wrap ((v : Int) + 1) = (((v + 1) % 18446744073709551616 : Nat) : Int) := by rw [IntKind.wrap_u64]; omega
      have Hg := Lib.hid (World.grownBy.trans hg h2)
      have H1 := Lib.hid h1
      have Hsum := Lib.hid hsum
      clear hv hset h1 h2 hg hown hsum
      go_wp2_with fail
      go_roundw
      case rel => exact ⟨j + 1, by omega, by go_num, by rw [Hsum.out]; exact H1.out, by rw [Hsum.out]; exact Hg.out⟩
      case measure => simp [intOf]; omega
    · obtain rfl : j = L.length := by omega
      have r5w := r5'.grown0 hg (fun _ => Hne.out _ N5.out)
      have r3w := r3'.grown0 hg (fun _ => Hne.out _ N3.out)
      have r2w := r2'.grown0 hg (fun _ => Hne.out _ N2.out)
      have rxw := rx'.grown0 hg (fun hn => Hne.out _ (fun a a2 => Nx.out a a2 hn))
      have hEw := HgE.out _ _ hE6 hg
      clear hg hown
      go_wp2_with fail
      refine (sameNumbers_yes r5w r3w (by omega)).mono ?_
      rintro e w7 ⟨rfl, q3, rfl⟩
      go_wp2_with fail
      refine (intact_yes (r2w.drewN q3) (rxw.drewN q3) (by omega) (by omega)).mono ?_
      rintro e w7 ⟨rfl, q4, rfl⟩
      go_wp2_with fail
      go_ret
      exact ⟨rfl, (hE3.trans hEw).drewN _⟩

end Go.Proofs.Ytdndhogpcdhamaa
