/-
  Layer 13: the program's Merge, Count, Encode.
-/
import Derived.Test.YtgmjpilinhmjoaaQ6
import Derived.Deep.RegionHeld3
namespace Go.Proofs.Ytgmjpilinhmjoaa
open Go.RowKit
set_option maxRecDepth 100000

/-- The first j bytes of both put together, the others as they were. -/
def mrg (j : Nat) (fs os : List Nat) : List Nat := List.zipWith (fun a b => a ||| b) (fs.take j) (os.take j) ++ fs.drop j
def mergeF (fs os : List Nat) : List Nat := List.zipWith (fun a b => a ||| b) fs os
theorem mrg_zero (fs os : List Nat) : mrg 0 fs os = fs := by simp [mrg]
theorem mrg_all {fs os : List Nat} (h : fs.length = os.length) : mrg fs.length fs os = mergeF fs os := by
  rw [mrg, List.take_of_length_le (Nat.le_refl _), List.take_of_length_le (by omega), List.drop_of_length_le (Nat.le_refl _), List.append_nil]; rfl
theorem mrg_len {fs os : List Nat} {j : Nat} (h : fs.length = os.length) : (mrg j fs os).length = fs.length := by simp [mrg, List.length_zipWith]; omega
theorem mrg_get {fs os : List Nat} {j i : Nat} (h : fs.length = os.length) (hi : i < fs.length) : (mrg j fs os).getD i 0 = if i < j then fs.getD i 0 ||| os.getD i 0 else fs.getD i 0 := by
  have hl : (List.zipWith (fun a b => a ||| b) (fs.take j) (os.take j)).length = min j fs.length := by simp [List.length_zipWith]; omega
  rw [mrg]
  split
  · rename_i hj
    rw [List.getD, List.getElem?_append_left (by rw [hl]; omega), List.getElem?_zipWith, List.getElem?_take_of_lt hj, List.getElem?_take_of_lt hj, List.getElem?_eq_getElem hi, List.getElem?_eq_getElem (by omega)]
    simp [List.getD, hi, show i < os.length by omega]
  · rename_i hj
    rw [List.getD, List.getElem?_append_right (by rw [hl]; omega), hl, List.getElem?_drop, show j + (i - min j fs.length) = i by omega, List.getD]
theorem mrg_succ {fs os : List Nat} {j : Nat} (h : fs.length = os.length) (hj : j < fs.length) : mrg (j + 1) fs os = (mrg j fs os).set j (fs.getD j 0 ||| os.getD j 0) := by
  apply List.ext_getElem?
  intro i
  by_cases hi : i < fs.length
  · have e1 := mrg_get (j := j + 1) h hi
    have e2 := mrg_get (j := j) h hi
    have l1 := mrg_len (j := j + 1) h
    have l2 := mrg_len (j := j) h
    rw [List.getElem?_set]
    rw [List.getD, List.getElem?_eq_getElem (by omega)] at e1 e2
    rw [List.getElem?_eq_getElem (by omega), List.getElem?_eq_getElem (by omega)]
    simp only [Option.getD_some] at e1 e2
    rw [e1, e2]
    by_cases hij : j = i
    · subst hij
      rw [if_pos (by omega), if_pos rfl, if_pos (by omega)]
    · rw [if_neg hij]
      by_cases h3 : i < j
      · rw [if_pos h3, if_pos (by omega)]
      · rw [if_neg h3, if_neg (by omega)]
  · rw [List.getElem?_eq_none (by rw [mrg_len h]; omega), List.getElem?_eq_none (by rw [List.length_set, mrg_len h]; omega)]
theorem or256 {a b : Nat} (ha : a < 256) (hb : b < 256) : a ||| b < 256 := Nat.or_lt_two_pow (n := 8) ha hb
theorem mergeF_u8 {fs os : List Nat} (h1 : U8 fs) (h2 : U8 os) : U8 (mergeF fs os) := by
  intro x hx
  obtain ⟨i, hi, rfl⟩ := List.getElem_of_mem hx
  simp only [mergeF, List.length_zipWith] at hi
  simp only [mergeF, List.getElem_zipWith]
  exact or256 (h1 _ (List.getElem_mem _)) (h2 _ (List.getElem_mem _))
theorem mergeF_len {fs os : List Nat} (h : fs.length = os.length) : (mergeF fs os).length = fs.length := by simp [mergeF, List.length_zipWith]; omega

set_option maxHeartbeats 1000000 in
theorem merge_no (base g r base2 g2 r2 : Nat) (fs os : List Nat) (w : World) (hf : Fil w base g r fs) (ho : Fil w base2 g2 r2 os) (hne : fs.length ≠ os.length) :
    Calls Try.prog 29 #[.pointer (some ⟨g, 0, none⟩), .pointer (some ⟨g2, 0, none⟩)] w fun e w' => e = .returned (.int .i64 1) ∧ Ext w w' := by
  obtain ⟨c, hc1, hc2, hcell, hown, hrd⟩ := hf.cell
  obtain ⟨c3, hc3, hc4, hcell2, hown2, hrd2⟩ := ho.cell
  have hlo := hf.lo
  have hlo2 := ho.lo
  have hneI : ((fs.length : Int) == (os.length : Int)) = false := beq_eq_false_iff_ne.2 (fun e => hne (by omega))
  clear hown hown2 hrd hrd2
  go_enter Try.func29, Try.ntmps29
  go_wp2_with fail
  go_quiet (fail)
  go_wp2
  go_ret
  exact ⟨rfl, (Ext.refl _).drewN _⟩

set_option maxHeartbeats 2000000 in
theorem merge_yes (base g r base2 g2 r2 : Nat) (fs os : List Nat) (w : World) (hf : Fil w base g r fs) (ho : Fil w base2 g2 r2 os) (he : fs.length = os.length) (hd1 : r2 ≠ r) (hd2 : g2 ≠ r) :
    Calls Try.prog 29 #[.pointer (some ⟨g, 0, none⟩), .pointer (some ⟨g2, 0, none⟩)] w fun e w' => e = .returned (.int .i64 0) ∧ Fil w' base g r (mergeF fs os) ∧ w.grownBy w' (some r) := by
  have hm : ∀ j, (mrg j fs os).length = fs.length := fun j => mrg_len he
  have hall := mrg_all he
  have hsucc := fun j => mrg_succ (j := j) he
  obtain ⟨c, hc1, hc2, hcell, hown, hrd⟩ := hf.cell
  obtain ⟨c3, hc3, hc4, hcell2, hown2, hrd2⟩ := ho.cell
  have hlo := hf.lo
  have hhi := hf.hi
  have hu1 := hf.u8
  have hu2 := ho.u8
  rw [← he] at hcell2 hc3
  have hmg := fun j i hi => mrg_get (j := j) (i := i) he hi
  obtain ⟨L, hL⟩ : ∃ L, L = fs.length := ⟨_, rfl⟩
  rw [← hL] at hm hall hc1 hcell hlo hhi hc3 hcell2 hmg
  have Hsucc := Lib.hid hsucc
  have Hall := Lib.hid hall
  have Hmg := Lib.hid hmg
  have Hm := Lib.hid hm
  have HL := Lib.hid hL
  have He := Lib.hid he
  clear hown hown2 hrd hrd2 hm hall hsucc hmg hL he
  go_enter Try.func29, Try.ntmps29
  go_wp2_with fail
  go_quiet (fail)
  go_wp2_with fail
  go_loopw [23] (fun i wr => ∃ j : Nat, j ≤ L ∧ i = .int .i64 (j : Int) ∧ Fil wr base g r (mrg j fs os) ∧ Fil wr base2 g2 r2 os ∧ w.grownBy wr (some r)) (fun i _ => L - (intOf i).toNat)
  case atStart => exact ⟨0, Nat.zero_le _, rfl, by rw [mrg_zero]; exact hf.ext ((Ext.refl _).drewN _), ho.ext ((Ext.refl _).drewN _), gb_ext _ ((Ext.refl _).drewN _)⟩
  case round =>
    clear hcell hcell2
    obtain ⟨j, hj, rfl, hF, hO, hg⟩ := hrel
    have hm := Hm.out j
    obtain ⟨cf, hcf1, hcf2, hcg, hown, hrd⟩ := hF.cell
    rw [hm] at hcf1 hcg hrd
    obtain ⟨co, hco1, hco2, hcg2, hown2, hrd2⟩ := hO.cell
    rw [← He.out, ← HL.out] at hco1 hcg2 hrd2
    by_cases hlt : j < L
    · obtain ⟨b1, o1, e1, hb1, hcell1⟩ := hrd.at_ hlt
      obtain ⟨b2, o2, e2, hb2, hcell2⟩ := hrd2.at_ hlt
      injection e1 with e1
      injection e1 with e11 e12
      injection e2 with e2
      injection e2 with e21 e22
      subst e11 e12 e21 e22
      rw [Hmg.out j j hlt, if_neg (Nat.lt_irrefl _), Nat.zero_add] at hcell1
      rw [Nat.zero_add] at hcell2
      have hs := Hsucc.out j (by rw [← HL.out]; exact hlt)
      have hx1 := hu1.at_ j
      have hx2 := hu2.at_ j
      obtain ⟨x, hx⟩ : ∃ x, x = fs.getD j 0 := ⟨_, rfl⟩
      obtain ⟨y, hy⟩ : ∃ y, y = os.getD j 0 := ⟨_, rfl⟩
      rw [← hx] at hcell1 hx1 hs
      rw [← hy] at hcell2 hx2 hs
      have hor := u8_or_nat x y hx1 hx2
      have hz := or256 hx1 hx2
      obtain ⟨z, hz'⟩ : ∃ z, z = x ||| y := ⟨_, rfl⟩
      rw [← hz'] at hor hz hs
      obtain ⟨hfz, hF2, hg2⟩ := hF.set (j := j) (by rw [hm]; exact hlt) z hz
      rw [← hs] at hF2
      have hO2 := hO.grown hg2 (fun e => hd2 (Option.some.inj e)) (fun e => hd1 (Option.some.inj e))
      have Hg := Lib.hid (gb_trans hg hg2)
      have HF2 := Lib.hid hF2
      have HO2 := Lib.hid hO2
      have Hx := Lib.hid hx
      have Hy := Lib.hid hy
      have Hz := Lib.hid hz'
      clear hx hy hz' hF2 hO2 hs hg hg2 hF hO hm hown hown2 hrd hrd2
      go_wp2_with fail
      go_roundw
      case rel => exact ⟨j + 1, hlt, by go_num, HF2.out, HO2.out, Hg.out⟩
      case measure => simp [intOf]; omega
    · obtain rfl : j = L := by omega
      rw [Hall.out] at hF
      go_wp2
      go_ret
      exact ⟨rfl, hF, hg⟩

/-- How many bits of a byte are set. -/
def pop (x : Nat) : Nat := ((List.range 8).filter fun i => x.testBit i).length
def countF (fs : List Nat) : Nat := (fs.map pop).sum

theorem pop_le (x : Nat) : pop x ≤ 8 := Nat.le_trans (List.length_filter_le _ _) (by decide)
theorem pop_tab : ∀ x : Fin 256, (Lib.pop8tab[x.1]?.getD 0).toNat = pop x.1 := by decide +kernel

theorem ones_any (x : Nat) (w : World) (hx : x < 256) : Calls Try.prog 34 #[.int .u8 (x : Int)] w fun e w' => e = .returned (.int .i64 (pop x : Nat)) ∧ w = w' := by
  have ht := pop_tab ⟨x, hx⟩
  have hp := pop_le x
  go_enter Try.func34, Try.ntmps34
  go_wp2
  go_ret
  have hs : x < Lib.pop8tab.size := by assumption
  rw [getElem?_pos Lib.pop8tab x hs, Option.getD_some] at ht
  refine ⟨ret_int' ?_, rfl⟩
  rw [ht]
  exact IntWalk.wrap64_in _ (by omega)

theorem count_snoc (fs : List Nat) (x : Nat) : countF (fs ++ [x]) = countF fs + pop x := by simp [countF]
theorem count_le : ∀ fs : List Nat, countF fs ≤ 8 * fs.length := by
  intro fs
  induction fs with
  | nil => simp [countF]
  | cons x fs ih => have := pop_le x; simp only [countF, List.map_cons, List.sum_cons, List.length_cons] at ih ⊢; omega

set_option maxHeartbeats 1000000 in
theorem count_any (base g r : Nat) (fs : List Nat) (w : World) (hf : Fil w base g r fs) :
    Calls Try.prog 16 #[.pointer (some ⟨g, 0, none⟩)] w fun e w' => e = .returned (.int .i64 (countF fs : Nat)) ∧ w = w' := by
  obtain ⟨c, hc1, hc2, hcell, hown, hrd⟩ := hf.cell
  have hlo := hf.lo
  have hhi := hf.hi
  have hu := hf.u8
  obtain ⟨L, hL⟩ : ∃ L, L = fs.length := ⟨_, rfl⟩
  rw [← hL] at hc1 hcell hrd hlo hhi
  have HL := Lib.hid hL
  clear hown hL
  go_enter Try.func16, Try.ntmps16
  go_wp2_with fail
  go_loop [3, 11] (fun s i => ∃ j : Nat, j ≤ L ∧ i = .int .i64 j ∧ s = .int .i64 (countF (fs.take j) : Nat)) (fun _ i => L - (intOf i).toNat)
  case atStart => exact ⟨0, Nat.zero_le _, rfl, rfl⟩
  case round =>
    obtain ⟨j, hj, rfl, rfl⟩ := hrel
    by_cases hlt : j < L
    · obtain ⟨b1, o1, e1, hb1, hcell1⟩ := hrd.at_ hlt
      injection e1 with e1
      injection e1 with e11 e12
      subst e11 e12
      rw [Nat.zero_add] at hcell1
      have hx := hu.at_ j
      have hnext : countF (fs.take (j + 1)) = countF (fs.take j) + pop (fs.getD j 0) := by
        rw [take_next _ _ (by have := HL.out; omega), count_snoc]
      have hle := count_le (fs.take j)
      have hlt2 : (fs.take j).length ≤ 5120 := by rw [List.length_take]; omega
      have hpl := pop_le (fs.getD j 0)
      obtain ⟨x, hx'⟩ : ∃ x, x = fs.getD j 0 := ⟨_, rfl⟩
      rw [← hx'] at hcell1 hx hnext hpl
      obtain ⟨S, hS⟩ : ∃ S, S = countF (fs.take j) := ⟨_, rfl⟩
      rw [← hS] at hle hnext ⊢
      obtain ⟨p, hp⟩ : ∃ p, p = pop x := ⟨_, rfl⟩
      have hcall := ones_any x w hx
      rw [← hp] at hnext hpl hcall
      have Hcall := Lib.hid hcall
      have Hnext := Lib.hid hnext
      have HS := Lib.hid hS
      have hS2 : S ≤ 40960 := by omega
      clear hx' hp hcall hnext hS hle hlt2
      go_wp2_with fail
      refine Hcall.out.mono ?_
      rintro e w1 ⟨rfl, rfl⟩
      go_wp2_with fail
      go_round
      case rel => exact ⟨j + 1, hlt, by go_num, by rw [Hnext.out]; go_num⟩
      case measure => simp [intOf]; omega
    · obtain rfl : j = L := by omega
      rw [List.take_of_length_le (Nat.le_of_eq HL.out.symm)]
      go_wp2
      go_ret
      exact ⟨rfl, rfl⟩

end Go.Proofs.Ytgmjpilinhmjoaa
