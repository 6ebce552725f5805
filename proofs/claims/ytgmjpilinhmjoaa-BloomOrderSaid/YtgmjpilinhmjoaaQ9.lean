/-
  Layer 13: the program's Decode.
-/
import Derived.Test.YtgmjpilinhmjoaaQ8
import Derived.Test.YtgmjpilinhmjoaaSLI
import Derived.Test.YtgmjpilinhmjoaaCL
namespace Go.Proofs.Ytgmjpilinhmjoaa
open Go.RowKit
set_option maxRecDepth 100000

/-- What stands ahead of the sum; Decode's error; the filter's bytes. -/
def bodyF (bs : List Nat) : List Nat := bs.take (bs.length - 4)
def fdecE (bs : List Nat) : Int :=
  if ¬ sld bs then 6 else
  let v := vget (bodyF bs) 0
  if v.2.2 ≠ 0 then v.2.2 else if v.1 < 8 ∨ 5120 < v.1 then 5 else
  if ((bodyF bs).length : Int) - v.2.1 < v.1 then 2 else if (v.1 : Int) < ((bodyF bs).length : Int) - v.2.1 then 3 else 0
def fdecR (bs : List Nat) : List Nat := (bodyF bs).drop (vget (bodyF bs) 0).2.1.toNat

def FDecPost (bs : List Nat) (w : World) (e : Ending) (w' : World) : Prop :=
  Ext w w' ∧ ((fdecE bs ≠ 0 ∧ e = .returned (.tuple #[.pointer none, .int .i64 (fdecE bs)])) ∨
    (fdecE bs = 0 ∧ ∃ g r, e = .returned (.tuple #[.pointer (some ⟨g, 0, none⟩), .int .i64 0]) ∧ Fil w' w.heap.size g r (fdecR bs)))

set_option maxHeartbeats 4000000 in
theorem fdecode_any (A : Option Addr) (n c : Nat) (bs : List Nat) (w : World) (hx : Rd .u8 w A n bs) (hu : U8 bs) (hn : n ≤ 140737488355328) (hc : n ≤ c) (hcm : c ≤ 9223372036854775807) :
    Calls Try.prog 26 #[.slice A n c] w (FDecPost bs w) := by
  have hl := hx.len
  have hseal := sealed_any A n c bs w hx hu (by omega) hc hcm
  by_cases hs : sld bs
  · have h4 : 4 ≤ n := by have := hs.1; omega
    have hds : decide (sld bs) = true := decide_eq_true hs
    rw [hds] at hseal
    have hE : fdecE bs = (if (vget (bodyF bs) 0).2.2 ≠ 0 then (vget (bodyF bs) 0).2.2 else if (vget (bodyF bs) 0).1 < 8 ∨ 5120 < (vget (bodyF bs) 0).1 then 5 else if ((bodyF bs).length : Int) - (vget (bodyF bs) 0).2.1 < (vget (bodyF bs) 0).1 then 2 else if ((vget (bodyF bs) 0).1 : Int) < ((bodyF bs).length : Int) - (vget (bodyF bs) 0).2.1 then 3 else 0) := by
      unfold fdecE; rw [if_neg (by simpa using hs)]
    have hR : fdecR bs = (bodyF bs).drop (vget (bodyF bs) 0).2.1.toNat := rfl
    have hbl : (bodyF bs).length = n - 4 := by rw [bodyF, List.length_take, hl]; omega
    have hbu : U8 (bodyF bs) := u8_take hu _
    have hbd := vget_bounds (a := 0) hbu (by rw [hbl]; omega)
    have hup := run_upto .i64 A n c (n - 4) (by omega)
    have hn4 : ((n - 4 : Nat) : Int) = (n : Int) - 4 := by omega
    rw [hn4] at hup
    have hxb : Rd .u8 w A (n - 4) (bodyF bs) := by rw [bodyF, hl]; exact hx.upto (by omega)
    have hget : ∀ W, Ext w W → Calls Try.prog 43 #[.slice A (n - 4) c, .int .i64 0] W (GetPost (bodyF bs) 0 W) := fun W hW => get_any A (n - 4) c 0 (bodyF bs) W (hxb.ext hW) hbu (by omega) (by omega) hcm
    obtain ⟨t, ht⟩ : ∃ t, t = bodyF bs := ⟨_, rfl⟩
    rw [← ht] at hE hR hbl hbu hbd hxb hget
    have hzero : ∀ {v n e}, vget t 0 = (v, n, e) → e ≠ 0 → v = 0 ∧ n = 0 := fun h he => vget_zero h he
    obtain ⟨⟨v, at_, er⟩, hv⟩ : ∃ q, q = vget t 0 := ⟨_, rfl⟩
    have hget2 : ∀ W, Ext w W → Calls Try.prog 43 #[.slice A (n - 4) c, .int .i64 0] W fun e w' => e = .returned (.tuple #[.int .u64 (v : Nat), .int .i64 at_, .int .i64 er]) ∧ W = w' := fun W hW => by
      have := hget W hW
      unfold GetPost at this
      rw [← hv] at this
      exact this
    rw [← hv] at hE hR hbd
    simp only at hE hR hbd
    obtain ⟨hv64, ha0, han⟩ := hbd
    rw [hbl] at han hE
    obtain ⟨k, rfl⟩ : ∃ k : Nat, at_ = (k : Int) := ⟨at_.toNat, by omega⟩
    have hfr := run_from A (n - 4) c k (by omega)
    have hxr := hxb.offA (k := k) (m := c) (by omega) (by omega)
    rw [Int.toNat_natCast] at hR
    rw [← hR] at hxr
    have hRu : U8 (fdecR bs) := by rw [hR]; exact u8_drop hbu _
    have hRl : (fdecR bs).length = n - 4 - k := by rw [hR, List.length_drop, hbl]
    have hclone : ∀ W, Ext w W → Calls Try.prog 44 #[.slice (offA A k c) (n - 4 - k) (c - k)] W fun e w' => ∃ A' c', e = .returned (.slice A' (n - 4 - k) c') ∧ Own .u8 5 w' W.heap.size A' c' (fdecR bs) ∧ Ext W w' := fun W hW => clone_any _ _ _ _ W (hxr.ext hW) (by omega)
    obtain ⟨B, hB⟩ : ∃ B, B = offA A k c := ⟨_, rfl⟩
    rw [← hB] at hfr hclone
    obtain ⟨E, hEE⟩ : ∃ E, E = fdecE bs := ⟨_, rfl⟩
    rw [← hEE] at hE
    have HS := Lib.hid hseal
    have HG := Lib.hid hget2
    have HC := Lib.hid hclone
    have HEE := Lib.hid hEE
    have HRu := Lib.hid hRu
    have HRl := Lib.hid hRl
    clear hseal hget hget2 hclone hEE hv hzero hR hxr hxb hbu hx hu hs hds ht hRu hRl hB
    have hwv : v ≤ 5120 → wrap64 (v : Int) = (v : Int) := fun h => IntWalk.wrap64_in _ (by omega)
    by_cases he : er = 0
    · subst he
      rw [if_neg (by simp)] at hE
      by_cases h5 : v < 8
      · rw [if_pos (Or.inl h5)] at hE
        have HE := Lib.hid hE
        clear hE
        go_enter Try.func26, Try.ntmps26
        go_wp2_with fail
        refine HS.out.mono ?_
        rintro e w1 ⟨rfl, he1⟩
        go_wp2_with fail
        refine (HG.out _ he1).mono ?_
        rintro e w2 ⟨rfl, rfl⟩
        go_wp2_with fail
        go_ret2
        exact ⟨he1, .inl ⟨by rw [← HEE.out, HE.out]; decide, by rw [← HEE.out, HE.out]; rfl⟩⟩
      · by_cases h6 : 5120 < v
        · rw [if_pos (Or.inr h6)] at hE
          have HE := Lib.hid hE
          clear hE
          go_enter Try.func26, Try.ntmps26
          go_wp2_with fail
          refine HS.out.mono ?_
          rintro e w1 ⟨rfl, he1⟩
          go_wp2_with fail
          refine (HG.out _ he1).mono ?_
          rintro e w2 ⟨rfl, rfl⟩
          go_wp2_with fail
          go_ret2
          exact ⟨he1, .inl ⟨by rw [← HEE.out, HE.out]; decide, by rw [← HEE.out, HE.out]; rfl⟩⟩
        · rw [if_neg (by omega)] at hE
          have hw1 := hwv (by omega)
          have hk2 : ((n - 4 - k : Nat) : Int) = ((n - 4 : Nat) : Int) - (k : Int) := by omega
          by_cases h7 : n - 4 - k < v
          · rw [if_pos (by omega)] at hE
            have HE := Lib.hid hE
            clear hE hk2
            go_enter Try.func26, Try.ntmps26
            go_wp2_with fail
            refine HS.out.mono ?_
            rintro e w1 ⟨rfl, he1⟩
            go_wp2_with fail
            refine (HG.out _ he1).mono ?_
            rintro e w2 ⟨rfl, rfl⟩
            go_wp2_with fail
            go_ret2
            exact ⟨he1, .inl ⟨by rw [← HEE.out, HE.out]; decide, by rw [← HEE.out, HE.out]; rfl⟩⟩
          · rw [if_neg (by omega)] at hE
            by_cases h8 : v < n - 4 - k
            · rw [if_pos (by omega)] at hE
              have HE := Lib.hid hE
              clear hE hk2
              go_enter Try.func26, Try.ntmps26
              go_wp2_with fail
              refine HS.out.mono ?_
              rintro e w1 ⟨rfl, he1⟩
              go_wp2_with fail
              refine (HG.out _ he1).mono ?_
              rintro e w2 ⟨rfl, rfl⟩
              go_wp2_with fail
              go_ret2
              exact ⟨he1, .inl ⟨by rw [← HEE.out, HE.out]; decide, by rw [← HEE.out, HE.out]; rfl⟩⟩
            · rw [if_neg (by omega)] at hE
              have HE := Lib.hid hE
              obtain rfl : v = n - 4 - k := by omega
              clear hE hk2
              go_enter Try.func26, Try.ntmps26
              go_wp2_with fail
              refine HS.out.mono ?_
              rintro e w1 ⟨rfl, he1⟩
              go_wp2_with fail
              refine (HG.out _ he1).mono ?_
              rintro e w2 ⟨rfl, rfl⟩
              go_wp2_with fail
              refine (HC.out _ he1).mono ?_
              rintro e w3 ⟨A', c', rfl, hown, he3⟩
              go_wp2_with fail
              go_ret2
              have hpos : 0 < (fdecR bs).length := by rw [HRl.out]; omega
              obtain ⟨b, rfl, hb1, hb2, _, _⟩ := hown.form hpos
              refine ⟨he1.trans (he3.alloc _), .inr ⟨by rw [← HEE.out, HE.out], w3.heap.size, b, rfl, ⟨⟨c', (hown.mono he1.size).ext ((Ext.refl _).alloc _), ?_⟩, by omega, Nat.le_trans he1.size he3.size, HRu.out, by rw [HRl.out]; omega, by rw [HRl.out]; omega⟩⟩⟩
              rw [HRl.out]
              exact heap_alloc_new _ _
    · rw [if_pos he] at hE
      have HE := Lib.hid hE
      have heb : (er == 0) = false := beq_eq_false_iff_ne.2 he
      clear hE
      go_enter Try.func26, Try.ntmps26
      go_wp2_with fail
      refine HS.out.mono ?_
      rintro e w1 ⟨rfl, he1⟩
      go_wp2_with fail
      refine (HG.out _ he1).mono ?_
      rintro e w2 ⟨rfl, rfl⟩
      go_wp2_with fail
      go_ret2
      exact ⟨he1, .inl ⟨by rw [← HEE.out, HE.out]; exact he, by rw [← HEE.out, HE.out]; rfl⟩⟩
  · have hds : decide (sld bs) = false := decide_eq_false hs
    rw [hds] at hseal
    have hE : fdecE bs = 6 := by unfold fdecE; rw [if_pos (by simpa using hs)]
    have HE := Lib.hid hE
    have HS := Lib.hid hseal
    clear hE hseal hs hds hx hu
    go_enter Try.func26, Try.ntmps26
    go_wp2_with fail
    refine HS.out.mono ?_
    rintro e w1 ⟨rfl, he1⟩
    go_wp2_with fail
    go_ret2
    exact ⟨he1, .inl ⟨by rw [HE.out]; decide, by rw [HE.out]; rfl⟩⟩

end Go.Proofs.Ytgmjpilinhmjoaa
