/-
  The library's slices.Concat at this program.
-/
import Derived.Test.YtgmjpilinhmjoaaR1
import Derived.Lib.AppendZeros
import Derived.Lib.SliceRun
namespace Go.Proofs.Ytgmjpilinhmjoaa
open Go.RowKit

set_option maxRecDepth 100000 in
theorem grow_any (n : Nat) (w : World) (hn : n ≤ 180000000000000) :
    Calls Try.prog 51 #[.slice none 0 0, .int .i64 (n : Int)] w fun e w' => ∃ A' c', e = .returned (.slice A' 0 c') ∧ Own .u8 5 w' w.heap.size A' c' [] ∧ Ext w w' := by
  obtain ⟨i, hi0, hz, hsz, hbs⟩ := info_parts Try.infoU8
  have hG0 : 0 ≤ grownCap w n 0 5 := Nat.zero_le _
  by_cases h0 : 0 < n
  · have hrz : ∀ ty, (Builtin.append_ #[23, 3] ty #[.slice none 0 0, .int .i64 (n : Int)]).run Try.prog w = .ok (.slice (some ⟨w.heap.size, 0, none⟩) n (grownCap w n 0 5)) (w.drew.alloc (.cells (Builtin.zeroCells (Value.int .u8 0).cells n ++ Builtin.zeroCells (Value.int .u8 0).cells (grownCap w n 0 5 - n)) 5)) :=
      fun ty => Lib.run_append_nil_zeros w 23 3 ty 5 i _ .i64 .i64 Try.underlying23 Try.underlying3 hi0 hz n h0 (by omega) (by omega) (by rw [hbs]; omega)
    have hge := grownCap_ge w n 0 5
    have hle := grownCap_le_maxLen w n 0 5 (by unfold maxLen; omega)
    obtain ⟨G, hG⟩ : ∃ G, G = grownCap w n 0 5 := ⟨_, rfl⟩
    rw [← hG] at hrz hge hle
    have hle2 : G ≤ 9223372036854775807 := by simpa [maxLen] using hle
    clear hG
    have hown : Own .u8 5 (w.drew.alloc (.cells (Builtin.zeroCells (Value.int .u8 0).cells n ++ Builtin.zeroCells (Value.int .u8 0).cells (G - n)) 5)) w.heap.size (some ⟨w.heap.size, 0, none⟩) G [] :=
      ⟨by simp, .inr ⟨w.heap.size, G, _, rfl, Nat.le_refl _, heap_alloc_new w.drew _, Nat.zero_le _, hle, by simp only [Array.size_append, size_zeroCells]; simp [Value.cells]; omega, by simp⟩⟩
    have Hown := Lib.hid hown
    clear hown
    go_enter Try.func51, Try.ntmps51
    go_wp2_with (at_builtin; refine Lib.wpList_append_run _ rfl _ _ _ _ rfl _ _ rfl rfl _ _ (hrz _) ?_)
    go_ret
    exact ⟨_, _, rfl, Hown.out, (Ext.refl w).drew.alloc _⟩
  · obtain rfl : n = 0 := by omega
    clear hG0
    go_enter Try.func51, Try.ntmps51
    go_wp2
    go_ret
    exact ⟨_, _, rfl, Own.nil .., Ext.refl w⟩

set_option maxHeartbeats 400000 in
theorem concat_any (A : Option Addr) (n c : Nat) (xss : List (List Nat)) (w : World) (hx : RdSS w A n xss) (hn : xss.flatten.length ≤ 180000000000000) (hm : n ≤ 180000000000000) :
    Calls Try.prog 37 #[.slice A n c] w fun e w' => ∃ A' c', e = .returned (.slice A' xss.flatten.length c') ∧ Own .u8 5 w' w.heap.size A' c' xss.flatten ∧ Ext w w' := by
  have Hl := Lib.hid hx.len
  obtain ⟨N, hN⟩ : ∃ N, N = xss.flatten.length := ⟨_, rfl⟩
  rw [← hN] at hn ⊢
  have HN := Lib.hid hN
  clear hN
  go_enter Try.func37, Try.ntmps37
  go_wp2
  go_loop [3, 5, 11] (fun s _ i => ∃ j : Nat, j ≤ n ∧ i = .int .i64 j ∧ s = .int .i64 ((cat xss j).length : Nat)) (fun _ _ i => n - (intOf i).toNat)
  case atStart => exact ⟨0, Nat.zero_le _, rfl, by rw [cat_zero]; rfl⟩
  case round =>
    obtain ⟨j, hj, rfl, rfl⟩ := hrel
    have hle := cat_le (xss := xss) (j := j)
    rw [← HN.out] at hle
    by_cases hlt : j < n
    · obtain ⟨b, o, a, m, c2, rfl, hbl, hc, hrd⟩ := hx.at_ hlt
      have hjl : j < xss.length := by have := Hl.out; omega
      have hle2 := cat_le (xss := xss) (j := j + 1)
      rw [← HN.out] at hle2
      have hnext := congrArg List.length (cat_succ hjl)
      rw [List.length_append, hrd.len] at hnext
      rw [hnext] at hle2
      obtain ⟨R, hR'⟩ : ∃ R, R = (cat xss j).length := ⟨_, rfl⟩
      rw [← hR'] at hle hle2 hnext ⊢
      have Hn := Lib.hid hnext
      clear hnext hR' hrd
      go_wp2_with fail
      go_round
      case rel => exact ⟨j + 1, by omega, by go_num, by rw [Hn.out]; go_num⟩
      case measure => simp [intOf]; omega
    · obtain rfl : j = n := by omega
      have hfin : (cat xss j).length = N := by rw [HN.out, ← cat_all, Hl.out]
      rw [hfin]
      clear hfin hle
      go_wp2_with fail
      refine (grow_any N _ hn).mono ?_
      rintro e w1 ⟨A1, c1, rfl, hown1, he1⟩
      go_wp2_with fail
      go_loopw [6, 8, 27] (fun v _ i wr => ∃ (q : Nat) (A' : Option Addr) (c' : Nat), q ≤ j ∧ i = .int .i64 q ∧ v = .slice A' (cat xss q).length c' ∧ Own .u8 5 wr w.heap.size A' c' (cat xss q) ∧ Below w.heap.size w wr) (fun _ _ i _ => j - (intOf i).toNat)
      case atStart => exact ⟨0, _, _, Nat.zero_le _, rfl, rfl, hown1, he1⟩
      case round =>
        clear hown1 he1
        obtain ⟨q, A', c', hq, rfl, rfl, hown, hb⟩ := hrel
        have hz := hb.size
        by_cases hlt : q < j
        · obtain ⟨b, o, a, m, c2, rfl, hbl, hc, hrd⟩ := (hx.ext hb).at_ hlt
          have hjl : q < xss.length := by have := Hl.out; omega
          have hle2 := cat_le (xss := xss) (j := q + 1)
          rw [← HN.out] at hle2
          have hcs := cat_succ hjl
          have hnext := congrArg List.length hcs
          rw [List.length_append, hrd.len] at hnext
          rw [hnext] at hle2
          obtain ⟨ys, hys⟩ : ∃ ys, ys = xss.getD q [] := ⟨_, rfl⟩
          rw [← hys] at hrd hcs
          obtain ⟨X, hX⟩ : ∃ X, X = cat xss q := ⟨_, rfl⟩
          rw [← hX] at hown hle2 hnext hcs ⊢
          obtain ⟨R, hR⟩ : ∃ R, X.length = R := ⟨_, rfl⟩
          rw [hR] at hle2 hnext ⊢
          have Hn := Lib.hid hnext
          have Hcs := Lib.hid hcs
          have HR := Lib.hid hR
          clear hnext hcs hys hX hR
          go_wp2_with (at_builtin; refine wpList_pushes .u8 5 rfl _ _ 23 rfl _ 1 Try.underlying23 Try.infoU8 rfl hown R HR.out rfl rfl hrd (by omega) (by omega) hb hz ?_; intro A1 c1 w1 hown1 hb1 hz1)
          go_roundw
          case rel => exact ⟨q + 1, A1, c1, by omega, by go_num, by rw [Hn.out], by rw [Hcs.out]; exact hown1, hb1⟩
          case measure => simp [intOf]; omega
        · obtain rfl : q = j := by omega
          have hfin : cat xss q = xss.flatten := by rw [← cat_all]; rw [Hl.out]
          rw [hfin, ← HN.out]
          rw [hfin] at hown
          clear hfin
          go_wp2
          go_ret
          exact ⟨_, _, rfl, hown, hb⟩

/-- Bytes that the call has just written out. -/
theorem ownLit (w : World) (xs : List Nat) (hl : xs.length ≤ 9223372036854775807) : Own .u8 5 (w.alloc (.cells (xs.map fun x : Nat => Value.int .u8 (x : Int)).toArray 5)) w.heap.size (some ⟨w.heap.size, 0, none⟩) xs.length xs :=
  ⟨by simp, .inr ⟨w.heap.size, xs.length, _, rfl, Nat.le_refl _, heap_alloc_new w _, Nat.le_refl _, by simpa [maxLen] using hl, by simp, by rw [Nat.mul_one]; exact List.take_of_length_le (by simp)⟩⟩

end Go.Proofs.Ytgmjpilinhmjoaa
