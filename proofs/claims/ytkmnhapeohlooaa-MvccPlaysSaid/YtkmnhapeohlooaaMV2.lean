/-
  Layer 17: the least of a map of times.
-/
import Derived.Test.YtkmnhapeohlooaaMV1
namespace Go.Proofs.Ytkmnhapeohlooaa
open Go.RowKit Go.Maps
set_option maxRecDepth 100000

theorem sameKey_tkey {x y : Int} : (tkey y).sameKey (tkey x) = decide (y = x) := by
  by_cases h : y = x
  · subst h; simp [Lit.sameKey]
  · rw [Maps.sameKey_ne (tkey_ne h), decide_eq_false h]

set_option maxHeartbeats 1600000 in
theorem tleast_any (b n : Nat) (l : List Int) (one : Int) (w : World) (h : MT w b n l) :
    Calls Try.prog 59 #[.map (some b), .int .i64 one] w fun e w' => e = .returned (.int .i64 (leastL l one)) ∧ Ext w w' := by
  obtain ⟨D, hown, hC⟩ := h
  have HC := Lib.hid hC
  clear hC
  go_enter Try.func59, Try.ntmps59
  go_wp2_with (first
    | (at_range; refine wpList_range_own _ rfl _ 81 rfl 2 3 lawZ Try.underlying81 _ b n _ rfl hown ?_; intro w0 hrg0 hg0 hs0)
    | go_in)
  go_frame
  go_loopw [1] (fun v wr => ∃ (left : Lit → Bool) (cnt : Nat) (a : Int), v = .int .i64 a ∧ wr.ranges Try.prog 2 (plainElem Try.prog 3) b w.heap.size n D left cnt ∧ w.grownBy wr none ∧
      Hid (a ≤ one ∧ (a = one ∨ a ∈ l) ∧ ∀ x ∈ l, left (tkey x) = false → a ≤ x)) (fun _ wr => wr.rangeLeft b w.heap.size)
  case atStart => exact ⟨_, _, one, rfl, hrg0, hg0, Lib.hid ⟨Int.le_refl _, .inl rfl, fun x hx e => by rw [HC.out.mem.2 hx] at e; cases e⟩⟩
  case round =>
    obtain ⟨left, cnt, a, rfl, hrg, hgw, HI⟩ := hrel
    go_wp2_with (first
      | (at_next; refine wpList_next_ranges_ii _ rfl _ rfl 2 3 .i64 .i64 lawZ Try.underlying2 Try.underlying3 b w.heap.size n _ _ _ rfl hrg ?_ ?_)
      | go_in)
    · intro _ hl0
      go_wp2
      go_ret
      refine ⟨?_, hgw.os, hgw.tape, hgw.output, hgw.size, fun i hi => hgw.block i hi (by simp)⟩
      obtain ⟨h1, h2, h3⟩ := HI.out
      rw [← leastL_is h1 (fun x hx => h3 x hx (hl0 _)) h2]
      rfl
    · intro x c w1 cnt1 hwx hwc hlx hat hrg1 hlt hg1 hs1 hen
      have hgw1 := hgw.andThen hg1 (fun j hj => by cases hj; exact Or.inl (Nat.le_refl _))
      go_wp2
      go_roundw
      case rel =>
        refine ⟨_, cnt1, if x < a then x else a, rfl, hrg1, hgw1, Lib.hid ?_⟩
        obtain ⟨h1, h2, h3⟩ := HI.out
        have hxl : x ∈ l := HC.out.mem.1 (has_true_of_atKey hat)
        refine ⟨by split <;> omega, ?_, fun y hy e => ?_⟩
        · split
          · exact .inr hxl
          · exact h2
        · rw [sameKey_tkey] at e
          by_cases q : y = x
          · split <;> omega
          · rw [decide_eq_false q] at e
            have := h3 y hy (by simpa using e)
            split <;> omega
      case measure => rw [hrg1.left_eq, hrg.left_eq]; exact hlt

end Go.Proofs.Ytkmnhapeohlooaa
