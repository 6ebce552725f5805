import Derived.Test.YtjckfbpdnpehcaaMem
import Derived.Test.YtjckfbpdnpehcaaProg
namespace Go.Proofs.Ytjckfbpdnpehcaa
open Go.RowKit

theorem Try.infoU8 : (Try.prog.info? 5).map (fun i => (i.zero, i.size, i.bytes)) = some (some (.int .u8 0), 1, 1) := by kernel_rfl

/-- 2 to the k, closed to simp. -/
def pw (k : Nat) : Nat := 2 ^ k
theorem pw_zero : pw 0 = 1 := rfl
theorem pw_succ (k : Nat) : pw (k + 1) = pw k * 2 := Nat.pow_succ ..
theorem pw_le {j k : Nat} (h : j ≤ k) : pw j ≤ pw k := Nat.pow_le_pow_right (by omega) h
theorem pw_63 : pw 63 = 9223372036854775808 := by decide
theorem pw_pos (k : Nat) : 0 < pw k := Nat.pow_pos (by omega)

theorem take_next (xs : List Nat) (j : Nat) (h : j < xs.length) : xs.take (j + 1) = xs.take j ++ [xs.getD j 0] := by
  rw [List.take_succ_eq_append_getElem h]; simp [List.getD, h]

set_option maxHeartbeats 400000 in
theorem copy_any (A : Option Addr) (n c : Nat) (xs : List Nat) (w : World) (hx : Rd .u8 w A n xs) (hn : n ≤ 140737488355328) :
    Calls Try.prog 12 #[.slice A n c] w fun e w' => ∃ A' c', e = .returned (.slice A' n c') ∧ Own .u8 5 w' w.heap.size A' c' xs ∧ Ext w w' := by
  have hl := hx.len
  go_enter Try.func12, Try.ntmps12
  go_wp2
  go_loopw [3, 4] (fun v i wr => ∃ (j : Nat) (A' : Option Addr) (c' : Nat), j ≤ n ∧ i = .int .i64 j ∧ v = .slice A' j c' ∧ Own .u8 5 wr w.heap.size A' c' (xs.take j) ∧ Below w.heap.size w wr) (fun _ i _ => n - (intOf i).toNat)
  case atStart => exact ⟨0, _, _, Nat.zero_le _, rfl, rfl, Own.made _ _ _ (Nat.le_refl _), (Ext.refl w).alloc _⟩
  case round =>
    obtain ⟨j, A', c', hj, rfl, rfl, hown, hb⟩ := hrel
    have hz := hb.size
    by_cases hlt : j < n
    · obtain ⟨b, o, rfl, hbl, hc⟩ := (hx.ext hb).at_ hlt
      have htl : (xs.take j).length = j := by rw [List.length_take]; omega
      have Htl := Lib.hid htl
      have Hl := Lib.hid hl
      clear htl hl
      go_wp2_with (at_builtin; refine wpList_push .u8 (xs.getD j 0) 5 rfl _ _ 22 rfl _ 1 Try.underlying22 Try.infoU8 rfl hown j Htl.out rfl rfl rfl (by omega) (by omega) hb hz ?_; intro A1 c1 w1 hown1 hb1 hz1)
      go_roundw
      case rel => exact ⟨j + 1, A1, c1, by omega, by go_num, rfl, by rw [take_next _ _ (by have := Hl.out; omega)]; exact hown1, hb1⟩
      case measure => simp [intOf]; omega
    · obtain rfl : j = n := by omega
      go_wp2
      go_ret
      rw [List.take_of_length_le (by omega)] at hown
      exact ⟨_, _, rfl, hown, hb⟩

/-- Two lists of one length are equal just where all their places are. -/
theorem eq_of_getD {xs ys : List Nat} (hl : xs.length = ys.length) (h : ∀ j, j < xs.length → xs.getD j 0 = ys.getD j 0) : xs = ys := by
  apply List.ext_getElem hl
  intro j h1 h2
  have := h j h1
  simpa [List.getD, h1, h2] using this

set_option maxHeartbeats 400000 in
theorem same_any (A A' : Option Addr) (n c n' c' : Nat) (xs ys : List Nat) (w : World) (hx : Rd .u8 w A n xs) (hy : Rd .u8 w A' n' ys) (hn : n ≤ 281474976710656) (hn' : n' ≤ 281474976710656) :
    Calls Try.prog 18 #[.slice A n c, .slice A' n' c'] w fun e w' => e = .returned (.bool (decide (xs = ys))) ∧ ∃ q, w' = w.drewN q := by
  have hl := hx.len
  have hl' := hy.len
  have Hl := Lib.hid hl
  have Hl' := Lib.hid hl'
  clear hl hl'
  by_cases hd : n = n'
  · subst hd
    go_enter Try.func18, Try.ntmps18
    go_wp2
    go_loopw [5] (fun i wr => ∃ j q : Nat, j ≤ n ∧ i = .int .i64 j ∧ wr = w.drewN q ∧ ∀ t, t < j → xs.getD t 0 = ys.getD t 0) (fun i _ => n - (intOf i).toNat)
    case atStart => exact ⟨0, 0, Nat.zero_le _, rfl, rfl, fun t ht => absurd ht (by omega)⟩
    case round =>
      obtain ⟨j, q, hj, rfl, rfl, hsame⟩ := hrel
      have Hs := Lib.hid hsame
      clear hsame
      by_cases hlt : j < n
      · obtain ⟨b, o, rfl, hbl, hc⟩ := hx.at_ hlt
        obtain ⟨b', o', rfl, hbl', hc'⟩ := hy.at_ hlt
        obtain ⟨u, hu⟩ : ∃ u, u = xs.getD j 0 := ⟨_, rfl⟩
        obtain ⟨v, hv⟩ : ∃ v, v = ys.getD j 0 := ⟨_, rfl⟩
        rw [← hu] at hc
        rw [← hv] at hc'
        have Hu := Lib.hid hu
        have Hv := Lib.hid hv
        clear hu hv
        have hji : (j : Int) < (n : Int) := by omega
        by_cases huv : u = v
        · have hne : ((u : Int) != (v : Int)) = false := by simp [huv]
          have Huv := Lib.hid huv
          clear huv
          go_wp2_with fail
          go_quiet (fail)
          go_wp2
          go_roundw
          case rel => exact ⟨j + 1, _, by omega, by go_num, rfl, fun t ht => by
            by_cases h : t < j
            · exact Hs.out t h
            · obtain rfl : t = j := by omega
              exact Hu.out.symm.trans (Huv.out.trans Hv.out)⟩
          case measure => simp [intOf]; omega
        · have hne : ((u : Int) != (v : Int)) = true := by rw [bne_iff_ne]; omega
          go_wp2_with fail
          go_quiet (fail)
          go_wp2
          go_ret
          exact ⟨by rw [decide_eq_false (by rintro rfl; exact huv (Hu.out.trans Hv.out.symm))]; rfl, _, World.drewN_drewN ..⟩
      · obtain rfl : j = n := by omega
        go_wp2
        go_ret
        exact ⟨by rw [decide_eq_true (eq_of_getD (Hl.out.trans Hl'.out.symm) fun t ht => Hs.out t (Hl.out ▸ ht))]; rfl, q, rfl⟩
  · have hb : ((n : Int) != (n' : Int)) = true := by rw [bne_iff_ne]; omega
    go_enter Try.func18, Try.ntmps18
    go_wp2
    go_ret
    exact ⟨by rw [decide_eq_false (by rintro rfl; exact hd (Hl.out.symm.trans Hl'.out))]; rfl, 0, rfl⟩

end Go.Proofs.Ytjckfbpdnpehcaa
