import Derived.Test.YtjckfbpdnpehcaaA1
namespace Go.Proofs.Ytjckfbpdnpehcaa
open Go.RowKit

/-- Bytes. -/
def U8 (xs : List Nat) : Prop := ∀ x ∈ xs, x < 256
instance (xs : List Nat) : Decidable (U8 xs) := inferInstanceAs (Decidable (∀ x ∈ xs, x < 256))
theorem U8.at_ {xs : List Nat} (h : U8 xs) (j : Nat) : xs.getD j 0 < 256 := by
  by_cases hj : j < xs.length
  · have := h _ (List.getElem_mem hj); simpa [List.getD, hj] using this
  · simp [List.getD, hj]

/-- The 64 marks. -/
def marks (n : Nat) : List Nat := (List.range n).map fun i => 192 + i % 7
theorem marks_len (n : Nat) : (marks n).length = n := by simp [marks]
theorem marks_succ (n : Nat) : marks (n + 1) = marks n ++ [192 + n % 7] := by simp [marks, List.range_succ]
theorem marks_at {n i : Nat} (h : i < n) : (marks n).getD i 0 = 192 + i % 7 := by simp [marks, List.getD, h]

set_option maxHeartbeats 400000 in
theorem cat_any (A A2 : Option Addr) (n c n2 c2 : Nat) (xs ys : List Nat) (w : World) (hx : Rd .u8 w A n xs) (hy : Rd .u8 w A2 n2 ys) (hn : n + n2 ≤ 180000000000000) :
    Calls Try.prog 20 #[.slice A n c, .slice A2 n2 c2] w fun e w' => ∃ A' c', e = .returned (.slice A' (n + n2 : Nat) c') ∧ Own .u8 5 w' w.heap.size A' c' (xs ++ ys) ∧ Ext w w' := by
  have hl := hx.len
  have hl2 := hy.len
  have Hl := Lib.hid hl
  have Hl2 := Lib.hid hl2
  clear hl hl2
  go_enter Try.func20, Try.ntmps20
  go_wp2
  go_loopw [5, 6] (fun v i wr => ∃ (j : Nat) (A' : Option Addr) (c' : Nat), j ≤ n ∧ i = .int .i64 j ∧ v = .slice A' j c' ∧ Own .u8 5 wr w.heap.size A' c' (xs.take j) ∧ Below w.heap.size w wr) (fun _ i _ => n - (intOf i).toNat)
  case atStart => exact ⟨0, _, _, Nat.zero_le _, rfl, rfl, Own.made _ _ _ (Nat.le_refl _), (Ext.refl w).alloc _⟩
  case round =>
    obtain ⟨j, A', c', hj, rfl, rfl, hown, hb⟩ := hrel
    have hz := hb.size
    by_cases hlt : j < n
    · obtain ⟨b, o, rfl, hbl, hc⟩ := (hx.ext hb).at_ hlt
      have htl : (xs.take j).length = j := by rw [List.length_take, Hl.out]; omega
      have Htl := Lib.hid htl
      clear htl
      go_wp2_with (at_builtin; refine wpList_push .u8 (xs.getD j 0) 5 rfl _ _ 22 rfl _ 1 Try.underlying22 Try.infoU8 rfl hown j Htl.out rfl rfl rfl (by omega) (by omega) hb hz ?_; intro A1 c1 w1 hown1 hb1 hz1)
      go_roundw
      case rel => exact ⟨j + 1, A1, c1, by omega, by go_num, rfl, by rw [take_next _ _ (by have := Hl.out; omega)]; exact hown1, hb1⟩
      case measure => simp [intOf]; omega
    · obtain rfl : j = n := by omega
      rw [List.take_of_length_le (Nat.le_of_eq Hl.out)] at hown
      have h0 : Own .u8 5 wr w.heap.size A' c' (xs ++ ys.take 0) := by simpa using hown
      go_wp2
      go_loopw [5, 7] (fun v i wr => ∃ (q : Nat) (A' : Option Addr) (c' : Nat), q ≤ n2 ∧ i = .int .i64 q ∧ v = .slice A' (j + q : Nat) c' ∧ Own .u8 5 wr w.heap.size A' c' (xs ++ ys.take q) ∧ Below w.heap.size w wr) (fun _ i _ => n2 - (intOf i).toNat)
      case atStart => exact ⟨0, _, _, Nat.zero_le _, rfl, rfl, h0, hb⟩
      case round =>
        clear hown h0 hb hz
        obtain ⟨q, A', c', hq, rfl, rfl, hown, hb⟩ := hrel
        have hz := hb.size
        by_cases hlt : q < n2
        · obtain ⟨b, o, rfl, hbl, hc⟩ := (hy.ext hb).at_ hlt
          have htl : (xs ++ ys.take q).length = j + q := by rw [List.length_append, List.length_take, Hl2.out, Hl.out]; omega
          have Htl := Lib.hid htl
          clear htl
          go_wp2_with (at_builtin; refine wpList_push .u8 (ys.getD q 0) 5 rfl _ _ 22 rfl _ 1 Try.underlying22 Try.infoU8 rfl hown (j + q) Htl.out rfl rfl rfl (by omega) (by omega) hb hz ?_; intro A1 c1 w1 hown1 hb1 hz1)
          go_roundw
          case rel => exact ⟨q + 1, A1, c1, by omega, by go_num, rfl, by rw [take_next _ _ (by have := Hl2.out; omega), ← List.append_assoc]; exact hown1, hb1⟩
          case measure => simp [intOf]; omega
        · obtain rfl : q = n2 := by omega
          rw [List.take_of_length_le (Nat.le_of_eq Hl2.out)] at hown
          go_wp2
          go_ret
          exact ⟨_, _, rfl, hown, hb⟩

set_option maxHeartbeats 400000 in
theorem wide_any (A : Option Addr) (n c : Nat) (xs : List Nat) (w : World) (hx : Rd .u8 w A n xs) (hn : n + 64 ≤ 140737488355328) :
    Calls Try.prog 33 #[.slice A n c] w fun e w' => ∃ A' c', e = .returned (.slice A' (n + 64 : Nat) c') ∧ Own .u8 5 w' w.heap.size A' c' (xs ++ marks 64) ∧ Ext w w' := by
  have hl := hx.len
  have Hl := Lib.hid hl
  clear hl
  go_enter Try.func33, Try.ntmps33
  go_wp2_with (go_at_call 12; refine (copy_any _ _ _ _ _ hx (by omega)).mono ?_; rintro e w1 ⟨A1, c1, rfl, hown1, he1⟩)
  have h0 : Own .u8 5 w1 w.heap.size A1 c1 (xs ++ marks 0) := by simpa [marks] using hown1
  clear hown1
  go_loopw [3, 4] (fun v i wr => ∃ (q : Nat) (A' : Option Addr) (c' : Nat), q ≤ 64 ∧ i = .int .i64 q ∧ v = .slice A' (n + q : Nat) c' ∧ Own .u8 5 wr w.heap.size A' c' (xs ++ marks q) ∧ Below w.heap.size w wr) (fun _ i _ => 64 - (intOf i).toNat)
  case atStart => exact ⟨0, _, _, Nat.zero_le _, rfl, rfl, h0, he1⟩
  case round =>
    clear h0 he1
    obtain ⟨q, A', c', hq, rfl, rfl, hown, hb⟩ := hrel
    have hz := hb.size
    by_cases hlt : q < 64
    · have htl : (xs ++ marks q).length = n + q := by rw [List.length_append, marks_len, Hl.out]
      have Htl := Lib.hid htl
      clear htl
      go_wp2_with (at_builtin; refine wpList_push .u8 (192 + q % 7) 5 rfl _ _ 22 rfl _ 1 Try.underlying22 Try.infoU8 rfl hown (n + q) Htl.out rfl rfl (by omega) (by omega) (by omega) hb hz ?_; intro A1 c1 w1 hown1 hb1 hz1)
      go_roundw
      case rel => exact ⟨q + 1, A1, c1, by omega, by go_num, rfl, by rw [marks_succ, ← List.append_assoc]; exact hown1, hb1⟩
      case measure => simp [intOf]; omega
    · obtain rfl : q = 64 := by omega
      go_wp2
      go_ret
      exact ⟨_, _, rfl, hown, hb⟩

/-- The bytes from lo to hi, as far as there are any. -/
def piece (xs : List Nat) (lo hi : Int) : List Nat := (xs.take hi.toNat).drop lo.toNat

theorem piece_eq (xs : List Nat) (L : Nat) (hi : Int) : (xs.drop L).take (min hi.toNat xs.length - L) = (xs.take hi.toNat).drop L := by
  rw [List.drop_take]
  by_cases h : hi.toNat ≤ xs.length
  · rw [Nat.min_eq_left h]
  · rw [Nat.min_eq_right (by omega), List.take_of_length_le (by simp), List.take_of_length_le (by simp; omega)]

theorem piece_len (xs : List Nat) (L : Nat) (hi : Int) : ((xs.take hi.toNat).drop L).length = min hi.toNat xs.length - L := by simp

set_option maxHeartbeats 800000 in
theorem piece_any (A : Option Addr) (n c : Nat) (lo hi : Int) (xs : List Nat) (w : World) (hx : Rd .u8 w A n xs) (hn : n ≤ 140737488355328) (hlo : lo ≤ 9223372036854775807) :
    Calls Try.prog 19 #[.slice A n c, .int .i64 lo, .int .i64 hi] w fun e w' => ∃ A' c', e = .returned (.slice A' (piece xs lo hi).length c') ∧ Own .u8 5 w' w.heap.size A' c' (piece xs lo hi) ∧ Ext w w' := by
  have hl := hx.len
  obtain ⟨m, hm⟩ : ∃ m, m = min hi.toNat n - lo.toNat := ⟨_, rfl⟩
  have hpl : (piece xs lo hi).length = m := by unfold piece; rw [piece_len, hl, hm]
  have hpe : (xs.drop lo.toNat).take m = piece xs lo hi := by unfold piece; rw [hm, ← hl, piece_eq]
  rw [hpl]
  obtain ⟨L, hL⟩ : ∃ L, L = lo.toNat := ⟨_, rfl⟩
  rw [← hL] at hpe hm
  have Hl := Lib.hid hl
  have Hpl := Lib.hid hpl
  have Hpe := Lib.hid hpe
  have Hm := Lib.hid hm
  clear hl hpl hpe hm
  by_cases hneg : lo < 0
  · obtain rfl : L = 0 := by omega
    clear hL
    go_enter Try.func19, Try.ntmps19
    go_wp2
    go_loopw [7, 8] (fun v i wr => ∃ (q : Nat) (A' : Option Addr) (c' : Nat), q ≤ m ∧ i = .int .i64 q ∧ v = .slice A' q c' ∧ Own .u8 5 wr w.heap.size A' c' ((xs.drop 0).take q) ∧ Below w.heap.size w wr) (fun _ i _ => m - (intOf i).toNat)
    case atStart => exact ⟨0, _, _, Nat.zero_le _, rfl, rfl, Own.made _ _ _ (Nat.le_refl _), (Ext.refl w).alloc _⟩
    case round =>
      obtain ⟨q, A', c', hq, rfl, rfl, hown, hb⟩ := hrel
      have hz := hb.size
      by_cases hlt : q < m
      · have h1 : q < n := by have := Hm.out; omega
        have h2 : (q : Int) < hi := by have := Hm.out; omega
        obtain ⟨b, o, rfl, hbl, hc⟩ := (hx.ext hb).at_ h1
        have htl : ((xs.drop 0).take q).length = q := by rw [List.drop_zero, List.length_take, Hl.out]; omega
        have Htl := Lib.hid htl
        clear htl
        go_wp2_with (at_builtin; refine wpList_push .u8 (xs.getD q 0) 5 rfl _ _ 22 rfl _ 1 Try.underlying22 Try.infoU8 rfl hown q Htl.out rfl rfl rfl (by omega) (by omega) hb hz ?_; intro A1 c1 w1 hown1 hb1 hz1)
        go_roundw
        case rel => exact ⟨q + 1, A1, c1, by omega, by go_num, rfl, by rw [List.drop_zero, take_next _ _ (by have := Hl.out; omega)]; exact hown1, hb1⟩
        case measure => simp [intOf]; omega
      · obtain rfl : q = m := by omega
        have hend : ¬ ((q : Int) < (n : Int)) ∨ ¬ ((q : Int) < hi) := by have := Hm.out; omega
        rw [Hpe.out] at hown
        rcases hend with h1 | h1
        · go_wp2
          go_ret
          exact ⟨_, _, rfl, hown, hb⟩
        · by_cases h2 : (q : Int) < (n : Int)
          all_goals
            go_wp2
            go_ret
            exact ⟨_, _, rfl, hown, hb⟩
  · obtain rfl : lo = (L : Int) := by omega
    clear hL
    go_enter Try.func19, Try.ntmps19
    go_wp2
    go_loopw [7, 8] (fun v i wr => ∃ (q : Nat) (A' : Option Addr) (c' : Nat), q ≤ m ∧ i = .int .i64 (L + q : Nat) ∧ v = .slice A' q c' ∧ Own .u8 5 wr w.heap.size A' c' ((xs.drop L).take q) ∧ Below w.heap.size w wr) (fun _ i _ => L + m - (intOf i).toNat)
    case atStart => exact ⟨0, _, _, Nat.zero_le _, rfl, rfl, Own.made _ _ _ (Nat.le_refl _), (Ext.refl w).alloc _⟩
    case round =>
      obtain ⟨q, A', c', hq, rfl, rfl, hown, hb⟩ := hrel
      have hz := hb.size
      by_cases hlt : q < m
      · have h1 : L + q < n := by have := Hm.out; omega
        have h2 : (L : Int) + (q : Int) < hi := by have := Hm.out; omega
        obtain ⟨b, o, rfl, hbl, hc⟩ := (hx.ext hb).at_ h1
        have htl : ((xs.drop L).take q).length = q := by rw [List.length_take, List.length_drop, Hl.out]; omega
        have Htl := Lib.hid htl
        clear htl
        go_wp2_with (at_builtin; refine wpList_push .u8 (xs.getD (L + q) 0) 5 rfl _ _ 22 rfl _ 1 Try.underlying22 Try.infoU8 rfl hown q Htl.out rfl rfl rfl (by omega) (by omega) hb hz ?_; intro A1 c1 w1 hown1 hb1 hz1)
        go_roundw
        case rel => exact ⟨q + 1, A1, c1, by omega, by go_num, rfl, by rw [take_next _ _ (by have := Hl.out; rw [List.length_drop]; omega), show (xs.drop L).getD q 0 = xs.getD (L + q) 0 from by simp [List.getD]]; exact hown1, hb1⟩
        case measure => simp [intOf]; omega
      · obtain rfl : q = m := by omega
        have hend : ¬ ((L : Int) + (q : Int) < (n : Int)) ∨ ¬ ((L : Int) + (q : Int) < hi) := by have := Hm.out; omega
        rw [Hpe.out] at hown
        rcases hend with h1 | h1
        · go_wp2
          go_ret
          exact ⟨_, _, rfl, hown, hb⟩
        · by_cases h2 : (L : Int) + (q : Int) < (n : Int)
          all_goals
            go_wp2
            go_ret
            exact ⟨_, _, rfl, hown, hb⟩

end Go.Proofs.Ytjckfbpdnpehcaa
