import Derived.Test.YtkmnhapeohlooaaA1
namespace Go.Proofs.Ytkmnhapeohlooaa
open Go.RowKit

/-- Bytes. -/
def U8 (xs : List Nat) : Prop := ∀ x ∈ xs, x < 256
instance (xs : List Nat) : Decidable (U8 xs) := inferInstanceAs (Decidable (∀ x ∈ xs, x < 256))
theorem U8.at_ {xs : List Nat} (h : U8 xs) (j : Nat) : xs.getD j 0 < 256 := by
  by_cases hj : j < xs.length
  · have := h _ (List.getElem_mem hj); simpa [List.getD, hj] using this
  · simp [List.getD, hj]

/-- The 64 marks. -/
def marks (n : Nat) : List Nat := (List.range n).map fun i => 192 + i % 7
theorem marks_len (n : Nat) : (marks n).length = n := by simp [marks]
theorem marks_succ (n : Nat) : marks (n + 1) = marks n ++ [192 + n % 7] := by simp [marks, List.range_succ]
theorem marks_at {n i : Nat} (h : i < n) : (marks n).getD i 0 = 192 + i % 7 := by simp [marks, List.getD, h]

set_option maxHeartbeats 400000 in
theorem cat_any (A A2 : Option Addr) (n c n2 c2 : Nat) (xs ys : List Nat) (w : World) (hx : Rd .u8 w A n xs) (hy : Rd .u8 w A2 n2 ys) (hn : n + n2 ≤ 180000000000000) :
    Calls Try.prog 47 #[.slice A n c, .slice A2 n2 c2] w fun e w' => ∃ A' c', e = .returned (.slice A' (n + n2 : Nat) c') ∧ Own .u8 5 w' w.heap.size A' c' (xs ++ ys) ∧ Ext w w' := by
  have hl := hx.len
  have hl2 := hy.len
  have Hl := Lib.hid hl
  have Hl2 := Lib.hid hl2
  clear hl hl2
  go_enter Try.func47, Try.ntmps47
  go_wp2
  go_loopw [5, 6] (fun v i wr => ∃ (j : Nat) (A' : Option Addr) (c' : Nat), j ≤ n ∧ i = .int .i64 j ∧ v = .slice A' j c' ∧ Own .u8 5 wr w.heap.size A' c' (xs.take j) ∧ Below w.heap.size w wr) (fun _ i _ => n - (intOf i).toNat)
  case atStart => exact ⟨0, _, _, Nat.zero_le _, rfl, rfl, Own.made _ _ _ (Nat.le_refl _), (Ext.refl w).alloc _⟩
  case round =>
    obtain ⟨j, A', c', hj, rfl, rfl, hown, hb⟩ := hrel
    have hz := hb.size
    by_cases hlt : j < n
    · obtain ⟨b, o, rfl, hbl, hc⟩ := (hx.ext hb).at_ hlt
      have htl : (xs.take j).length = j := by rw [List.length_take, Hl.out]; omega
      have Htl := Lib.hid htl
      clear htl
      go_wp2_with (at_builtin; refine wpList_push .u8 (xs.getD j 0) 5 rfl _ _ 52 rfl _ 1 Try.underlying52 Try.infoU8 rfl hown j Htl.out rfl rfl rfl (by omega) (by omega) hb hz ?_; intro A1 c1 w1 hown1 hb1 hz1)
      go_roundw
      case rel => exact ⟨j + 1, A1, c1, by omega, by go_num, rfl, by rw [take_next _ _ (by have := Hl.out; omega)]; exact hown1, hb1⟩
      case measure => simp [intOf]; omega
    · obtain rfl : j = n := by omega
      rw [List.take_of_length_le (Nat.le_of_eq Hl.out)] at hown
      have h0 : Own .u8 5 wr w.heap.size A' c' (xs ++ ys.take 0) := by simpa using hown
      go_wp2
      go_loopw [5, 7] (fun v i wr => ∃ (q : Nat) (A' : Option Addr) (c' : Nat), q ≤ n2 ∧ i = .int .i64 q ∧ v = .slice A' (j + q : Nat) c' ∧ Own .u8 5 wr w.heap.size A' c' (xs ++ ys.take q) ∧ Below w.heap.size w wr) (fun _ i _ => n2 - (intOf i).toNat)
      case atStart => exact ⟨0, _, _, Nat.zero_le _, rfl, rfl, h0, hb⟩
      case round =>
        clear hown h0 hb hz
        obtain ⟨q, A', c', hq, rfl, rfl, hown, hb⟩ := hrel
        have hz := hb.size
        by_cases hlt : q < n2
        · obtain ⟨b, o, rfl, hbl, hc⟩ := (hy.ext hb).at_ hlt
          have htl : (xs ++ ys.take q).length = j + q := by rw [List.length_append, List.length_take, Hl2.out, Hl.out]; omega
          have Htl := Lib.hid htl
          clear htl
          go_wp2_with (at_builtin; refine wpList_push .u8 (ys.getD q 0) 5 rfl _ _ 52 rfl _ 1 Try.underlying52 Try.infoU8 rfl hown (j + q) Htl.out rfl rfl rfl (by omega) (by omega) hb hz ?_; intro A1 c1 w1 hown1 hb1 hz1)
          go_roundw
          case rel => exact ⟨q + 1, A1, c1, by omega, by go_num, rfl, by rw [take_next _ _ (by have := Hl2.out; omega), ← List.append_assoc]; exact hown1, hb1⟩
          case measure => simp [intOf]; omega
        · obtain rfl : q = n2 := by omega
          rw [List.take_of_length_le (Nat.le_of_eq Hl2.out)] at hown
          go_wp2
          go_ret
          exact ⟨_, _, rfl, hown, hb⟩

set_option maxHeartbeats 400000 in
theorem wide_any (A : Option Addr) (n c : Nat) (xs : List Nat) (w : World) (hx : Rd .u8 w A n xs) (hn : n + 64 ≤ 140737488355328) :
    Calls Try.prog 67 #[.slice A n c] w fun e w' => ∃ A' c', e = .returned (.slice A' (n + 64 : Nat) c') ∧ Own .u8 5 w' w.heap.size A' c' (xs ++ marks 64) ∧ Ext w w' := by
  have hl := hx.len
  have Hl := Lib.hid hl
  clear hl
  go_enter Try.func67, Try.ntmps67
  go_wp2_with (go_at_call 45; refine (copy_any _ _ _ _ _ hx (by omega)).mono ?_; rintro e w1 ⟨A1, c1, rfl, hown1, he1⟩)
  have h0 : Own .u8 5 w1 w.heap.size A1 c1 (xs ++ marks 0) := by simpa [marks] using hown1
  clear hown1
  go_loopw [3, 4] (fun v i wr => ∃ (q : Nat) (A' : Option Addr) (c' : Nat), q ≤ 64 ∧ i = .int .i64 q ∧ v = .slice A' (n + q : Nat) c' ∧ Own .u8 5 wr w.heap.size A' c' (xs ++ marks q) ∧ Below w.heap.size w wr) (fun _ i _ => 64 - (intOf i).toNat)
  case atStart => exact ⟨0, _, _, Nat.zero_le _, rfl, rfl, h0, he1⟩
  case round =>
    clear h0 he1
    obtain ⟨q, A', c', hq, rfl, rfl, hown, hb⟩ := hrel
    have hz := hb.size
    by_cases hlt : q < 64
    · have htl : (xs ++ marks q).length = n + q := by rw [List.length_append, marks_len, Hl.out]
      have Htl := Lib.hid htl
      clear htl
      go_wp2_with (at_builtin; refine wpList_push .u8 (192 + q % 7) 5 rfl _ _ 52 rfl _ 1 Try.underlying52 Try.infoU8 rfl hown (n + q) Htl.out rfl rfl (by omega) (by omega) (by omega) hb hz ?_; intro A1 c1 w1 hown1 hb1 hz1)
      go_roundw
      case rel => exact ⟨q + 1, A1, c1, by omega, by go_num, rfl, by rw [marks_succ, ← List.append_assoc]; exact hown1, hb1⟩
      case measure => simp [intOf]; omega
    · obtain rfl : q = 64 := by omega
      go_wp2
      go_ret
      exact ⟨_, _, rfl, hown, hb⟩

/-- The bytes from lo to hi, as far as there are any. -/
def piece (xs : List Nat) (lo hi : Int) : List Nat := (xs.take hi.toNat).drop lo.toNat

theorem piece_eq (xs : List Nat) (L : Nat) (hi : Int) : (xs.drop L).take (min hi.toNat xs.length - L) = (xs.take hi.toNat).drop L := by
  rw [List.drop_take]
  by_cases h : hi.toNat ≤ xs.length
  · rw [Nat.min_eq_left h]
  · rw [Nat.min_eq_right (by omega), List.take_of_length_le (by simp), List.take_of_length_le (by simp; omega)]

theorem piece_len (xs : List Nat) (L : Nat) (hi : Int) : ((xs.take hi.toNat).drop L).length = min hi.toNat xs.length - L := by simp

end Go.Proofs.Ytkmnhapeohlooaa
