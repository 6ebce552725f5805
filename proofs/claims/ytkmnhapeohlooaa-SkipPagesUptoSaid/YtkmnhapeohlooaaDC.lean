/-
  Lists of bytes: what lies from a place on (for seats without vint).
-/
import Derived.Test.YtkmnhapeohlooaaA3
import Derived.Test.YtkmnhapeohlooaaB0
import Derived.Lib.BitFns
import Derived.Shelf.Strconv.Itoa0
namespace Go.Proofs.Ytkmnhapeohlooaa
open Go.RowKit

theorem drop_cons {bs : List Nat} {k : Nat} (h : k < bs.length) : bs.drop k = bs.getD k 0 :: bs.drop (k + 1) := by rw [List.drop_eq_getElem_cons h]; simp [List.getD, h]

theorem piece_of (bs : List Nat) (a n : Int) : piece bs a n = (bs.drop a.toNat).take (n.toNat - a.toNat) := by
  unfold piece
  rw [List.drop_take]

theorem u8_take {b : List Nat} (h : U8 b) (n : Nat) : U8 (b.take n) := fun v hv => h v (List.mem_of_mem_take hv)

theorem u8_drop {b : List Nat} (h : U8 b) (n : Nat) : U8 (b.drop n) := fun v hv => h v (List.mem_of_mem_drop hv)

def cut (bs : List Nat) (a m : Nat) : List Nat := (bs.drop a).take m

theorem cut_len {bs : List Nat} {a m : Nat} (h : a + m ≤ bs.length) : (cut bs a m).length = m := by simp [cut]; omega

theorem cut_u8 {bs : List Nat} (h : U8 bs) (a m : Nat) : U8 (cut bs a m) := u8_take (u8_drop h a) m

theorem cut_at {bs : List Nat} {a m i : Nat} (hi : i < m) : (cut bs a m).getD i 0 = bs.getD (a + i) 0 := by
  simp [cut, List.getD, List.getElem?_drop, hi]

theorem piece_cutm {bs : List Nat} (a m : Nat) : piece bs (a : Int) ((a : Int) + (m : Int)) = cut bs a m := by
  unfold piece
  rw [show ((a : Int) + (m : Int)).toNat = a + m from by omega, Int.toNat_natCast, cut, List.drop_take]
  congr 1
  omega


end Go.Proofs.Ytkmnhapeohlooaa
