/-
  The order of two texts.
-/
import Derived.Test.YtkmnhapeohlooaaDC
import Derived.Lib.BytesEntry
namespace Go.Proofs.Ytkmnhapeohlooaa
open Go.RowKit

/-- The numbers as the library's bytes. -/
def u8s (xs : List Nat) : List UInt8 := Lib.bytesOf (xs.map fun x : Nat => (x : Int))

theorem u8s_cons (x : Nat) (xs : List Nat) : u8s (x :: xs) = UInt8.ofNat x :: u8s xs := by simp [u8s, Lib.bytesOf]

theorem u8_inj {x y : Nat} (hx : x < 256) (hy : y < 256) : UInt8.ofNat x = UInt8.ofNat y ↔ x = y := by
  constructor
  · intro h
    have h1 := congrArg UInt8.toNat h
    rw [UInt8.toNat_ofNat_of_lt' hx, UInt8.toNat_ofNat_of_lt' hy] at h1
    exact h1
  · rintro rfl; rfl

theorem u8_lt {x y : Nat} (hx : x < 256) (hy : y < 256) : UInt8.ofNat x < UInt8.ofNat y ↔ x < y := by
  rw [UInt8.lt_iff_toNat_lt, UInt8.toNat_ofNat_of_lt' hx, UInt8.toNat_ofNat_of_lt' hy]

/-- Which of two texts stands ahead. -/
def ordT : List Nat → List Nat → Int
  | [], [] => 0
  | [], _ :: _ => -1
  | _ :: _, [] => 1
  | x :: r, y :: s => if x < y then -1 else if y < x then 1 else ordT r s

theorem cmp_ord : ∀ {xs ys : List Nat}, U8 xs → U8 ys → Lib.compareBytes (u8s xs) (u8s ys) = ordT xs ys
  | [], [], _, _ => rfl
  | [], y :: s, _, _ => by simp [u8s, Lib.bytesOf, Lib.compareBytes, ordT]
  | x :: r, [], _, _ => by simp [u8s, Lib.bytesOf, Lib.compareBytes, ordT]
  | x :: r, y :: s, h, h2 => by
    have hx : x < 256 := h x List.mem_cons_self
    have hy : y < 256 := h2 y List.mem_cons_self
    rw [u8s_cons, u8s_cons, Lib.compareBytes, ordT, cmp_ord (fun z hz => h z (List.mem_cons_of_mem _ hz)) (fun z hz => h2 z (List.mem_cons_of_mem _ hz))]
    simp only [u8_lt hx hy, u8_lt hy hx]

/-- A slice's bytes, read by the library's entries. -/
theorem run_bytes {P : Program} {w : World} {A : Option Addr} {n c : Nat} {xs : List Nat} (h : Rd .u8 w A n xs) :
    (Extern.Bytes.bytesOf (.slice A n c)).run P w = .ok ⟨(u8s xs).toArray⟩ w := by
  have hl := h.len
  have he : ∀ l : List UInt8, (⟨ByteArray.empty.data ++ l.toArray⟩ : ByteArray) = ⟨l.toArray⟩ := by
    intro l
    apply ByteArray.ext
    show (#[] : Array UInt8) ++ l.toArray = l.toArray
    simp
  cases A with
  | none =>
    rcases Nat.eq_zero_or_pos n with h0 | h0
    · subst h0
      obtain rfl : xs = [] := List.eq_nil_of_length_eq_zero hl
      rfl
    · obtain ⟨b, o, e, _⟩ := h.2 h0
      cases e
  | some a =>
    have hr := Lib.run_loadBytesX (P := P) w (xs.map fun x : Nat => (x : Int)) a .empty (fun j x hj => by
      rw [List.getElem?_map, Option.map_eq_some_iff] at hj
      obtain ⟨y, hy, rfl⟩ := hj
      have hjl : j < xs.length := (List.getElem?_eq_some_iff.1 hy).1
      obtain ⟨b, o, e, _, hc⟩ := h.at_ (j := j) (by omega)
      injection e with e
      subst e
      have e2 : (⟨b, o, none⟩ : Addr).add j = ⟨b, o + j, none⟩ := by unfold Addr.add; split <;> simp_all
      rw [e2, hc]
      simp [List.getD, hy])
    rw [he, List.length_map, hl] at hr
    exact hr

theorem run_compare {P : Program} {w : World} {A A2 : Option Addr} {n c n2 c2 : Nat} {xs ys : List Nat} (h : Rd .u8 w A n xs) (h2 : Rd .u8 w A2 n2 ys) (hu : U8 xs) (hu2 : U8 ys) :
    (Extern.BytealgCompare.compare #[.slice A n c, .slice A2 n2 c2]).run P w = .ok (.int .i64 (ordT xs ys)) w := by
  have hr := run_bytes (P := P) (c := c) h
  have hr2 := run_bytes (P := P) (c := c2) h2
  change Sem.run P (do pure (goInt (Extern.BytealgCompare.cmp (← Extern.Bytes.bytesOf (.slice A n c)) (← Extern.Bytes.bytesOf (.slice A2 n2 c2))))) w = _
  simp only [Sem.run_bind, hr, hr2, Sem.run_pure, Result.andThen]
  rw [Lib.cmp_eq, cmp_ord hu hu2]
  rfl

/-- The order of two texts: an order. -/
theorem ordT_nil_nil : ordT [] [] = 0 := rfl

theorem ordT_nil_cons {y : Nat} {s : List Nat} : ordT [] (y :: s) = -1 := rfl

theorem ordT_cons_nil {x : Nat} {r : List Nat} : ordT (x :: r) [] = 1 := rfl

theorem ordT_lt {x y : Nat} {r s : List Nat} (h : x < y) : ordT (x :: r) (y :: s) = -1 := by rw [ordT, if_pos h]

theorem ordT_gt {x y : Nat} {r s : List Nat} (h : y < x) : ordT (x :: r) (y :: s) = 1 := by rw [ordT, if_neg (by omega), if_pos h]

theorem ordT_eq {x y : Nat} {r s : List Nat} (h : x = y) : ordT (x :: r) (y :: s) = ordT r s := by rw [ordT, if_neg (by omega), if_neg (by omega)]

theorem ordT_end {xs ys : List Nat} {j : Nat} (h : xs.length ≤ j ∨ ys.length ≤ j) (h2 : j ≤ xs.length) (h3 : j ≤ ys.length) :
    ordT (xs.drop j) (ys.drop j) = if xs.length < ys.length then -1 else if ys.length < xs.length then 1 else 0 := by
  by_cases hx : xs.length ≤ j
  · rw [List.drop_of_length_le hx]
    by_cases hy : ys.length ≤ j
    · rw [List.drop_of_length_le hy, if_neg (by omega), if_neg (by omega)]; rfl
    · rw [drop_cons (by omega), if_pos (by omega)]; rfl
  · have hy : ys.length ≤ j := by omega
    rw [List.drop_of_length_le hy, drop_cons (by omega), if_neg (by omega), if_pos (by omega)]; rfl

/-- Behind what only adds, all that there was reads as before. -/
theorem Ext.cells {a b : World} (h : Ext a b) : ∀ g o, g < a.heap.size → b.cell? ⟨g, o, none⟩ = a.cell? ⟨g, o, none⟩ := fun g o hg => Below.cell h (p := ⟨g, o, none⟩) hg

theorem drew3 (w : World) (a b c : Nat) : ((w.drewN a).drewN b).drewN c = w.drewN (a + b + c) := by rw [World.drewN_drewN, World.drewN_drewN, Nat.add_assoc]

end Go.Proofs.Ytkmnhapeohlooaa
