/-
  Plain mathematics of layer 5: kinds, and a cell's first error.
-/
import Derived.Test.YtpjichclpnebjaaV2s
import Derived.Test.YtpjichclpnebjaaB10s
import Derived.Lib.BytesEntry
namespace Go.Proofs.Ytpjichclpnebjaa
open Go.RowKit

/-- A kind of numbers; one of the eight kinds. -/
def numK (k : Int) : Bool := decide (1 ≤ k ∧ k ≤ 6)
def kindK (k : Int) : Bool := decide (1 ≤ k ∧ k ≤ 8)
theorem numK_yes {k : Int} (h : 1 ≤ k ∧ k ≤ 6) : numK k = true := decide_eq_true h
theorem numK_no {k : Int} (h : ¬ (1 ≤ k ∧ k ≤ 6)) : numK k = false := decide_eq_false h
theorem kindK_yes {k : Int} (h : 1 ≤ k ∧ k ≤ 8) : kindK k = true := decide_eq_true h
theorem kindK_no {k : Int} (h : ¬ (1 ≤ k ∧ k ≤ 8)) : kindK k = false := decide_eq_false h

/-- The numbers of a kind of numbers. -/
def least (k : Int) : Int := if k = 1 then -128 else if k = 2 then -32768 else if k = 3 then -2147483648 else if k = 4 then -9223372036854775808 else 0
def great (k : Int) : Int := if k = 1 then 127 else if k = 2 then 32767 else if k = 3 then 2147483647 else if k = 4 then 9223372036854775807 else if k = 5 then 65535 else 1
def fitsK (k v : Int) : Bool := decide (least k ≤ v ∧ v ≤ great k)

/-- A cell's first error. -/
def chk (k : Int) (ok nul : Bool) (num : Int) (txt : List Nat) : Int :=
  if ¬ (1 ≤ k ∧ k ≤ 8) then 1
  else if nul = true then (if ok = true then (if num ≠ 0 ∨ 0 < txt.length then 50 else 0) else 51)
  else if k ≤ 6 then (if 0 < txt.length then 50 else if least k ≤ num ∧ num ≤ great k then 0 else 52)
  else if num ≠ 0 then 50 else if 200 < txt.length then 4 else if k = 7 ∧ 0 ∈ txt then 5 else 0

theorem chk_arg {k : Int} {ok nul : Bool} {num : Int} {txt : List Nat} (h : ¬ (1 ≤ k ∧ k ≤ 8)) : chk k ok nul num txt = 1 := if_pos h
theorem chk_null {k : Int} {ok : Bool} {num : Int} {txt : List Nat} (h : 1 ≤ k ∧ k ≤ 8) : chk k ok true num txt = if ok = true then (if num ≠ 0 ∨ 0 < txt.length then 50 else 0) else 51 := by
  unfold chk; rw [if_neg (fun q => q h), if_pos rfl]
theorem chk_num {k : Int} {ok : Bool} {num : Int} {txt : List Nat} (h : 1 ≤ k ∧ k ≤ 6) : chk k ok false num txt = if 0 < txt.length then 50 else if least k ≤ num ∧ num ≤ great k then 0 else 52 := by
  unfold chk; rw [if_neg (fun q => q (by omega)), if_neg (by decide), if_pos h.2]
theorem chk_txt {k : Int} {ok : Bool} {num : Int} {txt : List Nat} (h : k = 7 ∨ k = 8) : chk k ok false num txt = if num ≠ 0 then 50 else if 200 < txt.length then 4 else if k = 7 ∧ 0 ∈ txt then 5 else 0 := by
  unfold chk; rw [if_neg (fun q => q (by omega)), if_neg (by decide), if_neg (by omega)]

/-- A kind can hold a number. -/
theorem fitsK_iff {k v : Int} : fitsK k v = true ↔ least k ≤ v ∧ v ≤ great k := decide_eq_true_iff
theorem narB_1 (v : Int) : narB v 1 = fitsK 1 v := by
  rw [Bool.eq_iff_iff, fitsK_iff]; unfold narB narV least great; simp; omega
theorem narB_2 (v : Int) : narB v 2 = fitsK 2 v := by
  rw [Bool.eq_iff_iff, fitsK_iff]; unfold narB narV least great; simp; omega
theorem narB_4 (v : Int) : narB v 4 = fitsK 3 v := by
  rw [Bool.eq_iff_iff, fitsK_iff]; unfold narB narV least great; simp; omega

/-- The numbers as the library's bytes. -/
def u8s (xs : List Nat) : List UInt8 := Lib.bytesOf (xs.map fun x : Nat => (x : Int))
theorem u8s_cons (x : Nat) (xs : List Nat) : u8s (x :: xs) = UInt8.ofNat x :: u8s xs := by simp [u8s, Lib.bytesOf]
theorem u8_inj {x y : Nat} (hx : x < 256) (hy : y < 256) : UInt8.ofNat x = UInt8.ofNat y ↔ x = y := by
  constructor
  · intro h
    have h1 := congrArg UInt8.toNat h
    rw [UInt8.toNat_ofNat_of_lt' hx, UInt8.toNat_ofNat_of_lt' hy] at h1
    exact h1
  · rintro rfl; rfl
theorem u8_lt {x y : Nat} (hx : x < 256) (hy : y < 256) : UInt8.ofNat x < UInt8.ofNat y ↔ x < y := by
  rw [UInt8.lt_iff_toNat_lt, UInt8.toNat_ofNat_of_lt' hx, UInt8.toNat_ofNat_of_lt' hy]

theorem idx_zero : ∀ {xs : List Nat}, U8 xs → (0 ≤ Lib.indexByte (u8s xs) 0 ↔ 0 ∈ xs)
  | [], _ => by simp [u8s, Lib.bytesOf, Lib.indexByte]
  | x :: r, h => by
    have hx : x < 256 := h x List.mem_cons_self
    have ih := idx_zero (xs := r) (fun y hy => h y (List.mem_cons_of_mem _ hy))
    have hg := Lib.indexByte_ge (u8s r) 0
    have he : (UInt8.ofNat x == 0) = decide (x = 0) := by
      rw [Bool.eq_iff_iff, beq_iff_eq, decide_eq_true_iff]
      exact u8_inj (y := 0) hx (by omega)
    rw [u8s_cons, Lib.indexByte, he, List.mem_cons]
    by_cases hx0 : x = 0
    · simp [hx0]
    · rw [decide_eq_false hx0]
      simp only [Bool.false_eq_true, if_false]
      by_cases hm : Lib.indexByte (u8s r) 0 = -1
      · rw [hm]
        have : ¬ 0 ∈ r := fun q => by have := ih.2 q; omega
        simp [this]
        omega
      · have hb : (Lib.indexByte (u8s r) 0 == -1) = false := by rw [beq_eq_false_iff_ne]; exact hm
        rw [hb]
        simp only [Bool.false_eq_true, if_false]
        have h0 : 0 ≤ Lib.indexByte (u8s r) 0 := by omega
        have := ih.1 h0
        constructor
        · intro _; exact .inr this
        · intro _; omega

/-- Which of two texts stands ahead. -/
def ordT : List Nat → List Nat → Int
  | [], [] => 0
  | [], _ :: _ => -1
  | _ :: _, [] => 1
  | x :: r, y :: s => if x < y then -1 else if y < x then 1 else ordT r s
theorem cmp_ord : ∀ {xs ys : List Nat}, U8 xs → U8 ys → Lib.compareBytes (u8s xs) (u8s ys) = ordT xs ys
  | [], [], _, _ => rfl
  | [], y :: s, _, _ => by simp [u8s, Lib.bytesOf, Lib.compareBytes, ordT]
  | x :: r, [], _, _ => by simp [u8s, Lib.bytesOf, Lib.compareBytes, ordT]
  | x :: r, y :: s, h, h2 => by
    have hx : x < 256 := h x List.mem_cons_self
    have hy : y < 256 := h2 y List.mem_cons_self
    rw [u8s_cons, u8s_cons, Lib.compareBytes, ordT, cmp_ord (fun z hz => h z (List.mem_cons_of_mem _ hz)) (fun z hz => h2 z (List.mem_cons_of_mem _ hz))]
    simp only [u8_lt hx hy, u8_lt hy hx]

/-- A slice's bytes, read by the library's entries. -/
theorem run_bytes {P : Program} {w : World} {A : Option Addr} {n c : Nat} {xs : List Nat} (h : Rd .u8 w A n xs) :
    (Extern.Bytes.bytesOf (.slice A n c)).run P w = .ok ⟨(u8s xs).toArray⟩ w := by
  have hl := h.len
  have he : ∀ l : List UInt8, (⟨ByteArray.empty.data ++ l.toArray⟩ : ByteArray) = ⟨l.toArray⟩ := by
    intro l
    apply ByteArray.ext
    show (#[] : Array UInt8) ++ l.toArray = l.toArray
    simp
  cases A with
  | none =>
    rcases Nat.eq_zero_or_pos n with h0 | h0
    · subst h0
      obtain rfl : xs = [] := List.eq_nil_of_length_eq_zero hl
      rfl
    · obtain ⟨b, o, e, _⟩ := h.2 h0
      cases e
  | some a =>
    have hr := Lib.run_loadBytesX (P := P) w (xs.map fun x : Nat => (x : Int)) a .empty (fun j x hj => by
      rw [List.getElem?_map, Option.map_eq_some_iff] at hj
      obtain ⟨y, hy, rfl⟩ := hj
      have hjl : j < xs.length := (List.getElem?_eq_some_iff.1 hy).1
      obtain ⟨b, o, e, _, hc⟩ := h.at_ (j := j) (by omega)
      injection e with e
      subst e
      have e2 : (⟨b, o, none⟩ : Addr).add j = ⟨b, o + j, none⟩ := by unfold Addr.add; split <;> simp_all
      rw [e2, hc]
      simp [List.getD, hy])
    rw [he, List.length_map, hl] at hr
    exact hr

theorem run_index {P : Program} {w : World} {A : Option Addr} {n c : Nat} {xs : List Nat} (h : Rd .u8 w A n xs) :
    (Extern.BytealgIndexByte.indexByte #[.slice A n c, .int .u8 0]).run P w = .ok (.int .i64 (Lib.indexByte (u8s xs) 0)) w := by
  have hr := run_bytes (P := P) (c := c) h
  have hs := Lib.run_indexByteString (P := P) ⟨(u8s xs).toArray⟩ 0 w
  change Sem.run P (do
    let b ← Extern.Bytes.bytesOf (.slice A n c)
    let c ← Extern.Bytes.asByte (.int .u8 0)
    match (List.range b.size).find? fun i => b[i]! == c with
    | some i => pure (goInt i)
    | none => pure (goInt (-1))) w = _
  change Sem.run P (do
    let b ← Extern.Bytes.bytesOf (.string ⟨(u8s xs).toArray⟩)
    let c ← Extern.Bytes.asByte (.int .u8 0)
    match (List.range b.size).find? fun i => b[i]! == c with
    | some i => pure (goInt i)
    | none => pure (goInt (-1))) w = _ at hs
  rw [Sem.run_bind, hr]
  rw [Sem.run_bind] at hs
  exact hs

theorem run_compare {P : Program} {w : World} {A A2 : Option Addr} {n c n2 c2 : Nat} {xs ys : List Nat} (h : Rd .u8 w A n xs) (h2 : Rd .u8 w A2 n2 ys) (hu : U8 xs) (hu2 : U8 ys) :
    (Extern.BytealgCompare.compare #[.slice A n c, .slice A2 n2 c2]).run P w = .ok (.int .i64 (ordT xs ys)) w := by
  have hr := run_bytes (P := P) (c := c) h
  have hr2 := run_bytes (P := P) (c := c2) h2
  change Sem.run P (do pure (goInt (Extern.BytealgCompare.cmp (← Extern.Bytes.bytesOf (.slice A n c)) (← Extern.Bytes.bytesOf (.slice A2 n2 c2))))) w = _
  simp only [Sem.run_bind, hr, hr2, Sem.run_pure, Result.andThen]
  rw [Lib.cmp_eq, cmp_ord hu hu2]
  rfl

end Go.Proofs.Ytpjichclpnebjaa
