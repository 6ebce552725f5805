import Derived.Test.YthibbgmicmfkfaaGreatGX1
import Derived.Lib.BytesEntry
import Derived.Laws.OwnMore
import Derived.Laws.AppendOwnNone
import Derived.Deep.DeepAppendWide
import Derived.Lib.AppendZeros
import Derived.Deep.RegionHeld3
namespace Go.Proofs.YthibbgmicmfkfaaGreat
open Go.RowKit
set_option maxRecDepth 100000
theorem nat_xor_all {a : Nat} (h : a < 18446744073709551616) : a ^^^ 18446744073709551615 = 18446744073709551615 - a := by
  have e : (~~~ (BitVec.ofNat 64 a)).toNat = 2 ^ 64 - 1 - a := by
    rw [BitVec.toNat_not, BitVec.toNat_ofNat, Nat.mod_eq_of_lt h]
  rw [BitVec.not_def, BitVec.toNat_xor, BitVec.toNat_allOnes, BitVec.toNat_ofNat, Nat.mod_eq_of_lt h] at e
  rw [Nat.xor_comm]
  exact e
def foldS (v : Int) : Int := if v < 0 then -2 * v - 1 else 2 * v
def unfS (u : Int) : Int := if u % 2 = 0 then u / 2 else -(u / 2) - 1
theorem fold_bits {v : Int} (h0 : -9223372036854775808 ≤ v) (h1 : v ≤ 9223372036854775807) :
    bits .xor .u64 (IntKind.u64.wrap (IntKind.u64.wrap v * 2)) (IntKind.u64.wrap (v / 9223372036854775808)) = foldS v := by
  unfold foldS
  simp only [IntKind.wrap_u64]
  by_cases hv : v < 0
  · rw [if_pos hv]
    have e1 : v % 18446744073709551616 * 2 % 18446744073709551616 = ((2 * v + 18446744073709551616).toNat : Int) := by omega
    have e2 : v / 9223372036854775808 % 18446744073709551616 = ((18446744073709551615 : Nat) : Int) := by omega
    rw [e1, e2, u64_xor_nat _ _ (by omega) (by omega), nat_xor_all (by omega)]
    omega
  · rw [if_neg hv]
    have e1 : v % 18446744073709551616 * 2 % 18446744073709551616 = ((2 * v).toNat : Int) := by omega
    have e2 : v / 9223372036854775808 % 18446744073709551616 = ((0 : Nat) : Int) := by omega
    rw [e1, e2, u64_xor_nat _ _ (by omega) (by omega), Nat.xor_zero]
    omega
theorem unfold_bits {u : Int} (h0 : 0 ≤ u) (h1 : u ≤ 18446744073709551615) : bits .xor .i64 (u / 2) (wrap64 (-wrap64 (bits .and .u64 u 1))) = unfS u := by
  unfold unfS
  have e0 : bits .and .u64 u 1 = u % 2 := by
    have e1 : u = (u.toNat : Int) := by omega
    rw [e1, show (1 : Int) = ((1 : Nat) : Int) from rfl, u64_and_nat _ _ (by omega) (by omega), nat_mask1]
    omega
  rw [e0]
  have hx : ∀ a b : Int, bits .xor .i64 a b = IntKind.i64.wrap ((BitVec.ofInt 64 a ^^^ BitVec.ofInt 64 b).toNat : Int) := fun a b => rfl
  have ha : (BitVec.ofInt 64 (u / 2)).toNat = (u / 2).toNat := by
    have := ofInt_u64 (u / 2).toNat (by omega)
    rwa [Int.toNat_of_nonneg (by omega)] at this
  rw [hx, BitVec.toNat_xor, ha]
  by_cases hp : u % 2 = 0
  · rw [if_pos hp, hp]
    have : (BitVec.ofInt 64 (wrap64 (-wrap64 0))).toNat = 0 := by decide +kernel
    rw [this, Nat.xor_zero, IntKind.wrap_i64]
    omega
  · rw [if_neg hp, show u % 2 = 1 from by omega]
    have : (BitVec.ofInt 64 (wrap64 (-wrap64 1))).toNat = 18446744073709551615 := by decide +kernel
    rw [this, nat_xor_all (by omega), IntKind.wrap_i64]
    omega
theorem fold_any (v : Int) (w : World) (h0 : -9223372036854775808 ≤ v) (h1 : v ≤ 9223372036854775807) :
    Calls Tryz.prog 174 #[.int .i64 v] w fun e w' => e = .returned (.int .u64 (foldS v)) ∧ w = w' := by
  have H := Lib.hid (fold_bits h0 h1)
  go_enter Tryz.func174, Tryz.ntmps174
  go_wp2
  go_ret
  exact ⟨ret_int H.out, rfl⟩
theorem unfold_any (u : Int) (w : World) (h0 : 0 ≤ u) (h1 : u ≤ 18446744073709551615) :
    Calls Tryz.prog 189 #[.int .u64 u] w fun e w' => e = .returned (.int .i64 (unfS u)) ∧ w = w' := by
  have H := Lib.hid (unfold_bits h0 h1)
  go_enter Tryz.func189, Tryz.ntmps189
  go_wp2
  go_ret
  exact ⟨ret_int H.out, rfl⟩
def narV (v size : Int) : Int :=
  if size = 1 then (v + 128) % 256 - 128 else if size = 2 then (v + 32768) % 65536 - 32768 else if size = 4 then (v + 2147483648) % 4294967296 - 2147483648 else if size = 8 then v else 0
def narB (v size : Int) : Bool := if size = 1 ∨ size = 2 ∨ size = 4 ∨ size = 8 then decide (narV v size = v) else false
theorem ret_nar {a a' : Int} {b b' : Bool} (h : a = a') (h2 : b = b') : Ending.returned (.tuple #[.int .i64 a, .bool b]) = .returned (.tuple #[.int .i64 a', .bool b']) := by rw [h, h2]
theorem wrap_i8_eq (n : Int) : IntKind.i8.wrap n = (n + 128) % 256 - 128 := by simp [IntKind.wrap, IntKind.bits, IntKind.signed]; split <;> omega
theorem wrap_i16_eq (n : Int) : IntKind.i16.wrap n = (n + 32768) % 65536 - 32768 := by simp [IntKind.wrap, IntKind.bits, IntKind.signed]; split <;> omega
theorem beq_dec (a b : Int) : (a == b) = decide (a = b) := by rw [Bool.eq_iff_iff]; simp
set_option maxHeartbeats 800000 in
theorem narrow_any (v size : Int) (w : World) (_h0 : -9223372036854775808 ≤ v) (_h1 : v ≤ 9223372036854775807) :
    Calls Tryz.prog 186 #[.int .i64 v, .int .i64 size] w fun e w' => e = .returned (.tuple #[.int .i64 (narV v size), .bool (narB v size)]) ∧ w = w' := by
  obtain ⟨a, ha⟩ : ∃ a, a = narV v size := ⟨_, rfl⟩
  obtain ⟨b, hb⟩ : ∃ b, b = narB v size := ⟨_, rfl⟩
  rw [← ha, ← hb]
  have Ha := Lib.hid ha
  have Hb := Lib.hid hb
  clear ha hb
  go_enter Tryz.func186, Tryz.ntmps186
  go_wp2
  all_goals go_ret2
  · have hs : size = 1 := by have h : (size == 1) = true := by assumption
                             exact beq_iff_eq.1 h
    subst hs
    have e : wrap64 (IntKind.i8.wrap v) = narV v 1 := by unfold wrap64 narV; rw [wrap_i8_eq, if_pos rfl]; omega
    exact ⟨ret_nar (by rw [Ha.out, e]) (by rw [Hb.out, beq_dec, e]; rfl), rfl⟩
  · have hs : size = 2 := by have h : (size == 2) = true := by assumption
                             exact beq_iff_eq.1 h
    subst hs
    have e : wrap64 (IntKind.i16.wrap v) = narV v 2 := by unfold wrap64 narV; rw [wrap_i16_eq, if_neg (by omega), if_pos rfl]; omega
    exact ⟨ret_nar (by rw [Ha.out, e]) (by rw [Hb.out, beq_dec, e]; rfl), rfl⟩
  · have hs : size = 4 := by have h : (size == 4) = true := by assumption
                             exact beq_iff_eq.1 h
    subst hs
    have e : wrap64 (wrap32 v) = narV v 4 := by unfold wrap64 wrap32 narV; rw [if_neg (by omega), if_neg (by omega), if_pos rfl]; omega
    exact ⟨ret_nar (by rw [Ha.out, e]) (by rw [Hb.out, beq_dec, e]; rfl), rfl⟩
  · have hs : size = 8 := by have h : (size == 8) = true := by assumption
                             exact beq_iff_eq.1 h
    subst hs
    have e : v = narV v 8 := by unfold narV; rw [if_neg (by omega), if_neg (by omega), if_neg (by omega), if_pos rfl]
    exact ⟨ret_nar (by rw [Ha.out, ← e]) (by rw [Hb.out]; unfold narB; rw [if_pos (by omega), ← e]; simp), rfl⟩
  · have q1 : ¬ size = 1 := by have h : (size == 1) = false := by assumption
                               simpa using h
    have q2 : ¬ size = 2 := by have h : (size == 2) = false := by assumption
                               simpa using h
    have q4 : ¬ size = 4 := by have h : (size == 4) = false := by assumption
                               simpa using h
    have q8 : ¬ size = 8 := by have h : (size == 8) = false := by assumption
                               simpa using h
    exact ⟨ret_nar (by rw [Ha.out]; unfold narV; rw [if_neg q1, if_neg q2, if_neg q4, if_neg q8]) (by rw [Hb.out]; unfold narB; rw [if_neg (by omega)]), rfl⟩
def numK (k : Int) : Bool := decide (1 ≤ k ∧ k ≤ 6)
def kindK (k : Int) : Bool := decide (1 ≤ k ∧ k ≤ 8)
theorem numK_yes {k : Int} (h : 1 ≤ k ∧ k ≤ 6) : numK k = true := decide_eq_true h
theorem numK_no {k : Int} (h : ¬ (1 ≤ k ∧ k ≤ 6)) : numK k = false := decide_eq_false h
theorem kindK_yes {k : Int} (h : 1 ≤ k ∧ k ≤ 8) : kindK k = true := decide_eq_true h
theorem kindK_no {k : Int} (h : ¬ (1 ≤ k ∧ k ≤ 8)) : kindK k = false := decide_eq_false h
def least (k : Int) : Int := if k = 1 then -128 else if k = 2 then -32768 else if k = 3 then -2147483648 else if k = 4 then -9223372036854775808 else 0
def great (k : Int) : Int := if k = 1 then 127 else if k = 2 then 32767 else if k = 3 then 2147483647 else if k = 4 then 9223372036854775807 else if k = 5 then 65535 else 1
def fitsK (k v : Int) : Bool := decide (least k ≤ v ∧ v ≤ great k)
def chk (k : Int) (ok nul : Bool) (num : Int) (txt : List Nat) : Int :=
  if ¬ (1 ≤ k ∧ k ≤ 8) then 1
  else if nul = true then (if ok = true then (if num ≠ 0 ∨ 0 < txt.length then 50 else 0) else 51)
  else if k ≤ 6 then (if 0 < txt.length then 50 else if least k ≤ num ∧ num ≤ great k then 0 else 52)
  else if num ≠ 0 then 50 else if 200 < txt.length then 4 else if k = 7 ∧ 0 ∈ txt then 5 else 0
theorem chk_arg {k : Int} {ok nul : Bool} {num : Int} {txt : List Nat} (h : ¬ (1 ≤ k ∧ k ≤ 8)) : chk k ok nul num txt = 1 := if_pos h
theorem chk_null {k : Int} {ok : Bool} {num : Int} {txt : List Nat} (h : 1 ≤ k ∧ k ≤ 8) : chk k ok true num txt = if ok = true then (if num ≠ 0 ∨ 0 < txt.length then 50 else 0) else 51 := by
  unfold chk; rw [if_neg (fun q => q h), if_pos rfl]
theorem chk_num {k : Int} {ok : Bool} {num : Int} {txt : List Nat} (h : 1 ≤ k ∧ k ≤ 6) : chk k ok false num txt = if 0 < txt.length then 50 else if least k ≤ num ∧ num ≤ great k then 0 else 52 := by
  unfold chk; rw [if_neg (fun q => q (by omega)), if_neg (by decide), if_pos h.2]
theorem chk_txt {k : Int} {ok : Bool} {num : Int} {txt : List Nat} (h : k = 7 ∨ k = 8) : chk k ok false num txt = if num ≠ 0 then 50 else if 200 < txt.length then 4 else if k = 7 ∧ 0 ∈ txt then 5 else 0 := by
  unfold chk; rw [if_neg (fun q => q (by omega)), if_neg (by decide), if_neg (by omega)]
theorem fitsK_iff {k v : Int} : fitsK k v = true ↔ least k ≤ v ∧ v ≤ great k := decide_eq_true_iff
theorem narB_1 (v : Int) : narB v 1 = fitsK 1 v := by
  rw [Bool.eq_iff_iff, fitsK_iff]; unfold narB narV least great; simp; omega
theorem narB_2 (v : Int) : narB v 2 = fitsK 2 v := by
  rw [Bool.eq_iff_iff, fitsK_iff]; unfold narB narV least great; simp; omega
theorem narB_4 (v : Int) : narB v 4 = fitsK 3 v := by
  rw [Bool.eq_iff_iff, fitsK_iff]; unfold narB narV least great; simp; omega
def u8s (xs : List Nat) : List UInt8 := Lib.bytesOf (xs.map fun x : Nat => (x : Int))
theorem u8s_cons (x : Nat) (xs : List Nat) : u8s (x :: xs) = UInt8.ofNat x :: u8s xs := by simp [u8s, Lib.bytesOf]
theorem u8_inj {x y : Nat} (hx : x < 256) (hy : y < 256) : UInt8.ofNat x = UInt8.ofNat y ↔ x = y := by
  constructor
  · intro h
    have h1 := congrArg UInt8.toNat h
    rw [UInt8.toNat_ofNat_of_lt' hx, UInt8.toNat_ofNat_of_lt' hy] at h1
    exact h1
  · rintro rfl; rfl
theorem u8_lt {x y : Nat} (hx : x < 256) (hy : y < 256) : UInt8.ofNat x < UInt8.ofNat y ↔ x < y := by
  rw [UInt8.lt_iff_toNat_lt, UInt8.toNat_ofNat_of_lt' hx, UInt8.toNat_ofNat_of_lt' hy]
theorem idx_zero : ∀ {xs : List Nat}, U8 xs → (0 ≤ Lib.indexByte (u8s xs) 0 ↔ 0 ∈ xs)
  | [], _ => by simp [u8s, Lib.bytesOf, Lib.indexByte]
  | x :: r, h => by
    have hx : x < 256 := h x List.mem_cons_self
    have ih := idx_zero (xs := r) (fun y hy => h y (List.mem_cons_of_mem _ hy))
    have hg := Lib.indexByte_ge (u8s r) 0
    have he : (UInt8.ofNat x == 0) = decide (x = 0) := by
      rw [Bool.eq_iff_iff, beq_iff_eq, decide_eq_true_iff]
      exact u8_inj (y := 0) hx (by omega)
    rw [u8s_cons, Lib.indexByte, he, List.mem_cons]
    by_cases hx0 : x = 0
    · simp [hx0]
    · rw [decide_eq_false hx0]
      simp only [Bool.false_eq_true, if_false]
      by_cases hm : Lib.indexByte (u8s r) 0 = -1
      · rw [hm]
        have : ¬ 0 ∈ r := fun q => by have := ih.2 q; omega
        simp [this]
        omega
      · have hb : (Lib.indexByte (u8s r) 0 == -1) = false := by rw [beq_eq_false_iff_ne]; exact hm
        rw [hb]
        simp only [Bool.false_eq_true, if_false]
        have h0 : 0 ≤ Lib.indexByte (u8s r) 0 := by omega
        have := ih.1 h0
        constructor
        · intro _; exact .inr this
        · intro _; omega
def ordT : List Nat → List Nat → Int
  | [], [] => 0
  | [], _ :: _ => -1
  | _ :: _, [] => 1
  | x :: r, y :: s => if x < y then -1 else if y < x then 1 else ordT r s
theorem cmp_ord : ∀ {xs ys : List Nat}, U8 xs → U8 ys → Lib.compareBytes (u8s xs) (u8s ys) = ordT xs ys
  | [], [], _, _ => rfl
  | [], y :: s, _, _ => by simp [u8s, Lib.bytesOf, Lib.compareBytes, ordT]
  | x :: r, [], _, _ => by simp [u8s, Lib.bytesOf, Lib.compareBytes, ordT]
  | x :: r, y :: s, h, h2 => by
    have hx : x < 256 := h x List.mem_cons_self
    have hy : y < 256 := h2 y List.mem_cons_self
    rw [u8s_cons, u8s_cons, Lib.compareBytes, ordT, cmp_ord (fun z hz => h z (List.mem_cons_of_mem _ hz)) (fun z hz => h2 z (List.mem_cons_of_mem _ hz))]
    simp only [u8_lt hx hy, u8_lt hy hx]
theorem run_bytes {P : Program} {w : World} {A : Option Addr} {n c : Nat} {xs : List Nat} (h : Rd .u8 w A n xs) :
    (Extern.Bytes.bytesOf (.slice A n c)).run P w = .ok ⟨(u8s xs).toArray⟩ w := by
  have hl := h.len
  have he : ∀ l : List UInt8, (⟨ByteArray.empty.data ++ l.toArray⟩ : ByteArray) = ⟨l.toArray⟩ := by
    intro l
    apply ByteArray.ext
    show (#[] : Array UInt8) ++ l.toArray = l.toArray
    simp
  cases A with
  | none =>
    rcases Nat.eq_zero_or_pos n with h0 | h0
    · subst h0
      obtain rfl : xs = [] := List.eq_nil_of_length_eq_zero hl
      rfl
    · obtain ⟨b, o, e, _⟩ := h.2 h0
      cases e
  | some a =>
    have hr := Lib.run_loadBytesX (P := P) w (xs.map fun x : Nat => (x : Int)) a .empty (fun j x hj => by
      rw [List.getElem?_map, Option.map_eq_some_iff] at hj
      obtain ⟨y, hy, rfl⟩ := hj
      have hjl : j < xs.length := (List.getElem?_eq_some_iff.1 hy).1
      obtain ⟨b, o, e, _, hc⟩ := h.at_ (j := j) (by omega)
      injection e with e
      subst e
      have e2 : (⟨b, o, none⟩ : Addr).add j = ⟨b, o + j, none⟩ := by unfold Addr.add; split <;> simp_all
      rw [e2, hc]
      simp [List.getD, hy])
    rw [he, List.length_map, hl] at hr
    exact hr
theorem run_index {P : Program} {w : World} {A : Option Addr} {n c : Nat} {xs : List Nat} (h : Rd .u8 w A n xs) :
    (Extern.BytealgIndexByte.indexByte #[.slice A n c, .int .u8 0]).run P w = .ok (.int .i64 (Lib.indexByte (u8s xs) 0)) w := by
  have hr := run_bytes (P := P) (c := c) h
  have hs := Lib.run_indexByteString (P := P) ⟨(u8s xs).toArray⟩ 0 w
  change Sem.run P (do
    let b ← Extern.Bytes.bytesOf (.slice A n c)
    let c ← Extern.Bytes.asByte (.int .u8 0)
    match (List.range b.size).find? fun i => b[i]! == c with
    | some i => pure (goInt i)
    | none => pure (goInt (-1))) w = _
  change Sem.run P (do
    let b ← Extern.Bytes.bytesOf (.string ⟨(u8s xs).toArray⟩)
    let c ← Extern.Bytes.asByte (.int .u8 0)
    match (List.range b.size).find? fun i => b[i]! == c with
    | some i => pure (goInt i)
    | none => pure (goInt (-1))) w = _ at hs
  rw [Sem.run_bind, hr]
  rw [Sem.run_bind] at hs
  exact hs
theorem run_compare {P : Program} {w : World} {A A2 : Option Addr} {n c n2 c2 : Nat} {xs ys : List Nat} (h : Rd .u8 w A n xs) (h2 : Rd .u8 w A2 n2 ys) (hu : U8 xs) (hu2 : U8 ys) :
    (Extern.BytealgCompare.compare #[.slice A n c, .slice A2 n2 c2]).run P w = .ok (.int .i64 (ordT xs ys)) w := by
  have hr := run_bytes (P := P) (c := c) h
  have hr2 := run_bytes (P := P) (c := c2) h2
  change Sem.run P (do pure (goInt (Extern.BytealgCompare.cmp (← Extern.Bytes.bytesOf (.slice A n c)) (← Extern.Bytes.bytesOf (.slice A2 n2 c2))))) w = _
  simp only [Sem.run_bind, hr, hr2, Sem.run_pure, Result.andThen]
  rw [Lib.cmp_eq, cmp_ord hu hu2]
  rfl
theorem number_any (k : Int) (w : World) :
    Calls Tryz.prog 114 #[.int .i64 k] w fun e w' => e = .returned (.bool (numK k)) ∧ w = w' := by
  by_cases h : 1 ≤ k ∧ k ≤ 6
  · rw [numK_yes h]
    have h' : k = 1 ∨ k = 2 ∨ k = 3 ∨ k = 4 ∨ k = 5 ∨ k = 6 := by omega
    clear h
    rcases h' with rfl | rfl | rfl | rfl | rfl | rfl
    all_goals
      go_enter Tryz.func114, Tryz.ntmps114
      go_wp2
      go_ret
      exact ⟨rfl, rfl⟩
  · rw [numK_no h]
    have h1 : (k == 1) = false := by rw [beq_eq_false_iff_ne]; omega
    have h2 : (k == 2) = false := by rw [beq_eq_false_iff_ne]; omega
    have h3 : (k == 3) = false := by rw [beq_eq_false_iff_ne]; omega
    have h4 : (k == 4) = false := by rw [beq_eq_false_iff_ne]; omega
    have h5 : (k == 5) = false := by rw [beq_eq_false_iff_ne]; omega
    have h6 : (k == 6) = false := by rw [beq_eq_false_iff_ne]; omega
    clear h
    go_enter Tryz.func114, Tryz.ntmps114
    go_wp2
    go_ret
    exact ⟨rfl, rfl⟩
theorem isKind_any (k : Int) (w : World) :
    Calls Tryz.prog 112 #[.int .i64 k] w fun e w' => e = .returned (.bool (kindK k)) ∧ w = w' := by
  by_cases h : 1 ≤ k ∧ k ≤ 6
  · rw [kindK_yes (by omega)]
    have Hn := Lib.hid (numK_yes h)
    clear h
    go_enter Tryz.func112, Tryz.ntmps112
    go_wp2_with fail
    refine (number_any _ _).mono ?_
    rintro e w1 ⟨rfl, rfl⟩
    rw [Hn.out]
    go_wp2
    go_ret
    exact ⟨rfl, rfl⟩
  · have Hn := Lib.hid (numK_no h)
    by_cases h7 : k = 7
    · subst h7
      rw [kindK_yes (by omega)]
      clear h
      go_enter Tryz.func112, Tryz.ntmps112
      go_wp2_with fail
      refine (number_any _ _).mono ?_
      rintro e w1 ⟨rfl, rfl⟩
      rw [Hn.out]
      go_wp2
      go_ret
      exact ⟨rfl, rfl⟩
    · by_cases h8 : k = 8
      · subst h8
        rw [kindK_yes (by omega)]
        clear h
        go_enter Tryz.func112, Tryz.ntmps112
        go_wp2_with fail
        refine (number_any _ _).mono ?_
        rintro e w1 ⟨rfl, rfl⟩
        rw [Hn.out]
        go_wp2
        go_ret
        exact ⟨rfl, rfl⟩
      · rw [kindK_no (by omega)]
        have e7 : (k == 7) = false := by rw [beq_eq_false_iff_ne]; omega
        have e8 : (k == 8) = false := by rw [beq_eq_false_iff_ne]; omega
        clear h h7 h8
        go_enter Tryz.func112, Tryz.ntmps112
        go_wp2_with fail
        refine (number_any _ _).mono ?_
        rintro e w1 ⟨rfl, rfl⟩
        rw [Hn.out]
        go_wp2
        go_ret
        exact ⟨rfl, rfl⟩
set_option maxRecDepth 100000 in
theorem index_any (A : Option Addr) (n c : Nat) (xs : List Nat) (w : World) (hx : Rd .u8 w A n xs) :
    Calls Tryz.prog 152 #[.slice A n c, .int .u8 0] w fun e w' => e = .returned (.int .i64 (Lib.indexByte (u8s xs) 0)) ∧ w = w' := by
  have Hx := Lib.hid hx
  go_enter Tryz.func152, Tryz.ntmps152
  go_wp2
  rw [run_callFunc_extern Tryz.func187 (by kernel_rfl) (by kernel_rfl) (by kernel_rfl) (e := Extern.BytealgIndexByte.indexByte) (by kernel_rfl), run_index Hx.out]
  simp only [Result.andThen]
  rw [Oper.upon_value]
  go_wp2
  go_ret
  exact ⟨rfl, rfl⟩
theorem holds_any (k v : Int) (w : World) (hk : 1 ≤ k ∧ k ≤ 6) (h0 : -9223372036854775808 ≤ v) (h1 : v ≤ 9223372036854775807) :
    Calls Tryz.prog 151 #[.int .i64 k, .int .i64 v] w fun e w' => e = .returned (.bool (fitsK k v)) ∧ w = w' := by
  have h' : k = 1 ∨ k = 2 ∨ k = 3 ∨ k = 4 ∨ k = 5 ∨ k = 6 := by omega
  clear hk
  rcases h' with rfl | rfl | rfl | rfl | rfl | rfl
  · rw [← narB_1]
    go_enter Tryz.func151, Tryz.ntmps151
    go_wp2_with fail
    refine (narrow_any v 1 _ h0 h1).mono ?_
    rintro e w1 ⟨rfl, rfl⟩
    go_wp2
    go_ret
    exact ⟨rfl, rfl⟩
  · rw [← narB_2]
    go_enter Tryz.func151, Tryz.ntmps151
    go_wp2_with fail
    refine (narrow_any v 2 _ h0 h1).mono ?_
    rintro e w1 ⟨rfl, rfl⟩
    go_wp2
    go_ret
    exact ⟨rfl, rfl⟩
  · rw [← narB_4]
    go_enter Tryz.func151, Tryz.ntmps151
    go_wp2_with fail
    refine (narrow_any v 4 _ h0 h1).mono ?_
    rintro e w1 ⟨rfl, rfl⟩
    go_wp2
    go_ret
    exact ⟨rfl, rfl⟩
  · rw [show fitsK 4 v = true from fitsK_iff.2 ⟨h0, h1⟩]
    go_enter Tryz.func151, Tryz.ntmps151
    go_wp2
    go_ret
    exact ⟨rfl, rfl⟩
  · have hf : fitsK 5 v = decide (0 ≤ v ∧ v ≤ 65535) := rfl
    rw [hf]
    by_cases c1 : 0 ≤ v
    · by_cases c2 : v ≤ 65535
      · rw [decide_eq_true (⟨c1, c2⟩ : 0 ≤ v ∧ v ≤ 65535)]
        go_enter Tryz.func151, Tryz.ntmps151
        go_wp2
        go_ret
        exact ⟨rfl, rfl⟩
      · rw [decide_eq_false (fun q : 0 ≤ v ∧ v ≤ 65535 => c2 q.2)]
        have b2 : decide (v ≤ 65535) = false := decide_eq_false c2
        clear c2
        go_enter Tryz.func151, Tryz.ntmps151
        go_wp2
        go_ret
        exact ⟨rfl, rfl⟩
    · rw [decide_eq_false (fun q : 0 ≤ v ∧ v ≤ 65535 => c1 q.1)]
      have b2 : decide (0 ≤ v) = false := decide_eq_false c1
      clear c1
      go_enter Tryz.func151, Tryz.ntmps151
      go_wp2
      go_ret
      exact ⟨rfl, rfl⟩
  · have hf : fitsK 6 v = decide (0 ≤ v ∧ v ≤ 1) := rfl
    rw [hf]
    by_cases c1 : v = 0
    · subst c1
      go_enter Tryz.func151, Tryz.ntmps151
      go_wp2
      go_ret
      exact ⟨rfl, rfl⟩
    · by_cases c2 : v = 1
      · subst c2
        go_enter Tryz.func151, Tryz.ntmps151
        go_wp2
        go_ret
        exact ⟨rfl, rfl⟩
      · rw [decide_eq_false (fun q : 0 ≤ v ∧ v ≤ 1 => by omega)]
        have b1 : (v == 0) = false := by rw [beq_eq_false_iff_ne]; exact c1
        have b2 : (v == 1) = false := by rw [beq_eq_false_iff_ne]; exact c2
        clear c1 c2
        go_enter Tryz.func151, Tryz.ntmps151
        go_wp2
        go_ret
        exact ⟨rfl, rfl⟩
theorem checkNull_any (ok nul : Bool) (num : Int) (A : Option Addr) (n c : Nat) (w : World) (hn : n ≤ 140737488355328) :
    Calls Tryz.prog 113 #[.bool ok, .agg #[.bool nul, .int .i64 num, .slice A n c]] w fun e w' => e = .returned (.int .i64 (if ok = true then (if num ≠ 0 ∨ 0 < n then 50 else 0) else 51)) ∧ Ext w w' := by
  cases ok with
  | false =>
    go_enter Tryz.func113, Tryz.ntmps113
    go_wp2
    go_ret
    exact ⟨rfl, (Ext.refl w).alloc _⟩
  | true =>
    rw [if_pos rfl]
    by_cases h0 : num = 0
    · subst h0
      by_cases h1 : 0 < n
      · rw [if_pos (.inr h1)]
        go_enter Tryz.func113, Tryz.ntmps113
        go_wp2
        go_ret
        exact ⟨rfl, (Ext.refl w).alloc _⟩
      · obtain rfl : n = 0 := by omega
        go_enter Tryz.func113, Tryz.ntmps113
        go_wp2
        go_ret
        exact ⟨rfl, (Ext.refl w).alloc _⟩
    · rw [if_pos (.inl h0)]
      have b0 : (num != 0) = true := by rw [bne_iff_ne]; exact h0
      clear h0
      go_enter Tryz.func113, Tryz.ntmps113
      go_wp2
      go_ret
      exact ⟨rfl, (Ext.refl w).alloc _⟩
theorem checkNumber_any (k : Int) (nul : Bool) (num : Int) (A : Option Addr) (n c : Nat) (w : World) (hk : 1 ≤ k ∧ k ≤ 6) (h0 : -9223372036854775808 ≤ num) (h1 : num ≤ 9223372036854775807) (hn : n ≤ 140737488355328) :
    Calls Tryz.prog 115 #[.int .i64 k, .agg #[.bool nul, .int .i64 num, .slice A n c]] w fun e w' => e = .returned (.int .i64 (if 0 < n then 50 else if least k ≤ num ∧ num ≤ great k then 0 else 52)) ∧ Ext w w' := by
  by_cases h2 : 0 < n
  · rw [if_pos h2]
    go_enter Tryz.func115, Tryz.ntmps115
    go_wp2
    go_ret
    exact ⟨rfl, (Ext.refl w).alloc _⟩
  · obtain rfl : n = 0 := by omega
    rw [if_neg (by omega)]
    by_cases hf : least k ≤ num ∧ num ≤ great k
    · rw [if_pos hf]
      have Hf := Lib.hid (fitsK_iff.2 hf)
      clear hf
      go_enter Tryz.func115, Tryz.ntmps115
      go_wp2_with fail
      refine (holds_any k num _ hk h0 h1).mono ?_
      rintro e w1 ⟨rfl, rfl⟩
      rw [Hf.out]
      go_wp2
      go_ret
      exact ⟨rfl, (Ext.refl w).alloc _⟩
    · rw [if_neg hf]
      have Hf := Lib.hid (show fitsK k num = false by rw [Bool.eq_false_iff]; exact fun q => hf (fitsK_iff.1 q))
      clear hf
      go_enter Tryz.func115, Tryz.ntmps115
      go_wp2_with fail
      refine (holds_any k num _ hk h0 h1).mono ?_
      rintro e w1 ⟨rfl, rfl⟩
      rw [Hf.out]
      go_wp2
      go_ret
      exact ⟨rfl, (Ext.refl w).alloc _⟩
theorem checkText_any (k : Int) (nul : Bool) (num : Int) (A : Option Addr) (n c : Nat) (txt : List Nat) (w : World) (hx : Rd .u8 w A n txt) (hu : U8 txt) (hk : k = 7 ∨ k = 8) (hn : n ≤ 140737488355328) :
    Calls Tryz.prog 116 #[.int .i64 k, .agg #[.bool nul, .int .i64 num, .slice A n c]] w fun e w' => e = .returned (.int .i64 (if num ≠ 0 then 50 else if 200 < n then 4 else if k = 7 ∧ 0 ∈ txt then 5 else 0)) ∧ Ext w w' := by
  by_cases h0 : num = 0
  · subst h0
    rw [if_neg (fun q => q rfl)]
    by_cases h2 : 200 < n
    · rw [if_pos h2]
      clear hk
      go_enter Tryz.func116, Tryz.ntmps116
      go_wp2
      go_ret
      exact ⟨rfl, (Ext.refl w).alloc _⟩
    · rw [if_neg h2]
      rcases hk with rfl | rfl
      · have hi := idx_zero hu
        obtain ⟨r, hr⟩ : ∃ r, r = Lib.indexByte (u8s txt) 0 := ⟨_, rfl⟩
        rw [← hr] at hi
        have Hr := Lib.hid hr
        clear hr
        by_cases hz : 0 ∈ txt
        · rw [if_pos ⟨rfl, hz⟩]
          have hr0 : 0 ≤ r := hi.2 hz
          clear hi
          go_enter Tryz.func116, Tryz.ntmps116
          go_wp2_with fail
          refine (index_any _ _ _ txt _ (hx.ext ((Ext.refl w).alloc _))).mono ?_
          rintro e w1 ⟨rfl, rfl⟩
          rw [← Hr.out]
          go_wp2
          go_ret
          exact ⟨rfl, (Ext.refl w).alloc _⟩
        · rw [if_neg (fun q => hz q.2)]
          have hr0 : ¬ 0 ≤ r := fun q => hz (hi.1 q)
          have b0 : decide (0 ≤ r) = false := decide_eq_false hr0
          clear hi hr0
          go_enter Tryz.func116, Tryz.ntmps116
          go_wp2_with fail
          refine (index_any _ _ _ txt _ (hx.ext ((Ext.refl w).alloc _))).mono ?_
          rintro e w1 ⟨rfl, rfl⟩
          rw [← Hr.out]
          go_wp2
          go_ret
          exact ⟨rfl, (Ext.refl w).alloc _⟩
      · rw [if_neg (fun q => absurd q.1 (by decide))]
        go_enter Tryz.func116, Tryz.ntmps116
        go_wp2
        go_ret
        exact ⟨rfl, (Ext.refl w).alloc _⟩
  · rw [if_pos h0]
    have b0 : (num != 0) = true := by rw [bne_iff_ne]; exact h0
    clear h0 hk
    go_enter Tryz.func116, Tryz.ntmps116
    go_wp2
    go_ret
    exact ⟨rfl, (Ext.refl w).alloc _⟩
theorem check_any (k : Int) (ok nul : Bool) (num : Int) (A : Option Addr) (n c : Nat) (txt : List Nat) (w : World) (hx : Rd .u8 w A n txt) (hu : U8 txt) (h0 : -9223372036854775808 ≤ num) (h1 : num ≤ 9223372036854775807) (hn : n ≤ 140737488355328) :
    Calls Tryz.prog 74 #[.int .i64 k, .bool ok, .agg #[.bool nul, .int .i64 num, .slice A n c]] w fun e w' => e = .returned (.int .i64 (chk k ok nul num txt)) ∧ Ext w w' := by
  have hl := hx.len
  by_cases hk : 1 ≤ k ∧ k ≤ 8
  · have Hk := Lib.hid (kindK_yes hk)
    cases nul with
    | true =>
      obtain ⟨R, hR⟩ : ∃ R, R = chk k ok true num txt := ⟨_, rfl⟩
      rw [← hR]
      rw [chk_null hk, hl] at hR
      have HR := Lib.hid hR
      clear hR
      clear hl hk
      go_enter Tryz.func74, Tryz.ntmps74
      go_wp2_with fail
      refine (isKind_any _ _).mono ?_
      rintro e w1 ⟨rfl, rfl⟩
      rw [Hk.out]
      go_wp2_with fail
      refine (checkNull_any _ _ _ _ _ _ _ hn).mono ?_
      rintro e w1 ⟨rfl, he1⟩
      rw [← HR.out]
      go_wp2
      go_ret
      exact ⟨rfl, ((Ext.refl w).alloc _).trans he1⟩
    | false =>
      by_cases hs : k ≤ 6
      · have hk6 : 1 ≤ k ∧ k ≤ 6 := by omega
        obtain ⟨R, hR⟩ : ∃ R, R = chk k ok false num txt := ⟨_, rfl⟩
        rw [← hR]
        rw [chk_num hk6, hl] at hR
        have HR := Lib.hid hR
        clear hR
        have Hs := Lib.hid (numK_yes hk6)
        clear hl hk hs
        go_enter Tryz.func74, Tryz.ntmps74
        go_wp2_with fail
        refine (isKind_any _ _).mono ?_
        rintro e w1 ⟨rfl, rfl⟩
        rw [Hk.out]
        go_wp2_with fail
        refine (number_any _ _).mono ?_
        rintro e w1 ⟨rfl, rfl⟩
        rw [Hs.out]
        go_wp2_with fail
        refine (checkNumber_any _ _ _ _ _ _ _ hk6 h0 h1 hn).mono ?_
        rintro e w1 ⟨rfl, he1⟩
        rw [← HR.out]
        go_wp2
        go_ret
        exact ⟨rfl, ((Ext.refl w).alloc _).trans he1⟩
      · have hk7 : k = 7 ∨ k = 8 := by omega
        obtain ⟨R, hR⟩ : ∃ R, R = chk k ok false num txt := ⟨_, rfl⟩
        rw [← hR]
        rw [chk_txt hk7, hl] at hR
        have HR := Lib.hid hR
        clear hR
        have Hs := Lib.hid (numK_no (k := k) (by omega))
        have Hk7 := Lib.hid hk7
        clear hl hk hs hk7
        go_enter Tryz.func74, Tryz.ntmps74
        go_wp2_with fail
        refine (isKind_any _ _).mono ?_
        rintro e w1 ⟨rfl, rfl⟩
        rw [Hk.out]
        go_wp2_with fail
        refine (number_any _ _).mono ?_
        rintro e w1 ⟨rfl, rfl⟩
        rw [Hs.out]
        go_wp2_with fail
        refine (checkText_any _ _ _ _ _ _ txt _ (hx.ext ((Ext.refl w).alloc _)) hu Hk7.out hn).mono ?_
        rintro e w1 ⟨rfl, he1⟩
        rw [← HR.out]
        go_wp2
        go_ret
        exact ⟨rfl, ((Ext.refl w).alloc _).trans he1⟩
  · rw [chk_arg hk]
    have Hk := Lib.hid (kindK_no hk)
    clear hl hk
    go_enter Tryz.func74, Tryz.ntmps74
    go_wp2_with fail
    refine (isKind_any _ _).mono ?_
    rintro e w1 ⟨rfl, rfl⟩
    rw [Hk.out]
    go_wp2
    go_ret
    exact ⟨rfl, (Ext.refl w).alloc _⟩
theorem quietL {P : Program} {f : FuncId} {args : Array Value} {w : World} {n : Nat} {v : Value}
    (h : ∀ W : World, Calls P f args W fun e w' => e = .returned v ∧ W = w') : Calls P f args (w.drewN n) fun e w'' => e = .returned v ∧ ∃ m, w'' = w.drewN m :=
  (h _).mono fun _ _ ⟨he, hm⟩ => ⟨he, n, hm.symm⟩
theorem least_any (k : Int) (w : World) :
    Calls Tryz.prog 129 #[.int .i64 k] w fun e w' => e = .returned (.int .i64 (least k)) ∧ w = w' := by
  by_cases h : k = 1 ∨ k = 2 ∨ k = 3 ∨ k = 4
  · rcases h with rfl | rfl | rfl | rfl
    all_goals
      go_enter Tryz.func129, Tryz.ntmps129
      go_wp2
      go_ret
      exact ⟨rfl, rfl⟩
  · rw [show least k = 0 by unfold least; rw [if_neg (by omega), if_neg (by omega), if_neg (by omega), if_neg (by omega)]]
    have h1 : (k == 1) = false := by rw [beq_eq_false_iff_ne]; omega
    have h2 : (k == 2) = false := by rw [beq_eq_false_iff_ne]; omega
    have h3 : (k == 3) = false := by rw [beq_eq_false_iff_ne]; omega
    have h4 : (k == 4) = false := by rw [beq_eq_false_iff_ne]; omega
    clear h
    go_enter Tryz.func129, Tryz.ntmps129
    go_wp2
    go_ret
    exact ⟨rfl, rfl⟩
theorem great_any (k : Int) (w : World) :
    Calls Tryz.prog 130 #[.int .i64 k] w fun e w' => e = .returned (.int .i64 (great k)) ∧ w = w' := by
  by_cases h : k = 1 ∨ k = 2 ∨ k = 3 ∨ k = 4 ∨ k = 5
  · rcases h with rfl | rfl | rfl | rfl | rfl
    all_goals
      go_enter Tryz.func130, Tryz.ntmps130
      go_wp2
      go_ret
      exact ⟨rfl, rfl⟩
  · rw [show great k = 1 by unfold great; rw [if_neg (by omega), if_neg (by omega), if_neg (by omega), if_neg (by omega), if_neg (by omega)]]
    have h1 : (k == 1) = false := by rw [beq_eq_false_iff_ne]; omega
    have h2 : (k == 2) = false := by rw [beq_eq_false_iff_ne]; omega
    have h3 : (k == 3) = false := by rw [beq_eq_false_iff_ne]; omega
    have h4 : (k == 4) = false := by rw [beq_eq_false_iff_ne]; omega
    have h5 : (k == 5) = false := by rw [beq_eq_false_iff_ne]; omega
    clear h
    go_enter Tryz.func130, Tryz.ntmps130
    go_wp2
    go_ret
    exact ⟨rfl, rfl⟩
theorem zero_any (A : Option Addr) (n c : Nat) (xs : List Nat) (w : World) (hx : Rd .u8 w A n xs) (hn : n ≤ 140737488355328) :
    Calls Tryz.prog 131 #[.slice A n c] w fun e w' => e = .returned (.bool (decide (0 ∈ xs))) ∧ w = w' := by
  have hl := hx.len
  have Hl := Lib.hid hl
  clear hl
  go_enter Tryz.func131, Tryz.ntmps131
  go_wp2
  go_loop [3] (fun i => ∃ j : Nat, j ≤ n ∧ i = .int .i64 j ∧ Hid (∀ t, t < j → xs.getD t 0 ≠ 0)) (fun i => n - (intOf i).toNat)
  case atStart => exact ⟨0, Nat.zero_le _, rfl, fun t ht => absurd ht (by omega)⟩
  case round =>
    obtain ⟨j, hj, rfl, Hs⟩ := hrel
    by_cases hlt : j < n
    · obtain ⟨b, o, rfl, hbl, hc⟩ := hx.at_ hlt
      obtain ⟨u, hu⟩ : ∃ u, u = xs.getD j 0 := ⟨_, rfl⟩
      rw [← hu] at hc
      have Hu := Lib.hid hu
      clear hu
      by_cases h0 : u = 0
      · subst h0
        go_wp2
        go_ret
        have hm : 0 ∈ xs := by
          have h1 : j < xs.length := by have := Hl.out; omega
          have h2 : xs.getD j 0 = xs[j] := by simp [List.getD, h1]
          have h3 := Hu.out
          rw [h2] at h3
          rw [h3]
          exact List.getElem_mem h1
        exact ⟨by rw [decide_eq_true hm]; rfl, rfl⟩
      · have hne : ((u : Int) == 0) = false := by rw [beq_eq_false_iff_ne]; omega
        have H0 := Lib.hid h0
        clear h0
        go_wp2
        go_round
        case rel => exact ⟨j + 1, by omega, by go_num, fun t ht => by
          by_cases h : t < j
          · exact Hs.out t h
          · obtain rfl : t = j := by omega
            rw [← Hu.out]; exact H0.out⟩
        case measure => simp [intOf]; omega
    · obtain rfl : j = n := by omega
      go_wp2
      go_ret
      have hm : ¬ 0 ∈ xs := by
        intro hm
        obtain ⟨i, hi, he⟩ := List.getElem_of_mem hm
        have h1 := Hs.out i (by have := Hl.out; omega)
        apply h1
        simp [List.getD, hi, he]
      exact ⟨by rw [decide_eq_false hm]; rfl, rfl⟩
set_option maxHeartbeats 1600000 in
theorem refCheck_any (k : Int) (ok nul : Bool) (num : Int) (A : Option Addr) (n c : Nat) (txt : List Nat) (w : World) (hx : Rd .u8 w A n txt) (h0 : -9223372036854775808 ≤ num) (h1 : num ≤ 9223372036854775807) (hn : n ≤ 140737488355328) :
    Calls Tryz.prog 90 #[.int .i64 k, .bool ok, .agg #[.bool nul, .int .i64 num, .slice A n c]] w fun e w' => e = .returned (.int .i64 (chk k ok nul num txt)) ∧ Ext w w' := by
  have hl := hx.len
  by_cases hk : 1 ≤ k ∧ k ≤ 8
  · have hk1 : 1 ≤ k := hk.1
    have hk8 : k ≤ 8 := hk.2
    have b1 : decide (k < 1) = false := decide_eq_false (by omega)
    have b2 : decide (8 < k) = false := decide_eq_false (by omega)
    cases nul with
    | true =>
      rw [chk_null hk, hl]
      clear hl hk
      cases ok with
      | false =>
        go_enter Tryz.func90, Tryz.ntmps90
        go_wp2
        go_ret
        exact ⟨rfl, (Ext.refl w).alloc _⟩
      | true =>
        rw [if_pos rfl]
        by_cases h2 : num = 0
        · subst h2
          by_cases h3 : 0 < n
          · rw [if_pos (.inr h3)]
            go_enter Tryz.func90, Tryz.ntmps90
            go_wp2
            go_ret
            exact ⟨rfl, (Ext.refl w).alloc _⟩
          · obtain rfl : n = 0 := by omega
            go_enter Tryz.func90, Tryz.ntmps90
            go_wp2
            go_ret
            exact ⟨rfl, (Ext.refl w).alloc _⟩
        · rw [if_pos (.inl h2)]
          have b0 : (num != 0) = true := by rw [bne_iff_ne]; exact h2
          clear h2
          go_enter Tryz.func90, Tryz.ntmps90
          go_wp2
          go_ret
          exact ⟨rfl, (Ext.refl w).alloc _⟩
    | false =>
      by_cases hs : k ≤ 6
      · have hk6 : 1 ≤ k ∧ k ≤ 6 := by omega
        rw [chk_num hk6, hl]
        clear hl hk
        by_cases h3 : 0 < n
        · rw [if_pos h3]
          go_enter Tryz.func90, Tryz.ntmps90
          go_wp2
          go_ret
          exact ⟨rfl, (Ext.refl w).alloc _⟩
        · obtain rfl : n = 0 := by omega
          rw [if_neg (by omega)]
          clear h3
          by_cases hc1 : num < least k
          · rw [if_neg (by omega)]
            have d1 : decide (num < least k) = true := decide_eq_true hc1
            clear hc1
            go_enter Tryz.func90, Tryz.ntmps90
            go_wp2_with fail
            go_quiet ((first | (go_at_call 129; exact quietL (least_any _)) | (go_at_call 130; exact quietL (great_any _)) | fail))
            go_wp2
            go_ret
            exact ⟨rfl, ((Ext.refl w).alloc _).drewN _⟩
          · have d1 : decide (num < least k) = false := decide_eq_false hc1
            by_cases hc2 : great k < num
            · rw [if_neg (by omega)]
              have d2 : decide (great k < num) = true := decide_eq_true hc2
              clear hc1 hc2
              go_enter Tryz.func90, Tryz.ntmps90
              go_wp2
              go_quiet ((first | (go_at_call 129; exact quietL (least_any _)) | (go_at_call 130; exact quietL (great_any _)) | fail))
              go_wp2
              go_ret
              exact ⟨rfl, ((Ext.refl w).alloc _).drewN _⟩
            · rw [if_pos (by omega)]
              have d2 : decide (great k < num) = false := decide_eq_false hc2
              clear hc1 hc2
              go_enter Tryz.func90, Tryz.ntmps90
              go_wp2
              go_quiet ((first | (go_at_call 129; exact quietL (least_any _)) | (go_at_call 130; exact quietL (great_any _)) | fail))
              go_wp2
              go_ret
              exact ⟨rfl, ((Ext.refl w).alloc _).drewN _⟩
      · have hk7 : k = 7 ∨ k = 8 := by omega
        rw [chk_txt hk7, hl]
        have b3 : decide (k ≤ 6) = false := decide_eq_false hs
        clear hl hk hs
        by_cases h2 : num = 0
        · subst h2
          rw [if_neg (fun q => q rfl)]
          by_cases h3 : 200 < n
          · rw [if_pos h3]
            clear hk7
            go_enter Tryz.func90, Tryz.ntmps90
            go_wp2
            go_ret
            exact ⟨rfl, (Ext.refl w).alloc _⟩
          · rw [if_neg h3]
            rcases hk7 with rfl | rfl
            · by_cases hz : 0 ∈ txt
              · rw [if_pos ⟨rfl, hz⟩]
                have Hz := Lib.hid (decide_eq_true hz)
                clear hz
                go_enter Tryz.func90, Tryz.ntmps90
                go_wp2_with fail
                refine (zero_any _ _ _ txt _ (hx.ext ((Ext.refl w).alloc _)) hn).mono ?_
                rintro e w1 ⟨rfl, rfl⟩
                rw [Hz.out]
                go_wp2
                go_ret
                exact ⟨rfl, (Ext.refl w).alloc _⟩
              · rw [if_neg (fun q => hz q.2)]
                have Hz := Lib.hid (decide_eq_false hz)
                clear hz
                go_enter Tryz.func90, Tryz.ntmps90
                go_wp2_with fail
                refine (zero_any _ _ _ txt _ (hx.ext ((Ext.refl w).alloc _)) hn).mono ?_
                rintro e w1 ⟨rfl, rfl⟩
                rw [Hz.out]
                go_wp2
                go_ret
                exact ⟨rfl, (Ext.refl w).alloc _⟩
            · rw [if_neg (fun q => absurd q.1 (by decide))]
              go_enter Tryz.func90, Tryz.ntmps90
              go_wp2
              go_ret
              exact ⟨rfl, (Ext.refl w).alloc _⟩
        · rw [if_pos h2]
          have b0 : (num != 0) = true := by rw [bne_iff_ne]; exact h2
          clear h2 hk7
          go_enter Tryz.func90, Tryz.ntmps90
          go_wp2
          go_ret
          exact ⟨rfl, (Ext.refl w).alloc _⟩
  · rw [chk_arg hk]
    clear hl
    by_cases hk1 : k < 1
    · clear hk
      go_enter Tryz.func90, Tryz.ntmps90
      go_wp2
      go_ret
      exact ⟨rfl, (Ext.refl w).alloc _⟩
    · have b1 : decide (k < 1) = false := decide_eq_false (by omega)
      have b2 : 8 < k := by omega
      clear hk
      go_enter Tryz.func90, Tryz.ntmps90
      go_wp2
      go_ret
      exact ⟨rfl, (Ext.refl w).alloc _⟩
def RdSS (w : World) (A : Option Addr) (n : Nat) (xss : List (List Nat)) : Prop :=
  xss.length = n ∧ (0 < n → ∃ b o, A = some ⟨b, o, none⟩ ∧ b < w.heap.size ∧ ∀ j, j < n → ∃ a m c, w.cell? ⟨b, o + j, none⟩ = some (.slice a m c) ∧ Rd .u8 w a m (xss.getD j []))
theorem RdSS.len {w : World} {A : Option Addr} {n : Nat} {xss : List (List Nat)} (h : RdSS w A n xss) : xss.length = n := h.1
theorem RdSS.at_ {w : World} {A : Option Addr} {n : Nat} {xss : List (List Nat)} (h : RdSS w A n xss) {j : Nat} (hj : j < n) :
    ∃ b o a m c, A = some ⟨b, o, none⟩ ∧ b < w.heap.size ∧ w.cell? ⟨b, o + j, none⟩ = some (.slice a m c) ∧ Rd .u8 w a m (xss.getD j []) := by
  obtain ⟨b, o, e, hb, hc⟩ := h.2 (by omega)
  obtain ⟨a, m, c, h1, h2⟩ := hc j hj
  exact ⟨b, o, a, m, c, e, hb, h1, h2⟩
theorem RdSS.ext {w w' : World} {A : Option Addr} {n : Nat} {xss : List (List Nat)} (h : RdSS w A n xss) (hb : Ext w w') : RdSS w' A n xss :=
  ⟨h.1, fun hn => by
    obtain ⟨b, o, e, hlt, hc⟩ := h.2 hn
    refine ⟨b, o, e, Nat.lt_of_lt_of_le hlt hb.size, fun j hj => ?_⟩
    obtain ⟨a, m, c, h1, h2⟩ := hc j hj
    exact ⟨a, m, c, (Below.cell hb (p := ⟨b, o + j, none⟩) hlt).trans h1, h2.ext hb⟩⟩
theorem RdSS.lit (e : TypeId) (w : World) (ss : List (Option Addr × Nat × Nat)) (xss : List (List Nat)) (hl : xss.length = ss.length)
    (h : ∀ j, j < ss.length → Rd .u8 w (ss.getD j (none, 0, 0)).1 (ss.getD j (none, 0, 0)).2.1 (xss.getD j [])) :
    RdSS (w.alloc (.cells (ss.map fun s => Value.slice s.1 s.2.1 s.2.2).toArray e)) (some ⟨w.heap.size, 0, none⟩) ss.length xss := by
  refine ⟨hl, fun hn => ⟨w.heap.size, 0, rfl, by simp, fun j hj => ⟨(ss.getD j (none, 0, 0)).1, (ss.getD j (none, 0, 0)).2.1, (ss.getD j (none, 0, 0)).2.2, ?_, (h j hj).ext ((Ext.refl w).alloc _)⟩⟩⟩
  rw [cell_of_row _ w.heap.size (0 + j) _ e (0, 0) (heap_alloc_new w _)]
  simp [hj]
theorem RdSS.one (e : TypeId) (w : World) {b n c : Nat} {A : Option Addr} {xs : List Nat} (hb : w.heap.size = b) (h : Rd .u8 w A n xs) :
    RdSS (w.alloc (.cells #[.slice A n c] e)) (some ⟨b, 0, none⟩) 1 [xs] := by
  subst hb
  exact RdSS.lit e w [(A, n, c)] [xs] rfl (fun j hj => by
    obtain rfl : j = 0 := by simp at hj; omega
    exact h)
theorem RdSS.two (e : TypeId) (w : World) {b n c n2 c2 : Nat} {A A2 : Option Addr} {xs ys : List Nat} (hb : w.heap.size = b) (h : Rd .u8 w A n xs) (h2 : Rd .u8 w A2 n2 ys) :
    RdSS (w.alloc (.cells #[.slice A n c, .slice A2 n2 c2] e)) (some ⟨b, 0, none⟩) 2 [xs, ys] := by
  subst hb
  exact RdSS.lit e w [(A, n, c), (A2, n2, c2)] [xs, ys] rfl (fun j hj => by
    have hj2 : j < 2 := hj
    rcases (show j = 0 ∨ j = 1 by omega) with rfl | rfl
    · exact h
    · exact h2)
theorem RdSS.three (e : TypeId) (w : World) {b n c n2 c2 n3 c3 : Nat} {A A2 A3 : Option Addr} {xs ys zs : List Nat} (hb : w.heap.size = b) (h : Rd .u8 w A n xs) (h2 : Rd .u8 w A2 n2 ys) (h3 : Rd .u8 w A3 n3 zs) :
    RdSS (w.alloc (.cells #[.slice A n c, .slice A2 n2 c2, .slice A3 n3 c3] e)) (some ⟨b, 0, none⟩) 3 [xs, ys, zs] := by
  subst hb
  exact RdSS.lit e w [(A, n, c), (A2, n2, c2), (A3, n3, c3)] [xs, ys, zs] rfl (fun j hj => by
    have hj2 : j < 3 := hj
    rcases (show j = 0 ∨ j = 1 ∨ j = 2 by omega) with rfl | rfl | rfl
    · exact h
    · exact h2
    · exact h3)
theorem take_nextL (xss : List (List Nat)) (j : Nat) (h : j < xss.length) : xss.take (j + 1) = xss.take j ++ [xss.getD j []] := by
  rw [List.take_succ_eq_append_getElem h]; simp [List.getD, h]
def cat (xss : List (List Nat)) (j : Nat) : List Nat := (xss.take j).flatten
theorem cat_zero (xss : List (List Nat)) : cat xss 0 = [] := rfl
theorem cat_succ {xss : List (List Nat)} {j : Nat} (h : j < xss.length) : cat xss (j + 1) = cat xss j ++ xss.getD j [] := by rw [cat, take_nextL _ _ h]; simp [cat]
theorem cat_all (xss : List (List Nat)) : cat xss xss.length = xss.flatten := by simp [cat]
def U8s (xss : List (List Nat)) : Prop := ∀ xs ∈ xss, U8 xs
theorem U8s.at_ {xss : List (List Nat)} (h : U8s xss) (j : Nat) : U8 (xss.getD j []) := by
  by_cases hj : j < xss.length
  · have := h _ (List.getElem_mem hj); simpa [List.getD, hj] using this
  · simp [List.getD, hj]; intro v hv; cases hv
theorem U8s.cat {xss : List (List Nat)} (h : U8s xss) (j : Nat) : U8 (cat xss j) := by
  intro v hv
  obtain ⟨l, hl, hv⟩ := List.mem_flatten.1 hv
  exact h l (List.mem_of_mem_take hl) v hv
theorem cat_le {xss : List (List Nat)} {j : Nat} : (cat xss j).length ≤ xss.flatten.length := by
  have : xss.flatten = cat xss j ++ (xss.drop j).flatten := by rw [cat, ← List.flatten_append, List.take_append_drop]
  rw [this, List.length_append]
  omega
theorem run_append_none {P : Program} {w : World} {base : Nat} {e : TypeId} (t ty : TypeId) (i : TypeInfo) (size c : Nat) (ht : P.underlying t = some (.slice e)) (hi : P.info? e = some i)
    (v : Value) (n : Nat) (xs : List Value) (hown : w.ownsRow base e size v n xs) :
    (Builtin.append_ #[t, t] ty #[v, .slice none 0 c]).run P w = .ok v w := by
  rcases hown.2 with ⟨rfl, rfl⟩ | ⟨g, cap, cur, rfl, _, _, hnc, _⟩
  · simp [Builtin.append_, run_underlying ht, sizeOf, typeInfo, hi, Builtin.lenOf, Builtin.firstCells]
  · simp [Builtin.append_, run_underlying ht, sizeOf, typeInfo, hi, Builtin.lenOf, Builtin.firstCells, hnc, storeCells]
theorem wpList_pushes {P : Program} {w0 w : World} {ops : Array Oper} {rest : List Oper} {o : Oper} {a : Act} {Q : Exit → Act → World → Prop} (k : IntKind) (e : TypeId) (hgd : o.guard = none) (s y : Operand) (t : TypeId)
    (ho : o.op = .call { callee := .builtin .append, args := #[s, y], argTypes := #[t, t] })
    (z : Value) (bytes : Nat) (ht : P.underlying t = some (.slice e)) (hi : (P.info? e).map (fun i => (i.zero, i.size, i.bytes)) = some (some z, 1, bytes)) (hzs : z.cells.size = 1)
    {base : Nat} {A A2 : Option Addr} {c m c2 : Nat} {xs ys : List Nat} (hown : Own k e w base A c xs) (n : Nat) (hn : xs.length = n) (hs : a.eval s = .slice A n c)
    (hy : a.eval y = .slice A2 m c2) (hrd : Rd k w A2 m ys) (hlen : ((n + m) + (n + m) / 4 + 192) * bytes ≤ 281474976710656) (hby : 0 < bytes) (hb : Below base w0 w) (hbase : base ≤ w.heap.size)
    (h : ∀ A' c' w', Own k e w' base A' c' (xs ++ ys) → Below base w0 w' → base ≤ w'.heap.size → wpList P ops Q rest (a.put o.dst (.slice A' (n + m : Nat) c')) w') :
    wpList P ops Q (o :: rest) a w := by
  subst hn
  obtain ⟨i, hi0, hz, hsz, hbs⟩ := info_parts hi
  have hle : xs.length + m ≤ 281474976710656 := Nat.le_trans (Nat.le_trans (by omega) (Nat.le_mul_of_pos_right ((xs.length + m) + (xs.length + m) / 4 + 192) hby)) hlen
  have hyl := hrd.len
  cases A2 with
  | none =>
    have hm : m = 0 := by
      rcases Nat.eq_zero_or_pos m with h0 | h0
      · exact h0
      · obtain ⟨b, o, he, _⟩ := hrd.2 h0
        cases he
    subst hm
    obtain rfl : ys = [] := List.eq_nil_of_length_eq_zero hyl
    refine wpList_plain hgd fun K hK => ?_
    have hrun := run_append_none (P := P) (w := w) t o.type i 1 c2 ht hi0 _ _ _ hown
    unfold Oper.wp
    simp [execOp, ho, resolve, invoke, builtin, hs, hy, hrun, Result.andThen]
    have hh := h A c w (by simpa using hown) hb hbase
    exact hK _ _ hh
  | some ad =>
    refine wpList_append_own_wide _ hgd s y t ho base e i z 1 bytes ht hi0 hz hsz hbs hzs (by decide) _ xs.length (xs.map fun x : Nat => Value.int k (x : Int)) hs hown
      ad m c2 (ys.map fun x : Nat => Value.int k (x : Int)) hy (by simp [hyl]) ?_ ?_ (by unfold maxLen; omega) hlen hbase ?_
    · intro j u hj
      have hjl : j < ys.length := by
        have := (List.getElem?_eq_some_iff.1 hj).1
        simpa using this
      obtain ⟨b, o', he, hbl, hc⟩ := hrd.at_ (j := j) (by omega)
      injection he with he
      subst he
      have hadd : (⟨b, o', none⟩ : Addr).add j = ⟨b, o' + j, none⟩ := by simp [Addr.add]
      rw [hadd, hc]
      rw [List.getElem?_map, List.getElem?_eq_getElem hjl] at hj
      simp at hj
      simp [← hj, hjl]
    · intro u hu
      obtain ⟨x, _, rfl⟩ := List.mem_map.1 hu
      rfl
    · intro v' w' hown' hg hnil
      have hform : ∃ A' c', v' = .slice A' (xs.length + m) c' := by
        rcases hown'.2 with ⟨hv, h0⟩ | ⟨g, cap, cur, hv, _⟩
        · exact ⟨none, 0, by rw [hv, h0]⟩
        · exact ⟨_, _, hv⟩
      obtain ⟨A', c', rfl⟩ := hform
      have hb' : Below base w0 w' := Below.grown hb hg hbase (fun g hg' => (hown.lt g hg').1)
      refine h A' c' w' ?_ hb' ?_
      · unfold Own
        rw [List.length_append, hyl, List.map_append]
        exact hown'
      · have := hg.size
        omega
theorem Ext.setRow {a b : World} (h : Ext a b) {g : Nat} (hg : a.heap.size ≤ g) (cs : Array Value) : Ext a (b.setRow g cs) :=
  ⟨h.os, h.tape, h.output, by have := h.size; simpa using this, fun i hi => (setRow_other b g i cs (by omega)).trans (h.block i hi)⟩
theorem grown_setRow (w : World) (g : Nat) (cs : Array Value) : w.grownBy (w.setRow g cs) (some g) :=
  ⟨rfl, rfl, rfl, by simp, fun i _ hne => setRow_other w g i cs (fun e => hne (by rw [e]))⟩
theorem Ext.kept {w w' : World} {o : Obj} (h : Ext (w.alloc o) w') : w'.heap[w.heap.size]? = some o := by
  rw [h.block w.heap.size (by simp)]
  exact heap_alloc_new w o
theorem Ext.undrew' {w w' : World} (h : Ext w.drew w') : Ext w w' := ⟨h.os, h.tape, h.output, h.size, h.block⟩
theorem grown_setCell (w : World) (g i : Nat) (v : Value) : w.grownBy (w.setCell ⟨g, i, none⟩ v) (some g) :=
  ⟨rfl, rfl, rfl, by simp [World.setCell], fun k _ hne => heap_setCell_other w ⟨g, i, none⟩ k v (fun e => hne (by rw [e]))⟩
theorem results_cell1 {P : Program} {fn : Func} {p : Tmp} {ty : TypeId} (h : fn.results = #[.cell p ty]) (tmps : Array Value) (w : World) (g : Nat) (T : TypeId) (cs : Array Value) (fr : Nat × Nat) (d : TypeDesc)
    (hp : tmps.getD p undef = .pointer (some ⟨g, 0, none⟩)) (hg : w.heap[g]? = some (.cells cs T fr))
    (hu : P.underlying ty = some d) (hd : (match d with | .struct _ | .array _ _ => true | _ => false) = true) (hi : (P.info? ty).map (·.size) = some cs.size) :
    (results fn tmps).run P w = .ok (.agg cs) w := by
  have hp' : tmps[p]?.getD undef = .pointer (some ⟨g, 0, none⟩) := by simpa using hp
  simp [results, h, hp', asAddr, run_loadVar_row w g T ty cs fr d hg hu hd hi]
theorem results_cell3 {P : Program} {fn : Func} {p t u : Tmp} {ty : TypeId} (h : fn.results = #[.cell p ty, .tmp t, .tmp u]) (tmps : Array Value) (w : World) (g : Nat) (T : TypeId) (cs : Array Value) (fr : Nat × Nat) (d : TypeDesc)
    (hp : tmps.getD p undef = .pointer (some ⟨g, 0, none⟩)) (hg : w.heap[g]? = some (.cells cs T fr))
    (hu : P.underlying ty = some d) (hd : (match d with | .struct _ | .array _ _ => true | _ => false) = true) (hi : (P.info? ty).map (·.size) = some cs.size) :
    (results fn tmps).run P w = .ok (.tuple #[.agg cs, tmps.getD t undef, tmps.getD u undef]) w := by
  have hp' : tmps[p]?.getD undef = .pointer (some ⟨g, 0, none⟩) := by simpa using hp
  simp [results, h, hp', asAddr, run_loadVar_row w g T ty cs fr d hg hu hd hi]
theorem wpList_store_cell {ops : Array Oper} {rest : List Oper} {o : Oper} {a : Act} {w : World} {Q : Exit → Act → World → Prop} (hgd : o.guard = none) (x y : Operand) (ho : o.op = .store 61 x y)
    (g : Nat) (u v s : Value) (hx : a.eval x = .pointer (some ⟨g, 0, none⟩)) (hy : a.eval y = .agg #[u, v, s]) {u0 v0 s0 : Value} (hg : w.heap[g]? = some (.cells #[u0, v0, s0] 61)) (h1 : u.oneCell' = true) (h2 : v.oneCell' = true) (h3 : s.oneCell' = true)
    (h : wpList Tryz.prog ops Q rest (a.put o.dst undef) (w.setRow g #[u, v, s])) : wpList Tryz.prog ops Q (o :: rest) a w :=
  wpList_store_row hgd 61 x y ho g #[u, v, s] hx hy 61 #[u0, v0, s0] hg (by kernel_rfl) rfl (by simp [h1, h2, h3]) h
theorem Own.far {k : IntKind} {e : TypeId} {w w' : World} {base c b : Nat} {A : Option Addr} {xs : List Nat} (h : Own k e w base A c xs) (hg : w.grownBy w' (some b)) (hb : b < base) : Own k e w' base A c xs :=
  h.grown hg fun a ha e => by
    injection e with e
    have := (h.block a ha).1
    omega
structure Boxed (w W : World) (nul : Bool) (num : Int) (A : Option Addr) (n c : Nat) : Prop where
  ext : Ext w W
  size : W.heap.size = w.heap.size + 2
  box : ∀ w', Ext (w.alloc (.cells #[.bool nul, .int .i64 num, .slice A n c] 61)) w' → w'.cell? ⟨w.heap.size, 0, none⟩ = some (.bool nul) ∧ w'.cell? ⟨w.heap.size, 1, none⟩ = some (.int .i64 num) ∧ w'.cell? ⟨w.heap.size, 2, none⟩ = some (.slice A n c)
  mid : Ext (w.alloc (.cells #[.bool nul, .int .i64 num, .slice A n c] 61)) W
  res : ∀ w', Ext W w' → w'.heap[w.heap.size + 1]? = some (.cells #[.bool false, .int .i64 0, .slice none 0 0] 61)
theorem boxed (w : World) (nul : Bool) (num : Int) (A : Option Addr) (n c : Nat) :
    Boxed w ((w.alloc (.cells #[.bool nul, .int .i64 num, .slice A n c] 61)).alloc (.cells #[.bool false, .int .i64 0, .slice none 0 0] 61)) nul num A n c := by
  have h1 : ∀ w', Ext (w.alloc (.cells #[.bool nul, .int .i64 num, .slice A n c] 61)) w' → w'.heap[w.heap.size]? = some (.cells #[.bool nul, .int .i64 num, .slice A n c] 61) := fun w' he => Ext.kept he
  refine ⟨((Ext.refl w).alloc _).alloc _, by simp, fun w' he => ?_, (Ext.refl _).alloc _, fun w' he => ?_⟩
  · exact ⟨cell_of_row w' w.heap.size 0 _ _ (0, 0) (h1 w' he), cell_of_row w' w.heap.size 1 _ _ (0, 0) (h1 w' he), cell_of_row w' w.heap.size 2 _ _ (0, 0) (h1 w' he)⟩
  · have h := Ext.kept he
    simpa using h
set_option maxHeartbeats 1600000 in
theorem twin_any (nul : Bool) (num : Int) (A : Option Addr) (n c : Nat) (txt : List Nat) (w : World) (hx : Rd .u8 w A n txt) (hn : n ≤ 140737488355328) :
    Calls Tryz.prog 53 #[.agg #[.bool nul, .int .i64 num, .slice A n c]] w fun e w' => ∃ A' c', e = .returned (.agg #[.bool nul, .int .i64 num, .slice A' n c']) ∧ Own .u8 5 w' w.heap.size A' c' txt ∧ Ext w w' := by
  obtain ⟨W7, hW7⟩ : ∃ W7, W7 = w.alloc (.cells #[.bool nul, .int .i64 num, .slice A n c] 61) := ⟨_, rfl⟩
  have hB := boxed w nul num A n c
  obtain ⟨W8, hW8⟩ : ∃ W8, W8 = (w.alloc (.cells #[.bool nul, .int .i64 num, .slice A n c] 61)).alloc (.cells #[.bool false, .int .i64 0, .slice none 0 0] 61) := ⟨_, rfl⟩
  rw [← hW8] at hB
  have hx8 := hx.ext hB.ext
  have hs7 : W7.heap.size = w.heap.size + 1 := by rw [hW7]; simp
  have hM := hB.mid
  have hBx := hB.box
  rw [← hW7] at hM hBx
  have K1 := Lib.hid hB.res
  have K3 := Lib.hid hBx
  have hM' := Lib.hid hM
  have HB := Lib.hid hB
  have Hs7 := Lib.hid (Nat.le_of_eq hs7)
  clear hM hBx hB hs7 hW7
  go_enter Tryz.func53, Tryz.ntmps53
  go_wp2_with fail
  rw [← hW8]
  have g8 := K3.out _ hM'.out
  have g80 := g8.1
  have g81 := g8.2.1
  have g82 := g8.2.2
  clear hW8 hx
  go_region_held3 (fun w' => w'.cell? ⟨w.heap.size, 0, none⟩ = some (.bool nul) ∧ w'.cell? ⟨w.heap.size, 1, none⟩ = some (.int .i64 num) ∧ w'.cell? ⟨w.heap.size, 2, none⟩ = some (.slice A n c))
    (first | exact g8 | exact K3.out _ (hM'.out.trans he6.undrew') | exact K3.out _ (hM'.out.trans he6) | exact K3.out _ ((((hM'.out.trans he6.undrew').setCell Hs7.out _).setCell Hs7.out _).setCell Hs7.out _) | fail)
    (first
      | (go_at_call 38; refine (copy_any _ _ _ txt _ ?_ hn).mono ?_; exact hx8; rintro e w6 ⟨A6, c6, rfl, hown6, he6⟩; have hK6 := K1.out w6 (by first | exact he6.undrew' | exact he6); have kc0 := cell_of_row w6 (w.heap.size + 1) 0 _ _ (0, 0) hK6; have kc1 := cell_of_row w6 (w.heap.size + 1) 1 _ _ (0, 0) hK6; have kc2 := cell_of_row w6 (w.heap.size + 1) 2 _ _ (0, 0) hK6; have kf0 := frozen_of_row w6 (w.heap.size + 1) 0 _ _ hK6; have kf1 := frozen_of_row w6 (w.heap.size + 1) 1 _ _ hK6; have kf2 := frozen_of_row w6 (w.heap.size + 1) 2 _ _ hK6; simp only [List.getElem?_toArray, List.getElem?_cons_zero, List.getElem?_cons_succ] at kc0 kc1 kc2; have HK6 := Lib.hid hK6; clear hK6)
      | fail)
  have e1 : w6.heap[w.heap.size + 1]? = some (.cells #[.bool false, .int .i64 0, .slice none 0 0] 61) := HK6.out
  have e2 := heap_setCell_same _ (w.heap.size + 1) 0 _ _ (.bool nul) e1
  have e3 := heap_setCell_same _ (w.heap.size + 1) 1 _ _ (.int .i64 num) e2
  have e4 := heap_setCell_same _ (w.heap.size + 1) 2 _ _ (.slice A6 n c6) e3
  have hle : w.heap.size + 2 ≤ W8.drew.heap.size := Nat.le_of_eq HB.out.size.symm
  have ho := (((hown6.mono hle).far (grown_setCell w6 (w.heap.size + 1) 0 (.bool nul)) (by omega)).far (grown_setCell _ (w.heap.size + 1) 1 (.int .i64 num)) (by omega)).far (grown_setCell _ (w.heap.size + 1) 2 (.slice A6 n c6)) (by omega)
  have hE := ((((HB.out.ext.trans he6.undrew').setCell (p := ⟨w.heap.size + 1, 0, none⟩) (Nat.le_succ _) (.bool nul)).setCell (p := ⟨w.heap.size + 1, 1, none⟩) (Nat.le_succ _) (.int .i64 num))).setCell (p := ⟨w.heap.size + 1, 2, none⟩) (Nat.le_succ _) (.slice A6 n c6)
  go_wp2_with fail
  apply bodyPost_ret
  · exact results_cell1 rfl _ _ (w.heap.size + 1) 61 #[.bool nul, .int .i64 num, .slice A6 n c6] (0, 0) _ rfl e4 Tryz.underlying61 rfl (by kernel_rfl)
  · rfl
  exact ⟨A6, c6, rfl, ho.mono (by omega), hE⟩
def alk (nul : Bool) (num : Int) (txt : List Nat) (nul2 : Bool) (num2 : Int) (txt2 : List Nat) : Bool := decide (nul = nul2 ∧ num = num2 ∧ txt = txt2)
theorem alk_iff {nul : Bool} {num : Int} {txt : List Nat} {nul2 : Bool} {num2 : Int} {txt2 : List Nat} : alk nul num txt nul2 num2 txt2 = true ↔ nul = nul2 ∧ num = num2 ∧ txt = txt2 := decide_eq_true_iff
set_option maxHeartbeats 800000 in
theorem alike_any (nul : Bool) (num : Int) (A : Option Addr) (n c : Nat) (txt : List Nat) (nul2 : Bool) (num2 : Int) (A2 : Option Addr) (n2 c2 : Nat) (txt2 : List Nat) (w : World)
    (hx : Rd .u8 w A n txt) (hy : Rd .u8 w A2 n2 txt2) (hn : n ≤ 281474976710656) (hn2 : n2 ≤ 281474976710656) :
    Calls Tryz.prog 50 #[.agg #[.bool nul, .int .i64 num, .slice A n c], .agg #[.bool nul2, .int .i64 num2, .slice A2 n2 c2]] w fun e w' => e = .returned (.bool (alk nul num txt nul2 num2 txt2)) ∧ Ext w w' := by
  have hE : Ext w ((w.alloc (.cells #[.bool nul, .int .i64 num, .slice A n c] 61)).alloc (.cells #[.bool nul2, .int .i64 num2, .slice A2 n2 c2] 61)) := ((Ext.refl w).alloc _).alloc _
  have hx2 := hx.ext hE
  have hy2 := hy.ext hE
  by_cases hb : nul = nul2
  · subst hb
    by_cases hi : num = num2
    · subst hi
      rw [show alk nul num txt nul num txt2 = decide (txt = txt2) from by unfold alk; simp]
      obtain ⟨D, hD⟩ : ∃ D, D = decide (txt = txt2) := ⟨_, rfl⟩
      rw [← hD]
      have HD := Lib.hid hD
      clear hD
      have b1 : (nul == nul) = true := by simp
      have b2 : (num == num) = true := by simp
      go_enter Tryz.func50, Tryz.ntmps50
      go_wp2_with fail
      refine (same_any A A2 n c n2 c2 txt txt2 _ hx2 hy2 hn hn2).mono ?_
      rintro e w1 ⟨rfl, q, rfl⟩
      rw [← HD.out]
      go_wp2
      go_ret
      exact ⟨rfl, hE.drewN q⟩
    · rw [show alk nul num txt nul num2 txt2 = false from decide_eq_false (fun q => hi q.2.1)]
      have b1 : (nul == nul) = true := by simp
      have b2 : (num == num2) = false := by rw [beq_eq_false_iff_ne]; exact hi
      clear hi
      go_enter Tryz.func50, Tryz.ntmps50
      go_wp2
      go_ret
      exact ⟨rfl, hE⟩
  · rw [show alk nul num txt nul2 num2 txt2 = false from decide_eq_false (fun q => hb q.1)]
    have b1 : (nul == nul2) = false := by rw [beq_eq_false_iff_ne]; exact hb
    clear hb
    go_enter Tryz.func50, Tryz.ntmps50
    go_wp2
    go_ret
    exact ⟨rfl, hE⟩
theorem ordT_lt {x y : Nat} {r s : List Nat} (h : x < y) : ordT (x :: r) (y :: s) = -1 := by rw [ordT, if_pos h]
theorem ordT_gt {x y : Nat} {r s : List Nat} (h : y < x) : ordT (x :: r) (y :: s) = 1 := by rw [ordT, if_neg (by omega), if_pos h]
theorem ordT_eq {x y : Nat} {r s : List Nat} (h : x = y) : ordT (x :: r) (y :: s) = ordT r s := by rw [ordT, if_neg (by omega), if_neg (by omega)]
theorem ordT_end {xs ys : List Nat} {j : Nat} (h : xs.length ≤ j ∨ ys.length ≤ j) (h2 : j ≤ xs.length) (h3 : j ≤ ys.length) :
    ordT (xs.drop j) (ys.drop j) = if xs.length < ys.length then -1 else if ys.length < xs.length then 1 else 0 := by
  by_cases hx : xs.length ≤ j
  · rw [List.drop_of_length_le hx]
    by_cases hy : ys.length ≤ j
    · rw [List.drop_of_length_le hy, if_neg (by omega), if_neg (by omega)]; rfl
    · rw [drop_cons (by omega), if_pos (by omega)]; rfl
  · have hy : ys.length ≤ j := by omega
    rw [List.drop_of_length_le hy, drop_cons (by omega), if_neg (by omega), if_pos (by omega)]; rfl
theorem Ext.cells {a b : World} (h : Ext a b) : ∀ g o, g < a.heap.size → b.cell? ⟨g, o, none⟩ = a.cell? ⟨g, o, none⟩ := fun g o hg => Below.cell h (p := ⟨g, o, none⟩) hg
theorem drew3 (w : World) (a b c : Nat) : ((w.drewN a).drewN b).drewN c = w.drewN (a + b + c) := by rw [World.drewN_drewN, World.drewN_drewN, Nat.add_assoc]
end Go.Proofs.YthibbgmicmfkfaaGreat
-- part SL
namespace Go.Proofs.YthibbgmicmfkfaaGreat
open Go.RowKit
set_option maxRecDepth 100000
theorem Tryz.infoS : (Tryz.prog.info? 22).map (fun i => (i.zero, i.size, i.bytes)) = some (some (.slice none 0 0), 1, 24) := by kernel_rfl
structure Sl where
  A : Option Addr
  c : Nat
  body : List Nat
def Sl.v (s : Sl) : Value := .slice s.A s.body.length s.c
def OwnS (w : World) (base : Nat) (A : Option Addr) (c : Nat) (ss : List Sl) : Prop := w.ownsRow base 22 1 (.slice A ss.length c) ss.length (ss.map Sl.v)
theorem OwnS.made {base : Nat} (w : World) (hb : base ≤ w.heap.size) : OwnS (w.alloc (.cells #[] 22)) base (some ⟨w.heap.size, 0, none⟩) 0 [] :=
  World.ownsRow_made w #[] 0 hb (by simp [maxLen]) (by simp)
theorem OwnS.ext {w w' : World} {base c : Nat} {A : Option Addr} {ss : List Sl} (h : OwnS w base A c ss) (hb : Ext w w') : OwnS w' base A c ss := by
  refine World.ownsRow.kept (row := none) h ⟨hb.os, hb.tape, hb.output, hb.size, fun i hi _ => hb.block i hi⟩ ?_
  cases hv : (Value.slice A ss.length c).ownBlock <;> simp
theorem Own.zero {k : IntKind} {e : TypeId} {w : World} {base c : Nat} {A : Option Addr} {xs : List Nat} (h : Own k e w base A c xs) : Own k e w 0 A c xs :=
  ⟨h.1, h.2.imp id fun ⟨g, cap, cur, h1, _, h3⟩ => ⟨g, cap, cur, h1, Nat.zero_le _, h3⟩⟩
theorem OwnS.block {w : World} {base c : Nat} {A : Option Addr} {ss : List Sl} (h : OwnS w base A c ss) : ∀ a, A = some a → base ≤ a.block ∧ a.block < w.heap.size := by
  rintro a rfl
  exact h.lt a.block rfl
end Go.Proofs.YthibbgmicmfkfaaGreat
-- part F7
namespace Go.Proofs.YthibbgmicmfkfaaGreat
open Go.RowKit
structure Kept (w wr : World) (ss : List Sl) : Prop where
  os : wr.os = w.os
  tape : wr.tape = w.tape
  output : wr.output = w.output
  size : w.heap.size ≤ wr.heap.size
  block : ∀ b, b < w.heap.size → (∀ s ∈ ss, ∀ p, s.A = some p → p.block ≠ b) → wr.heap[b]? = w.heap[b]?
theorem Kept.refl (w : World) (ss : List Sl) : Kept w w ss := ⟨rfl, rfl, rfl, Nat.le_refl _, fun _ _ _ => rfl⟩
theorem Kept.ext {w wr w' : World} {ss : List Sl} (h : Kept w wr ss) (he : Ext wr w') : Kept w w' ss :=
  ⟨he.os.trans h.os, he.tape.trans h.tape, he.output.trans h.output, Nat.le_trans h.size he.size, fun b hb hn => (he.block b (Nat.lt_of_lt_of_le hb h.size)).trans (h.block b hb hn)⟩
theorem Kept.grown {w wr w' : World} {ss : List Sl} {row : Option Nat} (h : Kept w wr ss) (hg : wr.grownBy w' row) (hr : ∀ g, row = some g → w.heap.size ≤ g ∨ ∃ s ∈ ss, ∃ p, s.A = some p ∧ p.block = g) : Kept w w' ss :=
  ⟨hg.os.trans h.os, hg.tape.trans h.tape, hg.output.trans h.output, Nat.le_trans h.size hg.size, fun b hb hn => (hg.block b (Nat.lt_of_lt_of_le hb h.size) (fun e => by
    rcases hr b e.symm with h1 | ⟨s, hs, p, hp, hpb⟩
    · omega
    · exact hn s hs p hp hpb)).trans (h.block b hb hn)⟩
def Far (ss : List Sl) (A : Option Addr) : Prop := ∀ s ∈ ss, ∀ p q, s.A = some p → A = some q → p.block ≠ q.block
theorem Rd.kept {k : IntKind} {w wr : World} {A : Option Addr} {n : Nat} {xs : List Nat} {ss : List Sl} (h : Rd k w A n xs) (hk : Kept w wr ss) (hf : 0 < n → Far ss A) : Rd k wr A n xs :=
  ⟨h.1, fun hn => by
    obtain ⟨b, o, e, hlt, hc⟩ := h.2 hn
    refine ⟨b, o, e, Nat.lt_of_lt_of_le hlt hk.size, fun j hj => ?_⟩
    rw [← hc j hj]
    exact World.cell?_of_block (a := ⟨b, o + j, none⟩) (hk.block b hlt (fun s hs p hp => hf hn s hs p _ hp e))⟩
def RdL (w : World) (A : Option Addr) (n : Nat) (ss : List Sl) : Prop :=
  ss.length = n ∧ (0 < n → ∃ b o, A = some ⟨b, o, none⟩ ∧ b < w.heap.size ∧ ∀ j s, ss[j]? = some s → w.cell? ⟨b, o + j, none⟩ = some s.v)
theorem RdL.kept {w wr : World} {A : Option Addr} {n : Nat} {ss tt : List Sl} (h : RdL w A n tt) (hk : Kept w wr ss) (hf : 0 < n → Far ss A) : RdL wr A n tt :=
  ⟨h.1, fun hn => by
    obtain ⟨b, o, e, hlt, hc⟩ := h.2 hn
    refine ⟨b, o, e, Nat.lt_of_lt_of_le hlt hk.size, fun j s hj => ?_⟩
    rw [← hc j s hj]
    exact World.cell?_of_block (a := ⟨b, o + j, none⟩) (hk.block b hlt (fun s hs p hp => hf hn s hs p _ hp e))⟩
theorem OwnS.rdL {w : World} {base c : Nat} {A : Option Addr} {ss : List Sl} (h : OwnS w base A c ss) : RdL w A ss.length ss := by
  refine ⟨rfl, fun hn => ?_⟩
  rcases h.2 with ⟨_, h0⟩ | ⟨g, cap, cur, hv, hg, hh, hnc, hcm, hcs, htake⟩
  · omega
  · injection hv with hA hl hc
    subst hA
    refine ⟨g, 0, rfl, (Array.getElem?_eq_some_iff.1 hh).1, fun j s hj => ?_⟩
    have hjl : j < ss.length := (List.getElem?_eq_some_iff.1 hj).1
    rw [cell_of_row w g _ cur _ (0, 0) hh, Nat.zero_add]
    have h1 : (cur.toList.take (ss.length * 1))[j]? = some s.v := by rw [htake, List.getElem?_map, hj]; rfl
    rw [List.getElem?_take, if_pos (by omega)] at h1
    simpa using h1
theorem RdL.at_ {w : World} {A : Option Addr} {n : Nat} {ss : List Sl} (h : RdL w A n ss) {j : Nat} (hj : j < n) :
    ∃ b o s, A = some ⟨b, o, none⟩ ∧ ss[j]? = some s ∧ w.cell? ⟨b, o + j, none⟩ = some (.slice s.A s.body.length s.c) := by
  obtain ⟨b, o, e, hlt, hc⟩ := h.2 (by omega)
  have hjl : j < ss.length := by rw [h.1]; exact hj
  have hf : ss[j]? = some ss[j] := List.getElem?_eq_getElem hjl
  exact ⟨b, o, _, e, hf, hc j _ hf⟩
def Unlike (ss : List Sl) : Prop := ∀ (i j : Nat) (s t : Sl), ss[i]? = some s → ss[j]? = some t → i ≠ j → ∀ p q, s.A = some p → t.A = some q → p.block ≠ q.block
def St2 (wr : World) (ss : List Sl) (i : Nat) : Prop :=
  ∀ (j : Nat) (s : Sl), ss[j]? = some s → (j < i → Own .u8 5 wr 0 s.A s.c (s.body.map spl)) ∧ (i ≤ j → Own .u8 5 wr 0 s.A s.c s.body)
theorem St2.step {wr w' : World} {ss : List Sl} {i : Nat} {s : Sl} (h : St2 wr ss i) (hun : Unlike ss) (hs : ss[i]? = some s) (ho : Own .u8 5 w' 0 s.A s.c (s.body.map spl)) (hg : wr.grownBy w' (s.A.map (·.block))) : St2 w' ss (i + 1) := by
  have hne : ∀ (j : Nat) (t : Sl), ss[j]? = some t → j ≠ i → ∀ a, t.A = some a → some a.block ≠ s.A.map (·.block) := by
    intro j t ht hji a ha e
    cases hA : s.A with
    | none => rw [hA] at e; simp at e
    | some p => rw [hA] at e; simp at e; exact hun j i t s ht hs hji a p ha hA e
  intro j t ht
  constructor
  · intro hj
    by_cases hji : j = i
    · subst hji
      rw [hs] at ht
      injection ht with ht
      subst ht
      exact ho
    · exact ((h j t ht).1 (by omega)).grown hg (hne j t ht hji)
  · intro hj
    exact ((h j t ht).2 (by omega)).grown hg (hne j t ht (by omega))
def St3 (wr : World) (ss : List Sl) (i : Nat) : Prop :=
  ∀ (j : Nat) (s : Sl), ss[j]? = some s → Rd .u8 wr s.A s.body.length (s.body.map spl) ∧ (i ≤ j → Own .u8 5 wr 0 s.A s.c (s.body.map spl))
structure St4 (w wr : World) (ss : List Sl) (i : Nat) (s : Sl) (A' : Option Addr) (c' k : Nat) (ys : List Nat) : Prop where
  own : Own .u8 5 wr 0 A' c' ys
  len : ys.length = s.body.length + k
  pre : ys.take s.body.length = s.body.map spl
  at_ : ∀ p, A' = some p → s.A = some p ∨ w.heap.size ≤ p.block
  rest : St3 wr ss (i + 1)
  kept : Kept w wr ss
theorem St4.push {w wr w1 : World} {ss : List Sl} {i c' c1 k x : Nat} {s : Sl} {A' A1 : Option Addr} {ys : List Nat} (h : St4 w wr ss i s A' c' k ys) (hun : Unlike ss) (hs : ss[i]? = some s)
    (hlt : ∀ t ∈ ss, ∀ p, t.A = some p → p.block < w.heap.size)
    (ho : Own .u8 5 w1 0 A1 c1 (ys ++ [x])) (hw : A1 = A' ∧ wr.grownBy w1 (A'.map (·.block)) ∨ Ext wr w1 ∧ ∀ q, A1 = some q → wr.heap.size ≤ q.block) :
    St4 w w1 ss i s A1 c1 (k + 1) (ys ++ [x]) := by
  have hp : (ys ++ [x]).take s.body.length = s.body.map spl := by rw [List.take_append_of_le_length (by have := h.len; omega)]; exact h.pre
  have hl : (ys ++ [x]).length = s.body.length + (k + 1) := by have := h.len; simp; omega
  rcases hw with ⟨rfl, hg⟩ | ⟨he, hq⟩
  · have hne : ∀ (j : Nat) (t : Sl), ss[j]? = some t → j ≠ i → ∀ a, t.A = some a → some a.block ≠ A1.map (·.block) := by
      intro j t ht hji a ha e
      cases hA : A1 with
      | none => rw [hA] at e; simp at e
      | some p =>
        rw [hA] at e
        simp at e
        rcases h.at_ p hA with h1 | h1
        · exact hun j i t s ht hs hji a p ha h1 e
        · have := hlt t (List.mem_of_getElem? ht) a ha
          omega
    refine ⟨ho, hl, hp, h.at_, fun j t ht => ?_, h.kept.grown hg ?_⟩
    · refine ⟨?_, fun hj => ((h.rest j t ht).2 hj).grown hg (hne j t ht (by omega))⟩
      by_cases hji : j = i
      · subst hji
        rw [hs] at ht
        injection ht with ht
        subst ht
        by_cases h0 : 0 < s.body.length
        · obtain ⟨b, o, hA, hb, _⟩ := (h.rest j s hs).1.2 h0
          obtain ⟨b', hA'⟩ := h.own.head (by have := h.len; omega)
          rcases h.at_ _ hA' with e | e
          · have := ho.rd_take (n := s.body.length) (by omega)
            rw [hp, hA', ← e] at this
            exact this
          · refine (h.rest j s hs).1.grown hg ?_
            intro a ha e2
            rw [hA'] at e2
            simp at e2
            have h3 := hlt s (List.mem_of_getElem? hs) a ha
            have h4 : w.heap.size ≤ b' := e
            omega
        · exact ⟨(h.rest j s hs).1.1, fun q => absurd q h0⟩
      · exact (h.rest j t ht).1.grown hg (hne j t ht hji)
    · intro g hg'
      cases hA : A1 with
      | none => rw [hA] at hg'; simp at hg'
      | some p =>
        rw [hA] at hg'
        simp at hg'
        subst hg'
        rcases h.at_ p hA with h1 | h1
        · exact .inr ⟨s, List.mem_of_getElem? hs, p, h1, rfl⟩
        · exact .inl h1
  · exact ⟨ho, hl, hp, fun p hp => .inr (Nat.le_trans h.kept.size (hq p hp)), fun j t ht => ⟨(h.rest j t ht).1.ext he, fun hj => ((h.rest j t ht).2 hj).ext he⟩, h.kept.ext he⟩
end Go.Proofs.YthibbgmicmfkfaaGreat
-- part F8
namespace Go.Proofs.YthibbgmicmfkfaaGreat
open Go.RowKit
theorem St2.all {wr : World} {ss : List Sl} {n : Nat} (h : St2 wr ss n) (hn : ss.length = n) : St3 wr ss 0 := fun j s hs => by
  have hj : j < n := by rw [← hn]; exact (List.getElem?_eq_some_iff.1 hs).1
  have ho := (h j s hs).1 hj
  exact ⟨ho.rd' (by rw [List.length_map]), fun _ => ho⟩
end Go.Proofs.YthibbgmicmfkfaaGreat
namespace Go.Proofs.YthibbgmicmfkfaaGreat
open Go.RowKit
set_option maxRecDepth 100000
theorem Tryz.elemU8 : Tryz.prog.elem 22 = 5 := by kernel_rfl
theorem run_sizeU8 (w : World) : (sizeOf (Tryz.prog.elem 22)).run Tryz.prog w = .ok 1 w := by
  obtain ⟨i, hi0, hz, hsz, hbs⟩ := info_parts Tryz.infoU8
  rw [Tryz.elemU8]
  simp [sizeOf, typeInfo, hi0, hsz]
theorem Tryz.underSl : Tryz.prog.underlying 22 = some (.slice (Tryz.prog.elem 22)) := by kernel_rfl
def offA (A : Option Addr) (k m : Nat) : Option Addr := if m = k then A else A.map (·.add k)
theorem Rd.offA {w : World} {A : Option Addr} {n k m : Nat} {bs : List Nat} (h : Rd .u8 w A n bs) (hk : k ≤ n) (hm : n ≤ m) : Rd .u8 w (offA A k m) (n - k) (bs.drop k) := by
  refine ⟨by rw [List.length_drop, h.1], fun hn => ?_⟩
  obtain ⟨b, o, rfl, hb, hc⟩ := h.2 (by omega)
  refine ⟨b, o + k, by unfold Go.Proofs.YthibbgmicmfkfaaGreat.offA; rw [if_neg (by omega)]; simp [Addr.add], hb, fun j hj => ?_⟩
  have := hc (k + j) (by omega)
  rw [Nat.add_assoc, this]
  simp [List.getD, List.getElem?_drop]
theorem run_from (A : Option Addr) (n c k : Nat) (hk : k ≤ n) : ∀ W : World, (Instr.slice 22 (.slice A n c) (some (.int .i64 (k : Int))) none none).run Tryz.prog W = .ok (.slice (offA A k c) (n - k : Nat) (c - k : Nat)) W := by
  intro W
  rw [run_slice_l W _ A n c Tryz.underSl .i64 k (by omega) (by omega), run_sizeU8]
  simp only [Result.andThen, sliced, Int.toNat_natCast, Nat.mul_one]
  rfl
theorem run_upto (kh : IntKind) (A : Option Addr) (n c k : Nat) (hk : k ≤ c) : ∀ W : World, (Instr.slice 22 (.slice A n c) none (some (.int kh (k : Int))) none).run Tryz.prog W = .ok (.slice A k c) W := by
  intro W
  rw [run_slice_h W _ A n c Tryz.underSl kh k (by omega) (by omega), run_sizeU8]
  simp only [Result.andThen, sliced, Int.toNat_natCast, Nat.mul_one, Nat.sub_zero]
  congr 1
  split
  · rfl
  · cases A with
    | none => rfl
    | some a => simp [Addr.add]
theorem run_cut (A : Option Addr) (n c l h : Nat) (hl : l ≤ h) (hh : h ≤ c) : ∀ W : World, (Instr.slice 22 (.slice A n c) (some (.int .i64 (l : Int))) (some (.int .i64 (h : Int))) none).run Tryz.prog W = .ok (.slice (offA A l c) (h - l : Nat) (c - l : Nat)) W := by
  intro W
  rw [run_slice_lh W _ A n c Tryz.underSl .i64 .i64 l h (by omega) (by omega) (by omega), run_sizeU8]
  simp only [Result.andThen, sliced, Int.toNat_natCast, Nat.mul_one]
  rfl
theorem Rd.upto {w : World} {A : Option Addr} {n k : Nat} {bs : List Nat} (h : Rd .u8 w A n bs) (hk : k ≤ n) : Rd .u8 w A k (bs.take k) := by
  refine ⟨by rw [List.length_take, h.1]; omega, fun hn => ?_⟩
  obtain ⟨b, o, e, hb, hc⟩ := h.2 (by omega)
  refine ⟨b, o, e, hb, fun j hj => ?_⟩
  rw [hc j (by omega)]
  simp [List.getD, hj]
theorem Rd.cut {w : World} {A : Option Addr} {n l h c : Nat} {bs : List Nat} (hr : Rd .u8 w A n bs) (hl : l ≤ h) (hh : h ≤ n) (hc : n ≤ c) : Rd .u8 w (Go.Proofs.YthibbgmicmfkfaaGreat.offA A l c) (h - l) ((bs.drop l).take (h - l)) :=
  (hr.offA (k := l) (m := c) (by omega) hc).upto (by omega)
end Go.Proofs.YthibbgmicmfkfaaGreat
