/-
  Layer 9: the least and the greatest of numbers.
-/
import Derived.Test.YtoefhblojoaikaaR8a
import Derived.Test.YtoefhblojoaikaaA1U
namespace Go.Proofs.Ytoefhblojoaikaa
open Go.RowKit

/-- The least and the greatest of numbers with a sign; of none 0. -/
def lo : List Int → Int
  | [] => 0
  | x :: r => r.foldl min x
def hi : List Int → Int
  | [] => 0
  | x :: r => r.foldl max x
theorem lo_snoc {xs : List Int} (h : xs ≠ []) (v : Int) : lo (xs ++ [v]) = min (lo xs) v := by
  cases xs with
  | nil => exact absurd rfl h
  | cons x r => simp [lo, List.foldl_append]
theorem hi_snoc {xs : List Int} (h : xs ≠ []) (v : Int) : hi (xs ++ [v]) = max (hi xs) v := by
  cases xs with
  | nil => exact absurd rfl h
  | cons x r => simp [hi, List.foldl_append]
theorem take_ne {T : Type} {xs : List T} {j : Nat} (h : 1 ≤ j) (hj : j ≤ xs.length) : xs.take j ≠ [] := by
  intro e
  have := congrArg List.length e
  rw [List.length_take, List.length_nil] at this
  omega
theorem lo_take {xs : List Int} {j : Nat} (h : 1 ≤ j) (hj : j < xs.length) : lo (xs.take (j + 1)) = min (lo (xs.take j)) (xs.getD j 0) := by
  rw [take_nextG xs j (x := xs.getD j 0) (by rw [List.getD, List.getElem?_eq_getElem hj]; rfl), lo_snoc (take_ne h (by omega))]
theorem hi_take {xs : List Int} {j : Nat} (h : 1 ≤ j) (hj : j < xs.length) : hi (xs.take (j + 1)) = max (hi (xs.take j)) (xs.getD j 0) := by
  rw [take_nextG xs j (x := xs.getD j 0) (by rw [List.getD, List.getElem?_eq_getElem hj]; rfl), hi_snoc (take_ne h (by omega))]
theorem lo_one {xs : List Int} (h : 0 < xs.length) : lo (xs.take 1) = xs.getD 0 0 := by
  cases xs with
  | nil => simp at h
  | cons x r => rfl
theorem hi_one {xs : List Int} (h : 0 < xs.length) : hi (xs.take 1) = xs.getD 0 0 := by
  cases xs with
  | nil => simp at h
  | cons x r => rfl

set_option maxHeartbeats 800000 in
theorem minZ_any (A : Option Addr) (n c : Nat) (xs : List Int) (w : World) (hx : RdG shZ w A n xs) (hp : 0 < n) (hn : n ≤ 281474976710656) :
    Calls Try.prog 51 #[.slice A n c] w fun e w' => e = .returned (.int .i64 (lo xs)) ∧ w = w' := by
  have Hl := Lib.hid hx.len
  obtain ⟨b, o, rfl, hbl, hc⟩ := hx.atZ hp
  obtain ⟨x, hxe⟩ : ∃ x, x = xs.getD 0 0 := ⟨_, rfl⟩
  have H0 := Lib.hid (show x = lo (xs.take 1) by rw [lo_one (by have := Hl.out; omega)]; exact hxe)
  rw [← hxe, Nat.add_zero] at hc
  clear hxe
  go_enter Try.func51, Try.ntmps51
  go_wp2_with fail
  go_loop [3, 4] (fun y i => ∃ (j : Nat) (v : Int), 1 ≤ j ∧ j ≤ n ∧ i = .int .i64 j ∧ y = .int .i64 v ∧ Hid (v = lo (xs.take j))) (fun _ i => n - (intOf i).toNat)
  case atStart => exact ⟨1, x, Nat.le_refl _, by omega, rfl, rfl, H0⟩
  case round =>
    obtain ⟨j, v, hj1, hj, rfl, rfl, HV⟩ := hrel
    by_cases hlt : j < n
    · obtain ⟨b', o', hA, _, hc2⟩ := hx.atZ hlt
      injection hA with hA
      injection hA with hb' ho'
      subst hb' ho'
      have HN := Lib.hid (lo_take hj1 (show j < xs.length by have := Hl.out; omega))
      obtain ⟨u, hu⟩ : ∃ u, u = xs.getD j 0 := ⟨_, rfl⟩
      rw [← hu] at hc2 HN
      clear hu
      go_wp2_with fail
      go_round
      case rel => exact ⟨j + 1, min v u, by omega, by omega, by go_num, by first | rfl | (congr 1; omega), Lib.hid (by rw [HN.out, ← HV.out])⟩
      case measure => simp [intOf]; omega
    · obtain rfl : j = n := by omega
      go_wp2_with fail
      go_ret
      exact ⟨by rw [HV.out, List.take_of_length_le (by have := Hl.out; omega)]; rfl, rfl⟩

set_option maxHeartbeats 800000 in
theorem maxZ_any (A : Option Addr) (n c : Nat) (xs : List Int) (w : World) (hx : RdG shZ w A n xs) (hp : 0 < n) (hn : n ≤ 281474976710656) :
    Calls Try.prog 62 #[.slice A n c] w fun e w' => e = .returned (.int .i64 (hi xs)) ∧ w = w' := by
  have Hl := Lib.hid hx.len
  obtain ⟨b, o, rfl, hbl, hc⟩ := hx.atZ hp
  obtain ⟨x, hxe⟩ : ∃ x, x = xs.getD 0 0 := ⟨_, rfl⟩
  have H0 := Lib.hid (show x = hi (xs.take 1) by rw [hi_one (by have := Hl.out; omega)]; exact hxe)
  rw [← hxe, Nat.add_zero] at hc
  clear hxe
  go_enter Try.func62, Try.ntmps62
  go_wp2_with fail
  go_loop [3, 4] (fun y i => ∃ (j : Nat) (v : Int), 1 ≤ j ∧ j ≤ n ∧ i = .int .i64 j ∧ y = .int .i64 v ∧ Hid (v = hi (xs.take j))) (fun _ i => n - (intOf i).toNat)
  case atStart => exact ⟨1, x, Nat.le_refl _, by omega, rfl, rfl, H0⟩
  case round =>
    obtain ⟨j, v, hj1, hj, rfl, rfl, HV⟩ := hrel
    by_cases hlt : j < n
    · obtain ⟨b', o', hA, _, hc2⟩ := hx.atZ hlt
      injection hA with hA
      injection hA with hb' ho'
      subst hb' ho'
      have HN := Lib.hid (hi_take hj1 (show j < xs.length by have := Hl.out; omega))
      obtain ⟨u, hu⟩ : ∃ u, u = xs.getD j 0 := ⟨_, rfl⟩
      rw [← hu] at hc2 HN
      clear hu
      go_wp2_with fail
      go_round
      case rel => exact ⟨j + 1, max v u, by omega, by omega, by go_num, by first | rfl | (congr 1; omega), Lib.hid (by rw [HN.out, ← HV.out])⟩
      case measure => simp [intOf]; omega
    · obtain rfl : j = n := by omega
      go_wp2_with fail
      go_ret
      exact ⟨by rw [HV.out, List.take_of_length_le (by have := Hl.out; omega)]; rfl, rfl⟩

set_option maxHeartbeats 800000 in
theorem least_any (A : Option Addr) (n c : Nat) (xs : List Int) (w : World) (hx : RdG shZ w A n xs) (hp : 0 < n) (hn : n ≤ 281474976710656) :
    Calls Try.prog 37 #[.slice A n c] w fun e w' => e = .returned (.int .i64 (lo xs)) ∧ w = w' := by
  have Hl := Lib.hid hx.len
  obtain ⟨b, o, rfl, hbl, hc⟩ := hx.atZ hp
  obtain ⟨x, hxe⟩ : ∃ x, x = xs.getD 0 0 := ⟨_, rfl⟩
  have H0 := Lib.hid (show x = lo (xs.take 1) by rw [lo_one (by have := Hl.out; omega)]; exact hxe)
  have HX := Lib.hid hxe
  rw [← hxe, Nat.add_zero] at hc
  clear hxe
  go_enter Try.func37, Try.ntmps37
  go_wp2_with fail
  go_loop [3, 4] (fun y i => ∃ (j : Nat) (v : Int), j ≤ n ∧ i = .int .i64 j ∧ y = .int .i64 v ∧ Hid (j = 0 ∧ v = x ∨ 1 ≤ j ∧ v = lo (xs.take j))) (fun _ i => n - (intOf i).toNat)
  case atStart => exact ⟨0, x, by omega, rfl, rfl, Lib.hid (.inl ⟨rfl, rfl⟩)⟩
  case round =>
    obtain ⟨j, v, hj, rfl, rfl, HV⟩ := hrel
    by_cases hlt : j < n
    · obtain ⟨b', o', hA, _, hc2⟩ := hx.atZ hlt
      injection hA with hA
      injection hA with hb' ho'
      subst hb' ho'
      obtain ⟨u, hu⟩ : ∃ u, u = xs.getD j 0 := ⟨_, rfl⟩
      have HN := Lib.hid (show lo (xs.take (j + 1)) = min v u by
        rcases HV.out with ⟨h1, h2⟩ | ⟨h1, h2⟩
        · subst h1
          rw [← HX.out] at hu
          rw [← H0.out, hu, h2]
          exact (Int.min_self x).symm
        · rw [lo_take h1 (by have := Hl.out; omega), h2, hu])
      rw [← hu] at hc2
      clear hu
      by_cases hlu : u < v
      · have HN2 := Lib.hid (show u = lo (xs.take (j + 1)) by rw [HN.out]; omega)
        go_wp2_with fail
        go_round
        case rel => exact ⟨j + 1, u, by omega, by go_num, rfl, Lib.hid (.inr ⟨by omega, HN2.out⟩)⟩
        case measure => simp [intOf]; omega
      · have HN2 := Lib.hid (show v = lo (xs.take (j + 1)) by rw [HN.out]; omega)
        have hd : decide (u < v) = false := decide_eq_false hlu
        go_wp2_with fail
        go_round
        case rel => exact ⟨j + 1, v, by omega, by go_num, rfl, Lib.hid (.inr ⟨by omega, HN2.out⟩)⟩
        case measure => simp [intOf]; omega
    · obtain rfl : j = n := by omega
      have HE := Lib.hid (show v = lo xs by
        rcases HV.out with ⟨h1, h2⟩ | ⟨h1, h2⟩
        · omega
        · rw [h2, List.take_of_length_le (by have := Hl.out; omega)])
      go_wp2_with fail
      go_ret
      exact ⟨by rw [HE.out]; rfl, rfl⟩

set_option maxHeartbeats 800000 in
theorem greatest_any (A : Option Addr) (n c : Nat) (xs : List Int) (w : World) (hx : RdG shZ w A n xs) (hp : 0 < n) (hn : n ≤ 281474976710656) :
    Calls Try.prog 38 #[.slice A n c] w fun e w' => e = .returned (.int .i64 (hi xs)) ∧ w = w' := by
  have Hl := Lib.hid hx.len
  obtain ⟨b, o, rfl, hbl, hc⟩ := hx.atZ hp
  obtain ⟨x, hxe⟩ : ∃ x, x = xs.getD 0 0 := ⟨_, rfl⟩
  have H0 := Lib.hid (show x = hi (xs.take 1) by rw [hi_one (by have := Hl.out; omega)]; exact hxe)
  have HX := Lib.hid hxe
  rw [← hxe, Nat.add_zero] at hc
  clear hxe
  go_enter Try.func38, Try.ntmps38
  go_wp2_with fail
  go_loop [3, 4] (fun y i => ∃ (j : Nat) (v : Int), j ≤ n ∧ i = .int .i64 j ∧ y = .int .i64 v ∧ Hid (j = 0 ∧ v = x ∨ 1 ≤ j ∧ v = hi (xs.take j))) (fun _ i => n - (intOf i).toNat)
  case atStart => exact ⟨0, x, by omega, rfl, rfl, Lib.hid (.inl ⟨rfl, rfl⟩)⟩
  case round =>
    obtain ⟨j, v, hj, rfl, rfl, HV⟩ := hrel
    by_cases hlt : j < n
    · obtain ⟨b', o', hA, _, hc2⟩ := hx.atZ hlt
      injection hA with hA
      injection hA with hb' ho'
      subst hb' ho'
      obtain ⟨u, hu⟩ : ∃ u, u = xs.getD j 0 := ⟨_, rfl⟩
      have HN := Lib.hid (show hi (xs.take (j + 1)) = max v u by
        rcases HV.out with ⟨h1, h2⟩ | ⟨h1, h2⟩
        · subst h1
          rw [← HX.out] at hu
          rw [← H0.out, hu, h2]
          exact (Int.max_self x).symm
        · rw [hi_take h1 (by have := Hl.out; omega), h2, hu])
      rw [← hu] at hc2
      clear hu
      by_cases hlu : v < u
      · have HN2 := Lib.hid (show u = hi (xs.take (j + 1)) by rw [HN.out]; omega)
        go_wp2_with fail
        go_round
        case rel => exact ⟨j + 1, u, by omega, by go_num, rfl, Lib.hid (.inr ⟨by omega, HN2.out⟩)⟩
        case measure => simp [intOf]; omega
      · have HN2 := Lib.hid (show v = hi (xs.take (j + 1)) by rw [HN.out]; omega)
        have hd : decide (v < u) = false := decide_eq_false hlu
        go_wp2_with fail
        go_round
        case rel => exact ⟨j + 1, v, by omega, by go_num, rfl, Lib.hid (.inr ⟨by omega, HN2.out⟩)⟩
        case measure => simp [intOf]; omega
    · obtain rfl : j = n := by omega
      have HE := Lib.hid (show v = hi xs by
        rcases HV.out with ⟨h1, h2⟩ | ⟨h1, h2⟩
        · omega
        · rw [h2, List.take_of_length_le (by have := Hl.out; omega)])
      go_wp2_with fail
      go_ret
      exact ⟨by rw [HE.out]; rfl, rfl⟩

/-- The least and the greatest of numbers without a sign. -/
def loN : List Nat → Nat
  | [] => 0
  | x :: r => r.foldl min x
def hiN : List Nat → Nat
  | [] => 0
  | x :: r => r.foldl max x
theorem loN_snoc {xs : List Nat} (h : xs ≠ []) (v : Nat) : loN (xs ++ [v]) = min (loN xs) v := by
  cases xs with
  | nil => exact absurd rfl h
  | cons x r => simp [loN, List.foldl_append]
theorem hiN_snoc {xs : List Nat} (h : xs ≠ []) (v : Nat) : hiN (xs ++ [v]) = max (hiN xs) v := by
  cases xs with
  | nil => exact absurd rfl h
  | cons x r => simp [hiN, List.foldl_append]
theorem loN_take {xs : List Nat} {j : Nat} (h : 1 ≤ j) (hj : j < xs.length) : loN (xs.take (j + 1)) = min (loN (xs.take j)) (xs.getD j 0) := by
  rw [take_nextG xs j (x := xs.getD j 0) (by rw [List.getD, List.getElem?_eq_getElem hj]; rfl), loN_snoc (take_ne h (by omega))]
theorem hiN_take {xs : List Nat} {j : Nat} (h : 1 ≤ j) (hj : j < xs.length) : hiN (xs.take (j + 1)) = max (hiN (xs.take j)) (xs.getD j 0) := by
  rw [take_nextG xs j (x := xs.getD j 0) (by rw [List.getD, List.getElem?_eq_getElem hj]; rfl), hiN_snoc (take_ne h (by omega))]
theorem loN_one {xs : List Nat} (h : 0 < xs.length) : loN (xs.take 1) = xs.getD 0 0 := by
  cases xs with
  | nil => simp at h
  | cons x r => rfl
theorem hiN_one {xs : List Nat} (h : 0 < xs.length) : hiN (xs.take 1) = xs.getD 0 0 := by
  cases xs with
  | nil => simp at h
  | cons x r => rfl

set_option maxHeartbeats 800000 in
theorem minU_any (A : Option Addr) (n c : Nat) (xs : List Nat) (w : World) (hx : Rd .u64 w A n xs) (hp : 0 < n) (hn : n ≤ 281474976710656) :
    Calls Try.prog 78 #[.slice A n c] w fun e w' => e = .returned (.int .u64 (loN xs : Nat)) ∧ w = w' := by
  have Hl := Lib.hid hx.len
  obtain ⟨b, o, rfl, hbl, hc⟩ := hx.at_ hp
  obtain ⟨x, hxe⟩ : ∃ x, x = xs.getD 0 0 := ⟨_, rfl⟩
  have H0 := Lib.hid (show x = loN (xs.take 1) by rw [loN_one (by have := Hl.out; omega)]; exact hxe)
  rw [← hxe, Nat.add_zero] at hc
  clear hxe
  go_enter Try.func78, Try.ntmps78
  go_wp2_with fail
  go_loop [3, 4] (fun y i => ∃ (j : Nat) (v : Nat), 1 ≤ j ∧ j ≤ n ∧ i = .int .i64 j ∧ y = .int .u64 (v : Nat) ∧ Hid (v = loN (xs.take j))) (fun _ i => n - (intOf i).toNat)
  case atStart => exact ⟨1, x, Nat.le_refl _, by omega, rfl, rfl, H0⟩
  case round =>
    obtain ⟨j, v, hj1, hj, rfl, rfl, HV⟩ := hrel
    by_cases hlt : j < n
    · obtain ⟨b', o', hA, _, hc2⟩ := hx.at_ hlt
      injection hA with hA
      injection hA with hb' ho'
      subst hb' ho'
      have HN := Lib.hid (loN_take hj1 (show j < xs.length by have := Hl.out; omega))
      obtain ⟨u, hu⟩ : ∃ u, u = xs.getD j 0 := ⟨_, rfl⟩
      rw [← hu] at hc2 HN
      clear hu
      go_wp2_with fail
      go_round
      case rel => exact ⟨j + 1, min v u, by omega, by omega, by go_num, by first | rfl | (congr 1; omega), Lib.hid (by rw [HN.out, ← HV.out])⟩
      case measure => simp [intOf]; omega
    · obtain rfl : j = n := by omega
      go_wp2_with fail
      go_ret
      exact ⟨by rw [HV.out, List.take_of_length_le (by have := Hl.out; omega)]; rfl, rfl⟩

set_option maxHeartbeats 800000 in
theorem maxU_any (A : Option Addr) (n c : Nat) (xs : List Nat) (w : World) (hx : Rd .u64 w A n xs) (hp : 0 < n) (hn : n ≤ 281474976710656) :
    Calls Try.prog 79 #[.slice A n c] w fun e w' => e = .returned (.int .u64 (hiN xs : Nat)) ∧ w = w' := by
  have Hl := Lib.hid hx.len
  obtain ⟨b, o, rfl, hbl, hc⟩ := hx.at_ hp
  obtain ⟨x, hxe⟩ : ∃ x, x = xs.getD 0 0 := ⟨_, rfl⟩
  have H0 := Lib.hid (show x = hiN (xs.take 1) by rw [hiN_one (by have := Hl.out; omega)]; exact hxe)
  rw [← hxe, Nat.add_zero] at hc
  clear hxe
  go_enter Try.func79, Try.ntmps79
  go_wp2_with fail
  go_loop [3, 4] (fun y i => ∃ (j : Nat) (v : Nat), 1 ≤ j ∧ j ≤ n ∧ i = .int .i64 j ∧ y = .int .u64 (v : Nat) ∧ Hid (v = hiN (xs.take j))) (fun _ i => n - (intOf i).toNat)
  case atStart => exact ⟨1, x, Nat.le_refl _, by omega, rfl, rfl, H0⟩
  case round =>
    obtain ⟨j, v, hj1, hj, rfl, rfl, HV⟩ := hrel
    by_cases hlt : j < n
    · obtain ⟨b', o', hA, _, hc2⟩ := hx.at_ hlt
      injection hA with hA
      injection hA with hb' ho'
      subst hb' ho'
      have HN := Lib.hid (hiN_take hj1 (show j < xs.length by have := Hl.out; omega))
      obtain ⟨u, hu⟩ : ∃ u, u = xs.getD j 0 := ⟨_, rfl⟩
      rw [← hu] at hc2 HN
      clear hu
      go_wp2_with fail
      go_round
      case rel => exact ⟨j + 1, max v u, by omega, by omega, by go_num, by first | rfl | (congr 1; omega), Lib.hid (by rw [HN.out, ← HV.out])⟩
      case measure => simp [intOf]; omega
    · obtain rfl : j = n := by omega
      go_wp2_with fail
      go_ret
      exact ⟨by rw [HV.out, List.take_of_length_le (by have := Hl.out; omega)]; rfl, rfl⟩

end Go.Proofs.Ytoefhblojoaikaa
