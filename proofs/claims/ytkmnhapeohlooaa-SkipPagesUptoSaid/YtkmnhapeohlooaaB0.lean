/-
  Plain mathematics: numbers of w bits each, laid one behind the other, as one natural number (pk), and read out of it again (upk). Bytes are the case w = 8.
-/
import Derived.Test.YtkmnhapeohlooaaA4
namespace Go.Proofs.Ytkmnhapeohlooaa

/-- The number whose digits to the base 2^w are vs, the lowest first. -/
def pk (w : Nat) : List Nat → Nat
  | [] => 0
  | v :: r => v + 2 ^ w * pk w r

/-- The lowest n digits of N to the base 2^w, the lowest first. -/
def upk (w : Nat) : Nat → Nat → List Nat
  | 0, _ => []
  | n + 1, N => N % 2 ^ w :: upk w n (N / 2 ^ w)

/-- Each number is below 2^w. -/
def Wd (w : Nat) (vs : List Nat) : Prop := ∀ v ∈ vs, v < 2 ^ w

theorem Wd.nil (w : Nat) : Wd w [] := by intro v hv; cases hv
theorem Wd.tail {w v : Nat} {r : List Nat} (h : Wd w (v :: r)) : Wd w r := fun x hx => h x (List.mem_cons_of_mem _ hx)
theorem Wd.head {w v : Nat} {r : List Nat} (h : Wd w (v :: r)) : v < 2 ^ w := h v List.mem_cons_self
theorem U8_wd {b : List Nat} : U8 b ↔ Wd 8 b := Iff.rfl

theorem upk_len (w n N : Nat) : (upk w n N).length = n := by
  induction n generalizing N with
  | zero => rfl
  | succ n ih => simp [upk, ih]

theorem upk_wd (w n N : Nat) : Wd w (upk w n N) := by
  induction n generalizing N with
  | zero => exact Wd.nil w
  | succ n ih =>
    intro v hv
    rcases List.mem_cons.1 hv with rfl | h
    · exact Nat.mod_lt _ (Nat.two_pow_pos w)
    · exact ih _ v h

theorem two_pow_mul_succ (w n : Nat) : 2 ^ (w * (n + 1)) = 2 ^ w * 2 ^ (w * n) := by rw [← Nat.pow_add]; congr 1; rw [Nat.mul_succ, Nat.add_comm]

theorem pk_lt {w : Nat} {vs : List Nat} (h : Wd w vs) : pk w vs < 2 ^ (w * vs.length) := by
  induction vs with
  | nil => simp [pk]
  | cons v r ih =>
    have h1 := h.head
    have h2 := ih h.tail
    rw [List.length_cons, two_pow_mul_succ, pk]
    calc v + 2 ^ w * pk w r < 2 ^ w + 2 ^ w * pk w r := by omega
      _ = 2 ^ w * (pk w r + 1) := by rw [Nat.mul_succ, Nat.add_comm]
      _ ≤ 2 ^ w * 2 ^ (w * r.length) := Nat.mul_le_mul_left _ h2

theorem upk_pk {w : Nat} {vs : List Nat} (h : Wd w vs) : upk w vs.length (pk w vs) = vs := by
  induction vs with
  | nil => rfl
  | cons v r ih =>
    rw [List.length_cons, upk, pk, Nat.add_mul_mod_self_left, Nat.mod_eq_of_lt h.head, Nat.add_mul_div_left _ _ (Nat.two_pow_pos w), Nat.div_eq_of_lt h.head, Nat.zero_add, ih h.tail]

theorem pk_upk (w n N : Nat) : pk w (upk w n N) = N % 2 ^ (w * n) := by
  induction n generalizing N with
  | zero => simp [upk, pk, Nat.mod_one]
  | succ n ih => rw [upk, pk, ih, two_pow_mul_succ, Nat.mod_mul]

theorem upk_mod (w n N K : Nat) (hK : w * n ≤ K) : upk w n (N % 2 ^ K) = upk w n N := by
  induction n generalizing N K with
  | zero => rfl
  | succ n ih =>
    rw [Nat.mul_succ] at hK
    have hw : 2 ^ K = 2 ^ w * 2 ^ (K - w) := by rw [← Nat.pow_add]; congr 1; omega
    rw [upk, upk, hw, Nat.mod_mul_right_mod, Nat.mod_mul_right_div_self, ih _ (K - w) (by omega)]

theorem upk_snoc (w n N : Nat) : upk w (n + 1) N = upk w n N ++ [N / 2 ^ (w * n) % 2 ^ w] := by
  induction n generalizing N with
  | zero => simp [upk]
  | succ n ih => rw [upk, ih, upk, List.cons_append, Nat.div_div_eq_div_mul, ← two_pow_mul_succ]

theorem upk_at (w n N i : Nat) (h : i < n) : (upk w n N).getD i 0 = N / 2 ^ (w * i) % 2 ^ w := by
  induction n generalizing N i with
  | zero => omega
  | succ n ih =>
    cases i with
    | zero => simp [upk]
    | succ i => rw [upk, List.getD_cons_succ, ih _ _ (by omega), Nat.div_div_eq_div_mul, ← two_pow_mul_succ]

theorem upk_take (w n N i : Nat) (h : i ≤ n) : (upk w n N).take i = upk w i N := by
  induction n generalizing N i with
  | zero => obtain rfl : i = 0 := by omega
            rfl
  | succ n ih =>
    cases i with
    | zero => rfl
    | succ i => rw [upk, List.take_succ_cons, ih _ _ (by omega), upk]

theorem pk_at {w : Nat} {vs : List Nat} (h : Wd w vs) (i : Nat) : pk w vs / 2 ^ (w * i) % 2 ^ w = vs.getD i 0 := by
  by_cases hi : i < vs.length
  · rw [← upk_at w vs.length _ i hi, upk_pk h]
  · have := pk_lt h
    rw [Nat.div_eq_of_lt (Nat.lt_of_lt_of_le this (Nat.pow_le_pow_right (by omega) (Nat.mul_le_mul_left _ (by omega)))), Nat.zero_mod]
    simp [List.getD, Nat.le_of_not_lt hi]

theorem pk_snoc (w : Nat) (vs : List Nat) (v : Nat) : pk w (vs ++ [v]) = pk w vs + 2 ^ (w * vs.length) * v := by
  induction vs with
  | nil => simp [pk]
  | cons x r ih => rw [List.cons_append, pk, ih, pk, List.length_cons, two_pow_mul_succ, Nat.mul_add, Nat.mul_assoc, Nat.add_assoc]

/-- One digit is raised by d. -/
theorem upk_add {w n N i d : Nat} (h : i < n) (hd : N / 2 ^ (w * i) % 2 ^ w + d < 2 ^ w) : upk w n (N + 2 ^ (w * i) * d) = (upk w n N).set i (N / 2 ^ (w * i) % 2 ^ w + d) := by
  induction n generalizing N i with
  | zero => omega
  | succ n ih =>
    cases i with
    | zero =>
      simp only [Nat.mul_zero, Nat.pow_zero, Nat.div_one, Nat.one_mul] at hd ⊢
      have h1 : (N + d) % 2 ^ w = N % 2 ^ w + d := by
        rw [← Nat.div_add_mod N (2 ^ w), Nat.add_assoc, Nat.mul_add_mod, Nat.mod_eq_of_lt hd]; simp
      have h2 : (N + d) / 2 ^ w = N / 2 ^ w := by
        rw [← Nat.div_add_mod N (2 ^ w), Nat.add_assoc, Nat.mul_add_div (Nat.two_pow_pos w), Nat.div_eq_of_lt hd]
        simp [Nat.mul_add_div (Nat.two_pow_pos w), Nat.div_eq_of_lt (Nat.mod_lt N (Nat.two_pow_pos w))]
      rw [upk, upk, List.set_cons_zero, h1, h2]
    | succ i =>
      rw [two_pow_mul_succ, ← Nat.div_div_eq_div_mul] at hd
      rw [upk, upk, List.set_cons_succ, two_pow_mul_succ, Nat.mul_assoc, Nat.add_mul_mod_self_left, Nat.add_mul_div_left _ _ (Nat.two_pow_pos w), ih (by omega) hd, Nat.div_div_eq_div_mul]

/-- The row of 0s. -/
theorem upk_zero (w n : Nat) : upk w n 0 = List.replicate n 0 := by
  induction n with
  | zero => rfl
  | succ n ih => simp [upk, ih, List.replicate_succ]

end Go.Proofs.Ytkmnhapeohlooaa
