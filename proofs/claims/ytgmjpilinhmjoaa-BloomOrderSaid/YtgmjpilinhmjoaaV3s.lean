/-
  Plain mathematics: what was put is got, and is the only way to write it.
-/
import Derived.Test.YtgmjpilinhmjoaaV2s
import Derived.WalkSpells
namespace Go.Proofs.Ytgmjpilinhmjoaa
open Go.RowKit

/-- What is got is the only way to write it. -/
theorem vgetF_ok {l : List Nat} : ∀ {i u v k : Nat}, U8 l → i ≤ 9 → u < 2 ^ (7 * i) → vgetF i u l = (v, k, 0) →
    i < k ∧ k ≤ i + l.length ∧ v < 18446744073709551616 ∧ ∃ x, v = u + x * 2 ^ (7 * i) ∧ l.take (k - i) = vput x ∧ (0 < i → 0 < x) := by
  induction l with
  | nil => intro i u v k _ _ _ h; rw [vgetF_nil] at h; injection h with _ h; injection h with _ h; cases h
  | cons c r ih =>
    intro i u v k hl hi hu h
    have hc : c < 256 := hl c List.mem_cons_self
    by_cases h9 : i = 9 ∧ 1 < c
    · rw [vgetF_wide h9.1 h9.2] at h; injection h with _ h; injection h with _ h; cases h
    · obtain ⟨hb1, hb2⟩ := vget_bound hi hu h9
      by_cases h128 : c < 128
      · by_cases hz : c = 0 ∧ 0 < i
        · rw [vgetF_form h9 hz.1 hz.2] at h; injection h with _ h; injection h with _ h; cases h
        · rw [vgetF_end h9 h128 hz] at h
          injection h with h1 h
          injection h with h2 _
          rw [Nat.mod_eq_of_lt h128] at h1 hb1
          refine ⟨by omega, by rw [List.length_cons]; omega, by omega, c, h1.symm, ?_, by omega⟩
          rw [show k - i = 1 from by omega, vput_small h128]
          rfl
      · rw [vgetF_more h9 h128] at h
        have hi9 : i < 9 := by omega
        obtain ⟨q1, q2, q3, x, e1, e2, e3⟩ := ih (fun y hy => hl y (List.mem_cons_of_mem _ hy)) (by omega) (hb2 hi9) h
        have hx := e3 (by omega)
        refine ⟨by omega, by rw [List.length_cons]; omega, q3, c % 128 + 128 * x, ?_, ?_, by omega⟩
        · rw [e1, show 7 * (i + 1) = 7 + 7 * i from by omega, Nat.pow_add, Nat.add_mul, Nat.add_assoc, ← Nat.mul_assoc, Nat.mul_comm x]
        · rw [show k - i = (k - (i + 1)) + 1 from by omega, List.take_succ_cons, e2, vput_big (u := c % 128 + 128 * x) (by omega), show (c % 128 + 128 * x) / 128 = x from by omega, show (c % 128 + 128 * x) % 128 + 128 = c from by omega]

/-- What was put is got. -/
theorem vgetF_put (rest : List Nat) : ∀ {s i w u : Nat}, i + s ≤ 9 → u < 2 ^ (7 * s + 7) → (i + s = 9 → u < 2 ^ (7 * s + 1)) → (0 < s → 128 ^ s ≤ u) → (0 < i → 0 < u) →
    vgetF i w (vputN s u ++ rest) = (w + u * 2 ^ (7 * i), i + s + 1, 0) := by
  intro s
  induction s with
  | zero =>
    intro i w u h1 h2 h3 _ h5
    have e : (2 : Nat) ^ (7 * 0 + 7) = 128 := rfl
    have e2 : (2 : Nat) ^ (7 * 0 + 1) = 2 := rfl
    rw [e] at h2
    rw [e2] at h3
    show vgetF i w (u :: rest) = _
    rw [vgetF_end (by omega) h2 (by omega), Nat.mod_eq_of_lt h2]
  | succ s ih =>
    intro i w u h1 h2 h3 h4 h5
    have h4' := h4 (by omega)
    have hp : 128 ≤ 128 ^ (s + 1) := by have := Nat.pow_le_pow_right (n := 128) (by omega) (show 1 ≤ s + 1 by omega); simpa using this
    show vgetF i w ((u % 128 + 128) :: (vputN s (u / 128) ++ rest)) = _
    rw [vgetF_more (by omega) (by omega), ih (by omega) (shift_lt h2) ?_ ?_ (by omega)]
    · simp only [Prod.mk.injEq, and_true]
      refine ⟨?_, by omega⟩
      rw [show (u % 128 + 128) % 128 = u % 128 from by omega, show 7 * (i + 1) = 7 + 7 * i from by omega, Nat.pow_add, show (2 : Nat) ^ 7 = 128 from rfl, ← Nat.mul_assoc, Nat.add_assoc, ← Nat.add_mul]
      congr 2
      omega
    · intro h
      have h6 := h3 (by omega)
      apply Nat.div_lt_of_lt_mul
      rw [show (128 : Nat) = 2 ^ 7 from rfl, ← Nat.pow_add, show 7 + (7 * s + 1) = 7 * (s + 1) + 1 from by omega]
      exact h6
    · intro _
      rw [Nat.le_div_iff_mul_le (by omega), ← Nat.pow_succ]
      exact h4'

theorem vgetF_short : ∀ {s i w u : Nat}, i + s ≤ 9 → vgetF i w ((vputN s u).take s) = (0, 0, 2) := by
  intro s
  induction s with
  | zero => intro i w u _; rw [List.take_zero]; exact vgetF_nil i w
  | succ s ih =>
    intro i w u h
    show vgetF i w ((u % 128 + 128) :: ((vputN s (u / 128)).take s)) = _
    rw [vgetF_more (by omega) (by omega), ih (by omega)]

theorem vput_form {u : Nat} (hu : u < 18446744073709551616) : ∃ s, vput u = vputN s u ∧ vsize u = s + 1 ∧ s ≤ 9 ∧ u < 2 ^ (7 * s + 7) ∧ (s = 9 → u < 2 ^ (7 * s + 1)) ∧ (0 < s → 128 ^ s ≤ u) := by
  have h64 := bl_64 hu
  have hb := bl_le.1 (Nat.le_refl (bl u))
  refine ⟨(bl u - 1) / 7, rfl, rfl, by omega, Nat.lt_of_lt_of_le hb (Nat.pow_le_pow_right (by omega) (by omega)), fun h => ?_, fun h => ?_⟩
  · rw [h]; exact hu
  · rcases Nat.lt_or_ge u (128 ^ ((bl u - 1) / 7)) with hlt | hge
    · rw [show (128 : Nat) = 2 ^ 7 from rfl, ← Nat.pow_mul, ← bl_le] at hlt
      omega
    · exact hge

theorem vgetF_vput {u : Nat} (hu : u < 18446744073709551616) (rest : List Nat) : vgetF 0 0 (vput u ++ rest) = (u, vsize u, 0) := by
  obtain ⟨s, e1, e2, e3, e4, e5, e6⟩ := vput_form hu
  rw [e1, e2, vgetF_put rest (by omega) e4 (fun h => e5 (by omega)) e6 (by omega)]
  simp

theorem vget_cut {u : Nat} (hu : u < 18446744073709551616) : vgetF 0 0 ((vput u).take (vsize u - 1)) = (0, 0, 2) := by
  obtain ⟨s, e1, e2, e3, _⟩ := vput_form hu
  rw [e1, e2, Nat.add_sub_cancel, vgetF_short (by omega)]

/-- A number that was got: where it stands, and as what. -/
theorem vget_at {bs : List Nat} {a n : Int} {v : Nat} (hb : U8 bs) (h : vget bs a = (v, n, 0)) : 0 ≤ a ∧ a < n ∧ n ≤ bs.length ∧ v < 18446744073709551616 ∧ vput v = (bs.drop a.toNat).take (n.toNat - a.toNat) := by
  unfold vget at h
  by_cases h1 : a < 0 ∨ (bs.length : Int) < a
  · rw [if_pos h1] at h; injection h with _ h; injection h with _ h; omega
  · rw [if_neg h1] at h
    rcases hR : vgetF 0 0 (bs.drop a.toNat) with ⟨v', k', e'⟩
    rw [hR] at h
    simp only at h
    by_cases h2 : e' = 0
    · rw [if_pos h2] at h
      injection h with e1 h
      injection h with e2 _
      subst e1
      subst h2
      obtain ⟨q1, q2, q3, x, e3, e4, _⟩ := vgetF_ok (fun y hy => hb y (List.mem_of_mem_drop hy)) (by omega) (by decide) hR
      rw [List.length_drop] at q2
      simp at e3
      subst e3
      exact ⟨by omega, by omega, by omega, q3, by rw [← e4]; congr 1; omega⟩
    · rw [if_neg h2] at h
      injection h with _ h
      injection h with _ h
      omega

theorem vget_bounds {bs : List Nat} {a : Int} (hb : U8 bs) (hl : bs.length ≤ 140737488355328) : (vget bs a).1 < 18446744073709551616 ∧ 0 ≤ (vget bs a).2.1 ∧ (vget bs a).2.1 ≤ bs.length := by
  rcases h : vget bs a with ⟨v, n, e⟩
  by_cases he : e = 0
  · subst he
    obtain ⟨h1, h2, h3, h4, _⟩ := vget_at hb h
    exact ⟨h4, by show 0 ≤ n; omega, h3⟩
  · unfold vget at h
    split at h
    · injection h with h1 h; injection h with h2 _; subst h1; subst h2; exact ⟨by show 0 < _; omega, Int.le_refl _, by show (0 : Int) ≤ _; omega⟩
    · split at h
      · injection h with _ h; injection h with _ h; exact absurd h.symm he
      · injection h with h1 h; injection h with h2 _; subst h1; subst h2; exact ⟨by show 0 < _; omega, Int.le_refl _, by show (0 : Int) ≤ _; omega⟩

theorem piece_of (bs : List Nat) (a n : Int) : piece bs a n = (bs.drop a.toNat).take (n.toNat - a.toNat) := by
  unfold piece
  rw [List.drop_take]

theorem vget_zero {bs : List Nat} {a n e : Int} {v : Nat} (h : vget bs a = (v, n, e)) (he : e ≠ 0) : v = 0 ∧ n = 0 := by
  unfold vget at h
  split at h
  · injection h with h1 h; injection h with h2 _; exact ⟨h1.symm, h2.symm⟩
  · split at h
    · injection h with _ h; injection h with _ h; exact absurd h.symm he
    · injection h with h1 h; injection h with h2 _; exact ⟨h1.symm, h2.symm⟩

theorem u8_take {b : List Nat} (h : U8 b) (n : Nat) : U8 (b.take n) := fun v hv => h v (List.mem_of_mem_take hv)
theorem u8_drop {b : List Nat} (h : U8 b) (n : Nat) : U8 (b.drop n) := fun v hv => h v (List.mem_of_mem_drop hv)
def cut (bs : List Nat) (a m : Nat) : List Nat := (bs.drop a).take m
theorem cut_len {bs : List Nat} {a m : Nat} (h : a + m ≤ bs.length) : (cut bs a m).length = m := by simp [cut]; omega
theorem cut_u8 {bs : List Nat} (h : U8 bs) (a m : Nat) : U8 (cut bs a m) := u8_take (u8_drop h a) m
theorem cut_at {bs : List Nat} {a m i : Nat} (hi : i < m) : (cut bs a m).getD i 0 = bs.getD (a + i) 0 := by
  simp [cut, List.getD, List.getElem?_drop, hi]

theorem piece_cutm {bs : List Nat} (a m : Nat) : piece bs (a : Int) ((a : Int) + (m : Int)) = cut bs a m := by
  unfold piece
  rw [show ((a : Int) + (m : Int)).toNat = a + m from by omega, Int.toNat_natCast, cut, List.drop_take]
  congr 1
  omega

end Go.Proofs.Ytgmjpilinhmjoaa
