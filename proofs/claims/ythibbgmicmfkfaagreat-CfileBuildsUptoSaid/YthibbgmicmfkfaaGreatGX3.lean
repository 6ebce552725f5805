import Derived.Test.YthibbgmicmfkfaaGreatGX2
import Derived.WalkSpells
import Derived.Lib.SlBytesConst
import Derived.Laws.BytesArg
import Derived.Laws.IdiomStrings
namespace Go.Proofs.YthibbgmicmfkfaaGreat
open Go.RowKit
set_option maxRecDepth 100000
theorem vgetF_ok {l : List Nat} : ∀ {i u v k : Nat}, U8 l → i ≤ 9 → u < 2 ^ (7 * i) → vgetF i u l = (v, k, 0) →
    i < k ∧ k ≤ i + l.length ∧ v < 18446744073709551616 ∧ ∃ x, v = u + x * 2 ^ (7 * i) ∧ l.take (k - i) = vput x ∧ (0 < i → 0 < x) := by
  induction l with
  | nil => intro i u v k _ _ _ h; rw [vgetF_nil] at h; injection h with _ h; injection h with _ h; cases h
  | cons c r ih =>
    intro i u v k hl hi hu h
    have hc : c < 256 := hl c List.mem_cons_self
    by_cases h9 : i = 9 ∧ 1 < c
    · rw [vgetF_wide h9.1 h9.2] at h; injection h with _ h; injection h with _ h; cases h
    · obtain ⟨hb1, hb2⟩ := vget_bound hi hu h9
      by_cases h128 : c < 128
      · by_cases hz : c = 0 ∧ 0 < i
        · rw [vgetF_form h9 hz.1 hz.2] at h; injection h with _ h; injection h with _ h; cases h
        · rw [vgetF_end h9 h128 hz] at h
          injection h with h1 h
          injection h with h2 _
          rw [Nat.mod_eq_of_lt h128] at h1 hb1
          refine ⟨by omega, by rw [List.length_cons]; omega, by omega, c, h1.symm, ?_, by omega⟩
          rw [show k - i = 1 from by omega, vput_small h128]
          rfl
      · rw [vgetF_more h9 h128] at h
        have hi9 : i < 9 := by omega
        obtain ⟨q1, q2, q3, x, e1, e2, e3⟩ := ih (fun y hy => hl y (List.mem_cons_of_mem _ hy)) (by omega) (hb2 hi9) h
        have hx := e3 (by omega)
        refine ⟨by omega, by rw [List.length_cons]; omega, q3, c % 128 + 128 * x, ?_, ?_, by omega⟩
        · rw [e1, show 7 * (i + 1) = 7 + 7 * i from by omega, Nat.pow_add, Nat.add_mul, Nat.add_assoc, ← Nat.mul_assoc, Nat.mul_comm x]
        · rw [show k - i = (k - (i + 1)) + 1 from by omega, List.take_succ_cons, e2, vput_big (u := c % 128 + 128 * x) (by omega), show (c % 128 + 128 * x) / 128 = x from by omega, show (c % 128 + 128 * x) % 128 + 128 = c from by omega]
theorem vgetF_put (rest : List Nat) : ∀ {s i w u : Nat}, i + s ≤ 9 → u < 2 ^ (7 * s + 7) → (i + s = 9 → u < 2 ^ (7 * s + 1)) → (0 < s → 128 ^ s ≤ u) → (0 < i → 0 < u) →
    vgetF i w (vputN s u ++ rest) = (w + u * 2 ^ (7 * i), i + s + 1, 0) := by
  intro s
  induction s with
  | zero =>
    intro i w u h1 h2 h3 _ h5
    have e : (2 : Nat) ^ (7 * 0 + 7) = 128 := rfl
    have e2 : (2 : Nat) ^ (7 * 0 + 1) = 2 := rfl
    rw [e] at h2
    rw [e2] at h3
    show vgetF i w (u :: rest) = _
    rw [vgetF_end (by omega) h2 (by omega), Nat.mod_eq_of_lt h2]
  | succ s ih =>
    intro i w u h1 h2 h3 h4 h5
    have h4' := h4 (by omega)
    have hp : 128 ≤ 128 ^ (s + 1) := by have := Nat.pow_le_pow_right (n := 128) (by omega) (show 1 ≤ s + 1 by omega); simpa using this
    show vgetF i w ((u % 128 + 128) :: (vputN s (u / 128) ++ rest)) = _
    rw [vgetF_more (by omega) (by omega), ih (by omega) (shift_lt h2) ?_ ?_ (by omega)]
    · simp only [Prod.mk.injEq, and_true]
      refine ⟨?_, by omega⟩
      rw [show (u % 128 + 128) % 128 = u % 128 from by omega, show 7 * (i + 1) = 7 + 7 * i from by omega, Nat.pow_add, show (2 : Nat) ^ 7 = 128 from rfl, ← Nat.mul_assoc, Nat.add_assoc, ← Nat.add_mul]
      congr 2
      omega
    · intro h
      have h6 := h3 (by omega)
      apply Nat.div_lt_of_lt_mul
      rw [show (128 : Nat) = 2 ^ 7 from rfl, ← Nat.pow_add, show 7 + (7 * s + 1) = 7 * (s + 1) + 1 from by omega]
      exact h6
    · intro _
      rw [Nat.le_div_iff_mul_le (by omega), ← Nat.pow_succ]
      exact h4'
theorem vput_form {u : Nat} (hu : u < 18446744073709551616) : ∃ s, vput u = vputN s u ∧ vsize u = s + 1 ∧ s ≤ 9 ∧ u < 2 ^ (7 * s + 7) ∧ (s = 9 → u < 2 ^ (7 * s + 1)) ∧ (0 < s → 128 ^ s ≤ u) := by
  have h64 := bl_64 hu
  have hb := bl_le.1 (Nat.le_refl (bl u))
  refine ⟨(bl u - 1) / 7, rfl, rfl, by omega, Nat.lt_of_lt_of_le hb (Nat.pow_le_pow_right (by omega) (by omega)), fun h => ?_, fun h => ?_⟩
  · rw [h]; exact hu
  · rcases Nat.lt_or_ge u (128 ^ ((bl u - 1) / 7)) with hlt | hge
    · rw [show (128 : Nat) = 2 ^ 7 from rfl, ← Nat.pow_mul, ← bl_le] at hlt
      omega
    · exact hge
theorem vgetF_vput {u : Nat} (hu : u < 18446744073709551616) (rest : List Nat) : vgetF 0 0 (vput u ++ rest) = (u, vsize u, 0) := by
  obtain ⟨s, e1, e2, e3, e4, e5, e6⟩ := vput_form hu
  rw [e1, e2, vgetF_put rest (by omega) e4 (fun h => e5 (by omega)) e6 (by omega)]
  simp
theorem vget_at {bs : List Nat} {a n : Int} {v : Nat} (hb : U8 bs) (h : vget bs a = (v, n, 0)) : 0 ≤ a ∧ a < n ∧ n ≤ bs.length ∧ v < 18446744073709551616 ∧ vput v = (bs.drop a.toNat).take (n.toNat - a.toNat) := by
  unfold vget at h
  by_cases h1 : a < 0 ∨ (bs.length : Int) < a
  · rw [if_pos h1] at h; injection h with _ h; injection h with _ h; omega
  · rw [if_neg h1] at h
    rcases hR : vgetF 0 0 (bs.drop a.toNat) with ⟨v', k', e'⟩
    rw [hR] at h
    simp only at h
    by_cases h2 : e' = 0
    · rw [if_pos h2] at h
      injection h with e1 h
      injection h with e2 _
      subst e1
      subst h2
      obtain ⟨q1, q2, q3, x, e3, e4, _⟩ := vgetF_ok (fun y hy => hb y (List.mem_of_mem_drop hy)) (by omega) (by decide) hR
      rw [List.length_drop] at q2
      simp at e3
      subst e3
      exact ⟨by omega, by omega, by omega, q3, by rw [← e4]; congr 1; omega⟩
    · rw [if_neg h2] at h
      injection h with _ h
      injection h with _ h
      omega
theorem vget_bounds {bs : List Nat} {a : Int} (hb : U8 bs) (hl : bs.length ≤ 140737488355328) : (vget bs a).1 < 18446744073709551616 ∧ 0 ≤ (vget bs a).2.1 ∧ (vget bs a).2.1 ≤ bs.length := by
  rcases h : vget bs a with ⟨v, n, e⟩
  by_cases he : e = 0
  · subst he
    obtain ⟨h1, h2, h3, h4, _⟩ := vget_at hb h
    exact ⟨h4, by show 0 ≤ n; omega, h3⟩
  · unfold vget at h
    split at h
    · injection h with h1 h; injection h with h2 _; subst h1; subst h2; exact ⟨by show 0 < _; omega, Int.le_refl _, by show (0 : Int) ≤ _; omega⟩
    · split at h
      · injection h with _ h; injection h with _ h; exact absurd h.symm he
      · injection h with h1 h; injection h with h2 _; subst h1; subst h2; exact ⟨by show 0 < _; omega, Int.le_refl _, by show (0 : Int) ≤ _; omega⟩
theorem u8_take {b : List Nat} (h : U8 b) (n : Nat) : U8 (b.take n) := fun v hv => h v (List.mem_of_mem_take hv)
theorem u8_drop {b : List Nat} (h : U8 b) (n : Nat) : U8 (b.drop n) := fun v hv => h v (List.mem_of_mem_drop hv)
def cut (bs : List Nat) (a m : Nat) : List Nat := (bs.drop a).take m
theorem cut_len {bs : List Nat} {a m : Nat} (h : a + m ≤ bs.length) : (cut bs a m).length = m := by simp [cut]; omega
theorem cut_u8 {bs : List Nat} (h : U8 bs) (a m : Nat) : U8 (cut bs a m) := u8_take (u8_drop h a) m
theorem cut_at {bs : List Nat} {a m i : Nat} (hi : i < m) : (cut bs a m).getD i 0 = bs.getD (a + i) 0 := by
  simp [cut, List.getD, List.getElem?_drop, hi]
def cp : List Nat → List Nat → Nat
  | x :: r, y :: s => if x = y then cp r s + 1 else 0
  | [], _ => 0
  | _ :: _, [] => 0
theorem cp_le : ∀ (a b : List Nat), cp a b ≤ a.length ∧ cp a b ≤ b.length
  | [], b => by simp [cp]
  | x :: r, [] => by simp [cp]
  | x :: r, y :: s => by
    have := cp_le r s
    unfold cp
    split <;> simp <;> omega
theorem cp_ge : ∀ (k : Nat) (a b : List Nat), k ≤ a.length → k ≤ b.length → a.take k = b.take k → k ≤ cp a b
  | 0, _, _, _, _, _ => Nat.zero_le _
  | k + 1, [], _, h, _, _ => by simp at h
  | k + 1, _ :: _, [], _, h, _ => by simp at h
  | k + 1, x :: r, y :: s, h1, h2, h3 => by
    rw [List.take_succ_cons, List.take_succ_cons] at h3
    injection h3 with e1 e2
    have := cp_ge k r s (by simpa using h1) (by simpa using h2) e2
    unfold cp
    rw [if_pos e1]
    omega
theorem cp_get : ∀ (a b : List Nat) (i : Nat), i < cp a b → a.getD i 0 = b.getD i 0
  | [], _, _, h => by simp [cp] at h
  | _ :: _, [], _, h => by simp [cp] at h
  | x :: r, y :: s, i, h => by
    unfold cp at h
    split at h
    · rename_i e
      cases i with
      | zero => simpa using e
      | succ i => simpa using cp_get r s i (by omega)
    · omega
theorem cp_ne : ∀ (a b : List Nat), cp a b < a.length → cp a b < b.length → a.getD (cp a b) 0 ≠ b.getD (cp a b) 0
  | [], _, h, _ => by simp at h
  | _ :: _, [], _, h => by simp at h
  | x :: r, y :: s, h1, h2 => by
    unfold cp at h1 h2 ⊢
    split at h1
    · rename_i e
      simp only [if_pos e] at h2 ⊢
      simp at h1 h2
      simpa using cp_ne r s (by omega) (by omega)
    · rename_i e
      simp only [if_neg e] at h2 ⊢
      simpa using e
theorem cp_step {a b : List Nat} {j : Nat} (h : j ≤ cp a b) (h1 : j < a.length) (h2 : j < b.length) (e : a.getD j 0 = b.getD j 0) : j + 1 ≤ cp a b := by
  rcases Nat.lt_or_ge j (cp a b) with hl | hg
  · exact hl
  · obtain rfl : j = cp a b := by omega
    exact absurd e (cp_ne a b h1 h2)
theorem cp_stop {a b : List Nat} {j : Nat} (h : j ≤ cp a b) (h1 : a.length ≤ j ∨ b.length ≤ j ∨ a.getD j 0 ≠ b.getD j 0) : cp a b = j := by
  rcases Nat.lt_or_ge j (cp a b) with hl | hg
  · have := cp_le a b
    have := cp_get a b j hl
    rcases h1 with h1 | h1 | h1
    · omega
    · omega
    · exact absurd this h1
  · omega
def ahead (acc : List (List Nat)) : List Nat := if acc.length % 16 = 0 then [] else acc.getD (acc.length - 1) []
theorem ahead_whole {acc : List (List Nat)} (h : acc.length % 16 = 0) : ahead acc = [] := if_pos h
theorem ahead_not {acc : List (List Nat)} (h : ¬ acc.length % 16 = 0) : ahead acc = acc.getD (acc.length - 1) [] := if_neg h
def ptext (last s : List Nat) : List Nat := vput (cp last s) ++ (vput (s.length - cp last s) ++ s.drop (cp last s))
def pencA : List (List Nat) → List (List Nat) → List Nat
  | _, [] => []
  | acc, s :: r => ptext (ahead acc) s ++ pencA (acc ++ [s]) r
def penc (ss : List (List Nat)) : List Nat := vput ss.length ++ pencA [] ss
theorem vput_le {u : Nat} (h : u < 18446744073709551616) : (vput u).length ≤ 10 := by rw [vput_len]; exact vsize_le h
theorem ptext_len {last s : List Nat} (h : s.length ≤ 200) : (ptext last s).length ≤ 220 := by
  have h1 := cp_le last s
  have h2 := vput_le (u := cp last s) (by omega)
  have h3 := vput_le (u := s.length - cp last s) (by omega)
  simp only [ptext, List.length_append, List.length_drop]
  omega
theorem ptext_u8 {last s : List Nat} (h : U8 s) : U8 (ptext last s) := by
  intro v hv
  simp only [ptext, List.mem_append] at hv
  rcases hv with hv | hv | hv
  · exact vput_u8 _ v hv
  · exact vput_u8 _ v hv
  · exact h v (List.mem_of_mem_drop hv)
theorem pencA_len : ∀ (acc ss : List (List Nat)), (∀ s ∈ ss, s.length ≤ 200) → (pencA acc ss).length ≤ 220 * ss.length
  | _, [], _ => by simp [pencA]
  | acc, s :: r, h => by
    have h1 := ptext_len (last := ahead acc) (h s (by simp))
    have h2 := pencA_len (acc ++ [s]) r (fun x hx => h x (by simp [hx]))
    simp only [pencA, List.length_append, List.length_cons]
    omega
theorem pencA_u8 : ∀ (acc ss : List (List Nat)), (∀ s ∈ ss, U8 s) → U8 (pencA acc ss)
  | _, [], _ => by intro v hv; cases hv
  | acc, s :: r, h => by
    intro v hv
    rcases List.mem_append.1 hv with hv | hv
    · exact ptext_u8 (h s (by simp)) v hv
    · exact pencA_u8 (acc ++ [s]) r (fun x hx => h x (by simp [hx])) v hv
theorem penc_u8 {ss : List (List Nat)} (h : ∀ s ∈ ss, U8 s) : U8 (penc ss) := by
  intro v hv
  rcases List.mem_append.1 hv with hv | hv
  · exact vput_u8 _ v hv
  · exact pencA_u8 [] ss h v hv
theorem penc_len {ss : List (List Nat)} (hn : ss.length ≤ 4096) (h : ∀ s ∈ ss, s.length ≤ 200) : (penc ss).length ≤ 1000000 := by
  have h1 := vput_le (u := ss.length) (by omega)
  have h2 := pencA_len [] ss h
  simp only [penc, List.length_append]
  omega
theorem pencA_step {ss : List (List Nat)} {j : Nat} {s : List Nat} (h : ss[j]? = some s) : pencA (ss.take j) (ss.drop j) = ptext (ahead (ss.take j)) s ++ pencA (ss.take (j + 1)) (ss.drop (j + 1)) := by
  obtain ⟨h1, rfl⟩ := List.getElem?_eq_some_iff.1 h
  rw [List.drop_eq_getElem_cons h1, pencA, List.take_succ_eq_append_getElem h1]
theorem ahead_take {ss : List (List Nat)} {j : Nat} (hj : j ≤ ss.length) : ahead (ss.take j) = if j % 16 = 0 then [] else ss.getD (j - 1) [] := by
  unfold ahead
  have e : (ss.take j).length = j := by simp; omega
  rw [e]
  by_cases h : j % 16 = 0
  · rw [if_pos h, if_pos h]
  · rw [if_neg h, if_neg h]
    have h0 : 0 < j := by
      rcases Nat.eq_zero_or_pos j with rfl | h0
      · simp at h
      · exact h0
    simp [List.getD, show j - 1 < j from by omega]
def ptx (bs : List Nat) (a : Int) (last : List Nat) : List Nat × Int × Int :=
  if (vget bs a).2.2 ≠ 0 then ([], 0, (vget bs a).2.2) else
  if (vget bs (vget bs a).2.1).2.2 ≠ 0 then ([], 0, (vget bs (vget bs a).2.1).2.2) else
  if last.length < (vget bs a).1 then ([], 0, 5) else
  if 200 < (vget bs (vget bs a).2.1).1 + (vget bs a).1 then ([], 0, 4) else
  if (bs.length : Int) - (vget bs (vget bs a).2.1).2.1 < (vget bs (vget bs a).2.1).1 then ([], 0, 2) else
  if (vget bs a).1 < cp last (last.take (vget bs a).1 ++ cut bs (vget bs (vget bs a).2.1).2.1.toNat (vget bs (vget bs a).2.1).1) then ([], 0, 5) else
  (last.take (vget bs a).1 ++ cut bs (vget bs (vget bs a).2.1).2.1.toNat (vget bs (vget bs a).2.1).1, (vget bs (vget bs a).2.1).2.1 + ((vget bs (vget bs a).2.1).1 : Int), 0)
section
variable {bs last : List Nat} {a n m e : Int} {k r : Nat}
theorem ptx_e1 (h : vget bs a = (k, n, e)) (he : e ≠ 0) : ptx bs a last = ([], 0, e) := by unfold ptx; rw [h]; exact if_pos he
theorem ptx_e2 (h : vget bs a = (k, n, 0)) (h2 : vget bs n = (r, m, e)) (he : e ≠ 0) : ptx bs a last = ([], 0, e) := by
  unfold ptx; rw [h]; simp only; rw [if_neg (by decide), h2]; exact if_pos he
theorem ptx_form (h : vget bs a = (k, n, 0)) (h2 : vget bs n = (r, m, 0)) (hk : last.length < k) : ptx bs a last = ([], 0, 5) := by
  unfold ptx; rw [h]; simp only; rw [if_neg (by decide), h2, if_neg (fun q => q rfl), if_pos hk]
theorem ptx_long (h : vget bs a = (k, n, 0)) (h2 : vget bs n = (r, m, 0)) (hk : k ≤ last.length) (hr : 200 < r + k) : ptx bs a last = ([], 0, 4) := by
  unfold ptx; rw [h]; simp only; rw [if_neg (by decide), h2, if_neg (fun q => q rfl), if_neg (by omega), if_pos hr]
theorem ptx_short (h : vget bs a = (k, n, 0)) (h2 : vget bs n = (r, m, 0)) (hk : k ≤ last.length) (hr : r + k ≤ 200) (hs : (bs.length : Int) - m < r) : ptx bs a last = ([], 0, 2) := by
  unfold ptx; rw [h]; simp only; rw [if_neg (by decide), h2, if_neg (fun q => q rfl), if_neg (by omega)]; simp only; rw [if_neg (by omega), if_pos hs]
theorem ptx_more (h : vget bs a = (k, n, 0)) (h2 : vget bs n = (r, m, 0)) (hk : k ≤ last.length) (hr : r + k ≤ 200) (hs : (r : Int) ≤ (bs.length : Int) - m) (hc : k < cp last (last.take k ++ cut bs m.toNat r)) : ptx bs a last = ([], 0, 5) := by
  unfold ptx; rw [h]; simp only; rw [if_neg (by decide), h2, if_neg (fun q => q rfl), if_neg (by omega)]; simp only; rw [if_neg (by omega), if_neg (by omega), if_pos hc]
theorem ptx_yes (h : vget bs a = (k, n, 0)) (h2 : vget bs n = (r, m, 0)) (hk : k ≤ last.length) (hr : r + k ≤ 200) (hs : (r : Int) ≤ (bs.length : Int) - m) (hc : cp last (last.take k ++ cut bs m.toNat r) ≤ k) : ptx bs a last = (last.take k ++ cut bs m.toNat r, m + (r : Int), 0) := by
  unfold ptx; rw [h]; simp only; rw [if_neg (by decide), h2, if_neg (fun q => q rfl), if_neg (by omega)]; simp only; rw [if_neg (by omega), if_neg (by omega), if_neg (by omega)]
end
theorem ptx_ok {bs last s : List Nat} {a n : Int} (hb : U8 bs) (hl : U8 last) (h : ptx bs a last = (s, n, 0)) :
    0 ≤ a ∧ a ≤ n ∧ n ≤ bs.length ∧ s.length ≤ 200 ∧ U8 s ∧ ptext last s = (bs.drop a.toNat).take (n.toNat - a.toNat) := by
  rcases h1 : vget bs a with ⟨k, n1, e1⟩
  by_cases g1 : e1 = 0
  · subst g1
    rcases h2 : vget bs n1 with ⟨r, m, e2⟩
    by_cases g2 : e2 = 0
    · subst g2
      by_cases hk : last.length < k
      · rw [ptx_form h1 h2 hk] at h; injection h with _ h; injection h with _ h; exact absurd h (by decide)
      · by_cases hr : 200 < r + k
        · rw [ptx_long h1 h2 (by omega) hr] at h; injection h with _ h; injection h with _ h; exact absurd h (by decide)
        · by_cases hs : (bs.length : Int) - m < r
          · rw [ptx_short h1 h2 (by omega) (by omega) hs] at h; injection h with _ h; injection h with _ h; exact absurd h (by decide)
          · by_cases hc : k < cp last (last.take k ++ cut bs m.toNat r)
            · rw [ptx_more h1 h2 (by omega) (by omega) (by omega) hc] at h; injection h with _ h; injection h with _ h; exact absurd h (by decide)
            · rw [ptx_yes h1 h2 (by omega) (by omega) (by omega) (by omega)] at h
              injection h with hs1 h
              injection h with hn1 _
              obtain ⟨a1, a2, a3, a4, a5⟩ := vget_at hb h1
              obtain ⟨b1, b2, b3, b4, b5⟩ := vget_at hb h2
              have hcl : (cut bs m.toNat r).length = r := cut_len (by omega)
              have htl : (last.take k).length = k := by simp; omega
              have hsl : s.length = k + r := by rw [← hs1, List.length_append, htl, hcl]
              have hpre : s.take k = last.take k := by rw [← hs1, List.take_append_of_le_length (by omega), List.take_of_length_le (by omega)]
              have hcp : cp last s = k := by
                have := cp_ge k last s (by omega) (by omega) hpre.symm
                rw [hs1] at hc
                omega
              refine ⟨a1, by omega, by omega, by omega, ?_, ?_⟩
              · intro v hv
                rw [← hs1] at hv
                rcases List.mem_append.1 hv with hv | hv
                · exact hl v (List.mem_of_mem_take hv)
                · exact cut_u8 hb _ _ v hv
              · have hd : s.drop k = cut bs m.toNat r := by rw [← hs1, List.drop_append_of_le_length (by omega), List.drop_of_length_le (by omega), List.nil_append]
                unfold ptext
                rw [hcp, hd, show s.length - k = r from by omega, a5, b5, ← hn1]
                unfold cut
                have e1 : n1.toNat = a.toNat + (n1.toNat - a.toNat) := by omega
                have e2 : m.toNat = n1.toNat + (m.toNat - n1.toNat) := by omega
                have e3 : (m + (r : Int)).toNat - a.toNat = (n1.toNat - a.toNat) + ((m.toNat - n1.toNat) + r) := by omega
                rw [e3, List.take_add, List.take_add, List.drop_drop, List.drop_drop, ← e1, ← e2]
    · rw [ptx_e2 h1 h2 g2] at h; injection h with _ h; injection h with _ h; exact absurd h g2
  · rw [ptx_e1 h1 g1] at h; injection h with _ h; injection h with _ h; exact absurd h g1
def pdA (bs : List Nat) : Nat → Int → List (List Nat) → List (List Nat) × Int
  | 0, a, acc => if a < bs.length then ([], 3) else (acc, 0)
  | n + 1, a, acc => if (ptx bs a (ahead acc)).2.2 ≠ 0 then ([], (ptx bs a (ahead acc)).2.2) else pdA bs n (ptx bs a (ahead acc)).2.1 (acc ++ [(ptx bs a (ahead acc)).1])
theorem pdA_err {bs : List Nat} {n : Nat} {a m e : Int} {acc : List (List Nat)} {s : List Nat} (h : ptx bs a (ahead acc) = (s, m, e)) (he : e ≠ 0) : pdA bs (n + 1) a acc = ([], e) := by rw [pdA, h]; exact if_pos he
theorem pdA_next {bs : List Nat} {n : Nat} {a m : Int} {acc : List (List Nat)} {s : List Nat} (h : ptx bs a (ahead acc) = (s, m, 0)) : pdA bs (n + 1) a acc = pdA bs n m (acc ++ [s]) := by rw [pdA, h]; exact if_neg (fun q => q rfl)
theorem pdA_trail {bs : List Nat} {a : Int} {acc : List (List Nat)} (h : a < bs.length) : pdA bs 0 a acc = ([], 3) := if_pos h
theorem pdA_end {bs : List Nat} {a : Int} {acc : List (List Nat)} (h : (bs.length : Int) ≤ a) : pdA bs 0 a acc = (acc, 0) := if_neg (by omega)
def pdec (bs : List Nat) : List (List Nat) × Int :=
  if (vget bs 0).2.2 ≠ 0 then ([], (vget bs 0).2.2) else if 4096 < (vget bs 0).1 then ([], 4) else pdA bs (vget bs 0).1 (vget bs 0).2.1 []
theorem pdec_err {bs : List Nat} {n e : Int} {k : Nat} (h : vget bs 0 = (k, n, e)) (he : e ≠ 0) : pdec bs = ([], e) := by unfold pdec; rw [h]; exact if_pos he
theorem pdec_long {bs : List Nat} {n : Int} {k : Nat} (h : vget bs 0 = (k, n, 0)) (hk : 4096 < k) : pdec bs = ([], 4) := by unfold pdec; rw [h]; simp only; rw [if_neg (by decide), if_pos hk]
theorem pdec_go {bs : List Nat} {n : Int} {k : Nat} (h : vget bs 0 = (k, n, 0)) (hk : k ≤ 4096) : pdec bs = pdA bs k n [] := by unfold pdec; rw [h]; simp only; rw [if_neg (by decide), if_neg (by omega)]
theorem ahead_u8 {acc : List (List Nat)} (h : ∀ s ∈ acc, U8 s) : U8 (ahead acc) := by
  unfold ahead
  split
  · intro v hv; cases hv
  · by_cases hj : acc.length - 1 < acc.length
    · have := h _ (List.getElem_mem hj)
      simpa [List.getD, hj] using this
    · simp [List.getD, hj]; intro v hv; cases hv
theorem pdA_ok {bs : List Nat} (hb : U8 bs) : ∀ (n : Nat) {a : Int} {acc ss : List (List Nat)}, (∀ s ∈ acc, U8 s) → 0 ≤ a → a ≤ bs.length → pdA bs n a acc = (ss, 0) →
    ∃ tt, ss = acc ++ tt ∧ tt.length = n ∧ pencA acc tt = bs.drop a.toNat ∧ ∀ s ∈ tt, s.length ≤ 200 ∧ U8 s
  | 0, a, acc, ss, _, h0, h1, h => by
    by_cases hl : a < bs.length
    · rw [pdA_trail hl] at h; injection h with _ h; exact absurd h (by decide)
    · rw [pdA_end (by omega)] at h
      injection h with h _
      exact ⟨[], by rw [← h]; simp, rfl, by rw [List.drop_of_length_le (by omega)]; rfl, by intro s hs; cases hs⟩
  | n + 1, a, acc, ss, hacc, h0, h1, h => by
    rcases hp : ptx bs a (ahead acc) with ⟨s, m, e⟩
    by_cases he : e = 0
    · subst he
      rw [pdA_next hp] at h
      obtain ⟨q1, q2, q3, q4, q5, q6⟩ := ptx_ok hb (ahead_u8 hacc) hp
      obtain ⟨tt, r1, r2, r3, r4⟩ := pdA_ok hb n (acc := acc ++ [s]) (by
        intro x hx
        rcases List.mem_append.1 hx with hx | hx
        · exact hacc x hx
        · simp at hx; subst hx; exact q5) (by omega) q3 h
      refine ⟨s :: tt, by rw [r1]; simp, by simp [r2], ?_, ?_⟩
      · rw [pencA, q6, r3, show m.toNat = a.toNat + (m.toNat - a.toNat) from by omega, ← List.drop_drop, show a.toNat + (m.toNat - a.toNat) - a.toNat = m.toNat - a.toNat from by omega, List.take_append_drop]
      · intro x hx
        rcases List.mem_cons.1 hx with rfl | hx
        · exact ⟨q4, q5⟩
        · exact r4 x hx
    · rw [pdA_err hp he] at h
      injection h with _ h
      exact absurd h he
theorem pdec_ok {bs : List Nat} {ss : List (List Nat)} (hb : U8 bs) (h : pdec bs = (ss, 0)) : penc ss = bs ∧ ss.length ≤ 4096 ∧ ∀ s ∈ ss, s.length ≤ 200 ∧ U8 s := by
  rcases h1 : vget bs 0 with ⟨k, n, e⟩
  by_cases he : e = 0
  · subst he
    by_cases hk : 4096 < k
    · rw [pdec_long h1 hk] at h; injection h with _ h; exact absurd h (by decide)
    · rw [pdec_go h1 (by omega)] at h
      obtain ⟨a1, a2, a3, a4, a5⟩ := vget_at hb h1
      obtain ⟨tt, r1, r2, r3, r4⟩ := pdA_ok hb k (acc := []) (by intro s hs; cases hs) (by omega) a3 h
      rw [List.nil_append] at r1
      subst r1
      refine ⟨?_, by omega, r4⟩
      unfold penc
      rw [r2, a5, r3]
      simp
  · rw [pdec_err h1 he] at h; injection h with _ h; exact absurd h he
def anyLong (ss : List (List Nat)) : Bool := ss.any fun s => decide (200 < s.length)
theorem anyLong_iff {ss : List (List Nat)} : anyLong ss = true ↔ ∃ s ∈ ss, 200 < s.length := by simp [anyLong]
theorem anyLong_no {ss : List (List Nat)} (h : anyLong ss = false) : ∀ s ∈ ss, s.length ≤ 200 := by
  intro s hs
  rcases Nat.lt_or_ge 200 s.length with h1 | h1
  · rw [anyLong_iff.2 ⟨s, hs, h1⟩] at h; cases h
  · exact h1
def skN (t : List Nat) : List (List Nat) → Nat
  | [] => 0
  | s :: r => if ordT s t < 0 then skN t r + 1 else 0
structure TxI (w : World) (s : Sl) : Prop where
  rd : Rd .u8 w s.A s.body.length s.body
  u8 : U8 s.body
  cap : s.body.length ≤ s.c
  top : s.c ≤ 9223372036854775807
  len : s.body.length ≤ 140737488355328
theorem TxI.ext {w w' : World} {s : Sl} (h : TxI w s) (he : Ext w w') : TxI w' s := ⟨h.rd.ext he, h.u8, h.cap, h.top, h.len⟩
theorem RdL.ext {w w' : World} {A : Option Addr} {n : Nat} {ss : List Sl} (h : RdL w A n ss) (he : Ext w w') : RdL w' A n ss := h.kept ((Kept.refl w []).ext he) (fun _ => by intro s hs; cases hs)
structure TxL (w : World) (A : Option Addr) (n : Nat) (ss : List Sl) : Prop where
  rd : RdL w A n ss
  each : ∀ s ∈ ss, TxI w s
theorem TxL.ext {w w' : World} {A : Option Addr} {n : Nat} {ss : List Sl} (h : TxL w A n ss) (he : Ext w w') : TxL w' A n ss := ⟨h.rd.ext he, fun s hs => (h.each s hs).ext he⟩
theorem TxL.len {w : World} {A : Option Addr} {n : Nat} {ss : List Sl} (h : TxL w A n ss) : ss.length = n := h.rd.1
theorem TxL.at_ {w : World} {A : Option Addr} {n : Nat} {ss : List Sl} (h : TxL w A n ss) {j : Nat} (hj : j < n) :
    ∃ b o s, A = some ⟨b, o, none⟩ ∧ ss[j]? = some s ∧ w.cell? ⟨b, o + j, none⟩ = some (.slice s.A s.body.length s.c) ∧ TxI w s := by
  obtain ⟨b, o, s, e, h1, h2⟩ := h.rd.at_ hj
  exact ⟨b, o, s, e, h1, h2, h.each s (List.mem_of_getElem? h1)⟩
def bodies (ss : List Sl) : List (List Nat) := ss.map Sl.body
theorem bodies_len (ss : List Sl) : (bodies ss).length = ss.length := List.length_map ..
theorem bodies_at {ss : List Sl} {j : Nat} {s : Sl} (h : ss[j]? = some s) : (bodies ss)[j]? = some s.body := by unfold bodies; rw [List.getElem?_map, h]; rfl
theorem bodies_get {ss : List Sl} {j : Nat} {s : Sl} (h : ss[j]? = some s) : (bodies ss).getD j [] = s.body := by unfold List.getD; rw [bodies_at h]; rfl
theorem palike_any (A A2 : Option Addr) (n c n2 c2 : Nat) (xs ys : List Nat) (w : World) (hx : Rd .u8 w A n xs) (hy : Rd .u8 w A2 n2 ys) (hn : n ≤ 140737488355328) (_hn2 : n2 ≤ 140737488355328) :
    Calls Tryz.prog 184 #[.slice A n c, .slice A2 n2 c2] w fun e w' => e = .returned (.int .i64 (cp xs ys)) ∧ ∃ q, w' = w.drewN q := by
  have hl := hx.len
  have hl2 := hy.len
  obtain ⟨R, hR⟩ : ∃ R, R = cp xs ys := ⟨_, rfl⟩
  rw [← hR]
  have HR := Lib.hid hR
  have Hl := Lib.hid hl
  have Hl2 := Lib.hid hl2
  clear hR hl hl2
  go_enter Tryz.func184, Tryz.ntmps184
  go_wp2
  go_loopw [5] (fun i wr => ∃ j q : Nat, j ≤ n ∧ j ≤ n2 ∧ i = .int .i64 j ∧ wr = w.drewN q ∧ Hid (j ≤ R)) (fun i _ => n - (intOf i).toNat)
  case atStart => exact ⟨0, 0, Nat.zero_le _, Nat.zero_le _, rfl, rfl, Nat.zero_le _⟩
  case round =>
    obtain ⟨j, q, hj, hj2, rfl, rfl, Hj⟩ := hrel
    by_cases hlt1 : j < n
    · by_cases hlt2 : j < n2
      · obtain ⟨b, o, rfl, hbl, hc⟩ := hx.at_ hlt1
        obtain ⟨b', o', rfl, hbl', hc'⟩ := hy.at_ hlt2
        have e0 : xs.getD j 0 = ys.getD j 0 → j + 1 ≤ R := fun e => by rw [HR.out]; exact cp_step (by rw [← HR.out]; exact Hj.out) (by rw [Hl.out]; exact hlt1) (by rw [Hl2.out]; exact hlt2) e
        have e1 : xs.getD j 0 ≠ ys.getD j 0 → R = j := fun e => by rw [HR.out]; exact cp_stop (by rw [← HR.out]; exact Hj.out) (.inr (.inr e))
        obtain ⟨u, hu⟩ : ∃ u, u = xs.getD j 0 := ⟨_, rfl⟩
        obtain ⟨v, hv⟩ : ∃ v, v = ys.getD j 0 := ⟨_, rfl⟩
        rw [← hu] at hc e0 e1
        rw [← hv] at hc' e0 e1
        clear hu hv
        have hji : (j : Int) < (n : Int) := by omega
        have hji2 : (j : Int) < (n2 : Int) := by omega
        by_cases huv : u = v
        · subst huv
          have HN := Lib.hid (e0 rfl)
          clear e0 e1
          go_wp2_with fail
          go_quiet (fail)
          go_wp2
          go_roundw
          case rel => exact ⟨j + 1, _, by omega, by omega, by go_num, rfl, HN⟩
          case measure => simp [intOf]; omega
        · have HE := Lib.hid (e1 huv)
          have d1 : ((u : Int) == (v : Int)) = false := by rw [beq_eq_false_iff_ne]; omega
          clear e0 e1 huv
          go_wp2_with fail
          go_quiet (fail)
          go_wp2
          go_ret
          exact ⟨by rw [HE.out]; rfl, _, by first | rfl | exact World.drewN_drewN .. | exact drew3 .. | fail⟩
      · have HE := Lib.hid (show R = j by rw [HR.out]; exact cp_stop (by rw [← HR.out]; exact Hj.out) (.inr (.inl (by rw [Hl2.out]; omega))))
        have d0 : decide (j < n) = true := decide_eq_true hlt1
        have d1 : decide (j < n2) = false := decide_eq_false hlt2
        have d0' : decide ((j : Int) < (n : Int)) = true := decide_eq_true (by omega)
        have d1' : decide ((j : Int) < (n2 : Int)) = false := decide_eq_false (by omega)
        go_wp2_with fail
        go_quiet (fail)
        go_wp2
        go_ret
        exact ⟨by rw [HE.out]; rfl, _, by first | rfl | exact World.drewN_drewN .. | exact drew3 .. | fail⟩
    · have HE := Lib.hid (show R = j by rw [HR.out]; exact cp_stop (by rw [← HR.out]; exact Hj.out) (.inl (by rw [Hl.out]; omega)))
      have d0 : decide (j < n) = false := decide_eq_false hlt1
      have d0' : decide ((j : Int) < (n : Int)) = false := decide_eq_false (by omega)
      go_wp2_with fail
      go_quiet (fail)
      go_wp2
      go_ret
      exact ⟨by rw [HE.out]; rfl, _, by first | rfl | exact World.drewN_drewN .. | exact drew3 .. | fail⟩
theorem refSame11_any (A A2 : Option Addr) (n c n2 c2 : Nat) (xs ys : List Nat) (w : World) (hx : Rd .u8 w A n xs) (hy : Rd .u8 w A2 n2 ys) (hn : n ≤ 140737488355328) (hn2 : n2 ≤ 140737488355328) :
    Calls Tryz.prog 161 #[.slice A n c, .slice A2 n2 c2] w fun e w' => e = .returned (.int .i64 (cp xs ys)) ∧ ∃ q, w' = w.drewN q := by
  have hl := hx.len
  have hl2 := hy.len
  obtain ⟨R, hR⟩ : ∃ R, R = cp xs ys := ⟨_, rfl⟩
  rw [← hR]
  have HR := Lib.hid hR
  have Hl := Lib.hid hl
  have Hl2 := Lib.hid hl2
  clear hR hl hl2
  go_enter Tryz.func161, Tryz.ntmps161
  go_wp2
  go_loopw [5] (fun i wr => ∃ j q : Nat, j ≤ n ∧ j ≤ n2 ∧ i = .int .i64 j ∧ wr = w.drewN q ∧ Hid (j ≤ R)) (fun i _ => n - (intOf i).toNat)
  case atStart => exact ⟨0, 0, Nat.zero_le _, Nat.zero_le _, rfl, rfl, Nat.zero_le _⟩
  case round =>
    obtain ⟨j, q, hj, hj2, rfl, rfl, Hj⟩ := hrel
    by_cases hlt1 : j < n
    · by_cases hlt2 : j < n2
      · obtain ⟨b, o, rfl, hbl, hc⟩ := hx.at_ hlt1
        obtain ⟨b', o', rfl, hbl', hc'⟩ := hy.at_ hlt2
        have e0 : xs.getD j 0 = ys.getD j 0 → j + 1 ≤ R := fun e => by rw [HR.out]; exact cp_step (by rw [← HR.out]; exact Hj.out) (by rw [Hl.out]; exact hlt1) (by rw [Hl2.out]; exact hlt2) e
        have e1 : xs.getD j 0 ≠ ys.getD j 0 → R = j := fun e => by rw [HR.out]; exact cp_stop (by rw [← HR.out]; exact Hj.out) (.inr (.inr e))
        obtain ⟨u, hu⟩ : ∃ u, u = xs.getD j 0 := ⟨_, rfl⟩
        obtain ⟨v, hv⟩ : ∃ v, v = ys.getD j 0 := ⟨_, rfl⟩
        rw [← hu] at hc e0 e1
        rw [← hv] at hc' e0 e1
        clear hu hv
        have hji : (j : Int) < (n : Int) := by omega
        have hji2 : (j : Int) < (n2 : Int) := by omega
        by_cases huv : u = v
        · subst huv
          have HN := Lib.hid (e0 rfl)
          clear e0 e1
          go_wp2_with fail
          go_quiet (fail)
          go_wp2
          go_roundw
          case rel => exact ⟨j + 1, _, by omega, by omega, by go_num, rfl, HN⟩
          case measure => simp [intOf]; omega
        · have HE := Lib.hid (e1 huv)
          have d1 : ((u : Int) == (v : Int)) = false := by rw [beq_eq_false_iff_ne]; omega
          have d2 : ((u : Int) != (v : Int)) = true := by rw [bne_iff_ne]; omega
          clear e0 e1 huv
          go_wp2_with fail
          go_quiet (fail)
          go_wp2
          go_ret
          exact ⟨by rw [HE.out]; rfl, _, by first | rfl | exact World.drewN_drewN .. | exact drew3 .. | fail⟩
      · have HE := Lib.hid (show R = j by rw [HR.out]; exact cp_stop (by rw [← HR.out]; exact Hj.out) (.inr (.inl (by rw [Hl2.out]; omega))))
        have hji : (j : Int) < (n : Int) := by omega
        obtain rfl : j = n2 := by omega
        go_wp2_with fail
        go_quiet (fail)
        go_wp2
        go_ret
        exact ⟨by rw [HE.out]; rfl, _, by first | rfl | exact World.drewN_drewN .. | exact drew3 .. | fail⟩
    · have HE := Lib.hid (show R = j by rw [HR.out]; exact cp_stop (by rw [← HR.out]; exact Hj.out) (.inl (by rw [Hl.out]; omega)))
      have hji : ¬ (j : Int) < (n : Int) := by omega
      obtain rfl : j = n := by omega
      go_wp2
      go_ret
      exact ⟨by rw [HE.out]; rfl, _, by first | rfl | exact World.drewN_drewN .. | exact drew3 .. | fail⟩
structure Shape (T : Type) where
  cells : T → List Value
  sz : Nat
  len : ∀ x, (cells x).length = sz
  one : ∀ x, ∀ u ∈ cells x, u.oneCell' = true
section
variable {T : Type} {s : Shape T}
def Shape.all (s : Shape T) (xs : List T) : List Value := (xs.map s.cells).flatten
theorem Shape.all_cons (x : T) (xs : List T) : s.all (x :: xs) = s.cells x ++ s.all xs := by simp [Shape.all]
theorem Shape.all_snoc (xs : List T) (x : T) : s.all (xs ++ [x]) = s.all xs ++ s.cells x := by simp [Shape.all]
theorem Shape.all_at : ∀ {xs : List T} {j i : Nat} {x : T} {u : Value}, xs[j]? = some x → (s.cells x)[i]? = some u → (s.all xs)[j * s.sz + i]? = some u := by
  intro xs
  induction xs with
  | nil => intro j i x u h; simp at h
  | cons y r ih =>
    intro j i x u h k
    have hi : i < s.sz := by have := (List.getElem?_eq_some_iff.1 k).1; rw [s.len] at this; exact this
    cases j with
    | zero =>
      simp at h; subst h
      rw [Shape.all_cons, Nat.zero_mul, Nat.zero_add, List.getElem?_append_left (by rw [s.len]; exact hi)]
      exact k
    | succ j =>
      have h2 : r[j]? = some x := by simpa using h
      rw [Shape.all_cons, List.getElem?_append_right (by rw [s.len, Nat.succ_mul]; omega), s.len, show (j + 1) * s.sz + i - s.sz = j * s.sz + i from by rw [Nat.succ_mul]; omega]
      exact ih h2 k
theorem Shape.all_set : ∀ {xs : List T} {j i : Nat} {x y : T} {u : Value}, xs[j]? = some x → i < s.sz → s.cells y = (s.cells x).set i u → s.all (xs.set j y) = (s.all xs).set (j * s.sz + i) u := by
  intro xs
  induction xs with
  | nil => intro j i x y u h; simp at h
  | cons z r ih =>
    intro j i x y u h hi k
    cases j with
    | zero =>
      simp at h; subst h
      rw [List.set_cons_zero, Shape.all_cons, Shape.all_cons, k, Nat.zero_mul, Nat.zero_add, List.set_append_left _ _ (by rw [s.len]; exact hi)]
    | succ j =>
      have h2 : r[j]? = some x := by simpa using h
      rw [List.set_cons_succ, Shape.all_cons, Shape.all_cons, ih h2 hi k, List.set_append_right _ _ (by rw [s.len, Nat.succ_mul]; omega), s.len, show (j + 1) * s.sz + i - s.sz = j * s.sz + i from by rw [Nat.succ_mul]; omega]
def RdG (s : Shape T) (w : World) (A : Option Addr) (n : Nat) (xs : List T) : Prop :=
  xs.length = n ∧ (0 < n → ∃ b o, A = some ⟨b, o, none⟩ ∧ b < w.heap.size ∧ ∀ j x, xs[j]? = some x → ∀ i u, (s.cells x)[i]? = some u → w.cell? ⟨b, o + j * s.sz + i, none⟩ = some u)
variable {w w' : World} {A : Option Addr} {n : Nat} {xs : List T}
theorem RdG.len (h : RdG s w A n xs) : xs.length = n := h.1
theorem RdG.nil (s : Shape T) (w : World) (A : Option Addr) : RdG s w A 0 [] := ⟨rfl, fun h => absurd h (by omega)⟩
theorem RdG.ext (h : RdG s w A n xs) (hb : Ext w w') : RdG s w' A n xs :=
  ⟨h.1, fun hn => by
    obtain ⟨b, o, e, hlt, hc⟩ := h.2 hn
    exact ⟨b, o, e, Nat.lt_of_lt_of_le hlt hb.size, fun j x hj i u hu => (Below.cell hb (p := ⟨b, o + j * s.sz + i, none⟩) hlt).trans (hc j x hj i u hu)⟩⟩
theorem RdG.drewN (h : RdG s w A n xs) (q : Nat) : RdG s (w.drewN q) A n xs := h
theorem RdG.lt (h : RdG s w A n xs) (hn : 0 < n) : ∀ a, A = some a → a.block < w.heap.size := by
  obtain ⟨b, o, rfl, hb, _⟩ := h.2 hn
  intro a ha
  injection ha with ha
  subst ha
  exact hb
theorem RdG.grown (h : RdG s w A n xs) {row : Option Nat} (hg : w.grownBy w' row) (hne : 0 < n → ∀ a, A = some a → some a.block ≠ row) : RdG s w' A n xs :=
  ⟨h.1, fun hn => by
    obtain ⟨b, o, e, hlt, hc⟩ := h.2 hn
    exact ⟨b, o, e, Nat.lt_of_lt_of_le hlt hg.size, fun j x hj i u hu => (World.cell?_of_block (w := w) (a := ⟨b, o + j * s.sz + i, none⟩) (hg.block b hlt (hne hn _ e))).trans (hc j x hj i u hu)⟩⟩
theorem RdG.at_ (h : RdG s w A n xs) {j : Nat} (hj : j < n) :
    ∃ b o x, A = some ⟨b, o, none⟩ ∧ b < w.heap.size ∧ xs[j]? = some x ∧ ∀ i u, (s.cells x)[i]? = some u → w.cell? ⟨b, o + j * s.sz + i, none⟩ = some u := by
  obtain ⟨b, o, e, hlt, hc⟩ := h.2 (by omega)
  have hjl : j < xs.length := by rw [h.1]; exact hj
  have hf : xs[j]? = some xs[j] := List.getElem?_eq_getElem hjl
  exact ⟨b, o, _, e, hlt, hf, hc j _ hf⟩
def OwnG (s : Shape T) (e : TypeId) (w : World) (base : Nat) (A : Option Addr) (c : Nat) (xs : List T) : Prop := w.ownsRow base e s.sz (.slice A xs.length c) xs.length (s.all xs)
variable {e : TypeId} {base c : Nat}
theorem OwnG.nil (s : Shape T) (e : TypeId) (w : World) (base : Nat) : OwnG s e w base none 0 [] := World.ownsRow_nil w base e s.sz
theorem OwnG.made (s : Shape T) (e : TypeId) (w : World) (hb : base ≤ w.heap.size) : OwnG s e (w.alloc (.cells #[] e)) base (some ⟨w.heap.size, 0, none⟩) 0 [] :=
  World.ownsRow_made w #[] 0 hb (by simp [maxLen]) (by simp)
theorem OwnG.ext (h : OwnG s e w base A c xs) (hb : Ext w w') : OwnG s e w' base A c xs := by
  refine World.ownsRow.kept (row := none) h ⟨hb.os, hb.tape, hb.output, hb.size, fun i hi _ => hb.block i hi⟩ ?_
  cases hv : (Value.slice A xs.length c).ownBlock <;> simp
theorem OwnG.grown (h : OwnG s e w base A c xs) {row : Option Nat} (hg : w.grownBy w' row) (hne : ∀ a, A = some a → some a.block ≠ row) : OwnG s e w' base A c xs := by
  refine World.ownsRow.kept h hg ?_
  cases A with
  | none => exact Or.inl rfl
  | some a => exact Or.inr (hne a rfl)
theorem OwnG.mono (h : OwnG s e w base A c xs) {base' : Nat} (hb : base' ≤ base) : OwnG s e w base' A c xs := by
  refine ⟨h.1, ?_⟩
  rcases h.2 with hn | ⟨g, cap, cur, hv, hg, r⟩
  · exact Or.inl hn
  · exact Or.inr ⟨g, cap, cur, hv, Nat.le_trans hb hg, r⟩
theorem OwnG.block (h : OwnG s e w base A c xs) : ∀ a, A = some a → base ≤ a.block ∧ a.block < w.heap.size := by
  rintro a rfl
  exact h.lt a.block rfl
theorem OwnG.at_ (h : OwnG s e w base A c xs) {j : Nat} (hj : j < xs.length) :
    ∃ b x, A = some ⟨b, 0, none⟩ ∧ base ≤ b ∧ b < w.heap.size ∧ xs[j]? = some x ∧ (∀ i u, (s.cells x)[i]? = some u → w.cell? ⟨b, j * s.sz + i, none⟩ = some u) ∧ (∀ i, w.frozen? ⟨b, i, none⟩ = false) ∧
      ∀ i y u, i < s.sz → s.cells y = (s.cells x).set i u → OwnG s e (w.setCell ⟨b, j * s.sz + i, none⟩ u) base A c (xs.set j y) ∧ w.grownBy (w.setCell ⟨b, j * s.sz + i, none⟩ u) (some b) := by
  have h0 := h
  have hf : xs[j]? = some xs[j] := List.getElem?_eq_getElem hj
  rcases h.2 with ⟨_, hn⟩ | ⟨g, cap, cur, hv, hg, hh, _⟩
  · omega
  · injection hv with hA hl hc
    subst hA
    subst hc
    have hlt : g < w.heap.size := (Array.getElem?_eq_some_iff.1 hh).1
    refine ⟨g, xs[j], rfl, hg, hlt, hf, fun i u hu => ?_, fun i => World.ownsRow.frozenAt h0 i, fun i y u hi hy => ?_⟩
    · have hi : i < s.sz := by have := (List.getElem?_eq_some_iff.1 hu).1; rw [s.len] at this; exact this
      rw [World.ownsRow.cellAt h0 (j * s.sz + i) ?_]
      · exact Shape.all_at hf hu
      · have : (j + 1) * s.sz ≤ xs.length * s.sz := Nat.mul_le_mul_right _ hj
        rw [Nat.succ_mul] at this
        omega
    · obtain ⟨h1, h2⟩ := World.ownsRow.stored h0 (j * s.sz + i) u
      refine ⟨?_, h2⟩
      unfold OwnG
      rw [List.length_set, Shape.all_set hf hi hy]
      exact h1
theorem OwnG.cap (h : OwnG s e w base A c xs) : xs.length ≤ c ∧ c ≤ 9223372036854775807 := by
  rcases h.2 with ⟨hv, h0⟩ | ⟨g, cap, cur, hv, hg, hh, hnc, hcm, _⟩
  · injection hv with hA hl hc
    omega
  · injection hv with hA hl hc
    subst hc
    exact ⟨hnc, by simpa [maxLen] using hcm⟩
theorem OwnG.rd (h : OwnG s e w base A c xs) : RdG s w A xs.length xs := by
  refine ⟨rfl, fun hn => ?_⟩
  obtain ⟨b, x0, hA, _, hlt, _⟩ := h.at_ hn
  refine ⟨b, 0, hA, hlt, fun j x hj i u hu => ?_⟩
  obtain ⟨b', x', hA', _, _, hx', hc, _⟩ := h.at_ (List.getElem?_eq_some_iff.1 hj).1
  rw [hA] at hA'
  injection hA' with hA'
  injection hA' with hb
  subst hb
  rw [hj] at hx'
  injection hx' with hx'
  subst hx'
  rw [Nat.zero_add]
  exact hc i u hu
theorem OwnG.rd' (h : OwnG s e w base A c xs) {n : Nat} (hn : xs.length = n) : RdG s w A n xs := hn ▸ h.rd
theorem OwnG.head (h : OwnG s e w base A c xs) (hn : 0 < xs.length) : ∃ b, A = some ⟨b, 0, none⟩ := by
  obtain ⟨b, _, hb, _⟩ := h.at_ hn
  exact ⟨b, hb⟩
theorem wpList_pushG {P : Program} {w0 w : World} {ops : Array Oper} {rest : List Oper} {o : Oper} {a : Act} {Q : Exit → Act → World → Prop} (s : Shape T) (x : T) (e : TypeId) (hgd : o.guard = none) (v y : Operand) (t : TypeId)
    (ho : o.op = .call { callee := .builtin .append, args := #[v, y], argTypes := #[t, t] })
    (z : Value) (bytes : Nat) (ht : P.underlying t = some (.slice e)) (hi : (P.info? e).map (fun i => (i.zero, i.size, i.bytes)) = some (some z, s.sz, bytes)) (hzs : z.cells.size = s.sz) (hs0 : 0 < s.sz)
    {base : Nat} {A : Option Addr} {c : Nat} {xs : List T} (hown : OwnG s e w base A c xs) (n : Nat) (hn : xs.length = n) (hs : a.eval v = .slice A n c)
    {g : Nat} {e' : TypeId} (hy : a.eval y = .slice (some ⟨g, 0, none⟩) 1 1) (hg : w.heap[g]? = some (.cells (s.cells x).toArray e'))
    (hlen : ((n + 1) + (n + 1) / 4 + 192) * bytes ≤ 281474976710656) (hby : 0 < bytes) (hb : Below base w0 w) (hbase : base ≤ w.heap.size)
    (h : ∀ A' c' w', OwnG s e w' base A' c' (xs ++ [x]) → w.grownBy w' (Value.slice A n c).ownBlock → Below base w0 w' → base ≤ w'.heap.size → wpList P ops Q rest (a.put o.dst (.slice A' (n + 1) c')) w') :
    wpList P ops Q (o :: rest) a w := by
  subst hn
  obtain ⟨i, hi0, hz, hsz, hbs⟩ := info_parts hi
  have hle : xs.length + 1 ≤ 281474976710656 := Nat.le_trans (Nat.le_trans (by omega) (Nat.le_mul_of_pos_right ((xs.length + 1) + (xs.length + 1) / 4 + 192) hby)) hlen
  refine wpList_append_own_wide _ hgd v y t ho base e i z s.sz bytes ht hi0 hz hsz hbs hzs hs0 _ xs.length (s.all xs) hs hown
    ⟨g, 0, none⟩ 1 1 (s.cells x) hy (by rw [s.len, Nat.one_mul]) ?_ (s.one x) (by unfold maxLen; omega) hlen hbase ?_
  · intro j u hj
    rw [show (⟨g, 0, none⟩ : Addr).add j = ⟨g, j, none⟩ from by unfold Addr.add; split <;> simp_all]
    rw [cell_of_row w g j _ _ (0, 0) hg, ← hj]
    simp
  · intro v' w' hown' hgr _
    have hform : ∃ A' c', v' = .slice A' (xs.length + 1) c' := by
      rcases hown'.2 with ⟨_, h0⟩ | ⟨g, cap, cur, hv, _⟩
      · omega
      · exact ⟨_, _, hv⟩
    obtain ⟨A', c', rfl⟩ := hform
    have hb' : Below base w0 w' := Below.grown hb hgr hbase (fun g hg' => (hown.lt g hg').1)
    refine h A' c' w' ?_ hgr hb' ?_
    · unfold OwnG
      rw [List.length_append, Shape.all_snoc]
      exact hown'
    · have := hgr.size
      omega
theorem RdG.lit (s : Shape T) (e : TypeId) (w : World) (xs : List T) {b n : Nat} (hb : w.heap.size = b) (hn : xs.length = n) : RdG s (w.alloc (.cells (s.all xs).toArray e)) (some ⟨b, 0, none⟩) n xs := by
  subst hb
  subst hn
  refine ⟨rfl, fun hn => ⟨w.heap.size, 0, rfl, by simp, fun j x hj i u hu => ?_⟩⟩
  rw [cell_of_row _ w.heap.size _ _ e (0, 0) (heap_alloc_new w _), Nat.zero_add]
  simpa using Shape.all_at hj hu
end
def shZ : Shape Int := ⟨fun x => [.int .i64 x], 1, fun _ => rfl, by intro x u hu; simp at hu; subst hu; rfl⟩
def shR : Shape (Int × Int) := ⟨fun x => [.int .i64 x.1, .int .i64 x.2], 2, fun _ => rfl, by intro x u hu; simp at hu; rcases hu with rfl | rfl <;> rfl⟩
theorem shZ.all (xs : List Int) : shZ.all xs = xs.map (Value.int .i64) := by
  induction xs with
  | nil => rfl
  | cons x r ih => rw [Shape.all_cons, ih]; rfl
theorem RdG.atZ {w : World} {A : Option Addr} {n : Nat} {xs : List Int} (h : RdG shZ w A n xs) {j : Nat} (hj : j < n) :
    ∃ b o, A = some ⟨b, o, none⟩ ∧ b < w.heap.size ∧ w.cell? ⟨b, o + j, none⟩ = some (.int .i64 (xs.getD j 0)) := by
  obtain ⟨b, o, x, e, hb, hx, hc⟩ := h.at_ hj
  refine ⟨b, o, e, hb, ?_⟩
  have h1 := hc 0 (.int .i64 x) rfl
  rw [show o + j * shZ.sz + 0 = o + j from by show o + j * 1 + 0 = o + j; omega] at h1
  rw [h1, List.getD, hx]
  rfl
theorem RdG.atR {w : World} {A : Option Addr} {n : Nat} {xs : List (Int × Int)} (h : RdG shR w A n xs) {j : Nat} (hj : j < n) :
    ∃ b o, A = some ⟨b, o, none⟩ ∧ b < w.heap.size ∧ w.cell? ⟨b, o + j * 2, none⟩ = some (.int .i64 (xs.getD j (0, 0)).1) ∧ w.cell? ⟨b, o + j * 2 + 1, none⟩ = some (.int .i64 (xs.getD j (0, 0)).2) := by
  obtain ⟨b, o, x, e, hb, hx, hc⟩ := h.at_ hj
  refine ⟨b, o, e, hb, ?_, ?_⟩
  · have h1 := hc 0 (.int .i64 x.1) rfl
    rw [show o + j * shR.sz + 0 = o + j * 2 from rfl] at h1
    rw [h1, List.getD, hx]
    rfl
  · have h1 := hc 1 (.int .i64 x.2) rfl
    rw [show o + j * shR.sz + 1 = o + j * 2 + 1 from rfl] at h1
    rw [h1, List.getD, hx]
    rfl
theorem take_nextG {T : Type} (xs : List T) (j : Nat) {x : T} (h : xs[j]? = some x) : xs.take (j + 1) = xs.take j ++ [x] := by
  obtain ⟨h1, rfl⟩ := List.getElem?_eq_some_iff.1 h
  rw [List.take_succ_eq_append_getElem h1]
def shS : Shape Sl := ⟨fun s => [s.v], 1, fun _ => rfl, by intro x u hu; simp at hu; subst hu; rfl⟩
abbrev OwnT (w : World) (base : Nat) (A : Option Addr) (c : Nat) (ts : List Sl) : Prop := OwnG shS 22 w base A c ts
theorem RdG.rdL {w : World} {A : Option Addr} {n : Nat} {ts : List Sl} (h : RdG shS w A n ts) : RdL w A n ts :=
  ⟨h.1, fun hn => by
    obtain ⟨b, o, e, hb, hc⟩ := h.2 hn
    refine ⟨b, o, e, hb, fun j s hj => ?_⟩
    have := hc j s hj 0 s.v rfl
    rw [show o + j * shS.sz + 0 = o + j from by show o + j * 1 + 0 = o + j; omega] at this
    exact this⟩
theorem OwnG.rdL {w : World} {base c : Nat} {A : Option Addr} {ts : List Sl} (h : OwnT w base A c ts) : RdL w A ts.length ts := h.rd.rdL
theorem own_neT {w : World} {base base' c c' : Nat} {A A' : Option Addr} {ts : List Sl} {xs : List Nat} (h : OwnT w base A c ts) (k : Own .u8 5 w base' A' c' xs) : ∀ a, A' = some a → some a.block ≠ (Value.slice A ts.length c).ownBlock := by
  rintro a rfl e
  rcases h.2 with ⟨hv, _⟩ | ⟨g, cap, cur, hv, hg, hh, _⟩
  · rw [hv] at e; simp [Value.ownBlock] at e
  · rw [hv] at e
    simp [Value.ownBlock] at e
    rcases k.2 with ⟨hv', _⟩ | ⟨g', cap', cur', hv', _, hh', _⟩
    · cases hv'
    · injection hv' with hA
      injection hA with hA
      subst hA
      simp at e
      subst e
      rw [hh] at hh'
      injection hh' with hh'
      injection hh' with h1 h2 h3
      exact absurd h2 (by decide)
structure Txts (w : World) (base : Nat) (ts : List Sl) : Prop where
  own : ∀ s ∈ ts, Own .u8 5 w base s.A s.c s.body
  apart : ts.Pairwise fun s t => ∀ p q, s.A = some p → t.A = some q → p.block < q.block
variable {w w' : World} {base c : Nat} {A : Option Addr} {ts : List Sl}
theorem Txts.nil (w : World) (base : Nat) : Txts w base [] := ⟨fun s hs => (by cases hs), List.Pairwise.nil⟩
theorem Txts.ext (h : Txts w base ts) (he : Ext w w') : Txts w' base ts := ⟨fun s hs => (h.own s hs).ext he, h.apart⟩
theorem Txts.grown (h : Txts w base ts) {base' : Nat} {us : List Sl} (k : OwnT w base' A c us) (hg : w.grownBy w' (Value.slice A us.length c).ownBlock) : Txts w' base ts :=
  ⟨fun s hs => (h.own s hs).grown hg (own_neT k (h.own s hs)), h.apart⟩
theorem Txts.snoc (h : Txts w base ts) {s : Sl} {base' : Nat} (hs : Own .u8 5 w base' s.A s.c s.body) (hb : base ≤ base') (hl : ∀ t ∈ ts, ∀ p, t.A = some p → p.block < base') : Txts w base (ts ++ [s]) := by
  refine ⟨fun t ht => ?_, ?_⟩
  · rcases List.mem_append.1 ht with h1 | h1
    · exact h.own t h1
    · simp at h1; subst h1; exact hs.mono hb
  · rw [List.pairwise_append]
    refine ⟨h.apart, by simp, fun t ht f' hf' p q hp hq => ?_⟩
    simp at hf'
    subst hf'
    exact Nat.lt_of_lt_of_le (hl t ht p hp) (hs.block q hq).1
theorem Txts.lt (h : Txts w base ts) : ∀ t ∈ ts, ∀ p, t.A = some p → p.block < w.heap.size := fun t ht p hp => ((h.own t ht).block p hp).2
theorem Txts.far (h : Txts w base ts) {base' : Nat} {us : List Sl} (k : OwnT w base' A c us) : Far ts A := by
  intro s hs p q hp hq e
  have := own_neT k (h.own s hs) p hp
  subst hq
  simp [Value.ownBlock] at this
  rcases k.2 with ⟨hv, _⟩ | ⟨g, cap, cur, hv, _⟩
  · cases hv
  · injection hv with hA
    injection hA with hA
    subst hA
    exact this e
theorem Txts.rd (h : Txts w base ts) : ∀ s ∈ ts, Rd .u8 w s.A s.body.length s.body := fun s hs => (h.own s hs).rd
theorem wpList_pushT {w0 w : World} {ops : Array Oper} {rest : List Oper} {o : Oper} {a : Act} {Q : Exit → Act → World → Prop} (f : Sl) (hgd : o.guard = none) (s y : Operand)
    (ho : o.op = .call { callee := .builtin .append, args := #[s, y], argTypes := #[33, 33] })
    {base : Nat} {A : Option Addr} {c : Nat} {ss : List Sl} (hown : OwnT w base A c ss) (n : Nat) (hn : ss.length = n) (hs : a.eval s = .slice A n c)
    {g : Nat} (hy : a.eval y = .slice (some ⟨g, 0, none⟩) 1 1) (hg : w.heap[g]? = some (.cells #[.slice f.A f.body.length f.c] 22))
    (hlen : n ≤ 6000000000000) (hb : Below base w0 w) (hbase : base ≤ w.heap.size)
    (h : ∀ A' c' w', OwnT w' base A' c' (ss ++ [f]) → w.grownBy w' (Value.slice A n c).ownBlock → Below base w0 w' → base ≤ w'.heap.size → wpList Tryz.prog ops Q rest (a.put o.dst (.slice A' (n + 1) c')) w') :
    wpList Tryz.prog ops Q (o :: rest) a w :=
  wpList_pushG shS f 22 hgd s y 33 ho _ 24 Tryz.underlying33 Tryz.infoS rfl (by decide) hown n hn hs hy hg (by omega) (by omega) hb hbase h
def TxtsPost (R : List (List Nat) × Int) (w : World) (e : Ending) (w' : World) : Prop :=
  ∃ A' c' ts, e = .returned (.tuple #[.slice A' ts.length c', .int .i64 R.2]) ∧ bodies ts = R.1 ∧ OwnT w' w.heap.size A' c' ts ∧ Txts w' w.heap.size ts ∧ Ext w w'
theorem TxtsPost.bad {w w' : World} (R : List (List Nat) × Int) {E : Int} (h : R = ([], E)) (he : Ext w w') : TxtsPost R w (.returned (.tuple #[.slice none 0 0, .int .i64 E])) w' := by
  subst h
  exact ⟨none, 0, [], rfl, rfl, OwnG.nil .., Txts.nil .., he⟩
theorem TxtsPost.good {w w' : World} (R : List (List Nat) × Int) {ts : List Sl} {A : Option Addr} {m c : Nat} (h : R = (bodies ts, 0)) (hm : ts.length = m) (ho : OwnT w' w.heap.size A c ts) (ht : Txts w' w.heap.size ts) (he : Ext w w') : TxtsPost R w (.returned (.tuple #[.slice A m c, .int .i64 0])) w' := by
  subst h
  subst hm
  exact ⟨A, c, ts, rfl, rfl, ho, ht, he⟩
theorem conv_const (W : World) (g : Nat) (C : Array Value) (n c : Nat) (hg : W.heap.size = g) :
    (convert 22 22 (.slice (some ⟨g, 0, none⟩) n c)).run Tryz.prog (W.alloc (.cells C 5)) = .ok (.slice (some ⟨g, 0, none⟩) n c) (W.alloc (.cells C 5 (C.size, C.size + 1))) := by
  subst hg
  exact Lib.run_convert_bytes_const W 22 5 C n c Tryz.underlying22 Tryz.underlying5
theorem Rd.mark_at (k : IntKind) (e : TypeId) (fr : Nat × Nat) (w : World) (xs : List Nat) {b n : Nat} (hb : w.heap.size = b) (hn : xs.length = n) : Rd k (w.alloc (.cells (xs.map fun x : Nat => Value.int k (x : Int)).toArray e fr)) (some ⟨b, 0, none⟩) n xs := by
  subst hb
  subst hn
  refine ⟨rfl, fun hn => ⟨w.heap.size, 0, rfl, by simp, fun j hj => ?_⟩⟩
  rw [cell_of_row _ w.heap.size (0 + j) _ e fr (heap_alloc_new w _)]
  simp [hj]
theorem RdL.of_block {w : World} {g n : Nat} {ss : List Sl} {e : TypeId} (h : w.heap[g]? = some (.cells (ss.map Sl.v).toArray e)) (hn : ss.length = n) : RdL w (some ⟨g, 0, none⟩) n ss := by
  subst hn
  refine ⟨rfl, fun _ => ⟨g, 0, rfl, (Array.getElem?_eq_some_iff.1 h).1, fun j s hj => ?_⟩⟩
  rw [cell_of_row w g (0 + j) _ e (0, 0) h, Nat.zero_add]
  simp [hj]
theorem heap_at {W : World} {o : Obj} {g : Nat} (h : W.heap.size = g) : (W.alloc o).heap[g]? = some o := by subst h; exact heap_alloc_new W o
theorem TxI.of {w : World} {A : Option Addr} {c : Nat} {xs : List Nat} (h : Rd .u8 w A xs.length xs) (hu : U8 xs) (hc : xs.length ≤ c) (ht : c ≤ 9223372036854775807) (hl : xs.length ≤ 140737488355328) : TxI w ⟨A, c, xs⟩ := ⟨h, hu, hc, ht, hl⟩
def sstr (xs : List Nat) : ByteArray := strOfNums (xs.map fun x : Nat => (x : Int))
theorem conv_str {W : World} {A : Option Addr} {n c : Nat} {xs : List Nat} (h : Rd .u8 W A n xs) : (convert 22 9 (.slice A n c)).run Tryz.prog W = .ok (.string (sstr xs)) W := by
  have hl := h.len
  rcases Nat.eq_zero_or_pos n with h0 | h0
  · subst h0
    obtain rfl : xs = [] := List.eq_nil_of_length_eq_zero hl
    cases A with
    | none => exact run_convert_bytes_nil W 22 5 Tryz.underlying22 Tryz.underlying5 0 c _ Tryz.underlying9
    | some a =>
      have hz : (loadCells a 0).run Tryz.prog W = .ok (([] : List Int).map (Value.int .u8)).toArray W := by
        have := run_loadCells_list (P := Tryz.prog) W a [] (fun j v hj => by simp at hj)
        simpa using this
      rw [run_convert_bytes_string W 22 9 5 _ 0 c Tryz.underlying22 Tryz.underlying5 Tryz.underlying9, run_bytesToString W a 0 c [] hz]
      rfl
  · obtain ⟨b, o, rfl, hb, hc⟩ := h.2 h0
    exact run_convert_bytes_arg W 22 5 Tryz.underlying22 Tryz.underlying5 b o n c _ (by simpa using hl) (fun i hi => by
      rw [hc i hi]
      have : i < xs.length := by omega
      simp [List.getD, this]) _ Tryz.underlying9
structure Ci where
  nul : Bool
  num : Int
  A : Option Addr
  c : Nat
  txt : List Nat
def Ci.v (x : Ci) : Value := .agg #[.bool x.nul, .int .i64 x.num, .slice x.A x.txt.length x.c]
structure Ci.In (w : World) (x : Ci) : Prop where
  rd : Rd .u8 w x.A x.txt.length x.txt
  u8 : U8 x.txt
  lo : -9223372036854775808 ≤ x.num
  hi : x.num ≤ 9223372036854775807
  len : x.txt.length * 1 ≤ 140737488351232
theorem Ci.In.ext {w w' : World} {x : Ci} (h : x.In w) (he : Ext w w') : x.In w' := ⟨h.rd.ext he, h.u8, h.lo, h.hi, h.len⟩
def RdX (w : World) (A : Option Addr) (n : Nat) (xs : List Ci) : Prop :=
  xs.length = n ∧ (0 < n → ∃ b o, A = some ⟨b, o, none⟩ ∧ b < w.heap.size ∧ ∀ j x, xs[j]? = some x →
    w.cell? ⟨b, o + j * 3, none⟩ = some (.bool x.nul) ∧ w.cell? ⟨b, o + j * 3 + 1, none⟩ = some (.int .i64 x.num) ∧ w.cell? ⟨b, o + j * 3 + 2, none⟩ = some (.slice x.A x.txt.length x.c) ∧ x.In w)
theorem RdX.ext {w w' : World} {A : Option Addr} {n : Nat} {xs : List Ci} (h : RdX w A n xs) (hb : Ext w w') : RdX w' A n xs :=
  ⟨h.1, fun hn => by
    obtain ⟨b, o, e, hlt, hc⟩ := h.2 hn
    refine ⟨b, o, e, Nat.lt_of_lt_of_le hlt hb.size, fun j f hj => ?_⟩
    obtain ⟨h1, h2, h3, h4⟩ := hc j f hj
    exact ⟨(hb.cells b _ hlt).trans h1, (hb.cells b _ hlt).trans h2, (hb.cells b _ hlt).trans h3, h4.ext hb⟩⟩
theorem RdX.at_ {w : World} {A : Option Addr} {n : Nat} {xs : List Ci} (h : RdX w A n xs) {j : Nat} (hj : j < n) :
    ∃ b o x, A = some ⟨b, o, none⟩ ∧ b < w.heap.size ∧ xs[j]? = some x ∧ w.cell? ⟨b, o + j * 3, none⟩ = some (.bool x.nul) ∧ w.cell? ⟨b, o + j * 3 + 1, none⟩ = some (.int .i64 x.num) ∧ w.cell? ⟨b, o + j * 3 + 2, none⟩ = some (.slice x.A x.txt.length x.c) ∧ x.In w := by
  obtain ⟨b, o, e, hlt, hc⟩ := h.2 (by omega)
  have hjl : j < xs.length := by rw [h.1]; exact hj
  have hf : xs[j]? = some xs[j] := List.getElem?_eq_getElem hjl
  obtain ⟨h1, h2, h3, h4⟩ := hc j _ hf
  exact ⟨b, o, _, e, hlt, hf, h1, h2, h3, h4⟩
def alkC (x y : Ci) : Bool := alk x.nul x.num x.txt y.nul y.num y.txt
def alkF : List Ci → List Ci → Bool
  | x :: r, y :: s => if alkC x y = true then alkF r s else false
  | _, _ => true
def alkR (xs ys : List Ci) : Bool := if xs.length ≠ ys.length then false else alkF xs ys
theorem alkF_at {xs ys : List Ci} {j : Nat} {x y : Ci} (hx : xs[j]? = some x) (hy : ys[j]? = some y) : alkF (xs.drop j) (ys.drop j) = if alkC x y = true then alkF (xs.drop (j + 1)) (ys.drop (j + 1)) else false := by
  obtain ⟨h1, rfl⟩ := List.getElem?_eq_some_iff.1 hx
  obtain ⟨h2, rfl⟩ := List.getElem?_eq_some_iff.1 hy
  rw [List.drop_eq_getElem_cons h1, List.drop_eq_getElem_cons h2]
  rfl
theorem alkF_end {xs ys : List Ci} {j : Nat} (h : xs.length ≤ j) : alkF (xs.drop j) (ys.drop j) = true := by
  rw [List.drop_of_length_le h]
  cases ys.drop j <;> rfl
def Ci.val (x : Ci) : Bool × Int × List Nat := (x.nul, x.num, x.txt)
theorem alkC_iff {x y : Ci} : alkC x y = true ↔ x.val = y.val := by
  unfold alkC Ci.val
  rw [alk_iff]
  simp
theorem alkR_iff {xs ys : List Ci} : alkR xs ys = true ↔ xs.map Ci.val = ys.map Ci.val := by
  induction xs generalizing ys with
  | nil => cases ys <;> simp [alkR, alkF]
  | cons x r ih =>
    cases ys with
    | nil => simp [alkR]
    | cons y s =>
      have ih' := ih (ys := s)
      unfold alkR at ih' ⊢
      by_cases hl : r.length = s.length
      · rw [if_neg (fun q => q hl)] at ih'
        rw [if_neg (fun q => q (by simp [hl]))]
        rw [List.map_cons, List.map_cons, List.cons.injEq, ← ih', ← alkC_iff]
        show (if alkC x y = true then alkF r s else false) = true ↔ _
        split <;> simp_all
      · rw [if_pos (by simpa using hl)]
        simp only [Bool.false_eq_true, false_iff]
        intro q
        have := congrArg List.length q
        simp at this
        exact hl this
set_option maxHeartbeats 3200000 in
set_option maxRecDepth 100000 in
theorem alikeRow_any (A : Option Addr) (n c : Nat) (xs : List Ci) (A2 : Option Addr) (n2 c2 : Nat) (ys : List Ci) (w : World) (hx : RdX w A n xs) (hy : RdX w A2 n2 ys) (hn : n ≤ 140737488355328) (hn2 : n2 ≤ 140737488355328) :
    Calls Tryz.prog 12 #[.slice A n c, .slice A2 n2 c2] w fun e w' => e = .returned (.bool (alkR xs ys)) ∧ Ext w w' := by
  have hl := hx.1
  have hl2 := hy.1
  obtain ⟨R, hR⟩ : ∃ R, R = alkR xs ys := ⟨_, rfl⟩
  rw [← hR]
  unfold alkR at hR
  rw [hl, hl2] at hR
  by_cases heq : n = n2
  · subst heq
    rw [if_neg (fun q => q rfl)] at hR
    have HR := Lib.hid hR
    have Hl := Lib.hid hl
    have b1 : ((n : Int) != (n : Int)) = false := by simp
    clear hR hl hl2
    go_enter Tryz.func12, Tryz.ntmps12
    go_wp2
    go_loopw [5] (fun i wr => ∃ j : Nat, j ≤ n ∧ i = .int .i64 j ∧ Ext w wr ∧ Hid (R = alkF (xs.drop j) (ys.drop j))) (fun i _ => n - (intOf i).toNat)
    case atStart => exact ⟨0, Nat.zero_le _, rfl, Ext.refl w, HR.out⟩
    case round =>
      obtain ⟨j, hj, rfl, hE, HF⟩ := hrel
      by_cases hlt : j < n
      · obtain ⟨b, o, x, rfl, hb, hd, c0, c1, c2', hin⟩ := (hx.ext hE).at_ hlt
        obtain ⟨b2, o2, y, rfl, hb2, hy2, e0, e1, e2, hin2⟩ := (hy.ext hE).at_ hlt
        have hrow := HF.out.trans (alkF_at hd hy2)
        obtain ⟨xn, xi, xA, xc, xt⟩ := x
        obtain ⟨yn, yi, yA, yc, yt⟩ := y
        simp only at c0 c1 c2' e0 e1 e2
        obtain ⟨xr, xu, x0, x1, xl⟩ := hin
        obtain ⟨yr, yu, y0, y1, yl⟩ := hin2
        simp only at xr xu x0 x1 xl yr yu y0 y1 yl
        obtain ⟨n3, hn3⟩ : ∃ n3, n3 = xt.length := ⟨_, rfl⟩
        rw [← hn3] at c2' xr xl
        obtain ⟨n4, hn4⟩ : ∃ n4, n4 = yt.length := ⟨_, rfl⟩
        rw [← hn4] at e2 yr yl
        obtain ⟨q, hq⟩ : ∃ q, q = alk xn xi xt yn yi yt := ⟨_, rfl⟩
        have hqq : alkC ⟨xn, xi, xA, xc, xt⟩ ⟨yn, yi, yA, yc, yt⟩ = q := hq.symm
        rw [hqq] at hrow
        have HC : Hid (∀ W, Ext wr W → Calls Tryz.prog 50 #[.agg #[.bool xn, .int .i64 xi, .slice xA n3 xc], .agg #[.bool yn, .int .i64 yi, .slice yA n4 yc]] W fun e w' => e = .returned (.bool q) ∧ Ext W w') := Lib.hid (fun W hW => by
          rw [hq]; exact alike_any xn xi xA n3 xc xt yn yi yA n4 yc yt W (xr.ext hW) (yr.ext hW) (by omega) (by omega))
        have K : Hid (∀ w', Ext wr w' → w'.cell? ⟨b, o + j * 3, none⟩ = some (.bool xn) ∧ w'.cell? ⟨b, o + j * 3 + 1, none⟩ = some (.int .i64 xi) ∧ w'.cell? ⟨b, o + j * 3 + 2, none⟩ = some (.slice xA n3 xc) ∧ w'.cell? ⟨b2, o2 + j * 3, none⟩ = some (.bool yn) ∧ w'.cell? ⟨b2, o2 + j * 3 + 1, none⟩ = some (.int .i64 yi) ∧ w'.cell? ⟨b2, o2 + j * 3 + 2, none⟩ = some (.slice yA n4 yc)) := Lib.hid (fun w' he =>
          ⟨(he.cells b _ hb).trans c0, (he.cells b _ hb).trans c1, (he.cells b _ hb).trans c2', (he.cells b2 _ hb2).trans e0, (he.cells b2 _ hb2).trans e1, (he.cells b2 _ hb2).trans e2⟩)
        have Hrow := Lib.hid hrow
        have i0 : (0 : Int) ≤ (j : Int) := by omega
        have i1 : (j : Int) < (n : Int) := by omega
        have g8 := K.out _ (Ext.refl wr)
        clear hrow hqq hq hn3 hn4 hd hy2 xr xu x0 x1 xl yr yu y0 y1 yl c0 c1 c2' e0 e1 e2
        go_wp2_with fail
        go_region_held3 (fun w' => w'.cell? ⟨b, o + j * 3, none⟩ = some (.bool xn) ∧ w'.cell? ⟨b, o + j * 3 + 1, none⟩ = some (.int .i64 xi) ∧ w'.cell? ⟨b, o + j * 3 + 2, none⟩ = some (.slice xA n3 xc) ∧ w'.cell? ⟨b2, o2 + j * 3, none⟩ = some (.bool yn) ∧ w'.cell? ⟨b2, o2 + j * 3 + 1, none⟩ = some (.int .i64 yi) ∧ w'.cell? ⟨b2, o2 + j * 3 + 2, none⟩ = some (.slice yA n4 yc))
          (first | exact g8 | (refine K.out _ ?_; (repeat (first | exact Ext.refl _ | (with_reducible refine Ext.trans ?_ he3) | apply Ext.drew | apply Ext.alloc | fail))) | fail)
          (first
            | (go_at_call 50; (with_reducible refine (HC.out _ ?_).mono ?_); (focus ((repeat (first | exact Ext.refl _ | (with_reducible refine Ext.trans ?_ he3) | apply Ext.drew | apply Ext.alloc | fail)); done)); rintro e w3 ⟨rfl, he3⟩)
            | fail)
        have hE3 : Ext w w3 := hE.trans (by (repeat (first | exact Ext.refl _ | (with_reducible refine Ext.trans ?_ he3) | apply Ext.drew | apply Ext.alloc | fail)))
        cases q with
        | true =>
          have HN := Lib.hid (Hrow.out.trans (if_pos rfl))
          go_wp2
          go_roundw
          case rel => exact ⟨j + 1, by omega, by go_num, hE3, HN.out⟩
          case measure => simp [intOf]; omega
        | false =>
          have HN := Lib.hid (Hrow.out.trans (if_neg (by decide)))
          go_wp2
          go_ret
          exact ⟨by rw [HN.out]; rfl, hE3⟩
      · obtain rfl : j = n := by omega
        have HN := Lib.hid (HF.out.trans (alkF_end (Nat.le_of_eq Hl.out)))
        go_wp2
        go_ret
        exact ⟨by rw [HN.out]; rfl, hE⟩
  · rw [if_pos heq] at hR
    have b1 : ((n : Int) != (n2 : Int)) = true := by rw [bne_iff_ne]; omega
    clear heq hl hl2
    subst hR
    go_enter Tryz.func12, Tryz.ntmps12
    go_wp2
    go_ret
    exact ⟨rfl, Ext.refl w⟩
theorem Tryz.infoCell : (Tryz.prog.info? 61).map (fun i => (i.zero, i.size, i.bytes)) = some (some (.agg #[.bool false, .int .i64 0, .slice none 0 0]), 3, 40) := by kernel_rfl
def Ci.cells (x : Ci) : List Value := [.bool x.nul, .int .i64 x.num, .slice x.A x.txt.length x.c]
def xcells (xs : List Ci) : List Value := (xs.map Ci.cells).flatten
theorem xcells_snoc (xs : List Ci) (x : Ci) : xcells (xs ++ [x]) = xcells xs ++ x.cells := by simp [xcells]
theorem xcells_len (xs : List Ci) : (xcells xs).length = xs.length * 3 := by
  induction xs with
  | nil => rfl
  | cons f r ih =>
    have : xcells (f :: r) = f.cells ++ xcells r := by simp [xcells]
    rw [this, List.length_append, ih, List.length_cons]
    show 3 + _ = _
    omega
theorem xcells_at {xs : List Ci} {j : Nat} {x : Ci} (h : xs[j]? = some x) (i : Nat) (hi : i < 3) : (xcells xs)[j * 3 + i]? = x.cells[i]? := by
  induction xs generalizing j with
  | nil => simp at h
  | cons f r ih =>
    have hc : xcells (f :: r) = f.cells ++ xcells r := by simp [xcells]
    have hf : f.cells.length = 3 := rfl
    rw [hc]
    cases j with
    | zero =>
      simp at h
      subst h
      rw [Nat.zero_mul, Nat.zero_add, List.getElem?_append_left (by omega)]
    | succ j =>
      rw [List.getElem?_append_right (by omega), hf, ← ih (j := j) (by simpa using h)]
      congr 1
      omega
def OwnX (w : World) (base : Nat) (A : Option Addr) (c : Nat) (xs : List Ci) : Prop := w.ownsRow base 61 3 (.slice A xs.length c) xs.length (xcells xs)
def TxtX (w : World) (base : Nat) (xs : List Ci) : Prop :=
  (∀ x ∈ xs, Own .u8 5 w base x.A x.c x.txt) ∧ xs.Pairwise fun f g => ∀ p q, f.A = some p → g.A = some q → p.block < q.block
theorem OwnX.nil (w : World) (base : Nat) : OwnX w base none 0 [] := World.ownsRow_nil w base _ 3
theorem OwnX.made {base : Nat} (w : World) (hb : base ≤ w.heap.size) : OwnX (w.alloc (.cells #[] 61)) base (some ⟨w.heap.size, 0, none⟩) 0 [] :=
  World.ownsRow_made w #[] 0 hb (by simp [maxLen]) (by simp)
theorem OwnX.ext {w w' : World} {base c : Nat} {A : Option Addr} {xs : List Ci} (h : OwnX w base A c xs) (hb : Ext w w') : OwnX w' base A c xs := by
  refine World.ownsRow.kept (row := none) h ⟨hb.os, hb.tape, hb.output, hb.size, fun i hi _ => hb.block i hi⟩ ?_
  cases hv : (Value.slice A xs.length c).ownBlock <;> simp
theorem TxtX.nil (w : World) (base : Nat) : TxtX w base [] := ⟨fun f h => (by cases h), .nil⟩
theorem TxtX.ext {w w' : World} {base : Nat} {xs : List Ci} (h : TxtX w base xs) (hb : Ext w w') : TxtX w' base xs := ⟨fun f hf => (h.1 f hf).ext hb, h.2⟩
theorem own_neX {w : World} {base base' c c' : Nat} {A A' : Option Addr} {fs : List Ci} {xs : List Nat} (h : OwnX w base A c fs) (k : Own .u8 5 w base' A' c' xs) : ∀ a, A' = some a → some a.block ≠ (Value.slice A fs.length c).ownBlock := by
  rintro a rfl e
  rcases h.2 with ⟨hv, _⟩ | ⟨g, cap, cur, hv, hg, hh, _⟩
  · rw [hv] at e; simp [Value.ownBlock] at e
  · rw [hv] at e
    simp [Value.ownBlock] at e
    rcases k.2 with ⟨hv', _⟩ | ⟨g', cap', cur', hv', _, hh', _⟩
    · cases hv'
    · injection hv' with hA
      injection hA with hA
      subst hA
      simp at e
      subst e
      rw [hh] at hh'
      injection hh' with hh'
      injection hh' with h1 h2 h3
      exact absurd h2 (by decide)
theorem TxtX.grown {w w' : World} {base base' c : Nat} {A : Option Addr} {fs gs : List Ci} (h : TxtX w base fs) (k : OwnX w base' A c gs) (hg : w.grownBy w' (Value.slice A gs.length c).ownBlock) : TxtX w' base fs :=
  ⟨fun f hf => (h.1 f hf).grown hg (own_neX k (h.1 f hf)), h.2⟩
theorem TxtX.snoc {w : World} {base base' : Nat} {fs : List Ci} {f : Ci} (h : TxtX w base fs) (hf : Own .u8 5 w base' f.A f.c f.txt) (hb : base ≤ base') (hl : ∀ g ∈ fs, ∀ p, g.A = some p → p.block < base') : TxtX w base (fs ++ [f]) := by
  refine ⟨fun g hg => ?_, ?_⟩
  · rcases List.mem_append.1 hg with h1 | h1
    · exact h.1 g h1
    · simp at h1; subst h1; exact hf.mono hb
  · rw [List.pairwise_append]
    refine ⟨h.2, by simp, fun g hg f' hf' p q hp hq => ?_⟩
    simp at hf'
    subst hf'
    exact Nat.lt_of_lt_of_le (hl g hg p hp) (hf.block q hq).1
theorem OwnX.rdX {w : World} {base c : Nat} {A : Option Addr} {xs : List Ci} (h : OwnX w base A c xs) (k : ∀ x ∈ xs, x.In w) : RdX w A xs.length xs := by
  refine ⟨rfl, fun hn => ?_⟩
  rcases h.2 with ⟨_, h0⟩ | ⟨g, cap, cur, hv, hg, hh, hnc, hcm, hcs, htake⟩
  · omega
  · injection hv with hA hl hc
    subst hA
    have hlt : g < w.heap.size := (Array.getElem?_eq_some_iff.1 hh).1
    refine ⟨g, 0, rfl, hlt, fun j x hj => ?_⟩
    have hjl : j < xs.length := (List.getElem?_eq_some_iff.1 hj).1
    have hat : ∀ i, i < xs.length * 3 → cur[i]? = (xcells xs)[i]? := fun i hi => by
      rw [← htake, List.getElem?_take, if_pos hi]
      simp
    refine ⟨?_, ?_, ?_, k x (List.mem_of_getElem? hj)⟩
    · rw [cell_of_row w g _ cur _ (0, 0) hh, Nat.zero_add, hat _ (by omega)]; exact xcells_at hj 0 (by omega)
    · rw [cell_of_row w g _ cur _ (0, 0) hh, Nat.zero_add, hat _ (by omega)]; exact xcells_at hj 1 (by omega)
    · rw [cell_of_row w g _ cur _ (0, 0) hh, Nat.zero_add, hat _ (by omega)]; exact xcells_at hj 2 (by omega)
theorem wpList_pushX {w0 w : World} {ops : Array Oper} {rest : List Oper} {o : Oper} {a : Act} {Q : Exit → Act → World → Prop} (f : Ci) (hgd : o.guard = none) (s y : Operand)
    (ho : o.op = .call { callee := .builtin .append, args := #[s, y], argTypes := #[25, 25] })
    {base : Nat} {A : Option Addr} {c : Nat} {fs : List Ci} (hown : OwnX w base A c fs) (n : Nat) (hn : fs.length = n) (hs : a.eval s = .slice A n c)
    {g : Nat} (hy : a.eval y = .slice (some ⟨g, 0, none⟩) 1 1) (hg : w.heap[g]? = some (.cells #[.bool f.nul, .int .i64 f.num, .slice f.A f.txt.length f.c] 61))
    (hlen : n ≤ 4398046511104) (hb : Below base w0 w) (hbase : base ≤ w.heap.size)
    (h : ∀ A' c' w', OwnX w' base A' c' (fs ++ [f]) → w.grownBy w' (Value.slice A fs.length c).ownBlock → Below base w0 w' → base ≤ w'.heap.size → wpList Tryz.prog ops Q rest (a.put o.dst (.slice A' (n + 1) c')) w') :
    wpList Tryz.prog ops Q (o :: rest) a w := by
  subst hn
  obtain ⟨i, hi0, hz, hsz, hbs⟩ := info_parts Tryz.infoCell
  refine wpList_append_own_wide w hgd s y 25 ho base 61 i _ 3 40 Tryz.underlying25 hi0 hz hsz hbs rfl (by decide) _ fs.length (xcells fs) hs hown
    ⟨g, 0, none⟩ 1 1 f.cells hy rfl ?_ ?_ (by unfold maxLen; omega) (by omega) hbase ?_
  · intro j u hj
    have hcr : w.cell? ((⟨g, 0, none⟩ : Addr).add j) = #[Value.bool f.nul, .int .i64 f.num, .slice f.A f.txt.length f.c][j]? := by
      rw [show (⟨g, 0, none⟩ : Addr).add j = ⟨g, j, none⟩ from by unfold Addr.add; split <;> simp_all]
      exact cell_of_row w g j _ _ (0, 0) hg
    rw [hcr, ← hj]
    simp [Ci.cells]
  · intro u hu
    simp [Ci.cells] at hu
    rcases hu with rfl | rfl | rfl <;> rfl
  · intro v' w' hown' hgr _
    have hform : ∃ A' c', v' = .slice A' (fs.length + 1) c' := by
      rcases hown'.2 with ⟨_, h0⟩ | ⟨g, cap, cur, hv, _⟩
      · omega
      · exact ⟨_, _, hv⟩
    obtain ⟨A', c', rfl⟩ := hform
    have hb' : Below base w0 w' := Below.grown hb hgr hbase (fun g hg' => (hown.lt g hg').1)
    refine h A' c' w' ?_ hgr hb' ?_
    · unfold OwnX
      rw [List.length_append, xcells_snoc]
      exact hown'
    · have := hgr.size
      omega
set_option maxHeartbeats 1600000 in
theorem twinRow_any (A : Option Addr) (n c : Nat) (xs : List Ci) (w : World) (hx : RdX w A n xs) (hn : n ≤ 4398046511104) :
    Calls Tryz.prog 17 #[.slice A n c] w fun e w' => ∃ fs A' c', e = .returned (.slice A' n c') ∧ fs.map Ci.val = xs.map Ci.val ∧ OwnX w' w.heap.size A' c' fs ∧ TxtX w' w.heap.size fs ∧ Ext w w' := by
  have Hl := Lib.hid hx.1
  go_enter Tryz.func17, Tryz.ntmps17
  go_wp2
  go_loopw [3, 4] (fun v i wr => ∃ (j : Nat) (A' : Option Addr) (c' : Nat) (fs : List Ci), j ≤ n ∧ i = .int .i64 j ∧ v = .slice A' j c' ∧ fs.length = j ∧ fs.map Ci.val = (xs.take j).map Ci.val ∧ OwnX wr w.heap.size A' c' fs ∧ TxtX wr w.heap.size fs ∧ Below w.heap.size w wr) (fun _ i _ => n - (intOf i).toNat)
  case atStart => exact ⟨0, _, _, [], Nat.zero_le _, rfl, rfl, rfl, rfl, OwnX.made _ (Nat.le_refl _), TxtX.nil _ _, (Ext.refl w).alloc _⟩
  case round =>
    obtain ⟨j, A', c', fs, hj, rfl, rfl, hfl, hfv, hown, htx, hb⟩ := hrel
    have hz := hb.size
    have Hfl := Lib.hid hfl
    have Hfv := Lib.hid hfv
    by_cases hlt : j < n
    · obtain ⟨b, o, f, rfl, hbl, hf, h1, h2, h3, hin⟩ := (hx.ext hb).at_ hlt
      have hnx : (xs.take (j + 1)).map Ci.val = (xs.take j).map Ci.val ++ [f.val] := by
        rw [List.take_add_one, hf, List.map_append]
        rfl
      have Hnx := Lib.hid hnx
      obtain ⟨xn, xi, xA, xc, xt⟩ := f
      simp only at h1 h2 h3
      obtain ⟨xr, xu, x0, x1, xl⟩ := hin
      simp only at xr xu x0 x1 xl
      obtain ⟨n3, hn3⟩ : ∃ n3, n3 = xt.length := ⟨_, rfl⟩
      rw [← hn3] at h3 xr xl
      have Hn3 := Lib.hid hn3
      have i0 : (0 : Int) ≤ (j : Int) := by omega
      have i1 : (j : Int) < (n : Int) := by omega
      clear hnx hf hn3 hfl hfv
      go_wp2_with fail
      refine (twin_any xn xi xA n3 xc xt _ xr (by omega)).mono ?_
      rintro e w1 ⟨A1, c1, rfl, hown1, he1⟩
      have hE1 : Below w.heap.size w w1 := Ext.trans hb he1
      have hown2 := hown.ext he1
      have htx2 := htx.ext he1
      have hlow : ∀ g ∈ fs, ∀ p, g.A = some p → p.block < wr.heap.size := fun g hg p hp => ((htx.1 g hg).block p hp).2
      have hsz1 := he1.size
      have hX : Ext w1 (w1.alloc (.cells #[.bool xn, .int .i64 xi, .slice A1 n3 c1] 61)) := (Ext.refl w1).alloc _
      have hown3 := hown2.ext hX
      go_wp2_with (at_builtin; refine wpList_pushX (w0 := w) ⟨xn, xi, A1, c1, xt⟩ rfl _ _ rfl hown3 j Hfl.out rfl rfl (by rw [← Hn3.out]; exact heap_alloc_new w1 _) (by omega) (Ext.trans hE1 hX) (by simp; omega) ?_; intro A3 c3 w3 hown4 hgr hb3 hz3)
      have htx3 : TxtX w3 w.heap.size (fs ++ [⟨xn, xi, A1, c1, xt⟩]) := TxtX.grown (base' := w.heap.size) (TxtX.snoc (htx2.ext hX) (hown1.ext hX) hz hlow) hown3 hgr
      go_roundw
      case rel => exact ⟨j + 1, A3, c3, _, by omega, by go_num, rfl, by simp [Hfl.out], by rw [Hnx.out, List.map_append, Hfv.out]; rfl, hown4, htx3, hb3⟩
      case measure => simp [intOf]; omega
    · obtain rfl : j = n := by omega
      have hv := Hfv.out
      rw [List.take_of_length_le (Nat.le_of_eq Hl.out)] at hv
      go_wp2
      go_ret
      exact ⟨fs, _, _, rfl, hv, hown, htx, hb⟩
end Go.Proofs.YthibbgmicmfkfaaGreat
