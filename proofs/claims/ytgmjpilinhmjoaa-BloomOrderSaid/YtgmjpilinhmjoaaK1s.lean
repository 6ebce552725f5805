/-
  Plain mathematics of sealed bytes: what is sealed is what leaves one register; turned bits as a number added bit by bit; a run of at most 32 of them is told.
-/
import Derived.Test.YtgmjpilinhmjoaaK0
import Derived.Test.YtgmjpilinhmjoaaV3s
namespace Go.Proofs.Ytgmjpilinhmjoaa

theorem pk_append (w : Nat) (a b : List Nat) : pk w (a ++ b) = pk w a + 2 ^ (w * a.length) * pk w b := by
  induction a with
  | nil => simp [pk]
  | cons v r ih => rw [List.cons_append, pk, ih, pk, List.length_cons, two_pow_mul_succ, Nat.mul_add, Nat.mul_assoc, Nat.add_assoc]

/-- Are the last four bytes the sum of those ahead? -/
def sld (bs : List Nat) : Prop := 4 ≤ bs.length ∧ pk 8 (bs.drop (bs.length - 4)) = crc (bs.take (bs.length - 4))

instance (bs : List Nat) : Decidable (sld bs) := by unfold sld; infer_instance

theorem u8_append {a b : List Nat} (h : U8 a) (k : U8 b) : U8 (a ++ b) := fun v hv => (List.mem_append.1 hv).elim (h v) (k v)

theorem creg_four (s : Nat) {q : List Nat} (h : q.length = 4) : creg s q = cN 32 (s ^^^ pk 8 q) := by rw [creg, h]

theorem sld_split {t q : List Nat} (hq : q.length = 4) : sld (t ++ q) ↔ pk 8 q = crc t := by
  unfold sld
  rw [List.length_append, hq, Nat.add_sub_cancel, List.drop_left, List.take_left]
  exact ⟨fun h => h.2, fun h => ⟨by omega, h⟩⟩

theorem sld_reg {bs : List Nat} (h : U8 bs) (hl : 4 ≤ bs.length) : sld bs ↔ creg 4294967295 bs = cN 32 4294967295 := by
  have hs : bs = bs.take (bs.length - 4) ++ bs.drop (bs.length - 4) := (List.take_append_drop _ _).symm
  have hq : (bs.drop (bs.length - 4)).length = 4 := by rw [List.length_drop]; omega
  have ht := u8_take h (bs.length - 4)
  have hu := u8_drop h (bs.length - 4)
  generalize bs.take (bs.length - 4) = t at *
  generalize bs.drop (bs.length - 4) = q at *
  subst hs
  rw [sld_split hq, creg_append ht, creg_four _ hq, crc]
  have hr := creg_lt ht (s := 4294967295) (by decide)
  have hv : pk 8 q < 4294967296 := by have := pk_lt (U8_wd.1 hu); rw [hq] at this; exact this
  constructor
  · intro e
    rw [e, xor_can']
  · intro e
    have := cN_inj 32 (xor_lt32 hr hv) (by decide) e
    rw [← xor_can' (pk 8 q) (creg 4294967295 t), this]

/-- The number's four bytes behind the text. -/
theorem sld_seal {t : List Nat} (ht : U8 t) : sld (t ++ upk 8 4 (crc t)) := by
  rw [sld_split (upk_len 8 4 _), pk_upk]
  exact Nat.mod_eq_of_lt (crc_lt ht)

/-- The bytes with the bits of e turned. -/
def tn (bs : List Nat) (e : Nat) : List Nat := upk 8 bs.length (pk 8 bs ^^^ e)

theorem tn_len (bs : List Nat) (e : Nat) : (tn bs e).length = bs.length := upk_len _ _ _
theorem tn_u8 (bs : List Nat) (e : Nat) : U8 (tn bs e) := U8_wd.2 (upk_wd _ _ _)
theorem tn_zero {bs : List Nat} (h : U8 bs) : tn bs 0 = bs := by rw [tn, Nat.xor_zero, upk_pk (U8_wd.1 h)]

theorem pk_tn {bs : List Nat} (h : U8 bs) {e : Nat} (he : e < 2 ^ (8 * bs.length)) : pk 8 (tn bs e) = pk 8 bs ^^^ e := by
  rw [tn, pk_upk, Nat.mod_eq_of_lt (Nat.xor_lt_two_pow (pk_lt (U8_wd.1 h)) he)]

theorem tn_eq {bs : List Nat} (h : U8 bs) {e : Nat} (he : e < 2 ^ (8 * bs.length)) : tn bs e = bs ↔ e = 0 := by
  constructor
  · intro q
    have := pk_tn h he
    rw [q] at this
    have h2 := xor_can' e (pk 8 bs)
    rw [← this, Nat.xor_self] at h2
    exact h2.symm
  · rintro rfl
    exact tn_zero h

theorem creg_tn {bs : List Nat} (h : U8 bs) {e : Nat} (he : e < 2 ^ (8 * bs.length)) (s : Nat) : creg s (tn bs e) = creg s bs ^^^ cN (8 * bs.length) e := by
  rw [creg, tn_len, pk_tn h he, ← Nat.xor_assoc, cN_xor]
  rfl

/-- A run of at most 32 bits, p, from bit k on, leaves something in the register. -/
theorem run_left {p k m : Nat} (hp : p < 4294967296) (h : p * 2 ^ k < 2 ^ m) (h0 : cN m (p * 2 ^ k) = 0) : p = 0 := by
  by_cases hk : k ≤ m
  · obtain ⟨j, rfl⟩ : ∃ j, m = k + j := ⟨m - k, by omega⟩
    rw [cN_add, Nat.mul_comm, cN_shift] at h0
    exact cN_inj0 j hp h0
  · rcases Nat.eq_zero_or_pos p with h1 | h1
    · exact h1
    · have h2 : 2 ^ m ≤ 2 ^ k := Nat.pow_le_pow_right (by omega) (by omega)
      have h3 : 2 ^ k ≤ p * 2 ^ k := Nat.le_mul_of_pos_left _ h1
      omega

/-- Sealed bytes with a run turned are sealed only where nothing was turned. -/
theorem sld_tn {bs : List Nat} (h : U8 bs) (hs : sld bs) {p k : Nat} (hp : p < 4294967296) (he : p * 2 ^ k < 2 ^ (8 * bs.length)) : sld (tn bs (p * 2 ^ k)) ↔ p = 0 := by
  have hl := hs.1
  rw [sld_reg (tn_u8 _ _) (by rw [tn_len]; exact hl), creg_tn h he, (sld_reg h hl).1 hs]
  constructor
  · intro q
    have h2 := xor_can' (cN (8 * bs.length) (p * 2 ^ k)) (cN 32 4294967295)
    rw [q, Nat.xor_self] at h2
    exact run_left hp he h2.symm
  · rintro rfl
    rw [Nat.zero_mul, cN_zero, Nat.xor_zero]

/-- One bit more is turned: the byte in which it lies is another one. -/
theorem upk_bit {n N k : Nat} (h : k < 8 * n) : upk 8 n (N ^^^ 2 ^ k) = (upk 8 n N).set (k / 8) ((upk 8 n N).getD (k / 8) 0 ^^^ 2 ^ (k % 8)) := by
  induction n generalizing N k with
  | zero => omega
  | succ n ih =>
    by_cases hk : k < 8
    · have e1 : k / 8 = 0 := by omega
      have e2 : k % 8 = k := by omega
      have hlt : 2 ^ k < 2 ^ 8 := Nat.pow_lt_pow_right (by omega) hk
      rw [e1, e2, upk, upk, List.set_cons_zero, List.getD_cons_zero, Nat.xor_mod_two_pow, Nat.xor_div_two_pow, Nat.mod_eq_of_lt hlt, Nat.div_eq_of_lt hlt, Nat.xor_zero]
    · obtain ⟨j, rfl⟩ : ∃ j, k = j + 8 := ⟨k - 8, by omega⟩
      have e1 : (j + 8) / 8 = j / 8 + 1 := by omega
      have e2 : (j + 8) % 8 = j % 8 := by omega
      rw [e1, e2, upk, upk, List.set_cons_succ, List.getD_cons_succ, Nat.xor_mod_two_pow, Nat.xor_div_two_pow, Nat.pow_add, Nat.mul_mod_left, Nat.xor_zero, Nat.mul_div_cancel _ (by decide), ih (by omega)]

/-- The first bytes and the rest of turned bytes. -/
theorem tn_take {bs : List Nat} (h : U8 bs) {n : Nat} (hn : n ≤ bs.length) (e : Nat) : (tn bs e).take n = tn (bs.take n) (e % 2 ^ (8 * n)) := by
  have hl : (bs.take n).length = n := by rw [List.length_take]; omega
  have hp : pk 8 (bs.take n) = pk 8 bs % 2 ^ (8 * n) := by
    have := congrArg (pk 8) (upk_take 8 bs.length (pk 8 bs) n hn)
    rw [upk_pk (U8_wd.1 h), pk_upk] at this
    exact this
  rw [tn, tn, upk_take _ _ _ _ hn, hl, hp, ← Nat.xor_mod_two_pow, upk_mod _ _ _ _ (Nat.le_refl _)]

theorem upk_drop (w n N i : Nat) (h : i ≤ n) : (upk w n N).drop i = upk w (n - i) (N / 2 ^ (w * i)) := by
  induction n generalizing N i with
  | zero => obtain rfl : i = 0 := by omega
            simp
  | succ n ih =>
    cases i with
    | zero => simp
    | succ i => rw [upk, List.drop_succ_cons, ih _ _ (by omega), Nat.div_div_eq_div_mul, ← two_pow_mul_succ, Nat.succ_sub_succ]

theorem tn_drop {bs : List Nat} (h : U8 bs) {n : Nat} (hn : n ≤ bs.length) (e : Nat) : (tn bs e).drop n = tn (bs.drop n) (e / 2 ^ (8 * n)) := by
  have hp : pk 8 (bs.drop n) = pk 8 bs / 2 ^ (8 * n) := by
    have h1 := pk_append 8 (bs.take n) (bs.drop n)
    have hl : (bs.take n).length = n := by rw [List.length_take]; omega
    rw [List.take_append_drop, hl] at h1
    have h2 := pk_lt (U8_wd.1 (u8_take h n))
    rw [hl] at h2
    rw [h1, Nat.add_mul_div_left _ _ (Nat.two_pow_pos _), Nat.div_eq_of_lt h2, Nat.zero_add]
  rw [tn, tn, upk_drop _ _ _ _ hn, List.length_drop, hp, Nat.xor_div_two_pow]

/-- A run cut at bit m: its beginning and its rest are runs. -/
theorem turn_cut (p k m : Nat) : (p * 2 ^ k) % 2 ^ m = (p % 2 ^ (m - k)) * 2 ^ k ∨ (p * 2 ^ k) % 2 ^ m = 0 ∧ m ≤ k := by
  by_cases h : k ≤ m
  · left
    obtain ⟨j, rfl⟩ : ∃ j, m = k + j := ⟨m - k, by omega⟩
    rw [Nat.add_sub_cancel_left, Nat.pow_add, Nat.mul_comm p, Nat.mul_mod_mul_left, Nat.mul_comm]
  · right
    obtain ⟨j, rfl⟩ : ∃ j, k = m + j := ⟨k - m, by omega⟩
    refine ⟨?_, by omega⟩
    rw [Nat.pow_add, ← Nat.mul_assoc, Nat.mul_comm p, Nat.mul_assoc, Nat.mul_mod_right]

theorem run_rest (p k m : Nat) : (p * 2 ^ k) / 2 ^ m = (if k ≤ m then p / 2 ^ (m - k) else p * 2 ^ (k - m)) := by
  split
  · obtain ⟨j, rfl⟩ : ∃ j, m = k + j := ⟨m - k, by omega⟩
    rw [Nat.add_sub_cancel_left, Nat.pow_add, Nat.mul_comm p, Nat.mul_div_mul_left _ _ (Nat.two_pow_pos k)]
  · obtain ⟨j, rfl⟩ : ∃ j, k = m + j := ⟨k - m, by omega⟩
    rw [Nat.add_sub_cancel_left, Nat.pow_add, ← Nat.mul_assoc, Nat.mul_comm p, Nat.mul_assoc, Nat.mul_div_cancel_left _ (Nat.two_pow_pos m)]

end Go.Proofs.Ytgmjpilinhmjoaa
