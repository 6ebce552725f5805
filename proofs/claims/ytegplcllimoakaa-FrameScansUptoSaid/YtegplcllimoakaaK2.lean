/-
  Plain mathematics of frames: what Get reads, as lists of bytes; there and back; a turned run is told.
-/
import Derived.Test.YtegplcllimoakaaF1
namespace Go.Proofs.Ytegplcllimoakaa

/-- What Get answers at a place that lies in the bytes: the kind, the body, the place behind, the error. -/
def fgetN (bs : List Nat) (a : Nat) : Nat × List Nat × Nat × Int :=
  if bs.length < a + 9 then (0, [], 0, 2)
  else if ¬ sld (cut bs a 9) then (0, [], 0, 40)
  else if bs.getD a 0 = 0 then (0, [], 0, 5)
  else if 65536 < pk 8 (cut bs (a + 1) 4) then (0, [], 0, 4)
  else if bs.length < a + 13 + pk 8 (cut bs (a + 1) 4) then (0, [], 0, 2)
  else if ¬ sld (cut bs (a + 9) (pk 8 (cut bs (a + 1) 4) + 4)) then (0, [], 0, 40)
  else (bs.getD a 0, cut bs (a + 9) (pk 8 (cut bs (a + 1) 4)), a + 13 + pk 8 (cut bs (a + 1) 4), 0)

/-- What Get answers. -/
def fget (bs : List Nat) (at_ : Int) : Nat × List Nat × Nat × Int :=
  if at_ < 0 ∨ (bs.length : Int) < at_ then (0, [], 0, 1) else fgetN bs at_.toNat

theorem fgetN_ok {bs : List Nat} {a : Nat} (h : (fgetN bs a).2.2.2 = 0) :
    a + 9 ≤ bs.length ∧ sld (cut bs a 9) ∧ bs.getD a 0 ≠ 0 ∧ pk 8 (cut bs (a + 1) 4) ≤ 65536 ∧ a + 13 + pk 8 (cut bs (a + 1) 4) ≤ bs.length ∧
      sld (cut bs (a + 9) (pk 8 (cut bs (a + 1) 4) + 4)) ∧ fgetN bs a = (bs.getD a 0, cut bs (a + 9) (pk 8 (cut bs (a + 1) 4)), a + 13 + pk 8 (cut bs (a + 1) 4), 0) := by
  unfold fgetN at h ⊢
  by_cases h1 : bs.length < a + 9
  · rw [if_pos h1] at h; exact absurd h (by decide)
  rw [if_neg h1] at h ⊢
  by_cases h2 : sld (cut bs a 9)
  · rw [if_neg (fun q => q h2)] at h ⊢
    by_cases h3 : bs.getD a 0 = 0
    · rw [if_pos h3] at h; exact absurd h (by decide)
    rw [if_neg h3] at h ⊢
    by_cases h4 : 65536 < pk 8 (cut bs (a + 1) 4)
    · rw [if_pos h4] at h; exact absurd h (by decide)
    rw [if_neg h4] at h ⊢
    by_cases h5 : bs.length < a + 13 + pk 8 (cut bs (a + 1) 4)
    · rw [if_pos h5] at h; exact absurd h (by decide)
    rw [if_neg h5] at h ⊢
    by_cases h6 : sld (cut bs (a + 9) (pk 8 (cut bs (a + 1) 4) + 4))
    · rw [if_neg (fun q => q h6)]
      exact ⟨by omega, h2, h3, by omega, by omega, h6, rfl⟩
    · rw [if_pos h6] at h; exact absurd h (by decide)
  · rw [if_pos h2] at h; exact absurd h (by decide)

theorem fgetN_of {bs : List Nat} {a k n : Nat} {body : List Nat} (h1 : a + 9 ≤ bs.length) (h2 : sld (cut bs a 9)) (h3 : bs.getD a 0 = k) (hk : k ≠ 0) (hn : pk 8 (cut bs (a + 1) 4) = n) (h4 : n ≤ 65536) (h5 : a + 13 + n ≤ bs.length)
    (h6 : sld (cut bs (a + 9) (n + 4))) (h7 : cut bs (a + 9) n = body) : fgetN bs a = (k, body, a + 13 + n, 0) := by
  unfold fgetN
  rw [hn, h3, h7, if_neg (by omega), if_neg (fun q => q h2), if_neg hk, if_neg (by omega), if_neg (by omega), if_neg (fun q => q h6)]

theorem cut_mid {p q r : List Nat} : cut (p ++ q ++ r) p.length q.length = q := by
  simp [cut, List.append_assoc]
theorem cut_cut {bs : List Nat} {a m b k : Nat} (h : b + k ≤ m) : cut (cut bs a m) b k = cut bs (a + b) k := by
  simp only [cut, List.drop_take, List.drop_drop, List.take_take]
  congr 1
  omega
theorem cut_all {bs : List Nat} : cut bs 0 bs.length = bs := by simp [cut]
theorem cut_getD {bs : List Nat} {a m b : Nat} (h : b < m) : (cut bs a m).getD b 0 = bs.getD (a + b) 0 := cut_at h

/-- What stands in a frame. -/
theorem fr_parts {k : Nat} {body : List Nat} : (fr k body).take 9 = sl (fhead k body.length) ∧ (fr k body).drop 9 = sl body := by
  have h : (sl (fhead k body.length)).length = 9 := by rw [sl_len, fhead_len]
  constructor
  · rw [fr, ← h, List.take_left]
  · rw [fr, ← h, List.drop_left]

theorem head_kind {k n : Nat} (hk : k < 256) : (sl (fhead k n)).getD 0 0 = k := by
  show k % 2 ^ 8 = k
  exact Nat.mod_eq_of_lt hk
theorem head_size {k n : Nat} (hn : n < 4294967296) : pk 8 (cut (sl (fhead k n)) 1 4) = n := by
  have h : cut (sl (fhead k n)) 1 4 = upk 8 4 n := rfl
  rw [h, pk_upk]
  exact Nat.mod_eq_of_lt hn
theorem head_sld (k n : Nat) : sld (sl (fhead k n)) := sld_seal (fhead_u8 k n)

/-- A frame that stands at place a is got. -/
theorem fgetN_fr {bs : List Nat} {a k : Nat} {body : List Nat} (hu : U8 body) (hk : 1 ≤ k) (hk2 : k ≤ 255) (hb : body.length ≤ 65536) (hl : a + (body.length + 13) ≤ bs.length) (h : cut bs a (body.length + 13) = fr k body) :
    fgetN bs a = (k, body, a + 13 + body.length, 0) := by
  have h9 : cut bs a 9 = sl (fhead k body.length) := by
    have := cut_cut (bs := bs) (a := a) (m := body.length + 13) (b := 0) (k := 9) (by omega)
    rw [h, Nat.add_zero] at this
    rw [← this, ← fr_parts.1]
    simp [cut]
  have hr : cut bs (a + 9) (body.length + 4) = sl body := by
    have := cut_cut (bs := bs) (a := a) (m := body.length + 13) (b := 9) (k := body.length + 4) (by omega)
    rw [h] at this
    rw [← this, cut, fr_parts.2]
    exact List.take_of_length_le (by rw [sl_len]; omega)
  have hbd : cut bs (a + 9) body.length = body := by
    have := cut_cut (bs := bs) (a := a + 9) (m := body.length + 4) (b := 0) (k := body.length) (by omega)
    rw [Nat.add_zero, hr] at this
    rw [← this]
    simp [cut, sl]
  refine fgetN_of (by omega) (by rw [h9]; exact head_sld _ _) ?_ (by omega) ?_ hb (by omega) (by rw [hr]; exact sld_seal hu) hbd
  · have := cut_getD (bs := bs) (a := a) (m := 9) (b := 0) (by omega)
    rw [Nat.add_zero, h9, head_kind (by omega)] at this
    exact this.symm
  · have := cut_cut (bs := bs) (a := a) (m := 9) (b := 1) (k := 4) (by omega)
    rw [h9] at this
    rw [← this]
    exact head_size (by omega)

/-- A run of at most 32 bits turned in a frame: it is got only where nothing was turned. -/
theorem fget_tn {k p q : Nat} {body : List Nat} (hu : U8 body) (hb : body.length ≤ 65536) (hp : p < 4294967296) (he : p * 2 ^ q < 2 ^ (8 * (body.length + 13)))
    (h : (fgetN (tn (fr k body) (p * 2 ^ q)) 0).2.2.2 = 0) : p = 0 := by
  have hfu := fr_u8 hu k
  have hfl := fr_len k body
  obtain ⟨g1, g2, _, _, g5, g6, _⟩ := fgetN_ok h
  have hTl : (tn (fr k body) (p * 2 ^ q)).length = body.length + 13 := by rw [tn_len, hfl]
  have hH : (sl (fhead k body.length)).length = 9 := by rw [sl_len, fhead_len]
  have h9 : cut (tn (fr k body) (p * 2 ^ q)) 0 9 = tn (sl (fhead k body.length)) (p * 2 ^ q % 2 ^ (8 * 9)) := by
    rw [cut, List.drop_zero, tn_take hfu (by omega), fr_parts.1]
  have hlow : p * 2 ^ q % 2 ^ (8 * 9) = 0 := by
    rw [h9] at g2
    have hlt : p * 2 ^ q % 2 ^ (8 * 9) < 2 ^ (8 * (sl (fhead k body.length)).length) := by rw [hH]; exact Nat.mod_lt _ (Nat.two_pow_pos _)
    rcases run_cut p q (8 * 9) with h0 | ⟨h0, _⟩
    · rw [h0] at g2 hlt
      have h1 := (sld_tn (sl_u8 (fhead_u8 k body.length)) (head_sld _ _) (Nat.lt_of_le_of_lt (Nat.mod_le _ _) hp) hlt).1 g2
      rw [h0, h1, Nat.zero_mul]
    · exact h0
  rw [hlow, tn_zero (sl_u8 (fhead_u8 _ _))] at h9
  have hn : pk 8 (cut (tn (fr k body) (p * 2 ^ q)) (0 + 1) 4) = body.length := by
    have := cut_cut (bs := tn (fr k body) (p * 2 ^ q)) (a := 0) (m := 9) (b := 1) (k := 4) (by omega)
    rw [h9] at this
    rw [← this]
    exact head_size (by omega)
  rw [hn] at g6
  have hr : cut (tn (fr k body) (p * 2 ^ q)) (0 + 9) (body.length + 4) = tn (sl body) (p * 2 ^ q / 2 ^ (8 * 9)) := by
    rw [cut, Nat.zero_add, tn_drop hfu (by omega), fr_parts.2]
    exact List.take_of_length_le (by rw [tn_len, sl_len]; omega)
  rw [hr] at g6
  have hlt : p * 2 ^ q / 2 ^ (8 * 9) < 2 ^ (8 * (sl body).length) := by
    rw [sl_len]
    refine Nat.div_lt_of_lt_mul ?_
    rw [← Nat.pow_add, show 8 * 9 + 8 * (body.length + 4) = 8 * (body.length + 13) from by omega]
    exact he
  have hhigh : p * 2 ^ q / 2 ^ (8 * 9) = 0 := by
    have hr2 := run_rest p q (8 * 9)
    by_cases hq : q ≤ 8 * 9
    · rw [if_pos hq] at hr2
      have h2 : p / 2 ^ (8 * 9 - q) = p / 2 ^ (8 * 9 - q) * 2 ^ 0 := by rw [Nat.pow_zero, Nat.mul_one]
      rw [hr2, h2] at g6 hlt
      have h1 := (sld_tn (sl_u8 hu) (sld_seal hu) (Nat.lt_of_le_of_lt (Nat.div_le_self _ _) hp) hlt).1 g6
      rw [hr2, h1]
    · rw [if_neg hq] at hr2
      rw [hr2] at g6 hlt
      have h1 := (sld_tn (sl_u8 hu) (sld_seal hu) hp hlt).1 g6
      rw [hr2, h1, Nat.zero_mul]
  have h0 : p * 2 ^ q = 0 := by
    have := Nat.mod_add_div (p * 2 ^ q) (2 ^ (8 * 9))
    rw [hlow, hhigh, Nat.mul_zero, Nat.add_zero] at this
    exact this.symm
  rcases Nat.mul_eq_zero.1 h0 with h1 | h1
  · exact h1
  · have := Nat.two_pow_pos q; omega

/-- Sealed bytes are their beginning, sealed. -/
theorem sld_sl {bs : List Nat} (h : U8 bs) (hs : sld bs) : bs = sl (bs.take (bs.length - 4)) := by
  have h1 := hs.2
  have hl : (bs.drop (bs.length - 4)).length = 4 := by rw [List.length_drop]; have := hs.1; omega
  have h2 := upk_pk (U8_wd.1 (u8_drop h (bs.length - 4)))
  rw [hl, h1] at h2
  rw [sl, h2, List.take_append_drop]

/-- What is got is a frame's only bytes. -/
theorem fgetN_only {bs : List Nat} {a : Nat} (hu : U8 bs) (h : (fgetN bs a).2.2.2 = 0) :
    ∃ k body, fgetN bs a = (k, body, a + (body.length + 13), 0) ∧ 1 ≤ k ∧ k ≤ 255 ∧ body.length ≤ 65536 ∧ a + (body.length + 13) ≤ bs.length ∧ cut bs a (body.length + 13) = fr k body ∧ U8 body := by
  obtain ⟨g1, g2, g3, g4, g5, g6, g7⟩ := fgetN_ok h
  obtain ⟨n, hn⟩ : ∃ n, n = pk 8 (cut bs (a + 1) 4) := ⟨_, rfl⟩
  rw [← hn] at g4 g5 g6 g7
  have hk := hu.at_ a
  have hbl : (cut bs (a + 9) n).length = n := cut_len (by omega)
  have hs1 := sld_sl (cut_u8 hu _ _) g2
  have hs2 := sld_sl (cut_u8 hu _ _) g6
  rw [cut_len (by omega)] at hs1 hs2
  rw [show (cut bs (a + 9) (n + 4)).take (n + 4 - 4) = cut bs (a + 9) n from by simp [cut, List.take_take]] at hs2
  have hh : (cut bs a 9).take (9 - 4) = fhead (bs.getD a 0) n := by
    have e1 : (cut bs a 9).take (9 - 4) = cut bs a 1 ++ cut bs (a + 1) 4 := by
      simp only [cut, List.take_take, ← List.drop_drop]
      exact List.take_add (i := 1) (j := 4) (l := bs.drop a)
    have e2 : cut bs (a + 1) 4 = upk 8 4 n := by
      have := upk_pk (U8_wd.1 (cut_u8 hu (a + 1) 4))
      rw [cut_len (by omega), ← hn] at this
      exact this.symm
    have e3 : cut bs a 1 = upk 8 1 (bs.getD a 0) := by
      have h1 : (cut bs a 1).length = 1 := cut_len (by omega)
      have := upk_pk (U8_wd.1 (cut_u8 hu a 1))
      rw [h1] at this
      rw [← this]
      have h2 := pk_at (U8_wd.1 (cut_u8 hu a 1)) 0
      rw [Nat.mul_zero, Nat.pow_zero, Nat.div_one, cut_at (by omega), Nat.add_zero] at h2
      simp only [upk, h2]
      rw [Nat.mod_eq_of_lt (by simpa using hk)]
    rw [e1, e2, e3, fhead]
  rw [hh] at hs1
  refine ⟨bs.getD a 0, cut bs (a + 9) n, ?_, by omega, by omega, by omega, by omega, ?_, cut_u8 hu _ _⟩
  · rw [g7, hbl, show a + 13 + n = a + (n + 13) from by omega]
  · rw [hbl, fr, hbl, ← hs1, ← hs2]
    simp only [cut, ← List.drop_drop]
    rw [show n + 13 = 9 + (n + 4) from by omega]
    exact List.take_add

end Go.Proofs.Ytegplcllimoakaa
